import PyProof.Rows.All
import Wide.All
import OpenK.AllK
import Wide.FinOn
import HandS.AnyAll
import HandS.GenOver
import HandS.ForMost
import HandS.IsInst
import HandS.EndTab
import HandS.Wide
import HandS.Style
import HandS.Evl
import HandS.TupAny
import HandS.DictComp
import HandS.More
import HandS.Walk
import HandS.WordsDict
import KE.KDictList
import HandS.ListItems
import HandS.Conv
import HandS.SetFor
import HandS.Strs
import HandS.Zip
import HandS.SortKw
import HandS.DeepEq
import KE.DataMinMax
import PyProof.TupleOfGen
import KE.KeyNested
import KE.KDictKeyed
import KE.KDictWalk
import HandS.Iter
import HandS.TupLen
import HandS.DictSub
import HandS.SetBool
import HandS.Star
import HandS.Dict
import PyProof.SumAny
import PyProof.NeKinds
import HandS.Base
import HandS.Call
import HandS.List
import HandS.Defaults
import HandS.Head0
import HandS.Head1
import HandS.Head2
import HandS.HeadEnd
import HandS.HeadHook1
import HandS.HeadHook2
import HandS.HeadHook3
import HandS.HeadHook4
import HandS.HeadWalk
import HandS.EndOwn
import PySem.Challenge.RW_hearkenway_k34_whole_sent_once_to_each
set_option Elab.async false
set_option linter.all false
set_option maxRecDepth 100000
set_option maxHeartbeats 2000000
namespace GAl
open PySem PySem.Spec PyProof.Rows L2 GxR
open Sem (wp)

theorem Inv.kall {X : Cx} {pins : List (Addr × Obj)} {σ : L2.St} {H : Hp} {s s'' : Shared} (I : Inv X pins σ H s) (ho : s''.os = s.os) (hb : AllBare s''.gens)
    (k : ∀ b o, s.heap.get? b = some o → s''.heap.get? b = some o) : Inv X pins σ H s'' := by
  obtain ⟨h', g', d', t', o'⟩ := s''
  have e : o' = s.os := ho
  subst e
  exact I.call (h' := h') (g' := g') (d' := d') (t' := t') (ch := []) (Un.kept k) (I.hok.kept k) hb (fun b z => absurd z (by simp))

theorem bare_set {s : Shared} {g : Nat} {x : GenState} (h : AllBare s.gens) (hx : x.bare = true) : AllBare (s.setGen g x).gens := by
  intro y hy
  simp only [Shared.setGen] at hy
  rcases Array.mem_or_eq_of_mem_setIfInBounds hy with z | z
  · exact h y z
  · rw [z]; exact hx

/-- the context of a generator expression's code -/
abbrev gcx (X : Cx) (A' : Around) (s : Shared) (H : Hp) (cenv : Env) (fp : List Addr) : Cx :=
  { X with A := A', s_0 := s, H_0 := H, env := cenv, outer := X.stack, stack := cenv :: X.stack, ex := fp, fn := fun _ => false, pn := [], xe := fun _ _ => False }

section
variable {X : Cx} {pins : List (Addr × Obj)} {σ : L2.St} {H : Hp} {s : Shared}

theorem gen_start {scope : Scope} {own : List (Str × Nat)} {fp : List Addr} {A' : Around} {cenv : Env} {code : Value} {m : Str → Option Value} {h5 : Heap} {g' : Array GenState} {t5 : Nat} {a : Addr} {oa : Obj}
    (I : Inv X pins σ H s) (ok : BlkOk X.N X.env.scope scope own) (hcell : ∀ y ∈ scope.names, y.2 ≠ .cell) (hN : X.N.Nodup)
    (hfp : ∀ b ∈ fp, FpOk X pins H b ∧ b < s.heap.objs.size)
    (hce : cenv = genEnv scope (cloFrom X.env.cells scope.names []) s.heap.objs.size code builtinsNs X.env)
    (hA : A'.frames = some (cenv :: X.stack)) (hh : A'.handled = none)
    (hns : h5.Ns s.heap.objs.size m) (kp : ∀ b o, s.heap.get? b = some o → h5.get? b = some o) (hb : AllBare g')
    (ha : h5.get? a = some oa) (hla : s.heap.objs.size < a) (hda : ∀ v, oa.data ≠ .cell v) :
    Inv (gcx X A' s H cenv fp) [(a, oa)] (wipe σ (own.map (·.2))) H { s with heap := h5, gens := g', toks := t5 } := by
  have hfree : ∀ y ∈ scope.names, y.2 = .free → ∃ c, X.env.cells.lookup y.1 = some c := fun y hy e => by
    rcases ok.free y hy e with k | k
    · exact I.ok.has _ (.inl k)
    · exact I.ok.has _ (.inr k)
  have hL : cenv.locals = s.heap.objs.size := by rw [hce]; rfl
  have hcl : cenv.cells = cloFrom X.env.cells scope.names [] := by rw [hce]; rfl
  have hsc : cenv.scope = scope := by rw [hce]; rfl
  have mem : ∀ {y c}, cenv.cells.lookup y = some c → X.env.cells.lookup y = some c ∧ c < s.heap.objs.size := fun {y c} e => by
    rw [hcl] at e
    rcases cloFrom_mem (PySem.mem_of_lookup e) with hm | ⟨h1, rfl⟩
    · cases hm
    · obtain ⟨c, hc⟩ := hfree _ h1 rfl
      rw [hc]
      obtain ⟨w, z⟩ := I.cell _ _ hc
      exact ⟨rfl, z.lt⟩
  have look : ∀ {y}, scope.names.lookup y = some .free → ∃ c, cenv.cells.lookup y = some c ∧ X.env.cells.lookup y = some c := fun {y} hl => by
    have hy : (y, NameKind.free) ∈ scope.names := PySem.mem_of_lookup hl
    obtain ⟨c', e'⟩ := mem_lookup (cloFrom_has (cells := X.env.cells) (acc := []) hy)
    rw [← hcl] at e'
    exact ⟨c', e', (mem e').1⟩
  have kfree : ∀ {y k}, cenv.kindOf y = some k → (k = .cell ∨ k = .free) → scope.names.lookup y = some .free := fun {y k} hk hk' => by
    unfold Env.kindOf at hk
    rw [hsc] at hk
    rcases hk' with rfl | rfl
    · exact absurd rfl (hcell _ (PySem.mem_of_lookup hk))
    · exact hk
  have okB : (gcx X A' s H cenv fp).Ok := by
    refine ⟨I.ok.mod, by show cenv.scope.kind = _; rw [hsc]; exact ok.kind, by show cenv.globals = _; rw [hce]; exact I.ok.glob, by show cenv.builtins = _; rw [hce]; rfl, by show s.heap.objs.size ≤ cenv.locals; rw [hL]; exact Nat.le_refl _,
      fun y z c e1 e2 => I.ok.inj y z c (mem e1).1 (mem e2).1, fun y hy => ?_, fun y c z e => (by cases z), fun _ => hh, hA, .inr ⟨rfl, by show cenv.frame = some cenv.locals; rw [hce]; rfl⟩, fun b hb => ⟨?_, fun y c e z => ?_⟩, I.bs, Nat.le_trans I.ok.bsz I.sz, fun b o e hb => ?_, fun b hb z => ?_, I.stack, I.stkFree⟩
    · rcases hy with hy | hy
      · obtain ⟨c, h1, _⟩ := look (kfree hy (.inl rfl)); exact ⟨c, h1⟩
      · obtain ⟨c, h1, _⟩ := look (kfree hy (.inr rfl)); exact ⟨c, h1⟩
    · show b ≠ cenv.locals
      rw [hL]; exact Nat.ne_of_lt (hfp b hb).2
    · exact (hfp b hb).1.2.2.2.2.1 y c (mem e).1 z
    · rcases (hfp b hb).1.2.2.2.1 with z | z
      · exact I.ok.noex b o e z
      · exact absurd (Nat.lt_of_lt_of_le (Heap.lt_size e) (Nat.le_trans I.ok.bsz z)) (Nat.lt_irrefl _)
    · rcases List.mem_cons.mp (I.stkSub b z) with z | z
      · exact (hfp b hb).1.2.1 z
      · exact (hfp b hb).1.2.2.1 z
  refine ⟨okB, rfl, hb, Un.kept kp, ⟨m, ?_, fun i y av e1 e2 e3 => ?_⟩, fun y c e => ?_, ?_, fun y c e => ?_, fun p hp => ?_, I.hok.kept kp, by rw [wipe_length]; exact I.len⟩
  · show Heap.Ns _ cenv.locals _
    rw [hL]
    exact hns
  · obtain ⟨e2, hne⟩ := wipe_some e2
    have hfr : scope.names.lookup y = some .free := by
      have key : ∀ k, scope.names.lookup y = some k → k = .local ∨ k = .cell ∨ k = .free → scope.names.lookup y = some .free := fun k hk hk' => by
        have no : ¬ (k = .local ∨ k = .cell) := fun hh => by
          rcases ok.own _ (PySem.mem_of_lookup hk) hh with e' | e'
          · obtain ⟨p, hp, hpy⟩ := List.mem_map.mp e'
            have e3 := ok.ix p hp
            have : p.1 = y := hpy
            rw [this] at e3
            exact hne (List.mem_map.mpr ⟨p, hp, nodup_ix hN e3 e1⟩)
          · exact e' (List.mem_of_getElem? e1)
        rcases hk' with rfl | rfl | rfl
        · exact absurd (.inl rfl) no
        · exact absurd (.inr rfl) no
        · exact hk
      have e3 : Vis cenv.scope y := e3
      rw [hsc] at e3
      rcases e3 with e3 | e3 | e3
      · exact key _ e3 (.inl rfl)
      · exact key _ e3 (.inr (.inl rfl))
      · exact key _ e3 (.inr (.inr rfl))
    obtain ⟨m, hn, hl⟩ := I.loc
    have hvis : Vis X.env.scope y := (ok.free _ (PySem.mem_of_lookup hfr) rfl).elim (fun k => .inr (.inl k)) (fun k => .inr (.inr k))
    obtain ⟨w, r, q⟩ := hl i y av e1 e2 hvis
    refine ⟨w, r, .inr ⟨.inr (by show cenv.scope.names.lookup y = _; rw [hsc]; exact hfr), ?_⟩⟩
    obtain ⟨c, h1, h2⟩ := look hfr
    rcases q with ⟨k, _⟩ | ⟨_, c', e', z⟩
    · have k : X.env.scope.names.lookup y = some .local := k
      rcases ok.free _ (PySem.mem_of_lookup hfr) rfl with k' | k' <;> rw [show X.env.scope.names.lookup y = _ from k'] at k <;> cases k
    · rw [h2] at e'; cases e'
      exact ⟨c, h1, z.keeps kp⟩
  · obtain ⟨w, z⟩ := I.cell y c (mem e).1
    exact ⟨w, z.keeps kp⟩
  · show H cenv.locals = none
    rw [hL]; exact I.hok.fresh (Nat.le_refl _)
  · exact I.freeC y c (mem e).1
  · have hp : p ∈ ([] : List (Addr × Obj)) ++ [(a, oa)] := hp
    simp only [List.nil_append, List.mem_singleton] at hp
    subst hp
    refine ⟨ha, I.hok.fresh (Nat.le_of_lt hla), ?_, ?_, hda⟩
    · show a ≠ cenv.locals
      rw [hL]; exact Nat.ne_of_gt hla
    · intro z
      have z : a ∈ frs X.stack := z
      obtain ⟨_, o, ho, _⟩ := I.stack.mem z
      exact absurd (Nat.lt_trans hla (Heap.lt_size ho)) (Nat.lt_irrefl _)
end
end GAl

set_option Elab.async false
set_option linter.all false
set_option maxRecDepth 100000
set_option maxHeartbeats 2000000
namespace GAl
open PySem PySem.Spec PyProof.Rows L2 GxR
open Sem (wp)

/-- the generator's end and what it hands out -/
def REnd (XG : Cx) (a : Addr) (oa : Obj) (σw : L2.St) (Qd : Hp → Prop) : Nat → Shared → Shared → Prop := fun _ _ s₁ => ∃ H4, Inv XG [(a, oa)] σw H4 s₁ ∧ Qd H4
def YOut (XG : Cx) (a : Addr) (oa : Obj) (stp : V → Hp → Prop → Prop) : Protocol := fun _ _ v s kap =>
  ∃ y H4 σ4, Inv XG [(a, oa)] σ4 H4 s ∧ RelV y v ∧ stp y H4 (∀ s'' : Shared, s''.os = s.os → AllBare s''.gens → (∀ b o, s.heap.get? b = some o → s''.heap.get? b = some o) → kap (.send .none) s'')

/-- what a turn asks (W by the turn and a measure) -/
def GTurn (J : It) (g : TG) (tt : TT) (te : TE) (vs : List Nat) (σw : L2.St) (Qd : Hp → Prop) (stp : V → Hp → Prop → Prop) (W : Nat → Nat → Hp → Prop) : Prop :=
  ∀ i m H, W i m H → (J.stop i H ∧ Qd H) ∨ (J.go i H ∧ ∃ Nx : Hp → Prop, (∀ H', Nx H' → ∃ m', m' < m ∧ W (i + 1) m' H') ∧ ∀ x H', J.yld i H x H' → g x σw H' fun σ2 H2 => wipe σ2 vs = σw ∧ tt σ2 H2 fun b H3 =>
    if b = true then te σ2 H3 fun y H4 => stp y H4 (Nx H4) else Nx H3)

section
variable {X : Cx} {σ : L2.St} {elt tg iter : Expr} {ifs : List Expr} {scope : Scope} {pos : Pos} {it a : Addr} {oa : Obj} {fp : List Addr} {cenv : Env} {AG : Around} {s4 : Shared} {Hs : Hp} {J : It} {tn : Nat → Heap → Prop}
  {g : TG} {tt : TT} {te : TE} {vs : List Nat} {σw : L2.St} {Qd : Hp → Prop} {stp : V → Hp → Prop → Prop} {W : Nat → Nat → Hp → Prop}

theorem gen_loop (hc : X.calm = true) (hco : cenv.scope.isCoroutine = false) (T : Turn X.prog X.w X.K tg J fp it tn) (hafp : ∀ b ∈ fp, a ≠ b)
    (hmono : ∀ y H (p q : Prop), (p → q) → stp y H p → stp y H q)
    (pg : PG (gcx X (AG.over (.compLoop (.GeneratorExp elt [⟨tg, iter, ifs, 0⟩] scope pos) 0 (.ref it) .none cenv) []) s4 Hs cenv fp) tg g)
    (pt : PTs (gcx X (AG.over (.compLoop (.GeneratorExp elt [⟨tg, iter, ifs, 0⟩] scope pos) 0 (.ref it) .none cenv) []) s4 Hs cenv fp) ifs tt)
    (pe : PE (gcx X (AG.over (.compLoop (.GeneratorExp elt [⟨tg, iter, ifs, 0⟩] scope pos) 0 (.ref it) .none cenv) []) s4 Hs cenv fp) elt te)
    (hW : GTurn J g tt te vs σw Qd stp W) :
    ∀ (m n i : Nat) (s₀ s : Shared) (H : Hp), m < n → W i m H → Inv (gcx X (AG.over (.compLoop (.GeneratorExp elt [⟨tg, iter, ifs, 0⟩] scope pos) 0 (.ref it) .none cenv) []) s4 Hs cenv fp) [(a, oa)] σw H s → tn i s.heap → (∀ b ∈ fp, H b = none) →
      Seg (model X.prog X.w) AG (fun n s₀ r s₁ => r = .ok .next ∧ REnd (gcx X (AG.over (.compLoop (.GeneratorExp elt [⟨tg, iter, ifs, 0⟩] scope pos) 0 (.ref it) .none cenv) []) s4 Hs cenv fp) a oa σw Qd n s₀ s₁)
        (YOut (gcx X (AG.over (.compLoop (.GeneratorExp elt [⟨tg, iter, ifs, 0⟩] scope pos) 0 (.ref it) .none cenv) []) s4 Hs cenv fp) a oa stp) n s₀
        (.compLoop (.GeneratorExp elt [⟨tg, iter, ifs, 0⟩] scope pos) 0 (.ref it) .none cenv)
        ((model X.prog X.w).den (.compLoop (.GeneratorExp elt [⟨tg, iter, ifs, 0⟩] scope pos) 0 (.ref it) .none cenv)) [] s := by
  generalize hXG : gcx X (AG.over (.compLoop (.GeneratorExp elt [⟨tg, iter, ifs, 0⟩] scope pos) 0 (.ref it) .none cenv) []) s4 Hs cenv fp = XG at pg pt pe ⊢
  have hA : XG.A = AG.over (.compLoop (.GeneratorExp elt [⟨tg, iter, ifs, 0⟩] scope pos) 0 (.ref it) .none cenv) [] := by rw [← hXG]
  have hP : XG.prog = X.prog := by rw [← hXG]
  have hw : XG.w = X.w := by rw [← hXG]
  have hK : XG.K = X.K := by rw [← hXG]
  have hcalm : XG.calm = true := by rw [← hXG]; exact hc
  have henv : XG.env = cenv := by rw [← hXG]
  have hxe : XG.xe = fun _ _ => False := by rw [← hXG]
  have hex : XG.ex = fp := by rw [← hXG]
  have hpn : XG.pn = [] := by rw [← hXG]
  have stat : ∀ {σ' : L2.St} {H' : Hp} {s' : Shared}, Inv XG [(a, oa)] σ' H' s' → (∀ b ∈ fp, H' b = none) → ∀ b ∈ fp, FpOk XG [(a, oa)] H' b := fun {σ' H' s'} I' hn b hb =>
    ⟨hn b hb, (I'.ok.exf b (by rw [hex]; exact hb)).1, I'.ok.exfs b (by rw [hex]; exact hb), .inl (by rw [hex]; exact hb), fun x c e => (I'.ok.exf b (by rw [hex]; exact hb)).2 x c e, fun p hp => by
      rw [hpn] at hp
      simp only [List.nil_append, List.mem_singleton] at hp
      subst hp
      exact hafp b hb⟩
  intro m
  induction m using Nat.strongRecOn with
  | ind m ih =>
    intro n i s₀ s H hmn w I st nH
    show Seg _ AG _ _ _ s₀ _ ((compTurn (.GeneratorExp elt [⟨tg, iter, ifs, 0⟩] scope pos) 0 (.ref it) .none cenv).onRaise (leaving cenv)) [] s
    rw [compTurn_gen, Sem.onRaise_eq_wrap]
    refine seg_bind_wrap (wpAny_standAt ?_)
    rcases hW i m H w with ⟨stop, qq⟩ | ⟨go, Nx, hNx, step⟩
    · have td := T.done XG hP hw hK hcalm i _ s _ H (fun _ _ => False) I (stat I nH) st stop
      rw [hA] at td
      refine seg_bind_wrap (thnF td fun r s1 ⟨hr, I1⟩ => ?_)
      subst hr
      exact seg_end (.ok .next) ⟨rfl, H, I1, qq⟩
    · have ti := T.item XG hP hw hK hcalm i _ s _ H (fun _ _ => False) I (stat I nH) st go
      rw [hA] at ti
      refine seg_bind_wrap (thnF ti fun r s1 ⟨u, hr, h1⟩ => ?_)
      subst hr
      refine seg_bind_wrap (thnF h1 fun _ s2 ⟨x, H2, I2, r2, y2, st2, n2⟩ => ?_)
      have I2' := I2.pinned (stat I2 n2) (T.obj _ _ st2)
      have rg := pg.run _ s2 _ H2 x u _ I2' r2 (step x H2 y2)
      rw [hA, hP, hw, henv, hxe] at rg
      refine seg_bind_wrap (thnF rg fun _ s3 ⟨σ3, H3, I3, hw3, q3⟩ => ?_)
      have rt := pt.run _ s3 σ3 H3 _ I3 q3
      rw [hA, hP, hw, henv, hxe] at rt
      refine seg_bind_wrap (thnF rt fun b s5 ⟨H5, I5, q5⟩ => ?_)
      have fin : ∀ {s' s'' : Shared} {H' : Hp}, Inv XG ([(a, oa)] ++ pinsAt fp s2.heap) σ3 H' s' → s''.os = s'.os → AllBare s''.gens → (∀ b o, s'.heap.get? b = some o → s''.heap.get? b = some o) → Nx H' →
          ∃ m', m' < m ∧ W (i + 1) m' H' ∧ Inv XG [(a, oa)] σw H' s'' ∧ tn (i + 1) s''.heap ∧ (∀ b ∈ fp, H' b = none) := fun {s' s'' H'} I' e1 e2 e3 nx => by
        obtain ⟨m', hm, w'⟩ := hNx H' nx
        have pin' : ∀ b ∈ fp, ∀ o, s2.heap.get? b = some o → s'.heap.get? b = some o ∧ H' b = none := fun b hb o e =>
          let z := I'.pin (b, o) (List.mem_append_right _ (List.mem_append_right _ (mem_pinsAt hb e)))
          ⟨z.1, z.2.1⟩
        have hl : σw.length = σ3.length := by rw [← hw3, wipe_length]
        refine ⟨m', hm, w', Inv.kall ((I'.unpinned (pins := [(a, oa)])).weak hl (fun j v e => ?_)) e1 e2 e3, T.keep _ _ _ st2 fun b hb o e => e3 b o (pin' b hb o e).1, fun b hb => ?_⟩
        · rw [← hw3] at e
          exact (wipe_some e).1
        · obtain ⟨o, e, _⟩ := T.obj _ _ st2 b hb
          exact (pin' b hb o e).2
      cases b with
      | false =>
        simp only [Bool.false_eq_true, if_false] at q5 ⊢
        obtain ⟨m', hm, w', I', st', n'⟩ := fin I5 rfl I5.bare (fun _ _ e => e) q5
        exact seg_again rfl (ih m' hm n (i + 1) s₀ s5 H5 (by omega) w' I' st' n')
      | true =>
        simp only [if_true] at q5 ⊢
        have hy : ∀ v, yieldOut cenv v = yieldValue v := fun v => by simp only [yieldOut, hco, Bool.false_eq_true, if_false]
        simp only [hy]
        rw [Sem.bind_eq_wrap', Sem.bind_eq_wrap', Sem.wrap_wrap, Sem.wrap_wrap]
        have re := pe.run _ s5 σ3 H5 _ I5 q5
        rw [hA, hP, hw, henv, hxe] at re
        refine seg_wrap (thnF re fun z s6 ⟨yv, H6, I6, r6, q6⟩ => ?_)
        cases n with
        | zero => exact absurd hmn (Nat.not_lt_zero _)
        | succ n =>
          refine seg_at (seg_yield rfl rfl rfl ⟨yv, H6, σ3, I6.unpinned (pins := [(a, oa)]), r6, hmono _ _ _ _ (fun nx s'' e1 e2 e3 => ?_) q6⟩)
          obtain ⟨m', hm, w', I', st', n'⟩ := fin I6 e1 e2 e3 nx
          exact seg_again rfl (ih m' hm n (i + 1) s'' s'' H6 (by omega) w' I' st' n')

theorem gen_begin (hc : X.calm = true) (hco : cenv.scope.isCoroutine = false) (T : Turn X.prog X.w X.K tg J fp it tn) (hafp : ∀ b ∈ fp, a ≠ b)
    (hmono : ∀ y H (p q : Prop), (p → q) → stp y H p → stp y H q)
    (pg : PG (gcx X (AG.over (.compLoop (.GeneratorExp elt [⟨tg, iter, ifs, 0⟩] scope pos) 0 (.ref it) .none cenv) []) s4 Hs cenv fp) tg g)
    (pt : PTs (gcx X (AG.over (.compLoop (.GeneratorExp elt [⟨tg, iter, ifs, 0⟩] scope pos) 0 (.ref it) .none cenv) []) s4 Hs cenv fp) ifs tt)
    (pe : PE (gcx X (AG.over (.compLoop (.GeneratorExp elt [⟨tg, iter, ifs, 0⟩] scope pos) 0 (.ref it) .none cenv) []) s4 Hs cenv fp) elt te)
    (hW : GTurn J g tt te vs σw Qd stp W) (m : Nat) (s₀ s : Shared) (H : Hp) (w : W 0 m H)
    (I : Inv (gcx X (AG.over (.compLoop (.GeneratorExp elt [⟨tg, iter, ifs, 0⟩] scope pos) 0 (.ref it) .none cenv) []) s4 Hs cenv fp) [(a, oa)] σw H s) (st : tn 0 s.heap) (nH : ∀ b ∈ fp, H b = none) :
      Seg (model X.prog X.w) AG (fun n s₀ r s₁ => r = .ok .next ∧ REnd (gcx X (AG.over (.compLoop (.GeneratorExp elt [⟨tg, iter, ifs, 0⟩] scope pos) 0 (.ref it) .none cenv) []) s4 Hs cenv fp) a oa σw Qd n s₀ s₁)
        (YOut (gcx X (AG.over (.compLoop (.GeneratorExp elt [⟨tg, iter, ifs, 0⟩] scope pos) 0 (.ref it) .none cenv) []) s4 Hs cenv fp) a oa stp) (m + 1) s₀
        (.compStart (.GeneratorExp elt [⟨tg, iter, ifs, 0⟩] scope pos) 0 (.ref it) .none cenv)
        ((model X.prog X.w).den (.compStart (.GeneratorExp elt [⟨tg, iter, ifs, 0⟩] scope pos) 0 (.ref it) .none cenv)) [] s := by
  have loop := gen_loop (a := a) (oa := oa) hc hco T hafp hmono pg pt pe hW m (m + 1) 0 s₀ s H (Nat.lt_succ_self _) w I st nH
  show Seg _ AG _ _ _ s₀ _ ((compStart (.GeneratorExp elt [⟨tg, iter, ifs, 0⟩] scope pos) 0 (.ref it) .none cenv).onRaise (leaving cenv)) [] s
  unfold compStart
  rw [Sem.onRaise_eq_wrap]
  show Seg _ AG _ _ _ s₀ _ ((ask >>= _).wrap _ _ _ _) [] s
  refine seg_bind_wrap (wpAny_askSetting ?_)
  split
  · exact seg_again rfl loop
  · first
      | exact seg_bind_wrap (wpAny_rule (seg_bind_wrap (wpAny_standAt (seg_bind_wrap (T.self _ 0 s _ _ st (seg_again rfl loop))))))
      | (refine seg_bind_wrap (wpAny_rule ?_); show Seg _ AG _ _ _ s₀ _ ((standAt iter.pos >>= _).wrap _ _ _ _) [] s; exact seg_bind_wrap (wpAny_standAt (seg_bind_wrap (T.self _ 0 s _ _ st (seg_again rfl loop)))))
end

/-! ### the consumer's side -/
section
variable {prog : Program} {w : World} {A : Around} {E : Value → Shared → Prop} {s : Shared}
theorem next_sz {a : Addr} {g n : Nat} {gs : GenState} {P : Nat → Shared → Shared → Prop} {Y : Protocol} {Q : Option Value → Shared → Prop} (hh : A.handled = none)
    (hl : s.heap.NoLimit) (hroom : A.depth < recursionLimit)
    (hg : s.heap.IsGen a g) (hgs : s.gens[g]? = some gs)
    (hgo : gs.Goes (model prog w) A.in1 (fun n s₀ r s₁ => r = .ok .next ∧ P n s₀ s₁) Y n (.send .none) (s.setGen g .running))
    (hY : ∀ v s₁ gs', s.gens.size ≤ s₁.gens.size → gs'.bare = true → Y (n - 1) (s.setGen g .running) v s₁ (fun r' s'' => match n with
        | 0 => False
        | m + 1 => gs'.Goes (model prog w) A.in1 (fun n s₀ r s₁ => r = .ok .next ∧ P n s₀ s₁) Y m r' s'') → Q (some v) (s₁.setGen g gs'))
    (hP : ∀ s₁, s.gens.size ≤ s₁.gens.size → P n (s.setGen g .running) s₁ → ∀ h', (∀ b o, s₁.heap.get? b = some o → h'.get? b = some o) → Q none { s₁.setGen g .finished with heap := h' }) :
    wpAny (model prog w) A (pyNext (.ref a)) Q E s := by
  refine GenW.wpAny_gsz (n := s.gens.size) (Nat.le_refl _) (wpAny_pyNext_genexpQ (E := fun e s' => s.gens.size ≤ s'.gens.size → E e s') (Q := fun r s' => s.gens.size ≤ s'.gens.size → Q r s') hh hl hroom hg hgs hgo
    (fun v s₁ gs' hb hv hz => hY v s₁ gs' (by rw [GenW.setGen_size] at hz; exact hz) hb hv)
    (fun s₁ hp h' hk hz => hP s₁ (by have z : s.gens.size ≤ (s₁.setGen g .finished).gens.size := hz; rw [GenW.setGen_size] at z; exact z) hp h' hk))
end
end GAl

set_option Elab.async false
set_option linter.all false
set_option maxRecDepth 100000
set_option maxHeartbeats 2000000
namespace GAl
open PySem PySem.Spec PyProof.Rows L2 GxR
open Sem (wp)

/-- the generator stands, ready for its next turn, at most n - 1 more are to come -/
def GSt (M : Model) (AG : Around) (P : Nat → Shared → Shared → Prop) (Y : Protocol) (a : Addr) (g n : Nat) (s : Shared) : Prop :=
  s.heap.IsGen a g ∧ s.heap.NoLimit ∧ ∃ gs, s.gens[g]? = some gs ∧ gs.Goes M AG (fun n s₀ r s₁ => r = .ok .next ∧ P n s₀ s₁) Y n (.send .none) (s.setGen g .running)

def stpAll (Qf : Hp → Prop) : V → Hp → Prop → Prop := fun y H N => ∃ c, y = .bl c ∧ (if c = true then N else Qf H)
def stpAny (Qt : Hp → Prop) : V → Hp → Prop → Prop := fun y H N => ∃ c, y = .bl c ∧ (if c = true then Qt H else N)
theorem stpAll_mono {Qf : Hp → Prop} : ∀ y H (p q : Prop), (p → q) → stpAll Qf y H p → stpAll Qf y H q := fun y H p q h ⟨c, e, k⟩ => ⟨c, e, by
  cases c with
  | true => simp only [if_true] at k ⊢; exact h k
  | false => simp only [Bool.false_eq_true, if_false] at k ⊢; exact k⟩
theorem stpAny_mono {Qf : Hp → Prop} : ∀ y H (p q : Prop), (p → q) → stpAny Qf y H p → stpAny Qf y H q := fun y H p q h ⟨c, e, k⟩ => ⟨c, e, by
  cases c with
  | false => simp only [Bool.false_eq_true, if_false] at k ⊢; exact h k
  | true => simp only [if_true] at k ⊢; exact k⟩

theorem gens_some {s : Shared} {g k : Nat} {gs : GenState} (h : s.gens[g]? = some gs) (hk : s.gens.size ≤ k) {s₁ : Shared} (e : s₁.gens.size = k) : ∃ x, s₁.gens[g]? = some x := by
  obtain ⟨hl, _⟩ := Array.getElem?_eq_some_iff.mp h
  exact ⟨_, Array.getElem?_eq_getElem (by omega)⟩

section
variable {X XG : Cx} {A : Around} {a : Addr} {oa : Obj} {g : Nat} {σw : L2.St} {Qd Qf : Hp → Prop} {R : Result → Shared → Prop}
theorem isgen_of {h h' : Heap} (hg : h.IsGen a g) (ho : h.get? a = some oa) (ho' : h'.get? a = some oa) : h'.IsGen a g := by
  obtain ⟨o, nm, qn, e, r⟩ := hg
  rw [ho] at e; cases e
  exact ⟨_, nm, qn, ho', r⟩

/-- all.loop over it -/
theorem all_loop (hprog : XG.prog = X.prog) (hw : XG.w = X.w) (hh : A.handled = none) (hroom : A.depth < recursionLimit) (hpn : XG.pn = [])
    (hfin : ∀ s' σ' H', Inv XG [(a, oa)] σ' H' s' → Qd H' → R (.ok (.ret (.bool true))) s')
    (hcut : ∀ s' σ' H', Inv XG [(a, oa)] σ' H' s' → Qf H' → R (.ok (.ret (.bool false))) s') :
    ∀ (n : Nat) (s : Shared), s.heap.get? a = some oa → GSt (model X.prog X.w) A.in1.in1 (REnd XG a oa σw Qd) (YOut XG a oa (stpAll Qf)) a g n s → codeAny (model X.prog X.w) A (.builtin "all.loop" ⟨[.ref a], []⟩) R s := by
  intro n
  induction n with
  | zero =>
    intro s hoa ⟨hg, hl, gs, hgs, hgo⟩
    refine codeAny_builtin F.entry_all_loop ?_
    rw [Around.under_plainId F.plain_all_loop _]
    show wpAny _ A.in1 (pyNext (.ref a) >>= _) _ _ s
    refine wpAny_bind (next_sz (A := A.in1) hh hl hroom hg hgs hgo (fun v s₁ gs' hsz hb hv => ?_) (fun s₁ hsz hp h' hk => ?_))
    · obtain ⟨y, H4, σ4, I4, r, c, e, k⟩ := hv
      subst e
      cases r
      refine wpAny_bind (wpAny_holding (wpAny_truthy_bool ?_))
      refine wpAny_bind (wpAny_letGo ?_)
      cases c with
      | true =>
        simp only [if_true] at k
        exact False.elim (k s₁ rfl I4.bare fun _ _ e => e)
      | false =>
        simp only [Bool.false_eq_true, if_false] at k ⊢
        refine wpAny_bind (wpAny_rule (wpAny_pure ?_))
        exact hcut _ σ4 H4 (Inv.kall I4 rfl (bare_set I4.bare hb) fun _ _ e => e) k
    · obtain ⟨H4, I4, q⟩ := hp
      refine wpAny_bind (wpAny_rule (wpAny_pure ?_))
      exact hfin _ σw H4 (Inv.kall I4 rfl (bare_set I4.bare rfl) hk) q
  | succ n ih =>
    intro s hoa ⟨hg, hl, gs, hgs, hgo⟩
    refine codeAny_builtin F.entry_all_loop ?_
    rw [Around.under_plainId F.plain_all_loop _]
    show wpAny _ A.in1 (pyNext (.ref a) >>= _) _ _ s
    refine wpAny_bind (next_sz (A := A.in1) hh hl hroom hg hgs hgo (fun v s₁ gs' hsz hb hv => ?_) (fun s₁ hsz hp h' hk => ?_))
    · obtain ⟨y, H4, σ4, I4, r, c, e, k⟩ := hv
      subst e
      cases r
      refine wpAny_bind (wpAny_holding (wpAny_truthy_bool ?_))
      refine wpAny_bind (wpAny_letGo ?_)
      cases c with
      | true =>
        simp only [if_true] at k ⊢
        have ha : s₁.heap.get? a = some oa := (I4.pin (a, oa) (by rw [hpn]; simp)).1
        obtain ⟨x, hx⟩ := gens_some hgs hsz rfl
        refine wpAny_pure ⟨plainId_quiet F.plain_all_loop _, ih (s₁.setGen g gs') ha ⟨isgen_of hg hoa ha, I4.nolimit, gs', setGen_self hx, ?_⟩⟩
        exact k ((s₁.setGen g gs').setGen g .running) rfl (bare_set (bare_set I4.bare hb) rfl) fun _ _ e => e
      | false =>
        simp only [Bool.false_eq_true, if_false] at k ⊢
        refine wpAny_bind (wpAny_rule (wpAny_pure ?_))
        exact hcut _ σ4 H4 (Inv.kall I4 rfl (bare_set I4.bare hb) fun _ _ e => e) k
    · obtain ⟨H4, I4, q⟩ := hp
      refine wpAny_bind (wpAny_rule (wpAny_pure ?_))
      exact hfin _ σw H4 (Inv.kall I4 rfl (bare_set I4.bare rfl) hk) q
/-- any.loop over it -/
theorem any_loop (hprog : XG.prog = X.prog) (hw : XG.w = X.w) (hh : A.handled = none) (hroom : A.depth < recursionLimit) (hpn : XG.pn = [])
    (hfin : ∀ s' σ' H', Inv XG [(a, oa)] σ' H' s' → Qd H' → R (.ok (.ret (.bool false))) s')
    (hcut : ∀ s' σ' H', Inv XG [(a, oa)] σ' H' s' → Qf H' → R (.ok (.ret (.bool true))) s') :
    ∀ (n : Nat) (s : Shared), s.heap.get? a = some oa → GSt (model X.prog X.w) A.in1.in1 (REnd XG a oa σw Qd) (YOut XG a oa (stpAny Qf)) a g n s → codeAny (model X.prog X.w) A (.builtin "any.loop" ⟨[.ref a], []⟩) R s := by
  intro n
  induction n with
  | zero =>
    intro s hoa ⟨hg, hl, gs, hgs, hgo⟩
    refine codeAny_builtin F.entry_any_loop ?_
    rw [Around.under_plainId F.plain_any_loop _]
    show wpAny _ A.in1 (pyNext (.ref a) >>= _) _ _ s
    refine wpAny_bind (next_sz (A := A.in1) hh hl hroom hg hgs hgo (fun v s₁ gs' hsz hb hv => ?_) (fun s₁ hsz hp h' hk => ?_))
    · obtain ⟨y, H4, σ4, I4, r, c, e, k⟩ := hv
      subst e
      cases r
      refine wpAny_bind (wpAny_holding (wpAny_truthy_bool ?_))
      refine wpAny_bind (wpAny_letGo ?_)
      cases c with
      | false =>
        simp only [Bool.false_eq_true, if_false] at k
        exact False.elim (k s₁ rfl I4.bare fun _ _ e => e)
      | true =>
        simp only [if_true] at k ⊢
        refine wpAny_bind (wpAny_rule (wpAny_pure ?_))
        exact hcut _ σ4 H4 (Inv.kall I4 rfl (bare_set I4.bare hb) fun _ _ e => e) k
    · obtain ⟨H4, I4, q⟩ := hp
      refine wpAny_bind (wpAny_rule (wpAny_pure ?_))
      exact hfin _ σw H4 (Inv.kall I4 rfl (bare_set I4.bare rfl) hk) q
  | succ n ih =>
    intro s hoa ⟨hg, hl, gs, hgs, hgo⟩
    refine codeAny_builtin F.entry_any_loop ?_
    rw [Around.under_plainId F.plain_any_loop _]
    show wpAny _ A.in1 (pyNext (.ref a) >>= _) _ _ s
    refine wpAny_bind (next_sz (A := A.in1) hh hl hroom hg hgs hgo (fun v s₁ gs' hsz hb hv => ?_) (fun s₁ hsz hp h' hk => ?_))
    · obtain ⟨y, H4, σ4, I4, r, c, e, k⟩ := hv
      subst e
      cases r
      refine wpAny_bind (wpAny_holding (wpAny_truthy_bool ?_))
      refine wpAny_bind (wpAny_letGo ?_)
      cases c with
      | false =>
        simp only [Bool.false_eq_true, if_false] at k ⊢
        have ha : s₁.heap.get? a = some oa := (I4.pin (a, oa) (by rw [hpn]; simp)).1
        obtain ⟨x, hx⟩ := gens_some hgs hsz rfl
        refine wpAny_pure ⟨plainId_quiet F.plain_any_loop _, ih (s₁.setGen g gs') ha ⟨isgen_of hg hoa ha, I4.nolimit, gs', setGen_self hx, ?_⟩⟩
        exact k ((s₁.setGen g gs').setGen g .running) rfl (bare_set (bare_set I4.bare hb) rfl) fun _ _ e => e
      | true =>
        simp only [if_true] at k ⊢
        refine wpAny_bind (wpAny_rule (wpAny_pure ?_))
        exact hcut _ σ4 H4 (Inv.kall I4 rfl (bare_set I4.bare hb) fun _ _ e => e) k
    · obtain ⟨H4, I4, q⟩ := hp
      refine wpAny_bind (wpAny_rule (wpAny_pure ?_))
      exact hfin _ σw H4 (Inv.kall I4 rfl (bare_set I4.bare rfl) hk) q
end
end GAl

set_option Elab.async false
set_option linter.all false
set_option maxRecDepth 100000
set_option maxHeartbeats 2000000
namespace GAl
open PySem PySem.Spec PyProof.Rows L2 GxR
open Sem (wp)

/-- the scope of a generator expression -/
structure GSc (N : List Str) (sc scope : Scope) (own : List (Str × Nat)) : Prop where
  blk : BlkOk N sc scope own
  co : scope.isCoroutine = false
  cell : ∀ y ∈ scope.names, y.2 ≠ .cell
  dot : scope.names.lookup (".0" : Str) = some NameKind.local
def gscC (N : List Str) (sc scope : Scope) (own : List (Str × Nat)) : Bool :=
  blkC N sc scope own && !scope.isCoroutine && (scope.names.all fun y => match y.2 with | .cell => false | _ => true) && (match scope.names.lookup (".0" : Str) with | some .local => true | _ => false)
theorem gsc_by {N : List Str} {sc scope : Scope} {own : List (Str × Nat)} (h : gscC N sc scope own = true) : GSc N sc scope own := by
  unfold gscC at h
  simp only [Bool.and_eq_true, List.all_eq_true, Bool.not_eq_true'] at h
  obtain ⟨⟨⟨h1, h2⟩, h3⟩, h4⟩ := h
  refine ⟨blkOk_by h1, h2, fun y hy e => ?_, ?_⟩
  · have q := h3 y hy
    rw [e] at q
    exact Bool.noConfusion q
  · split at h4
    · assumption
    · cases h4

/-- what a consumed generator expression asks: the walked thing, the def's table, the turns -/
def tGenB (P : Addr) (wi : TI) (g : TG) (tt : TT) (te : TE) (vs : List Nat) (stp : V → Hp → Prop → Prop) (Qd : Hp → Prop) : L2.St → Hp → Prop := fun σ H =>
  wi σ H fun J H1 => TabG H1 P ∧ ∀ H2, Tabbed P H1 H2 → ∃ W : Nat → Nat → Hp → Prop, (∃ m, W 0 m H2) ∧ GTurn J g tt te vs (wipe σ vs) Qd stp W
def tAllG (P : Addr) (wi : TI) (g : TG) (tt : TT) (te : TE) (vs : List Nat) : TE := fun σ H Q => tGenB P wi g tt te vs (stpAll (Q (.bl false))) (Q (.bl true)) σ H
def tAnyG (P : Addr) (wi : TI) (g : TG) (tt : TT) (te : TE) (vs : List Nat) : TE := fun σ H Q => tGenB P wi g tt te vs (stpAny (Q (.bl true))) (Q (.bl false)) σ H

section
variable {X : Cx} {pins : List (Addr × Obj)} {σ : L2.St} {H : Hp} {s : Shared}
theorem gen_make {c P : Addr} {elt tg iter : Expr} {ifs : List Expr} {gpos : Pos} {scope : Scope} {own : List (Str × Nat)} {wi : TI} {g : TG} {tt : TT} {te : TE} {k : Nat} {stp : V → Hp → Prop → Prop} {Qd : Hp → Prop} {Q' : Value → Shared → Prop}
    (hr : Room (k + 1) X.A) (hc : X.calm = true) (hN : X.N.Nodup) (TB : TabB X.base X.mg c P) (hcode : X.env.code = .ref c) (S : GSc X.N X.env.scope scope own) (hi : PI X tg iter wi)
    (hg : ∀ (A' : Around), Room k A' → ∀ (s : Shared) (H : Hp) (cl : List (Str × Addr)) (C : Addr) (code : Value) (fp : List Addr), PG (gcx X A' s H (genEnv scope cl C code builtinsNs X.env) fp) tg g)
    (ht : ∀ (A' : Around), Room k A' → ∀ (s : Shared) (H : Hp) (cl : List (Str × Addr)) (C : Addr) (code : Value) (fp : List Addr), PTs (gcx X A' s H (genEnv scope cl C code builtinsNs X.env) fp) ifs tt)
    (he : ∀ (A' : Around), Room k A' → ∀ (s : Shared) (H : Hp) (cl : List (Str × Addr)) (C : Addr) (code : Value) (fp : List Addr), PE (gcx X A' s H (genEnv scope cl C code builtinsNs X.env) fp) elt te)
    (hmono : ∀ y H (p q : Prop), (p → q) → stp y H p → stp y H q)
    (hs : ∀ v, genFold iter X.env v = pure v) (I : Inv X pins σ H s) (h : tGenB P wi g tt te (own.map (·.2)) stp Qd σ H)
    (hQ : ∀ (XG : Cx) (a : Addr) (oa : Obj) (gn n : Nat) (σw : L2.St) (s5 : Shared), XG.prog = X.prog → XG.w = X.w → XG.pn = [] → s5.heap.get? a = some oa →
      GSt (model X.prog X.w) X.A.in1.in1 (REnd XG a oa σw Qd) (YOut XG a oa stp) a gn n s5 → (∀ s' σ' H', Inv XG [(a, oa)] σ' H' s' → Inv X pins σ H' s') → Q' (.ref a) s5) :
    wpAny (model X.prog X.w) X.A (eval (.GeneratorExp elt [⟨tg, iter, ifs, 0⟩] scope gpos) X.env) Q' X.xe s := by
  have ok := S.blk
  have hfree : ∀ y ∈ scope.names, y.2 = .free → ∃ c, X.env.cells.lookup y.1 = some c := fun y hy e => by
    rcases ok.free y hy e with k | k
    · exact I.ok.has _ (.inl k)
    · exact I.ok.has _ (.inr k)
  refine wpAny_GeneratorExp_make S.co (closure_ok hfree) S.cell S.dot ok.kind (by have := hr.dp; omega) ?_ hs
  refine thn (hi.run pins s σ H _ I h) fun xv s1 hx => thn hx fun itv s2 h2 => ?_
  obtain ⟨it, fp, tn, J, H2, e, I2, T, st2, f2, ⟨ps, hP, hts⟩, q⟩ := h2
  subst e
  have hPs : s2.heap.get? P = some { cls := .none, data := .fields ps } := I2.hok P _ hP
  have cd : PySem.W.CodeHd s2.heap c P := TB.code.keeps fun b u e => I2.bk b u e
  have nP : ∀ b ∈ fp, b ≠ P := fun b hb z => by
    have := (f2 b hb).1
    rw [z, hP] at this; cases this
  have sz2 : ∀ b ∈ fp, b < s2.heap.objs.size := fun b hb => by
    obtain ⟨o, e, _⟩ := T.obj _ _ st2 b hb
    exact Heap.lt_size e
  have cont : ∀ (code : Value) (h3 : Heap) (tk : Nat) (ps' : Array Value), Heap.ExtBut P s2.heap h3 → s2.heap.objs.size ≤ h3.objs.size → h3.get? P = some { cls := .none, data := .fields ps' } → (∃ more, ps' = ps ++ more) → TriplesOk ps'.toList →
      wpAny (model X.prog X.w) X.A (builtinsFor X.env.globals X.env.builtins) (fun bi s₄ =>
        ∀ h', h'.Ns s₄.heap.objs.size (fun y => if y = ".0" then some (.ref it) else none) → Heap.SameBut s₄.heap.objs.size (s₄.heap.push { cls := .type "frame", data := .dict #[] }) h' →
          Q' (.ref h'.objs.size) { s₄ with
            gens := s₄.gens.push (.fresh (.compStart (.GeneratorExp elt [⟨tg, iter, ifs, 0⟩] scope gpos) 0 (.ref it) .none (genEnv scope (cloFrom X.env.cells scope.names []) s₄.heap.objs.size code bi X.env))),
            toks := s₄.toks + 1 + 1 + 1,
            heap := h'.push { cls := .type "generator", data := .fields #[.int s₄.gens.size 0, .str "<genexpr>" (s₄.toks + 1), .str (X.env.qual ++ "<genexpr>") (s₄.toks + 1 + 1)] } }) X.xe { s2 with heap := h3, toks := tk } := by
    intro code h3 tk ps' hx hsz hP3 hmore ht3
    obtain ⟨bm, ob, e1, e2, e3, e4, e5, e6, e7, e8⟩ := TB.bm
    have keep3 : ∀ b u, b ≠ P → s2.heap.get? b = some u → h3.get? b = some u := fun b u hb e => hx b u hb e
    refine wpAny_builtinsFor (m := X.mg) (by rw [I2.ok.glob]; exact (I2.mod.glob.keeps I2.bk).extBut hx TB.gP) e1 e2 (keep3 _ _ e4 (I2.bk _ _ e5)) e6 e7 e8 ?_
    intro h' hn' hs'
    obtain ⟨more, em⟩ := hmore
    have I3 : Inv X pins σ (upd H2 P (.tbl (ps ++ more))) { s2 with heap := h3, toks := tk } :=
      inv_tab (more := more) (h' := h3) (g' := s2.gens) (d' := s2.drawn) (t' := tk) I2 hP keep3 (by rw [← em]; exact hP3) I2.bare
    obtain ⟨W, ⟨m0, w0⟩, turn⟩ := q (upd H2 P (.tbl (ps ++ more))) ⟨⟨ps ++ more, upd_same, by rw [← em]; exact ht3⟩, fun b hb => upd_ne hb⟩
    generalize hH3 : upd H2 P (.tbl (ps ++ more)) = H3 at I3 w0
    generalize hs4 : ({ s2 with heap := h3, toks := tk } : Shared) = s4 at I3 hn' hs' ⊢
    have hh4 : s4.heap = h3 := by rw [← hs4]
    have st4 : tn 0 s4.heap := T.keep _ _ _ st2 fun b hb o e => by rw [hh4]; exact keep3 b o (nP b hb) e
    have f3 : ∀ b ∈ fp, FpOk X pins H3 b ∧ b < s4.heap.objs.size := fun b hb => by
      refine ⟨⟨?_, (f2 b hb).2⟩, by rw [hh4]; exact Nat.lt_of_lt_of_le (sz2 b hb) hsz⟩
      rw [← hH3, upd_ne (nP b hb)]
      exact (f2 b hb).1
    have hszh : h'.objs.size = s4.heap.objs.size + 1 := by rw [hs'.1, Heap.size_push]
    have keep' : ∀ b o, s4.heap.get? b = some o → h'.get? b = some o := fun b o e => hs'.extBut b o (Nat.ne_of_lt (Heap.lt_size e)) (Heap.get?_push_of_some _ e)
    generalize hoa : ({ cls := .type "generator", data := .fields #[.int s4.gens.size 0, .str "<genexpr>" (s4.toks + 1), .str (X.env.qual ++ "<genexpr>") (s4.toks + 1 + 1)] } : Obj) = oa
    have ga : (h'.push oa).get? h'.objs.size = some oa := Heap.get?_push_size _ (by rw [← hoa]; rfl)
    have isg : (h'.push oa).IsGen h'.objs.size s4.gens.size := by rw [← hoa]; exact ⟨_, _, _, Heap.get?_push_size _ rfl, rfl, rfl, rfl⟩
    generalize hce : genEnv scope (cloFrom X.env.cells scope.names []) s4.heap.objs.size code builtinsNs X.env = cenv
    generalize hA' : X.A.in1.in1.over (.compLoop (.GeneratorExp elt [⟨tg, iter, ifs, 0⟩] scope gpos) 0 (.ref it) .none cenv) [] = A'
    have hfr : A'.frames = some (cenv :: X.stack) := by
      rw [← hA']
      show pushEnvs [cenv] (pushEnvs [] X.A.frames) = _
      rw [I2.ok.frames]
      rfl
    have hdp : A'.depth = X.A.depth + 1 := by rw [← hA']; rfl
    have hun : A'.units = X.A.units + 5 := by rw [← hA']; rfl
    have hhd : A'.handled = none := by rw [← hA']; exact hr.hd
    have hr' : Room k A' := ⟨hhd, by rw [hdp]; have := hr.dp; omega, by rw [hun]; have := hr.un; omega⟩
    have bare5 : AllBare (s4.gens.push (.fresh (.compStart (.GeneratorExp elt [⟨tg, iter, ifs, 0⟩] scope gpos) 0 (.ref it) .none cenv))) := I3.bare.push rfl
    have I5 := gen_start (A' := A') (cenv := cenv) (code := code) (m := fun y => if y = ".0" then some (.ref it) else none) (h5 := h'.push oa) (g' := s4.gens.push (.fresh (.compStart (.GeneratorExp elt [⟨tg, iter, ifs, 0⟩] scope gpos) 0 (.ref it) .none cenv)))
      (t5 := s4.toks + 1 + 1 + 1) (a := h'.objs.size) (oa := oa) I3 ok S.cell hN f3 hce.symm hfr hhd (hn'.push _) (fun b o e => Heap.get?_push_of_some _ (keep' b o e)) bare5 ga (by omega) (by rw [← hoa]; intro v z; cases z)
    have back : ∀ s' σ' H', Inv (gcx X A' s4 H3 cenv fp) [(h'.objs.size, oa)] σ' H' s' → Inv X pins σ H' s' := fun s' σ' H' I' =>
      I3.call' (ch := fp) I'.os I'.base I'.hok I'.bare fun b hb => ⟨(f3 b hb).1.2.2.2.1, (f3 b hb).1.2.1, (f3 b hb).1.2.2.2.2.1, (f3 b hb).1.2.2.2.2.2⟩
    have pg : PG (gcx X A' s4 H3 cenv fp) tg g := by rw [← hce]; exact hg A' hr' _ _ _ _ _ _
    have pt : PTs (gcx X A' s4 H3 cenv fp) ifs tt := by rw [← hce]; exact ht A' hr' _ _ _ _ _ _
    have pe : PE (gcx X A' s4 H3 cenv fp) elt te := by rw [← hce]; exact he A' hr' _ _ _ _ _ _
    refine hQ (gcx X A' s4 H3 cenv fp) h'.objs.size oa s4.gens.size (m0 + 1) (wipe σ (own.map (·.2))) _ rfl rfl rfl ga ⟨isg, I5.nolimit, _, Array.getElem?_push_size .., ?_⟩ back
    refine ⟨rfl, ?_⟩
    subst hA'
    refine gen_begin hc (by rw [← hce]; exact S.co) T (fun b hb z => ?_) hmono pg pt pe turn m0 _ _ H3 w0 (Inv.kall I5 rfl (bare_set I5.bare rfl) fun _ _ e => e) ?_ (fun b hb => (f3 b hb).1.1)
    · have h9 := (f3 b hb).2
      rw [← z] at h9
      have h9 : h'.objs.size < s4.heap.objs.size := h9
      omega
    · exact T.keep _ _ _ st4 fun b hb o e => Heap.get?_push_of_some _ (keep' b o e)
  refine ⟨I2.nolimit, ?_⟩
  cases hf : codeAmong gpos ps.toList with
  | none =>
    refine wpAny_genexprCodeX hcode (cd.code hPs hts) (cd.tab hPs) hf fun c' h' tk hx hge hlt hco' _ htab' _ => ?_
    obtain ⟨o1, vs, f1, tf, fl, tg', inF, tx, tt', op, _, _, _, _, _, _, _, _, _, htr, _⟩ := hco'
    exact cont _ h' tk _ hx (Nat.le_trans hge (Nat.le_of_lt hlt)) htab'.2 ⟨_, rfl⟩ htr
  | some cv =>
    refine wpAny_genexprCode_hit hcode (cd.code hPs hts) hf ?_
    exact cont cv s2.heap s2.toks ps (Heap.ExtBut.refl _ _) (Nat.le_refl _) hPs ⟨#[], by simp⟩ hts

theorem pe_allG {c P : Addr} {elt tg iter : Expr} {ifs : List Expr} {p pos gpos : Pos} {scope : Scope} {own : List (Str × Nat)} {wi : TI} {g : TG} {tt : TT} {te : TE} {k : Nat}
    (hr : Room (k + 1) X.A) (hgl : Gl X "all") (hm : X.mg "all" = none) (hc : X.calm = true) (hN : X.N.Nodup) (TB : TabB X.base X.mg c P) (hcode : X.env.code = .ref c) (S : GSc X.N X.env.scope scope own) (hi : PI X tg iter wi)
    (hg : ∀ (A' : Around), Room k A' → ∀ (s : Shared) (H : Hp) (cl : List (Str × Addr)) (C : Addr) (code : Value) (fp : List Addr), PG (gcx X A' s H (genEnv scope cl C code builtinsNs X.env) fp) tg g)
    (ht : ∀ (A' : Around), Room k A' → ∀ (s : Shared) (H : Hp) (cl : List (Str × Addr)) (C : Addr) (code : Value) (fp : List Addr), PTs (gcx X A' s H (genEnv scope cl C code builtinsNs X.env) fp) ifs tt)
    (he : ∀ (A' : Around), Room k A' → ∀ (s : Shared) (H : Hp) (cl : List (Str × Addr)) (C : Addr) (code : Value) (fp : List Addr), PE (gcx X A' s H (genEnv scope cl C code builtinsNs X.env) fp) elt te)
    (hs : ∀ v, genFold iter X.env v = pure v := by intro _; rfl)
    (hst : starEach [.GeneratorExp elt [⟨tg, iter, ifs, 0⟩] scope gpos] X.env = (false, eval (.GeneratorExp elt [⟨tg, iter, ifs, 0⟩] scope gpos) X.env) :: starEach [] X.env := by rfl)
    (hb : bootBuiltins "all" = some (.builtin "all") := by decide +kernel) :
    PE X (.Call (.Name "all" p) [.GeneratorExp elt [⟨tg, iter, ifs, 0⟩] scope gpos] [] pos) (tAllG P wi g tt te (own.map (·.2))) := by
  refine ⟨fun pins s σ H Q I h => ?_⟩
  refine wpAny_Call_Name_kw (ld_blt I hgl hm hb ?_)
  refine PyProof.Rows.callWith_builtin1 ?_ hst (by rfl)
  rw [hst]
  show wpAny _ _ (spliced ((false, eval (.GeneratorExp elt [⟨tg, iter, ifs, 0⟩] scope gpos) X.env) :: backTo pos (starEach [] X.env))) _ _ s
  refine Calls.spliced_cons (gen_make hr hc hN TB hcode S hi hg ht he stpAll_mono hs I h fun XG a oa gn n σw s5 eP eW epn ha hG back => ?_)
  refine Calls.spliced_nil ?_
  refine call_function_tree F.kind_all F.plain_all F.entry_all (F.args_all1 _) ?_
  unfold Builtin.«all»
  refine wpAny_bind (m := oneArg "all" _) (wpAny_pure ?_)
  refine wpAny_bind (wpAny_pyIter_gen hG.1 ?_)
  refine wpAny_pure ⟨plainId_quiet F.plain_all_loop _, all_loop (X := X) (XG := XG) (σw := σw) (Qd := Q (.bl true)) (Qf := Q (.bl false)) eP eW hr.hd (by have := hr.dp; omega) epn (fun s' σ' H' I' q => ?_) (fun s' σ' H' I' q => ?_) n s5 ha hG⟩
  · exact ⟨.bl true, H', back s' σ' H' I', rfl, q⟩
  · exact ⟨.bl false, H', back s' σ' H' I', rfl, q⟩
theorem pe_anyG {c P : Addr} {elt tg iter : Expr} {ifs : List Expr} {p pos gpos : Pos} {scope : Scope} {own : List (Str × Nat)} {wi : TI} {g : TG} {tt : TT} {te : TE} {k : Nat}
    (hr : Room (k + 1) X.A) (hgl : Gl X "any") (hm : X.mg "any" = none) (hc : X.calm = true) (hN : X.N.Nodup) (TB : TabB X.base X.mg c P) (hcode : X.env.code = .ref c) (S : GSc X.N X.env.scope scope own) (hi : PI X tg iter wi)
    (hg : ∀ (A' : Around), Room k A' → ∀ (s : Shared) (H : Hp) (cl : List (Str × Addr)) (C : Addr) (code : Value) (fp : List Addr), PG (gcx X A' s H (genEnv scope cl C code builtinsNs X.env) fp) tg g)
    (ht : ∀ (A' : Around), Room k A' → ∀ (s : Shared) (H : Hp) (cl : List (Str × Addr)) (C : Addr) (code : Value) (fp : List Addr), PTs (gcx X A' s H (genEnv scope cl C code builtinsNs X.env) fp) ifs tt)
    (he : ∀ (A' : Around), Room k A' → ∀ (s : Shared) (H : Hp) (cl : List (Str × Addr)) (C : Addr) (code : Value) (fp : List Addr), PE (gcx X A' s H (genEnv scope cl C code builtinsNs X.env) fp) elt te)
    (hs : ∀ v, genFold iter X.env v = pure v := by intro _; rfl)
    (hst : starEach [.GeneratorExp elt [⟨tg, iter, ifs, 0⟩] scope gpos] X.env = (false, eval (.GeneratorExp elt [⟨tg, iter, ifs, 0⟩] scope gpos) X.env) :: starEach [] X.env := by rfl)
    (hb : bootBuiltins "any" = some (.builtin "any") := by decide +kernel) :
    PE X (.Call (.Name "any" p) [.GeneratorExp elt [⟨tg, iter, ifs, 0⟩] scope gpos] [] pos) (tAnyG P wi g tt te (own.map (·.2))) := by
  refine ⟨fun pins s σ H Q I h => ?_⟩
  refine wpAny_Call_Name_kw (ld_blt I hgl hm hb ?_)
  refine PyProof.Rows.callWith_builtin1 ?_ hst (by rfl)
  rw [hst]
  show wpAny _ _ (spliced ((false, eval (.GeneratorExp elt [⟨tg, iter, ifs, 0⟩] scope gpos) X.env) :: backTo pos (starEach [] X.env))) _ _ s
  refine Calls.spliced_cons (gen_make hr hc hN TB hcode S hi hg ht he stpAny_mono hs I h fun XG a oa gn n σw s5 eP eW epn ha hG back => ?_)
  refine Calls.spliced_nil ?_
  refine call_function_tree F.kind_any F.plain_any F.entry_any (F.args_any1 _) ?_
  unfold Builtin.«any»
  refine wpAny_bind (m := oneArg "any" _) (wpAny_pure ?_)
  refine wpAny_bind (wpAny_pyIter_gen hG.1 ?_)
  refine wpAny_pure ⟨plainId_quiet F.plain_any_loop _, any_loop (X := X) (XG := XG) (σw := σw) (Qd := Q (.bl false)) (Qf := Q (.bl true)) eP eW hr.hd (by have := hr.dp; omega) epn (fun s' σ' H' I' q => ?_) (fun s' σ' H' I' q => ?_) n s5 ha hG⟩
  · exact ⟨.bl false, H', back s' σ' H' I', rfl, q⟩
  · exact ⟨.bl true, H', back s' σ' H' I', rfl, q⟩
end
end GAl

set_option Elab.async false
set_option linter.all false
set_option maxRecDepth 100000
set_option maxHeartbeats 2000000
namespace HK
open PySem PySem.Spec PyProof.Rows L2 GAl GxR
/-! ### defs whose code object is known -/
structure FunC (K : PySem.W.Frag) (x qual : Str) (st : Stmt) (f : Addr) (fd : FuncData) (c : Addr) : Prop where
  ex : ∃ (oc : Value) (od : Option Addr) (kV doc pm : Value) (an : Option Addr) (ct : Value) (osl : Array (Option Value)),
    fd = PySem.W.fnOf x qual (defArgs st) (defBody st) (defScope st) .none kV doc pm an (.ref c) ct ∧ K.lookup f = some ⟨oc, od, .func fd, osl⟩ ∧ PySem.W.codeIn K (.ref c) qual = true
  kp : PySem.W.keepIn K (.ref f) = true
section
variable {P : Program} {w : World} {K : PySem.W.Frag} {mg : Str → Option Value} {base : Heap}
theorem FunC.toFun {x qual : Str} {st : Stmt} {f : Addr} {fd : FuncData} {c : Addr} (F : FunC K x qual st f fd c) : Fun K x qual st f fd := by
  obtain ⟨⟨oc, od, kV, doc, pm, an, ct, osl, e, l, h⟩, k⟩ := F
  exact ⟨⟨oc, od, kV, doc, pm, an, _, ct, osl, e, l, h⟩, k⟩
theorem FunC.ok {x qual : Str} {st : Stmt} {f : Addr} {fd : FuncData} {c : Addr} {N ps : List Str} {k : Nat} {sp : Sp} (F : FunC K x qual st f fd c) (S : FnScope N ps (defScope st)) (len : ∀ vs H Q E, sp vs H Q E → vs.length = ps.length)
    (hbody : ∀ (A : Around) (outer : List Env) (s : Shared) (H : Hp) (vs : List V) (Q : VK) (E : XK), Room k (A.deeper (envOfC qual (defScope st) s.heap.objs.size f (.ref c))) → sp vs H Q E →
      ∃ t, PSs (cxOf CX0 P w K mg base N qual (defScope st) f (.ref c) A outer s H E).nox (defBody st) t ∧ t { nx := fun _ H' => Q .non H', rt := Q } (start N vs) H) : FnOk P w K mg base CX0 (k + 1) f fd ps sp := by
  obtain ⟨oc, od, kV, doc, pm, an, ct, osl, rfl, lk, hcd⟩ := F.ex
  refine fn_of lk hcd S len fun A outer s H vs Q E hr hsp => ?_
  obtain ⟨t, h, q⟩ := hbody A outer s H vs Q E hr hsp
  exact ⟨t, h.nox, q⟩
theorem func_mk {x qual : Str} {st : Stmt} {f c : Addr} {oc : Value} {od an : Option Addr} {osl : Array (Option Value)} {kV doc pm ct : Value} (l : K.lookup f = some ⟨oc, od, .func (PySem.W.fnOf x qual (defArgs st) (defBody st) (defScope st) .none kV doc pm an (.ref c) ct), osl⟩)
    (h : PySem.W.codeIn K (.ref c) qual = true) (k : PySem.W.keepIn K (.ref f) = true) : FunC K x qual st f (PySem.W.fnOf x qual (defArgs st) (defBody st) (defScope st) .none kV doc pm an (.ref c) ct) c := ⟨⟨oc, od, kV, doc, pm, an, ct, osl, rfl, l, h⟩, k⟩
end

/-! ### what stays: everything but the list at t; tables stay tables -/
structure Kt (t : Addr) (H H' : Hp) : Prop where
  tup : ∀ b xs, H b = some (.tup xs) → H' b = some (.tup xs)
  frz : ∀ b o u, H b = some (.frz o u) → H' b = some (.frz o u)
  oth : ∀ b o, H b = some o → b ≠ t → (∀ ps, o ≠ .tbl ps) → H' b = some o
  tab : ∀ P, TabG H P → TabG H' P
  dom : ∀ b, H' b = none → H b = none
/-- everything; tables stay tables -/
structure K0 (H H' : Hp) : Prop where
  oth : ∀ b o, H b = some o → (∀ ps, o ≠ .tbl ps) → H' b = some o
  tab : ∀ P, TabG H P → TabG H' P
  dom : ∀ b, H' b = none → H b = none
theorem upd_none {H : Hp} {p b : Addr} {o : HO} (h : upd H p o b = none) : H b = none := by
  by_cases e : b = p
  · rw [e, upd_same] at h; cases h
  · rw [upd_ne e] at h; exact h
theorem K0.refl (H : Hp) : K0 H H := ⟨fun _ _ h _ => h, fun _ h => h, fun _ h => h⟩
theorem K0.trans {H H1 H2 : Hp} (a : K0 H H1) (b : K0 H1 H2) : K0 H H2 := ⟨fun x o h n => b.oth x o (a.oth x o h n) n, fun P h => b.tab P (a.tab P h), fun x h => a.dom x (b.dom x h)⟩
theorem K0.kt {t : Addr} {H H' : Hp} (a : K0 H H') : Kt t H H' := ⟨fun b xs h => a.oth b _ h (fun _ z => by cases z), fun b o u h => a.oth b _ h (fun _ z => by cases z), fun b o h _ n => a.oth b o h n, a.tab, a.dom⟩
theorem Kt.refl (t : Addr) (H : Hp) : Kt t H H := (K0.refl H).kt
theorem Kt.trans {t : Addr} {H H1 H2 : Hp} (a : Kt t H H1) (b : Kt t H1 H2) : Kt t H H2 := ⟨fun x xs h => b.tup x xs (a.tup x xs h), fun x o u h => b.frz x o u (a.frz x o u h), fun x o h n m => b.oth x o (a.oth x o h n m) n m, fun P h => b.tab P (a.tab P h), fun x h => a.dom x (b.dom x h)⟩
theorem tabG_upd {H : Hp} {p : Addr} {o : HO} (n : H p = none) {P : Addr} (h : TabG H P) : TabG (upd H p o) P := by
  obtain ⟨ps, e, ht⟩ := h
  exact ⟨ps, by rw [upd_ne (ne_of_none e n)]; exact e, ht⟩
theorem K0.new {H : Hp} {p : Addr} {o : HO} (n : H p = none) : K0 H (upd H p o) := ⟨fun b u e _ => by rw [upd_ne (ne_of_none e n)]; exact e, fun P h => tabG_upd n h, fun _ h => upd_none h⟩
theorem K0.tbd {P : Addr} {H H' : Hp} (h0 : TabG H P) (h : Tabbed P H H') : K0 H H' := ⟨fun b o e n => by
  have hb : b ≠ P := fun z => by
    obtain ⟨ps, e', _⟩ := h0
    rw [z, e'] at e
    exact n ps (Option.some.inj e).symm
  rw [h.2 b hb]; exact e, fun Q hq => by
  by_cases hQ : Q = P
  · rw [hQ]; exact h.1
  · obtain ⟨ps, e, ht⟩ := hq
    exact ⟨ps, by rw [h.2 Q hQ]; exact e, ht⟩, fun b e => by
  by_cases hb : b = P
  · obtain ⟨ps, e', _⟩ := h.1
    rw [hb, e'] at e; cases e
  · rw [h.2 b hb] at e; exact e⟩
/-- the list at t is written -/
theorem Kt.set {t : Addr} {H : Hp} {xs ys : List V} (h : H t = some (.lst xs)) : Kt t H (upd H t (.lst ys)) := ⟨fun b zs e => by
  rw [upd_ne (ne_of e h (fun z => by cases z))]; exact e, fun b o u e => by
  rw [upd_ne (ne_of e h (fun z => by cases z))]; exact e, fun b o e n _ => by rw [upd_ne n]; exact e, fun P hP => by
  obtain ⟨ps, e, ht⟩ := hP
  exact ⟨ps, by rw [upd_ne (ne_of e h (fun z => by cases z))]; exact e, ht⟩, fun _ e => upd_none e⟩
theorem Kt.sqT {K : PySem.W.Frag} {t a : Addr} {H H' : Hp} {xs : List V} (k : Kt t H H') (h : SqT K H a xs) : SqT K H' a xs := by
  rcases h with (h | ⟨o, h⟩) | h
  · exact .inl (.inl (k.tup _ _ h))
  · exact .inl (.inr ⟨o, k.frz _ _ _ h⟩)
  · exact .inr h
theorem K0.sqT {K : PySem.W.Frag} {a : Addr} {H H' : Hp} {xs : List V} (k : K0 H H') (h : SqT K H a xs) : SqT K H' a xs := (k.kt (t := 0)).sqT h
theorem K0.sqL {K : PySem.W.Frag} {a : Addr} {H H' : Hp} {xs : List V} (k : K0 H H') (h : SqL K H a xs) : SqL K H' a xs := by
  rcases h with (h | ⟨o, h⟩) | h
  · exact .inl (.inl (k.oth _ _ h (fun _ z => by cases z)))
  · exact .inl (.inr ⟨o, k.oth _ _ h (fun _ z => by cases z)⟩)
  · exact .inr h
theorem Kt.sqL {K : PySem.W.Frag} {t a : Addr} {H H' : Hp} {xs : List V} (k : Kt t H H') (n : a ≠ t) (h : SqL K H a xs) : SqL K H' a xs := by
  rcases h with (h | ⟨o, h⟩) | h
  · exact .inl (.inl (k.oth _ _ h n (fun _ z => by cases z)))
  · exact .inl (.inr ⟨o, k.frz _ _ _ h⟩)
  · exact .inr h
mutual
theorem K0.dp {K : PySem.W.Frag} {H H' : Hp} (k : K0 H H') : ∀ (d : PyData) (v : V), Dp K H v d → Dp K H' v d
  | .none, _, h => by cases h; exact .non
  | .bool _, _, h => by cases h; exact .bl _
  | .int _, _, h => by cases h; exact .int _
  | .str _, _, h => by cases h; exact .str _
  | .list ds, _, h => by cases h with | lst a b => exact .lst (k.sqL a) (K0.dpAll k ds _ b)
  | .tuple ds, _, h => by cases h with | tup a b => exact .tup (k.sqT a) (K0.dpAll k ds _ b)
  | .dict _, _, h => by cases h
theorem K0.dpAll {K : PySem.W.Frag} {H H' : Hp} (k : K0 H H') : ∀ (ds : List PyData) (vs : List V), DpAll K H vs ds → DpAll K H' vs ds
  | [], _, h => by cases h; exact .nil
  | d :: ds, _, h => by cases h with | cons a b => exact .cons (K0.dp k d _ a) (K0.dpAll k ds _ b)
end

/-! ### kinds -/
def tys : List String := ["NoneType", "bool", "int", "str", "list", "tuple", "dict"]
theorem tys_int {T : String} (h : T ∈ tys) : kitB T "int" = some (T == "int" || T == "bool") := by
  simp only [tys, List.mem_cons, List.not_mem_nil, or_false] at h
  rcases h with rfl | rfl | rfl | rfl | rfl | rfl | rfl <;> decide +kernel
theorem tys_bool {T : String} (h : T ∈ tys) : kitB T "bool" = some (T == "bool") := by
  simp only [tys, List.mem_cons, List.not_mem_nil, or_false] at h
  rcases h with rfl | rfl | rfl | rfl | rfl | rfl | rfl <;> decide +kernel
theorem tys_tuple {T : String} (h : T ∈ tys) : kitB T "tuple" = some (T == "tuple") := by
  simp only [tys, List.mem_cons, List.not_mem_nil, or_false] at h
  rcases h with rfl | rfl | rfl | rfl | rfl | rfl | rfl <;> decide +kernel
theorem tys_dict {T : String} (h : T ∈ tys) : kitB T "dict" = some (T == "dict") := by
  simp only [tys, List.mem_cons, List.not_mem_nil, or_false] at h
  rcases h with rfl | rfl | rfl | rfl | rfl | rfl | rfl <;> decide +kernel
theorem sqT_ty {K : PySem.W.Frag} {H : Hp} {a : Addr} {xs : List V} (h : SqT K H a xs) : TyX K H (.ref a) (.type "tuple") := by
  rcases h with (h | ⟨o, h⟩) | ⟨o, _, _, ho, h, _⟩
  · exact .base (.tup h)
  · exact .fTuple h
  · exact .kTuple ho h
theorem sqL_ty {K : PySem.W.Frag} {H : Hp} {a : Addr} {xs : List V} (h : SqL K H a xs) : TyX K H (.ref a) (.type "list") := by
  rcases h with (h | ⟨o, h⟩) | ⟨o, _, _, ho, h, _⟩
  · exact .base (.lst h)
  · exact .base (.frz h)
  · exact .kList ho h
def tyD : PyData → String
  | .none => "NoneType" | .bool _ => "bool" | .int _ => "int" | .str _ => "str" | .list _ => "list" | .tuple _ => "tuple" | .dict _ => "dict"
theorem tyD_mem (d : PyData) : tyD d ∈ tys := by cases d <;> simp [tyD, tys]
theorem dp_ty {K : PySem.W.Frag} {H : Hp} {v : V} {d : PyData} (h : Dp K H v d) : TyX K H v (.type (tyD d)) := by
  cases h with
  | non => exact .base .non
  | bl b => exact .base (.bl b)
  | int i => exact .base (.int i)
  | str x => exact .base (.str x)
  | lst a _ => exact sqL_ty a
  | tup a _ => exact sqT_ty a
def isWholeD : PyData → Bool
  | .int _ => true
  | _ => false
def withinD (d : PyData) (lo hi : Int) : Bool := match d with
  | .int i => decide (lo ≤ i) && decide (i ≤ hi)
  | _ => false
theorem whole_ty (d : PyData) : ((tyD d == "int" || tyD d == "bool") && !(tyD d == "bool")) = isWholeD d := by cases d <;> simp [tyD, isWholeD]
theorem dp_int {K : PySem.W.Frag} {H : Hp} {x : V} {d : PyData} (h : Dp K H x d) (e : isWholeD d = true) : ∃ i, x = .int i ∧ d = .int i := by
  cases h <;> first | exact ⟨_, rfl, rfl⟩ | cases e
end HK

set_option Elab.async false
set_option linter.all false
set_option maxRecDepth 100000
set_option maxHeartbeats 2000000
namespace HK
open PySem PySem.Spec PyProof.Rows L2 GAl GxR
def topS (i : Nat) : Stmt := PySem.Challenge.pw_hearkenway_k34_whole_sent_once_to_each.main.body.getD i (.Pass ⟨0, 0, 0, 0⟩)
abbrev sWhole : Stmt := topS 7
abbrev sWithin : Stmt := topS 8
abbrev sRises : Stmt := topS 9
abbrev sIsNet : Stmt := topS 15
abbrev sIsRoad : Stmt := topS 16
theorem scWhole : FnScope ["thing"] ["thing"] (defScope sWhole) := ⟨rfl, rfl, rfl, by decide +kernel, rfl, by decide +kernel, by decide +kernel⟩
theorem scWithin : FnScope ["thing", "least", "greatest"] ["thing", "least", "greatest"] (defScope sWithin) := ⟨rfl, rfl, rfl, by decide +kernel, rfl, by decide +kernel, by decide +kernel⟩
theorem scIsRoad : FnScope ["many", "thing", "start", "end", "cost", "late"] ["many", "thing"] (defScope sIsRoad) := ⟨rfl, rfl, rfl, by decide +kernel, rfl, by decide +kernel, by decide +kernel⟩

theorem qeq {Q : VK} {a b : Bool} {H : Hp} (q : Q (.bl a) H) (e : a = b) : Q (.bl b) H := e ▸ q
section
variable {P : Program} {w : World} {K : PySem.W.Frag} {mg : Str → Option Value} {base : Heap}
def spWhole (K : PySem.W.Frag) : Sp := fun vs H Q _ => ∃ x d, vs = [x] ∧ Dp K H x d ∧ Q (.bl (isWholeD d)) H
theorem ok_whole {f : Addr} {fd : FuncData} (F : Fun K "is_whole" "is_whole" sWhole f fd) (mi : mg "isinstance" = none) (mI : mg "int" = none) (mB : mg "bool" = none) : FnOk P w K mg base CX0 1 f fd ["thing"] (spWhole K) := by
  refine F.ok scWhole (fun vs H Q E h => ?_) (fun cdv A outer s H vs Q E hr h => ?_)
  · obtain ⟨x, d, rfl, _⟩ := h
    rfl
  · obtain ⟨x, d, rfl, hd, q⟩ := h
    refine ⟨_, pss_one (ps_ret (pe_and (pe_callB call_isi (by rfl) mi boot_isinstance (pa_cons (pv 0) (pa_cons (pe_bltn (v := .ty "int") (by rfl) mI (by decide +kernel) rfl) pa_nil)))
      (pe_one (pe_not (pe_callB call_isi (by rfl) mi boot_isinstance (pa_cons (pv 0) (pa_cons (pe_bltn (v := .ty "bool") (by rfl) mB (by decide +kernel) rfl) pa_nil))))))), ?_⟩
    refine ⟨x, rfl, x, .ty "int", _, _, _, rfl, .ty "int", dp_ty hd, kit_ty (tys_int (tyD_mem d)), _, rfl, ite2 (fun e => ?_) (fun e => ?_)⟩
    · refine ⟨x, rfl, x, .ty "bool", _, _, _, rfl, .ty "bool", dp_ty hd, kit_ty (tys_bool (tyD_mem d)), _, rfl, ?_⟩
      exact qeq q (by rw [← whole_ty d, e, Bool.true_and])
    · have e' : (tyD d == "int" || tyD d == "bool") = false := by simpa using e
      exact qeq q (by rw [← whole_ty d, e', Bool.false_and])
def spWithin (K : PySem.W.Frag) : Sp := fun vs H Q _ => ∃ x d lo hi, vs = [x, .int lo, .int hi] ∧ Dp K H x d ∧ Q (.bl (withinD d lo hi)) H
theorem ok_within {f fW : Addr} {fd fdW : FuncData} (F : Fun K "is_within" "is_within" sWithin f fd) (FW : Fun K "is_whole" "is_whole" sWhole fW fdW) (bW : Binds K fdW ["thing"] []) (gW : mg "is_whole" = some (.ref fW))
    (GW : FnOk P w K mg base CX0 1 fW fdW ["thing"] (spWhole K)) : FnOk P w K mg base CX0 2 f fd ["thing", "least", "greatest"] (spWithin K) := by
  refine F.ok scWithin (fun vs H Q E h => ?_) (fun cdv A outer s H vs Q E hr h => ?_)
  · obtain ⟨x, d, lo, hi, rfl, _⟩ := h
    rfl
  · obtain ⟨x, d, lo, hi, rfl, hd, q⟩ := h
    refine ⟨_, pss_one (ps_ret (pe_and (pe_call GW hr (by rfl) gW FW.kp bW .nil pass0 (pa_cons (pv 0) pa_nil)) (pe_one (pe_chain op_le op_le (pv 1) (pv 0) (pv 2))))), ?_⟩
    refine ⟨x, rfl, x, d, rfl, hd, _, rfl, ite2 (fun e => ?_) (fun e => ?_)⟩
    · obtain ⟨i, rfl, rfl⟩ := dp_int hd e
      refine ⟨_, rfl, _, rfl, _, _, rfl, rfl, _, rfl, ite2 (fun e1 => ?_) (fun e1 => ?_)⟩
      · refine ⟨_, rfl, _, _, rfl, rfl, ?_⟩
        exact qeq q (by show (decide (lo ≤ i) && decide (i ≤ hi)) = _; rw [e1, Bool.true_and])
      · exact qeq q (by show (decide (lo ≤ i) && decide (i ≤ hi)) = _; simp only [Bool.not_eq_true] at e1; rw [e1, Bool.false_and])
    · exact qeq q (by cases d <;> first | rfl | exact absurd rfl e)
end
end HK

set_option Elab.async false
set_option linter.all false
set_option maxRecDepth 100000
set_option maxHeartbeats 2000000
namespace HK
open PySem PySem.Spec PyProof.Rows L2 GAl GxR
def neD : PyData → PyData → Bool
  | .int a, .int b => !decide (a = b)
  | _, _ => false
def isRoadD (n : Int) : PyData → Bool
  | .tuple [s, e, c, l] => (withinD s 0 (n - 1) && withinD e 0 (n - 1) && neD s e) && (withinD c 0 1000 && withinD l 1 1000)
  | _ => false
theorem dpAll_len {K : PySem.W.Frag} {H : Hp} : ∀ {xs : List V} {ds : List PyData}, DpAll K H xs ds → xs.length = ds.length
  | _, _, .nil => rfl
  | _, _, .cons _ t => by rw [List.length_cons, List.length_cons, dpAll_len t]
theorem within_int {d : PyData} {lo hi : Int} (h : withinD d lo hi = true) : ∃ i, d = .int i ∧ lo ≤ i ∧ i ≤ hi := by
  cases d <;> simp only [withinD] at h <;> first | cases h | skip
  rename_i i
  simp only [Bool.and_eq_true, decide_eq_true_eq] at h
  exact ⟨i, rfl, h.1, h.2⟩
theorem dp_int' {K : PySem.W.Frag} {H : Hp} {x : V} {i : Int} (h : Dp K H x (.int i)) : x = .int i := by cases h; rfl
theorem dp_tup {K : PySem.W.Frag} {H : Hp} {x : V} {ds : List PyData} (h : Dp K H x (.tuple ds)) : ∃ a xs, x = .ref a ∧ SqT K H a xs ∧ DpAll K H xs ds := by cases h with | tup a b => exact ⟨_, _, rfl, a, b⟩

section
variable {P : Program} {w : World} {K : PySem.W.Frag} {mg : Str → Option Value} {base : Heap}
def spRoad (K : PySem.W.Frag) : Sp := fun vs H Q _ => ∃ (n : Int) (x : V) (d : PyData), vs = [.int n, x] ∧ Dp K H x d ∧ Q (.bl (isRoadD n d)) H
theorem ok_road {f fW : Addr} {fd fdW : FuncData} {t1 t2 t3 : Tok} (F : Fun K "is_road" "is_road" sIsRoad f fd) (FW : Fun K "is_within" "is_within" sWithin fW fdW) (bW : Binds K fdW ["thing", "least", "greatest"] []) (gW : mg "is_within" = some (.ref fW))
    (GW : FnOk P w K mg base CX0 2 fW fdW ["thing", "least", "greatest"] (spWithin K)) (mi : mg "isinstance" = none) (mT : mg "tuple" = none) (ml : mg "len" = none)
    (g1 : mg "MOST_PRICE" = some (.int 1000 t1)) (g2 : mg "LEAST_LATE" = some (.int 1 t2)) (g3 : mg "MOST_LATE" = some (.int 1000 t3)) : FnOk P w K mg base CX0 3 f fd ["many", "thing"] (spRoad K) := by
  refine F.ok scIsRoad (fun vs H Q E h => ?_) (fun cdv A outer s H vs Q E hr h => ?_)
  · obtain ⟨n, x, d, rfl, _⟩ := h
    rfl
  · obtain ⟨n, x, d, rfl, hd, q⟩ := h
    refine ⟨_, pss_cons (ps_if (pt_not (PW.pt (pw_and (pt_val (pe_callB call_isi (by rfl) mi boot_isinstance (pa_cons (pv 1) (pa_cons (pe_bltn (v := .ty "tuple") (by rfl) mT (by decide +kernel) rfl) pa_nil))))
        (pw_and1 (pt_cmpR op_eq (pe_callB call_len_seq (by rfl) ml PySem.boot_len (pa_cons (pv 1) pa_nil)) pe_int (nomark _)))))) (pss_one (ps_ret pe_bl)) pss_nil)
      (pss_cons (ps_asg (pv 1) (pg_tup rfl (pgs_cons (pg_name (i := 2) scIsRoad.nd rfl (.inl rfl)) (pgs_cons (pg_name (i := 3) scIsRoad.nd rfl (.inl rfl)) (pgs_cons (pg_name (i := 4) scIsRoad.nd rfl (.inl rfl)) (pgs_cons (pg_name (i := 5) scIsRoad.nd rfl (.inl rfl)) pgs_nil))))))
      (pss_cons (ps_if (pt_not (PW.pt (pw_and (pt_val (pe_call GW hr (by rfl) gW FW.kp bW .nil pass0 (pa_cons (pv 2) (pa_cons pe_int (pa_cons (pe_op op_sub (pv 0) pe_int) pa_nil)))))
        (pw_and (pt_val (pe_call GW hr (by rfl) gW FW.kp bW .nil pass0 (pa_cons (pv 3) (pa_cons pe_int (pa_cons (pe_op op_sub (pv 0) pe_int) pa_nil)))))
          (pw_and1 (pt_cmpR op_ne (pv 2) (pv 3) (nomark _))))))) (pss_one (ps_ret pe_bl)) pss_nil)
      (pss_one (ps_ret (pe_and (pe_call GW hr (by rfl) gW FW.kp bW .nil pass0 (pa_cons (pv 4) (pa_cons pe_int (pa_cons (pe_glob (v := .int 1000) (by rfl) g1 ⟨_, rfl⟩) pa_nil))))
        (pe_one (pe_call GW hr (by rfl) gW FW.kp bW .nil pass0 (pa_cons (pv 5) (pa_cons (pe_glob (v := .int 1) (by rfl) g2 ⟨_, rfl⟩) (pa_cons (pe_glob (v := .int 1000) (by rfl) g3 ⟨_, rfl⟩) pa_nil)))))))))), ?_⟩
    -- isinstance(thing, tuple) and len(thing) == 4
    refine ⟨x, rfl, x, .ty "tuple", _, _, _, rfl, .ty "tuple", dp_ty hd, kit_ty (tys_tuple (tyD_mem d)), _, rfl, ite2 (fun e => ?_) (fun e => ?_)⟩
    · obtain ⟨ds, rfl⟩ : ∃ ds, d = .tuple ds := by cases d <;> first | exact ⟨_, rfl⟩ | (simp [tyD] at e)
      obtain ⟨a, xs, rfl, hq, hall⟩ := dp_tup hd
      refine ⟨.ref a, rfl, a, xs, rfl, .inr hq, rfl, _, rfl, ?_⟩
      by_cases h4 : xs.length = 4
      · rw [decide_eq_true (show (V.int (xs.length : Int)) = .int 4 by rw [h4]; rfl)]
        refine iteF ?_
        have h4' : ds.length = 4 := by rw [← dpAll_len hall]; exact h4
        obtain ⟨s1, e1, c1, l1, rfl⟩ : ∃ s1 e1 c1 l1, ds = [s1, e1, c1, l1] := by
          match ds, h4' with
          | [a, b, c, d], _ => exact ⟨a, b, c, d, rfl⟩
        cases hall with
        | cons d1 hall => cases hall with
          | cons d2 hall => cases hall with
            | cons d3 hall => cases hall with
              | cons d4 hall =>
                cases hall
                rename_i v1 v2 v3 v4
                refine ⟨.ref a, rfl, a, _, rfl, hq, rfl, v1, _, rfl, v2, _, rfl, v3, _, rfl, v4, _, rfl, rfl, ?_⟩
                refine ⟨v1, rfl, .int n, rfl, n, 1, rfl, rfl, v1, s1, 0, n - 1, rfl, d1, _, rfl, ite2 (fun b1 => ?_) (fun b1 => ?_)⟩
                · refine ⟨v2, rfl, .int n, rfl, n, 1, rfl, rfl, v2, e1, 0, n - 1, rfl, d2, _, rfl, ite2 (fun b2 => ?_) (fun b2 => ?_)⟩
                  · obtain ⟨i, rfl, _⟩ := within_int b1
                    obtain ⟨j, rfl, _⟩ := within_int b2
                    obtain rfl := dp_int' d1
                    obtain rfl := dp_int' d2
                    refine ⟨_, rfl, _, rfl, rfl, _, rfl, ?_⟩
                    have hne : (!decide (V.int i = V.int j)) = neD (.int i) (.int j) := by
                      show (!decide (V.int i = V.int j)) = !decide (i = j)
                      congr 1
                      exact decide_eq_decide.mpr ⟨fun z => V.int.inj z, fun z => by rw [z]⟩
                    rw [hne]
                    cases b3 : neD (.int i) (.int j) with
                    | true =>
                      refine iteF ?_
                      refine ⟨v3, rfl, v3, c1, 0, 1000, rfl, d3, _, rfl, ite2 (fun b4 => ?_) (fun b4 => ?_)⟩
                      · refine ⟨v4, rfl, v4, l1, 1, 1000, rfl, d4, ?_⟩
                        exact qeq q (by show ((_ && _ && _) && (_ && _)) = _; rw [b1, b2, b3, b4]; rfl)
                      · simp only [Bool.not_eq_true] at b4
                        exact qeq q (by show ((_ && _ && _) && (_ && _)) = _; rw [b4, Bool.false_and, Bool.and_false])
                    | false =>
                      refine iteT ?_
                      exact qeq q (by show ((_ && _ && _) && (_ && _)) = _; rw [b3, Bool.and_false, Bool.false_and])
                  · simp only [Bool.not_eq_true] at b2
                    refine iteT ?_
                    exact qeq q (by show ((_ && _ && _) && (_ && _)) = _; rw [b2, Bool.and_false, Bool.false_and, Bool.false_and])
                · simp only [Bool.not_eq_true] at b1
                  refine iteT ?_
                  exact qeq q (by show ((_ && _ && _) && (_ && _)) = _; rw [b1, Bool.false_and, Bool.false_and, Bool.false_and])
      · rw [decide_eq_false (show ¬ (V.int (xs.length : Int)) = .int 4 from fun z => h4 (by have := V.int.inj z; omega))]
        refine iteT ?_
        refine qeq q ?_
        have h4' : ds.length ≠ 4 := by rw [← dpAll_len hall]; exact h4
        unfold isRoadD
        split
        · rename_i heq
          cases heq
          exact absurd rfl h4'
        · rfl
    · refine iteT ?_
      refine qeq q ?_
      cases d <;> first | rfl | (exact absurd rfl e)
end
end HK

set_option Elab.async false
set_option linter.all false
set_option maxRecDepth 100000
set_option maxHeartbeats 2000000
namespace HK
open PySem PySem.Spec PyProof.Rows L2 GAl GxR
theorem tyes {σ : L2.St} {H : Hp} {A B : Hp → Prop} (h : A H) : tYes σ H (fun b H3 => if b = true then A H3 else B H3) := by
  show (fun (b : Bool) (H3 : Hp) => if b = true then A H3 else B H3) true H
  simp only [if_true]
  exact h
def risesB (l : List (List Int)) : Bool := (List.range (l.length - 1)).all fun i => HT.lexLt (l.getD i []) (l.getD (i + 1) [])
theorem risesB_yes {l : List (List Int)} (h : ∀ j, j < l.length - 1 → HT.lexLt (l.getD j []) (l.getD (j + 1) []) = true) : risesB l = true := by
  unfold risesB
  rw [List.all_eq_true]
  exact fun j hj => h j (List.mem_range.mp hj)
theorem risesB_no {l : List (List Int)} {j : Nat} (hj : j < l.length - 1) (h : HT.lexLt (l.getD j []) (l.getD (j + 1) []) = false) : risesB l = false := by
  unfold risesB
  rw [Bool.eq_false_iff]
  intro z
  have := List.all_eq_true.mp z j (List.mem_range.mpr hj)
  rw [h] at this
  cases this
theorem cut1 (xs : List V) : cutV xs (some 1) none = xs.drop 1 := by
  unfold cutV
  rw [show HT.sIx xs.length 0 (some 1) = min 1 xs.length from HT.sIx_nat xs.length 0 1, HT.sIx_none]
  cases xs with
  | nil => rfl
  | cons x r =>
    rw [show min 1 (x :: r).length = 1 by
      rw [List.length_cons]
      omega]
    show (List.take ((x :: r).length - 1) r) = r
    rw [List.length_cons, Nat.add_sub_cancel]
    exact List.take_length
theorem scRises : FnScope ["row", "low", "high"] ["row"] (defScope sRises) := ⟨rfl, rfl, rfl, by decide +kernel, rfl, by decide +kernel, by decide +kernel⟩
section
variable {P : Program} {w : World} {K : PySem.W.Frag} {mg : Str → Option Value} {base : Heap}
/-- the list at a holds tuples of ints -/
def TupsAt (K : PySem.W.Frag) (H : Hp) (xs : List V) (l : List (List Int)) : Prop := xs.length = l.length ∧ ∀ (i : Nat) (x : V), xs[i]? = some x → ∃ t, x = .ref t ∧ SqT K H t ((l.getD i []).map V.int)
theorem TupsAt.k0 {H H' : Hp} {xs : List V} {l : List (List Int)} (h : TupsAt K H xs l) (k : K0 H H') : TupsAt K H' xs l := ⟨h.1, fun i x e => by
  obtain ⟨t, e, s⟩ := h.2 i x e
  exact ⟨t, e, k.sqT s⟩⟩
def spRises (K : PySem.W.Frag) (Pr : Addr) : Sp := fun vs H Q _ => ∃ (a : Addr) (xs : List V) (l : List (List Int)), vs = [.ref a] ∧ SqL K H a xs ∧ TupsAt K H xs l ∧ TabG H Pr ∧ ∀ H', K0 H H' → Q (.bl (risesB l)) H'
theorem ok_rises {f c Pr : Addr} {fd : FuncData} (F : FunC K "rises" "rises" sRises f fd c) (TB : TabB base mg c Pr) (mz : mg "zip" = none) (ma : mg "all" = none) : FnOk P w K mg base CX0 2 f fd ["row"] (spRises K Pr) := by
  refine F.ok scRises (fun vs H Q E h => ?_) (fun A outer s H vs Q E hr h => ?_)
  · obtain ⟨a, xs, l, rfl, _⟩ := h
    rfl
  · obtain ⟨a, xs, l, rfl, hS, hT, hP, q⟩ := h
    refine ⟨_, pss_one (ps_ret (pe_allG (own := [("low", 1), ("high", 2)]) (k := 0) (g := gTup K 2 (gCons (gName 1) (gCons (gName 2) gNil))) (tt := tYes) (te := tOp (rLtT K) (tVar 1) (tVar 2)) hr (by rfl) ma rfl scRises.nd TB rfl (gsc_by (N := ["row", "low", "high"]) (sc := defScope sRises) (by decide +kernel))
      (pi_zip (by rfl) mz (pa_cons (pv 0) (pa_cons (pe_slice sl_list (pv 0) (po_some pe_int) po_none) pa_nil)))
      (fun A' hr' _ _ _ _ _ _ => pg_tup rfl (pgs_cons (pg_name (i := 1) scRises.nd rfl (.inl rfl)) (pgs_cons (pg_name (i := 2) scRises.nd rfl (.inl rfl)) pgs_nil)))
      (fun A' hr' _ _ _ _ _ _ => pts_nil)
      (fun A' hr' _ _ _ _ _ _ => pe_cmpR (op_ltT hr'.units0) (pv 1) (pv 2) (nomark _)))), ?_⟩
    refine ⟨.ref a, rfl, .ref a, rfl, 1, rfl, a, xs, rfl, hS, fun c nc => ?_⟩
    have k1 : K0 H (upd H c (.lst (cutV xs (some 1) none))) := K0.new nc
    refine ⟨a, c, xs, _, rfl, k1.sqL hS, .inl (.inl upd_same), k1.tab _ hP, fun H2 hT2 => ?_⟩
    have k2 : K0 H H2 := k1.trans (K0.tbd (k1.tab _ hP) hT2)
    have hc2 : H2 c = some (.lst (xs.drop 1)) := by
      have := (K0.tbd (k1.tab _ hP) hT2).oth c _ upd_same (fun _ z => by cases z)
      rw [cut1] at this
      exact this
    refine ⟨fun i m H3 => i + m = xs.length - 1 ∧ K0 H H3 ∧ H3 c = some (.lst (xs.drop 1)) ∧ ∀ j, j < i → HT.lexLt (l.getD j []) (l.getD (j + 1) []) = true, ⟨xs.length - 1, by omega, k2, hc2, fun j hj => absurd hj (Nat.not_lt_zero _)⟩, fun i m H3 hW => ?_⟩
    obtain ⟨em, k3, ec, hlt⟩ := hW
    have hA : SqL K H3 a xs := k3.sqL hS
    have hC : SqL K H3 c (xs.drop 1) := .inl (.inl ec)
    by_cases hi : i < xs.length - 1
    · have h1 : i < xs.length := by omega
      have h2 : i + 1 < xs.length := by omega
      have g1 : xs[i]? = some xs[i] := List.getElem?_eq_getElem h1
      have g2 : (xs.drop 1)[i]? = some xs[i + 1] := by rw [List.getElem?_drop, Nat.add_comm 1 i]; exact List.getElem?_eq_getElem h2
      refine .inr ⟨⟨_, _, _, _, hA, hC, g1, g2⟩, fun H' => K0 H H' ∧ H' c = some (.lst (xs.drop 1)) ∧ HT.lexLt (l.getD i []) (l.getD (i + 1) []) = true, fun H' hN => ?_, fun x H' hy => ?_⟩
      · obtain ⟨k', ec', hl'⟩ := hN
        refine ⟨m - 1, by omega, by omega, k', ec', fun j hj => ?_⟩
        by_cases e : j = i
        · rw [e]; exact hl'
        · exact hlt j (by omega)
      · obtain ⟨T, x1, x2, rfl, nT, rfl, f1, f2⟩ := hy
        have ex1 : x1 = xs[i] := Option.some.inj ((f1 _ hA).symm.trans g1)
        have ex2 : x2 = xs[i + 1] := Option.some.inj ((f2 _ hC).symm.trans g2)
        have kT : K0 H3 (upd H3 T (.tup [x1, x2])) := K0.new nT
        obtain ⟨t1, e1, s1⟩ := hT.2 i x1 (by rw [ex1]; exact g1)
        obtain ⟨t2, e2, s2⟩ := hT.2 (i + 1) x2 (by rw [ex2]; exact List.getElem?_eq_getElem h2)
        refine ⟨T, [x1, x2], rfl, .inl (.inl upd_same), rfl, x1, [x2], rfl, x2, [], rfl, rfl, rfl, ?_⟩
        refine tyes ?_
        have k4 := k3.trans kT
        refine ⟨x1, rfl, x2, rfl, t1, t2, _, _, e1, e2, k4.sqT s1, k4.sqT s2, _, rfl, ?_⟩
        cases hb : HT.lexLt (l.getD i []) (l.getD (i + 1) []) with
        | true => exact iteT ⟨k4, kT.oth c _ ec (fun _ z => by cases z), rfl⟩
        | false => exact iteF (qeq (q _ k4) (risesB_no (by rw [← hT.1]; exact hi) hb))
    · refine .inl ⟨⟨_, _, hA, hC, .inr (by rw [List.length_drop]; omega)⟩, ?_⟩
      exact qeq (q _ k3) (risesB_yes fun j hj => hlt j (by rw [← hT.1] at hj; omega))
end
end HK

set_option Elab.async false
set_option linter.all false
set_option maxRecDepth 100000
set_option maxHeartbeats 2000000
namespace HK
open PySem PySem.Spec PyProof.Rows L2 GAl GxR
def pairD : PyData → List Int
  | .tuple (.int s :: .int e :: _) => [s, e]
  | _ => []
def isNetD : PyData → Bool
  | .tuple [.int m, .tuple rs] => (decide (1 ≤ m) && decide (m ≤ 12)) && (rs.all (isRoadD m) && risesB (rs.map pairD))
  | _ => false
theorem road_ints {n : Int} {d : PyData} (h : isRoadD n d = true) : ∃ s e c l : Int, d = .tuple [.int s, .int e, .int c, .int l] ∧ 0 ≤ s ∧ s ≤ n - 1 ∧ 0 ≤ e ∧ e ≤ n - 1 ∧ s ≠ e ∧ 0 ≤ c ∧ c ≤ 1000 ∧ 1 ≤ l ∧ l ≤ 1000 := by
  unfold isRoadD at h
  split at h
  · rename_i s e c l
    simp only [Bool.and_eq_true] at h
    obtain ⟨⟨⟨h1, h2⟩, h3⟩, h4, h5⟩ := h
    obtain ⟨i, rfl, a1, a2⟩ := within_int h1
    obtain ⟨j, rfl, b1, b2⟩ := within_int h2
    obtain ⟨k, rfl, c1, c2⟩ := within_int h4
    obtain ⟨q, rfl, d1, d2⟩ := within_int h5
    refine ⟨i, j, k, q, rfl, a1, a2, b1, b2, fun z => ?_, c1, c2, d1, d2⟩
    rw [z] at h3
    simp [neD] at h3
  · cases h
theorem dp_ints4 {K : PySem.W.Frag} {H : Hp} {x : V} {s e c l : Int} (h : Dp K H x (.tuple [.int s, .int e, .int c, .int l])) : ∃ a, x = .ref a ∧ SqT K H a [.int s, .int e, .int c, .int l] := by
  obtain ⟨a, xs, rfl, hq, hall⟩ := dp_tup h
  cases hall with
  | cons d1 hall => cases hall with
    | cons d2 hall => cases hall with
      | cons d3 hall => cases hall with
        | cons d4 hall =>
          cases hall
          obtain rfl := dp_int' d1
          obtain rfl := dp_int' d2
          obtain rfl := dp_int' d3
          obtain rfl := dp_int' d4
          exact ⟨a, rfl, hq⟩
theorem dpAll_get {K : PySem.W.Frag} {H : Hp} : ∀ {xs : List V} {ds : List PyData} {i : Nat} {x : V}, DpAll K H xs ds → xs[i]? = some x → ∃ d, ds[i]? = some d ∧ Dp K H x d
  | _, _, _, _, .nil, e => by simp at e
  | _, _, 0, _, .cons h _, e => by simp at e; subst e; exact ⟨_, rfl, h⟩
  | _, _, i + 1, x, .cons _ t, e => by
    obtain ⟨d, h1, h2⟩ := dpAll_get (i := i) (x := x) t (by simpa using e)
    exact ⟨d, by simpa using h1, h2⟩
theorem K0.mut {H H' : Hp} {p : Addr} {o : HO} (k : K0 H H') (n : H p = none) : K0 H (upd H' p o) := ⟨fun b u e m => by
  rw [upd_ne (ne_of_none e n)]; exact k.oth b u e m, fun P h => by
  obtain ⟨ps, e, ht⟩ := h
  obtain ⟨ps', e', ht'⟩ := k.tab P ⟨ps, e, ht⟩
  exact ⟨ps', by rw [upd_ne (ne_of_none e n)]; exact e', ht'⟩, fun b e => k.dom b (upd_none e)⟩
theorem TupsAt.kt {K : PySem.W.Frag} {t : Addr} {H H' : Hp} {xs : List V} {l : List (List Int)} (h : TupsAt K H xs l) (k : Kt t H H') : TupsAt K H' xs l := ⟨h.1, fun i x e => by
  obtain ⟨t, e, s⟩ := h.2 i x e
  exact ⟨t, e, k.sqT s⟩⟩
theorem TupsAt.snoc {K : PySem.W.Frag} {H : Hp} {xs : List V} {l : List (List Int)} {t : Addr} {ns : List Int} (h : TupsAt K H xs l) (s : SqT K H t (ns.map V.int)) : TupsAt K H (xs ++ [.ref t]) (l ++ [ns]) := by
  refine ⟨by simp [h.1], fun i x e => ?_⟩
  by_cases hi : i < xs.length
  · rw [List.getElem?_append_left hi] at e
    obtain ⟨t', e', s'⟩ := h.2 i x e
    refine ⟨t', e', ?_⟩
    have : (l ++ [ns]).getD i [] = l.getD i [] := by
      simp only [List.getD_eq_getElem?_getD]
      rw [List.getElem?_append_left (by rw [← h.1]; exact hi)]
    rw [this]; exact s'
  · have hx : i = xs.length := by
      have : i < (xs ++ [V.ref t]).length := (List.getElem?_eq_some_iff.mp e).1
      rw [List.length_append, List.length_singleton] at this
      omega
    subst hx
    rw [List.getElem?_append_right (Nat.le_refl _), Nat.sub_self] at e
    have e : V.ref t = x := Option.some.inj e
    refine ⟨t, e.symm, ?_⟩
    have : (l ++ [ns]).getD xs.length [] = ns := by
      simp only [List.getD_eq_getElem?_getD]
      rw [h.1, List.getElem?_append_right (Nat.le_refl _), Nat.sub_self]; rfl
    rw [this]; exact s
theorem scIsNet : FnScope ["thing", "many", "roads", "road"] ["thing"] (defScope sIsNet) := ⟨rfl, rfl, rfl, by decide +kernel, rfl, by decide +kernel, by decide +kernel⟩
theorem all_no {rs : List PyData} {p : PyData → Bool} {i : Nat} {d : PyData} (h : rs[i]? = some d) (hd : p d = false) : rs.all p = false := by
  rw [Bool.eq_false_iff]
  intro z
  have := List.all_eq_true.mp z d (List.mem_of_getElem? h)
  rw [hd] at this; cases this
theorem all_yes {rs : List PyData} {p : PyData → Bool} (h : ∀ (j : Nat) (d : PyData), rs[j]? = some d → p d = true) : rs.all p = true := by
  rw [List.all_eq_true]
  intro d hd
  obtain ⟨j, hj, e⟩ := List.getElem_of_mem hd
  exact h j d (by rw [← e]; exact List.getElem?_eq_getElem hj)

section
variable {P : Program} {w : World} {K : PySem.W.Frag} {mg : Str → Option Value} {base : Heap}
def NetAns (K : PySem.W.Frag) (H : Hp) (v : V) (b : Bool) : Prop := (∃ d, Dp K H v d ∧ (∀ m rs, d = .tuple [m, .tuple rs] → rs.length ≤ 1000) ∧ b = isNetD d) ∨ (∃ T, T ∈ tys ∧ TyX K H v (.type T) ∧ (T == "tuple") = false ∧ b = false)
def spIsNet (K : PySem.W.Frag) (Pn Pr : Addr) : Sp := fun vs H Q _ => ∃ (v : V) (b : Bool), vs = [v] ∧ NetAns K H v b ∧ TabG H Pn ∧ TabG H Pr ∧ ∀ H', K0 H H' → Q (.bl b) H'
theorem ok_isnet {f c Pn Pr fW fR fS : Addr} {fd fdW fdR fdS : FuncData} {t1 : Tok} (F : FunC K "is_net" "is_net" sIsNet f fd c) (TB : TabB base mg c Pn)
    (kW : PySem.W.keepIn K (.ref fW) = true) (bW : Binds K fdW ["thing", "least", "greatest"] []) (gW : mg "is_within" = some (.ref fW)) (GW : FnOk P w K mg base CX0 2 fW fdW ["thing", "least", "greatest"] (spWithin K))
    (kR : PySem.W.keepIn K (.ref fR) = true) (bR : Binds K fdR ["many", "thing"] []) (gR : mg "is_road" = some (.ref fR)) (GR : FnOk P w K mg base CX0 3 fR fdR ["many", "thing"] (spRoad K))
    (kS : PySem.W.keepIn K (.ref fS) = true) (bS : Binds K fdS ["row"] []) (gS : mg "rises" = some (.ref fS)) (GS : FnOk P w K mg base CX0 2 fS fdS ["row"] (spRises K Pr))
    (mi : mg "isinstance" = none) (mT : mg "tuple" = none) (ml : mg "len" = none) (ma : mg "all" = none) (g1 : mg "MOST_PLACES" = some (.int 12 t1)) : FnOk P w K mg base CX0 5 f fd ["thing"] (spIsNet K Pn Pr) := by
  refine F.ok scIsNet (fun vs H Q E h => ?_) (fun A outer s H vs Q E hr h => ?_)
  · obtain ⟨v, b, rfl, _⟩ := h
    rfl
  · obtain ⟨v, b, rfl, hA, hPn, hPr, q⟩ := h
    refine ⟨_, pss_cons (ps_if (pt_not (PW.pt (pw_and (pt_val (pe_callB call_isi (by rfl) mi boot_isinstance (pa_cons (pv 0) (pa_cons (pe_bltn (v := .ty "tuple") (by rfl) mT (by decide +kernel) rfl) pa_nil))))
        (pw_and1 (pt_cmpR op_eq (pe_callB call_len_seq (by rfl) ml PySem.boot_len (pa_cons (pv 0) pa_nil)) pe_int (nomark _)))))) (pss_one (ps_ret pe_bl)) pss_nil)
      (pss_cons (ps_asg (pv 0) (pg_tup rfl (pgs_cons (pg_name (i := 1) scIsNet.nd rfl (.inr rfl)) (pgs_cons (pg_name (i := 2) scIsNet.nd rfl (.inl rfl)) pgs_nil))))
      (pss_cons (ps_if (pt_not (PW.pt (pw_and (pt_val (pe_call GW (hr.mono (by decide)) (by rfl) gW kW bW .nil pass0 (pa_cons (pv 1) (pa_cons pe_int (pa_cons (pe_glob (v := .int 12) (by rfl) g1 ⟨_, rfl⟩) pa_nil)))))
        (pw_and1 (pt_val (pe_callB call_isi (by rfl) mi boot_isinstance (pa_cons (pv 2) (pa_cons (pe_bltn (v := .ty "tuple") (by rfl) mT (by decide +kernel) rfl) pa_nil)))))))) (pss_one (ps_ret pe_bl)) pss_nil)
      (pss_cons (ps_if (pt_not (pt_val (pe_allG (own := [("road", 3)]) (k := 3) (g := gName 3) (tt := tYes) (te := tCall (spRoad K) [] E0 (tCons (tVar 1) (tCons (tVar 3) tNil))) hr (by rfl) ma rfl scIsNet.nd TB rfl (gsc_by (N := ["thing", "many", "roads", "road"]) (sc := defScope sIsNet) (by decide +kernel))
          (pi_tup (pv 2)) (fun A' hr' _ _ _ _ _ _ => pg_name (i := 3) scIsNet.nd rfl (.inl rfl)) (fun A' hr' _ _ _ _ _ _ => pts_nil)
          (fun A' hr' _ _ _ _ _ _ => pe_call GR hr' (by rfl) gR kR bR .nil pass0 (pa_cons (pv 1) (pa_cons (pv 3) pa_nil)))))) (pss_one (ps_ret pe_bl)) pss_nil)
      (pss_one (ps_ret (pe_call GS (hr.mono (by decide)) (by rfl) gS kS bS .nil pass0 (pa_cons (pe_lc (own := [("road", 3)]) (g := gName 3) (tt := tYes) (te := tSl (rSlT K) (tVar 3) tNoPart (tPart (tC (.int 2)))) rfl scIsNet.nd (pi_tup (pv 2))
          (blkOk_by (N := ["thing", "many", "roads", "road"]) (sc := defScope sIsNet) (by decide +kernel)) (fun _ _ _ _ _ => pg_name (i := 3) scIsNet.nd rfl (Or.inl rfl)) (fun _ _ _ _ _ => pts_nil)
          (fun _ _ _ _ _ => pe_slice sl_tup (pv 3) po_none (po_some pe_int))) pa_nil))))))), ?_⟩
    rcases hA with ⟨d, hd, hsz, rfl⟩ | ⟨T, hT, hty, hne, rfl⟩
    · refine ⟨v, rfl, v, .ty "tuple", _, _, _, rfl, .ty "tuple", dp_ty hd, kit_ty (tys_tuple (tyD_mem d)), _, rfl, ite2 (fun e => ?_) (fun e => ?_)⟩
      · obtain ⟨ds, rfl⟩ : ∃ ds, d = .tuple ds := by cases d <;> first | exact ⟨_, rfl⟩ | (simp [tyD] at e)
        obtain ⟨a, xs, rfl, hq, hall⟩ := dp_tup hd
        refine ⟨.ref a, rfl, a, xs, rfl, .inr hq, rfl, _, rfl, ?_⟩
        by_cases h4 : xs.length = 2
        · rw [decide_eq_true (show (V.int (xs.length : Int)) = .int 2 by rw [h4]; rfl)]
          refine iteF ?_
          have h4' : ds.length = 2 := by rw [← dpAll_len hall]; exact h4
          obtain ⟨dm, dr, rfl⟩ : ∃ dm dr, ds = [dm, dr] := by
            match ds, h4' with
            | [a, b], _ => exact ⟨a, b, rfl⟩
          cases hall with
          | cons d1 hall => cases hall with
            | cons d2 hall =>
              cases hall
              rename_i v1 v2
              refine ⟨.ref a, rfl, a, _, rfl, hq, rfl, v1, _, rfl, v2, _, rfl, rfl, ?_⟩
              refine ⟨v1, rfl, v1, dm, 1, 12, rfl, d1, _, rfl, ite2 (fun b1 => ?_) (fun b1 => ?_)⟩
              · obtain ⟨m, rfl, m1, m2⟩ := within_int b1
                obtain rfl := dp_int' d1
                refine ⟨v2, rfl, v2, .ty "tuple", _, _, _, rfl, .ty "tuple", dp_ty d2, kit_ty (tys_tuple (tyD_mem dr)), _, rfl, ?_⟩
                cases hb2 : (tyD dr == "tuple") with
                | false =>
                  refine iteT (qeq (q _ (K0.refl _)) ?_)
                  cases dr <;> first | rfl | (simp [tyD] at hb2)
                | true =>
                  refine iteF ?_
                  obtain ⟨rs, rfl⟩ : ∃ ds, dr = .tuple ds := by cases dr <;> first | exact ⟨_, rfl⟩ | (simp [tyD] at hb2)
                  obtain ⟨r, ys, rfl, hqr, hallr⟩ := dp_tup d2
                  have hm : isNetD (.tuple [.int m, .tuple rs]) = (rs.all (isRoadD m) && risesB (rs.map pairD)) := by
                    show ((decide (1 ≤ m) && decide (m ≤ 12)) && _) = _
                    rw [decide_eq_true m1, decide_eq_true m2, Bool.true_and, Bool.true_and]
                  rw [hm] at q
                  have hlen : ys.length = rs.length := dpAll_len hallr
                  -- all(is_road(many, road) for road in roads)
                  refine ⟨.ref r, rfl, r, rfl, ⟨_, hqr⟩, hPn, fun H2 hT2 => ?_⟩
                  have k2 : K0 H H2 := K0.tbd hPn hT2
                  refine ⟨fun i mm H3 => i + mm = ys.length ∧ K0 H H3 ∧ ∀ (j : Nat) (d : PyData), j < i → rs[j]? = some d → isRoadD m d = true, ⟨ys.length, by omega, k2, fun j _ hj => absurd hj (Nat.not_lt_zero _)⟩, fun i mm H3 hW => ?_⟩
                  obtain ⟨em, k3, hlt⟩ := hW
                  have hY : SqT K H3 r ys := k3.sqT hqr
                  by_cases hi : i < ys.length
                  · have g1 : ys[i]? = some ys[i] := List.getElem?_eq_getElem hi
                    obtain ⟨di, hdi, hDi⟩ := dpAll_get hallr g1
                    refine .inr ⟨⟨_, _, hY, g1⟩, fun H' => K0 H H' ∧ isRoadD m di = true, fun H' hN => ?_, fun x H' hy => ?_⟩
                    · obtain ⟨k', hb'⟩ := hN
                      refine ⟨mm - 1, by omega, by omega, k', fun j d hj hd => ?_⟩
                      by_cases e : j = i
                      · subst e
                        rw [hdi] at hd; cases hd; exact hb'
                      · exact hlt j d (by omega) hd
                    · obtain ⟨rfl, fx⟩ := hy
                      have ex : x = ys[i] := Option.some.inj ((fx _ hY).symm.trans g1)
                      subst ex
                      refine ⟨rfl, tyes ?_⟩
                      refine ⟨.int m, rfl, _, rfl, m, _, di, rfl, K0.dp k3 di _ hDi, _, rfl, ?_⟩
                      cases hb3 : isRoadD m di with
                      | true => exact iteT ⟨k3, rfl⟩
                      | false =>
                        refine iteF ⟨_, rfl, iteT (qeq (q _ k3) ?_)⟩
                        rw [all_no hdi hb3, Bool.false_and]
                  · refine .inl ⟨⟨_, hY, by omega⟩, _, rfl, iteF ?_⟩
                    have hallR : ∀ (j : Nat) (d : PyData), rs[j]? = some d → isRoadD m d = true := fun j d hd => hlt j d (by
                      have := (List.getElem?_eq_some_iff.mp hd).1
                      omega) hd
                    have hat : rs.all (isRoadD m) = true := all_yes hallR
                    rw [hat, Bool.true_and] at q
                    -- rises([road[:2] for road in roads])
                    refine ⟨.ref r, rfl, r, rfl, ⟨_, hY⟩, fun D nD => lc_tup (K := K) (a := r) (xs := ys) (fun i H4 => K0 H3 H4 ∧ ∃ zs, H4 D = some (.lst zs) ∧ TupsAt K H4 zs ((rs.take i).map pairD)) ⟨K0.new nD, [], upd_same, rfl, fun i x e => by simp at e⟩ (fun i H4 _ h => h.1.sqT hY) (fun i x H4 hx h => ?_) (fun H4 h => ?_)⟩
                    · obtain ⟨k4, zs, ez, hz⟩ := h
                      obtain ⟨di, hdi, hDi⟩ := dpAll_get hallr hx
                      obtain ⟨s1, e1, c1, l1, rfl, _⟩ := road_ints (hallR i di hdi)
                      obtain ⟨ar, rfl, hqa⟩ := dp_ints4 (K0.dp (k3.trans k4) _ _ hDi)
                      refine ⟨rfl, tyes ?_⟩
                      refine ⟨.ref ar, rfl, 2, rfl, ar, _, rfl, hqa, fun z => absurd z.2 (by show ¬ (HT.sIx 4 4 (some 2) = 4); decide), fun p np => ?_⟩
                      have kp : K0 H4 (upd H4 p (.tup (cutV [.int s1, .int e1, .int c1, .int l1] none (some 2)))) := K0.new np
                      have ez' := kp.oth D _ ez (fun _ z => by cases z)
                      have hl : zs.length ≤ rs.length := by
                        rw [hz.1, List.length_map, List.length_take]; omega
                      refine ⟨zs, ez', small1000 (Nat.le_trans hl (hsz _ _ rfl)), ?_⟩
                      refine ⟨(k4.trans kp).mut nD, zs ++ [.ref p], upd_same, ?_⟩
                      have : (rs.take (i + 1)).map pairD = (rs.take i).map pairD ++ [[s1, e1]] := by
                        rw [List.take_add_one, hdi, List.map_append]; rfl
                      rw [this]
                      refine TupsAt.snoc ((hz.k0 kp).kt (Kt.set ez')) ?_
                      exact (Kt.set ez').sqT (.inl (.inl upd_same))
                    · obtain ⟨k4, zs, ez, hz⟩ := h
                      rw [hlen, List.take_length] at hz
                      exact ⟨D, zs, _, rfl, .inl (.inl ez), hz, (k3.trans k4).tab _ hPr, fun H5 k5 => q _ ((k3.trans k4).trans k5)⟩
              · simp only [Bool.not_eq_true] at b1
                refine iteT (qeq (q _ (K0.refl _)) ?_)
                unfold isNetD
                split
                · rename_i heq
                  cases heq
                  show (withinD (.int _) 1 12 && _) = false
                  rw [b1, Bool.false_and]
                · rfl
        · rw [decide_eq_false (show ¬ (V.int (xs.length : Int)) = .int 2 from fun z => h4 (by have := V.int.inj z; omega))]
          refine iteT (qeq (q _ (K0.refl _)) ?_)
          have h4' : ds.length ≠ 2 := by rw [← dpAll_len hall]; exact h4
          unfold isNetD
          split
          · rename_i heq
            cases heq
            exact absurd rfl h4'
          · rfl
      · refine iteT (qeq (q _ (K0.refl _)) ?_)
        cases d <;> first | rfl | (exact absurd rfl e)
    · refine ⟨v, rfl, v, .ty "tuple", _, _, _, rfl, .ty "tuple", hty, kit_ty (tys_tuple hT), _, rfl, ?_⟩
      rw [hne]
      exact iteF (iteT (q _ (K0.refl _)))
end
end HK

set_option Elab.async false
set_option linter.all false
set_option maxRecDepth 100000
set_option maxHeartbeats 2000000
namespace HK
open PySem PySem.Spec PyProof.Rows L2 GAl GxR
open Evl (pss_cut)
theorem dpInts {K : PySem.W.Frag} {H : Hp} : ∀ ns : List Int, DpAll K H (ns.map V.int) (ns.map PyData.int)
  | [] => .nil
  | n :: ns => .cons (.int n) (dpInts ns)
/-- the script, at s: written, locked, or a list apart from the tape's at t -/
def Scr (K : PySem.W.Frag) (t : Addr) (H : Hp) (s : Addr) (ns : List Int) : Prop := (H s = some (.lst (ns.map V.int)) ∧ s ≠ t) ∨ (∃ o, H s = some (.frz o (.lst (ns.map V.int)))) ∨
  ∃ (o : Obj) (its : Array Value) (n : Nat), K.lookup s = some o ∧ o.cls = .type "list" ∧ o.dict = none ∧ o.data = .seq its n ∧ its.size ≤ sizeLine ∧ Vals (ns.map V.int) its.toList
theorem Scr.sq {K : PySem.W.Frag} {t : Addr} {H : Hp} {s : Addr} {ns : List Int} (h : Scr K t H s ns) : SqL K H s (ns.map V.int) := by
  rcases h with ⟨h, _⟩ | h | h
  · exact .inl (.inl h)
  · exact .inl (.inr h)
  · exact .inr h
theorem Scr.kt {K : PySem.W.Frag} {t : Addr} {H H' : Hp} {s : Addr} {ns : List Int} (h : Scr K t H s ns) (k : Kt t H H') : Scr K t H' s ns := by
  rcases h with ⟨h, n⟩ | ⟨o, h⟩ | h
  · exact .inl ⟨k.oth _ _ h n (fun _ z => by cases z), n⟩
  · exact .inr (.inl ⟨o, k.frz _ _ _ h⟩)
  · exact .inr (.inr h)
theorem Scr.of {K : PySem.W.Frag} {t : Addr} {H : Hp} {s : Addr} {ns : List Int} {o : HO} (h : SqL K H s (ns.map V.int)) (n : H t = none) : Scr K t (upd H t o) s ns := by
  rcases h with (h | ⟨o', h⟩) | h
  · have z := ne_of_none h n
    exact .inl ⟨by rw [upd_ne z]; exact h, z⟩
  · have z := ne_of_none h n
    exact .inr (.inl ⟨o', by rw [upd_ne z]; exact h⟩)
  · exact .inr (.inr h)
/-- the tape: the script, the next place, what is left of the number -/
def TapeV (H : Hp) (t s : Addr) : Prop := ∃ p v : Int, H t = some (.lst [.ref s, .int p, .int v]) ∧ 0 ≤ p ∧ 0 ≤ v
structure Tape (K : PySem.W.Frag) (H : Hp) (t s : Addr) (ns : List Int) : Prop where
  v : TapeV H t s
  scr : Scr K t H s ns
theorem canLay_ints : ∀ ns : List Int, SeqAt.shaped (.list (ns.map PyData.int)) = true := PySem.W.shaped_ints
theorem eqv_nil (ns : List Int) : PyData.eqv (.list (ns.map PyData.int)) (.list []) = ns.isEmpty := by
  cases ns <;> simp [PyData.eqv, PyData.eqvAll]
section
variable {P : Program} {w : World} {K : PySem.W.Frag} {mg : Str → Option Value} {base : Heap}
def spSpread : Sp := fun vs H Q _ => ∃ cell place : Int, vs = [.int cell, .int place] ∧ 0 ≤ place ∧ ∀ v : Int, 0 ≤ v → Q (.int v) H
theorem mulR {i j : Int} (h : -(2 ^ 64) < j) (h2 : j < 2 ^ 64) : CMul i j := .inr ⟨h, h2⟩
theorem mulL {i j : Int} (h : -(2 ^ 64) < i) (h2 : i < 2 ^ 64) : CMul i j := .inl ⟨h, h2⟩
def spDigit (K : PySem.W.Frag) : Sp := fun vs H Q _ => ∃ (t sc : Addr) (many : Int) (ns : List Int), vs = [.ref t, .int many] ∧ Tape K H t sc ns ∧ 0 < many ∧ many ≤ 100000000000000000000 ∧
  ∀ (d : Int) (H' : Hp), 0 ≤ d → d < many → Kt t H H' → Tape K H' t sc ns → Q (.int d) H'
end
end HK

set_option Elab.async false
set_option linter.all false
set_option maxRecDepth 100000
set_option maxHeartbeats 2000000
namespace HK
open PySem PySem.Spec PyProof.Rows L2 GAl GxR
section
variable {X : Cx}
/-- tuple(xs) of a list: the new object is known -/
theorem call_tuple_fz : CallR X (.type "tuple") (fun xs H Q => ∃ p ys, xs = [.ref p] ∧ SqL X.K H p ys ∧ ∀ l o, H l = none → o.cls = .type "tuple" → o.dict = none → Q (.ref l) (upd H l (.frz o (.tup ys)))) := by
  intro pins s σ H xs us Q I r h
  obtain ⟨p, ys, rfl, hq, q⟩ := h
  obtain ⟨u, rfl, rx⟩ := vals1 r
  cases rx
  obtain ⟨its, r', pl, hz⟩ := I.list hq
  have hlen := r'.length
  refine call_tuple_list pl.isList (fun h' kp => ?_) (by simp only [List.size_toArray] <;> omega)
  have I1 : Inv X pins σ H { s with heap := h' } := I.kept (t' := s.toks) kp
  have hget : (h'.push { cls := .type "tuple", data := .seq its.toArray }).get? h'.objs.size = some { cls := .type "tuple", data := .seq its.toArray } := Heap.get?_push_size _ rfl
  have I2 : Inv X pins σ (upd H h'.objs.size (.frz { cls := .type "tuple", data := .seq its.toArray } (.tup ys))) { s with heap := h'.push { cls := .type "tuple", data := .seq its.toArray } } :=
    I1.laid (t' := s.toks) (fun b o e => Heap.get?_push_of_some _ e) (Nat.le_refl _) (show ObjOk X.prog X.w _ _ _ (.frz _ (.tup ys)) from ⟨hget, hz, its, r', IsTup.new _ _⟩)
  exact ⟨.ref h'.objs.size, _, I2, rfl, q _ _ (I1.hok.fresh (Nat.le_refl _)) rfl rfl⟩
/-- a method of a built-in type, of an object that is known -/
def tBMF (T : String) (r : V → List V → Hp → VK → Prop) (to : TE) (t : TA) : TE := fun σ H Q => to σ H fun x H1 => (∃ a ob u, x = .ref a ∧ H1 a = some (.frz ob u) ∧ ob.cls = .type T ∧ ob.dict = none) ∧ t σ H1 fun xs H2 => r x xs H2 Q
theorem pe_bmF {o e : Expr} {es : List Expr} {to : TE} {t : TA} {name : Str} {apos cpos : Pos} {T id : String} {r : V → List V → Hp → VK → Prop}
    (pa : PlainAttrs T) (slot : Slot T name id) (hty : typeOf (.builtin id) = pure (.type "method_descriptor")) (hm : MtR X id r) (ho : PE X o to) (ha : PA X (e :: es) t)
    (hbase : attributeBase o name X.env (eval o X.env) = eval o X.env := by rfl)
    (hfew : ((backTo cpos (starEach (e :: es) X.env)).all (fun x => !x.1) && (backToKw cpos (keywordEach [] X.env)).all (fun x => x.1.isSome)
      && decide ((e :: es).length + ([] : List Keyword).length + (if ([] : List Keyword).isEmpty then 0 else 1) < 30)) = true := by rfl)
    (hline : (apos.endLine == cpos.line) = true := by rfl) (hs : starEach (e :: es) X.env = (false, eval e X.env) :: starEach es X.env := by rfl) (hplain : (backTo cpos (starEach es X.env)).any (·.1) = false := by rfl) :
    PE X (.Call (.Attribute o name apos) (e :: es) [] cpos) (tBMF T r to t) := by
  refine ⟨fun pins s σ H Q I h => ?_⟩
  refine wpAny_Call_method_late hbase hfew hline rfl (thn (ho.run pins s σ H _ I h) fun v s1 ⟨x, H1, I1, r1, ⟨a, ob, u, ex, hob, hc, hd⟩, q1⟩ => ?_)
  subst ex
  have hget := (show ObjOk X.prog X.w H1 s1.heap a (.frz ob u) from I1.hok a _ hob).1
  have ev : v = .ref a := r1
  refine ⟨T, id, pa, slot, hty, by rw [ev]; exact ⟨ob, hget, hc⟩, fun b e2 => ?_, ?_⟩
  · rw [ev] at e2
    cases e2
    exact ⟨ob, hget, hd⟩
  have hA := ha.run cpos pins s1 σ H1 _ I1 q1
  rw [hs] at hA ⊢
  refine Calls.callWith_builtin (by show (false || (backTo cpos (starEach es X.env)).any (·.1)) = false; rw [hplain] <;> rfl) (Calls.evalArgs_plain ?_)
  exact thn hA fun us s2 ⟨vs, H2, I2, r2, q2⟩ => hm pins s2 σ H2 (.ref a) vs v us Q I2 r1 r2 q2
end
end HK

set_option Elab.async false
set_option linter.all false
set_option maxRecDepth 100000
set_option maxHeartbeats 2000000
namespace HK
open PySem PySem.Spec PyProof.Rows L2 GAl GxR
open Evl (pss_cut)
structure R4 where
  s : Int
  e : Int
  c : Int
  l : Int
def R4.vs (r : R4) : List V := [.int r.s, .int r.e, .int r.c, .int r.l]
def R4.d (r : R4) : PyData := .tuple [.int r.s, .int r.e, .int r.c, .int r.l]
structure RoadOk (n : Int) (r : R4) : Prop where
  s0 : 0 ≤ r.s
  s1 : r.s < n
  e0 : 0 ≤ r.e
  e1 : r.e < n
  ne : r.s ≠ r.e
  c0 : 0 ≤ r.c
  c1 : r.c ≤ 1000
  l0 : 1 ≤ r.l
  l1 : r.l ≤ 1000
def R4.lt (a b : R4) : Prop := a.s < b.s ∨ (a.s = b.s ∧ a.e < b.e)
structure Good (n : Int) (rs : List R4) : Prop where
  n1 : 1 ≤ n
  n2 : n ≤ 12
  ok : ∀ r ∈ rs, RoadOk n r
  up : rs.Pairwise R4.lt
/-- the roads' tuples -/
def Roads (K : PySem.W.Frag) (H : Hp) (xs : List V) (rs : List R4) : Prop := DpAll K H xs (rs.map R4.d)
theorem dp_r4 {K : PySem.W.Frag} {H : Hp} {x : V} {r : R4} (h : Dp K H x r.d) : ∃ a, x = .ref a ∧ SqT K H a r.vs := dp_ints4 h
theorem r4_dp {K : PySem.W.Frag} {H : Hp} {a : Addr} {r : R4} (h : SqT K H a r.vs) : Dp K H (.ref a) r.d := .tup h (.cons (.int _) (.cons (.int _) (.cons (.int _) (.cons (.int _) .nil))))
theorem Kt.roads {K : PySem.W.Frag} {t : Addr} {H H' : Hp} (k : Kt t H H') : ∀ {xs : List V} {rs : List R4}, Roads K H xs rs → Roads K H' xs rs
  | _, [], .nil => .nil
  | _, r :: rs, .cons a b => .cons (by
      obtain ⟨p, rfl, h⟩ := dp_r4 (r := r) a
      exact r4_dp (r := r) (k.sqT h)) (Kt.roads k (rs := rs) b)
theorem dpAll_snoc {K : PySem.W.Frag} {H : Hp} : ∀ {xs : List V} {ds : List PyData} {x : V} {d : PyData}, DpAll K H xs ds → Dp K H x d → DpAll K H (xs ++ [x]) (ds ++ [d])
  | _, _, _, _, .nil, h => .cons h .nil
  | _, _, _, _, .cons a b, h => .cons a (dpAll_snoc b h)
theorem Roads.snoc {K : PySem.W.Frag} {H : Hp} {xs : List V} {rs : List R4} {a : Addr} {r : R4} (h : Roads K H xs rs) (s : SqT K H a r.vs) : Roads K H (xs ++ [.ref a]) (rs ++ [r]) := by
  unfold Roads
  rw [List.map_append]
  exact dpAll_snoc h (r4_dp s)
theorem Roads.len {K : PySem.W.Frag} {H : Hp} {xs : List V} {rs : List R4} (h : Roads K H xs rs) : xs.length = rs.length := by
  have := dpAll_len h
  rw [List.length_map] at this
  exact this
theorem Kt.mut {t : Addr} {H H' : Hp} {p : Addr} {o : HO} (k : Kt t H H') (n : H p = none) : Kt t H (upd H' p o) := ⟨fun b u e => by
  rw [upd_ne (ne_of_none e n)]; exact k.tup b u e, fun b o u e => by
  rw [upd_ne (ne_of_none e n)]; exact k.frz b o u e, fun b u e m m' => by
  rw [upd_ne (ne_of_none e n)]; exact k.oth b u e m m', fun P h => by
  obtain ⟨ps, e, ht⟩ := h
  obtain ⟨ps', e', ht'⟩ := k.tab P ⟨ps, e, ht⟩
  exact ⟨ps', by rw [upd_ne (ne_of_none e n)]; exact e', ht'⟩, fun b e => k.dom b (upd_none e)⟩
theorem Tape.k0 {K : PySem.W.Frag} {H H' : Hp} {t s : Addr} {ns : List Int} (h : Tape K H t s ns) (k : K0 H H') : Tape K H' t s ns := by
  obtain ⟨⟨p, v, e, r⟩, q⟩ := h
  exact ⟨⟨p, v, k.oth t _ e (fun _ z => by cases z), r⟩, q.kt k.kt⟩
theorem Tape.ne {K : PySem.W.Frag} {H : Hp} {t s b : Addr} {ns : List Int} (h : Tape K H t s ns) (n : H b = none) : b ≠ t := fun z => by
  obtain ⟨_, _, e, _⟩ := h.v
  rw [z, e] at n; cases n
/-- a list of the law's own, at b, is written -/
theorem Tape.mut {K : PySem.W.Frag} {H H' : Hp} {t s b : Addr} {ns : List Int} {o : HO} (h : Tape K H' t s ns) (h0 : Scr K t H s ns) (k : Kt t H H') (n : H b = none) (nb : b ≠ t) : Tape K (upd H' b o) t s ns := by
  obtain ⟨⟨p, v, e, r⟩, q⟩ := h
  exact ⟨⟨p, v, by rw [upd_ne nb.symm]; exact e, r⟩, h0.kt (k.mut n)⟩
theorem pick8 {x d : Int} (h0 : 0 ≤ d) (h1 : d < 8) (hx : 0 ≤ x ∧ x ≤ 1000) : ∃ y : Int, atI [V.int 0, .int 1, .int 1, .int 2, .int 3, .int 7, .int 1000, .int x] d = some (.int y) ∧ 0 ≤ y ∧ y ≤ 1000 := by
  obtain ⟨k, rfl⟩ := Int.eq_ofNat_of_zero_le h0
  match k, h1 with
  | 0, _ => exact ⟨0, atI_nat rfl, by omega, by omega⟩
  | 1, _ => exact ⟨1, atI_nat rfl, by omega, by omega⟩
  | 2, _ => exact ⟨1, atI_nat rfl, by omega, by omega⟩
  | 3, _ => exact ⟨2, atI_nat rfl, by omega, by omega⟩
  | 4, _ => exact ⟨3, atI_nat rfl, by omega, by omega⟩
  | 5, _ => exact ⟨7, atI_nat rfl, by omega, by omega⟩
  | 6, _ => exact ⟨1000, atI_nat rfl, by omega, by omega⟩
  | 7, _ => exact ⟨x, atI_nat rfl, hx⟩
  | k + 8, h => exact absurd h (by omega)
theorem pick7 {x d : Int} (h0 : 0 ≤ d) (h1 : d < 7) (hx : 1 ≤ x ∧ x ≤ 1000) : ∃ y : Int, atI [V.int 1, .int 1, .int 2, .int 3, .int 5, .int 1000, .int x] d = some (.int y) ∧ 1 ≤ y ∧ y ≤ 1000 := by
  obtain ⟨k, rfl⟩ := Int.eq_ofNat_of_zero_le h0
  match k, h1 with
  | 0, _ => exact ⟨1, atI_nat rfl, by omega, by omega⟩
  | 1, _ => exact ⟨1, atI_nat rfl, by omega, by omega⟩
  | 2, _ => exact ⟨2, atI_nat rfl, by omega, by omega⟩
  | 3, _ => exact ⟨3, atI_nat rfl, by omega, by omega⟩
  | 4, _ => exact ⟨5, atI_nat rfl, by omega, by omega⟩
  | 5, _ => exact ⟨1000, atI_nat rfl, by omega, by omega⟩
  | 6, _ => exact ⟨x, atI_nat rfl, hx⟩
  | k + 7, h => exact absurd h (by omega)

section
variable {P : Program} {w : World} {K : PySem.W.Frag} {mg : Str → Option Value} {base : Heap}
/-- what the law's net is -/
def NetAt (K : PySem.W.Frag) (H : Hp) (a : Addr) (n : Int) (rs : List R4) : Prop := ∃ (r : Addr) (xs : List V) (_ : Unit), SqT K H a [.int n, .ref r] ∧ SqT K H r xs ∧ True ∧ True ∧ Roads K H xs rs
theorem NetAt.kt {t : Addr} {H H' : Hp} {a : Addr} {n : Int} {rs : List R4} (h : NetAt K H a n rs) (k : Kt t H H') : NetAt K H' a n rs := by
  obtain ⟨r, xs, o, h1, h2, hc, hd, h3⟩ := h
  exact ⟨r, xs, o, k.sqT h1, k.sqT h2, hc, hd, k.roads h3⟩
def spNet (K : PySem.W.Frag) : Sp := fun vs H Q _ => ∃ (t sc : Addr) (most : Int) (ns : List Int), vs = [.ref t, .int most] ∧ Tape K H t sc ns ∧ 1 ≤ most ∧ most ≤ 12 ∧
  ∀ (a : Addr) (n : Int) (rs : List R4) (H' : Hp), Kt t H H' → Tape K H' t sc ns → NetAt K H' a n rs → n ≤ most → Good n rs → rs.length ≤ 156 → Q (.ref a) H'
/-- between the turns -/
structure NI (K : PySem.W.Frag) (H : Hp) (t sc ra : Addr) (ns : List Int) (n : Int) (i j : Nat) (H3 : Hp) : Prop where
  kt : Kt t H H3
  tp : Tape K H3 t sc ns
  ex : ∃ xs rs, H3 ra = some (.lst xs) ∧ Roads K H3 xs rs ∧ Good n rs ∧ (∀ r ∈ rs, r.s < i ∨ (r.s = i ∧ r.e < j)) ∧ rs.length ≤ 12 * i + j
end
end HK

set_option Elab.async false
set_option linter.all false
set_option maxRecDepth 100000
set_option maxHeartbeats 2000000
namespace HK
open PySem PySem.Spec PyProof.Rows L2 GAl GxR
mutual
/-- data whose lists are tracked, apart from the tape -/
inductive Dq (K : PySem.W.Frag) (T : Addr → Prop) (H : Hp) : V → PyData → Prop
  | non : Dq K T H .non .none
  | bl (b : Bool) : Dq K T H (.bl b) (.bool b)
  | int (i : Int) : Dq K T H (.int i) (.int i)
  | str (x : Str) : Dq K T H (.str x) (.str x)
  | lst {a : Addr} {xs : List V} {ds : List PyData} : H a = some (.lst xs) → ¬ T a → DqAll K T H xs ds → Dq K T H (.ref a) (.list ds)
  | tup {a : Addr} {xs : List V} {ds : List PyData} : SqT K H a xs → DqAll K T H xs ds → Dq K T H (.ref a) (.tuple ds)
inductive DqAll (K : PySem.W.Frag) (T : Addr → Prop) (H : Hp) : List V → List PyData → Prop
  | nil : DqAll K T H [] []
  | cons {v : V} {vs : List V} {d : PyData} {ds : List PyData} : Dq K T H v d → DqAll K T H vs ds → DqAll K T H (v :: vs) (d :: ds)
end
mutual
theorem Dq.dp {K : PySem.W.Frag} {T : Addr → Prop} {H : Hp} : ∀ (d : PyData) (v : V), Dq K T H v d → Dp K H v d
  | .none, _, h => by cases h; exact .non
  | .bool _, _, h => by cases h; exact .bl _
  | .int _, _, h => by cases h; exact .int _
  | .str _, _, h => by cases h; exact .str _
  | .list ds, _, h => by cases h with | lst a _ b => exact .lst (.inl (.inl a)) (DqAll.dp ds _ b)
  | .tuple ds, _, h => by cases h with | tup a b => exact .tup a (DqAll.dp ds _ b)
  | .dict _, _, h => by cases h
theorem DqAll.dp {K : PySem.W.Frag} {T : Addr → Prop} {H : Hp} : ∀ (ds : List PyData) (vs : List V), DqAll K T H vs ds → DpAll K H vs ds
  | [], _, h => by cases h; exact .nil
  | d :: ds, _, h => by cases h with | cons a b => exact .cons (Dq.dp d _ a) (DqAll.dp ds _ b)
end
mutual
theorem Dq.kt {K : PySem.W.Frag} {T : Addr → Prop} {t : Addr} {H H' : Hp} (hT : T t) (k : Kt t H H') : ∀ (d : PyData) (v : V), Dq K T H v d → Dq K T H' v d
  | .none, _, h => by cases h; exact .non
  | .bool _, _, h => by cases h; exact .bl _
  | .int _, _, h => by cases h; exact .int _
  | .str _, _, h => by cases h; exact .str _
  | .list ds, _, h => by cases h with | lst a n b => exact .lst (k.oth _ _ a (fun z => n (z ▸ hT)) (fun _ z => by cases z)) n (DqAll.kt hT k ds _ b)
  | .tuple ds, _, h => by cases h with | tup a b => exact .tup (k.sqT a) (DqAll.kt hT k ds _ b)
  | .dict _, _, h => by cases h
theorem DqAll.kt {K : PySem.W.Frag} {T : Addr → Prop} {t : Addr} {H H' : Hp} (hT : T t) (k : Kt t H H') : ∀ (ds : List PyData) (vs : List V), DqAll K T H vs ds → DqAll K T H' vs ds
  | [], _, h => by cases h; exact .nil
  | d :: ds, _, h => by cases h with | cons a b => exact .cons (Dq.kt hT k d _ a) (DqAll.kt hT k ds _ b)
end
theorem DqAll.len {K : PySem.W.Frag} {T : Addr → Prop} {H : Hp} : ∀ {vs : List V} {ds : List PyData}, DqAll K T H vs ds → vs.length = ds.length
  | _, _, .nil => rfl
  | _, _, .cons _ b => by rw [List.length_cons, List.length_cons, b.len]
theorem DqAll.app {K : PySem.W.Frag} {T : Addr → Prop} {H : Hp} : ∀ {vs ws : List V} {ds es : List PyData}, DqAll K T H vs ds → DqAll K T H ws es → DqAll K T H (vs ++ ws) (ds ++ es)
  | _, _, _, _, .nil, h => h
  | _, _, _, _, .cons a b, h => .cons a (b.app h)
theorem DqAll.take {K : PySem.W.Frag} {T : Addr → Prop} {H : Hp} : ∀ {vs : List V} {ds : List PyData} (k : Nat), DqAll K T H vs ds → DqAll K T H (vs.take k) (ds.take k)
  | _, _, 0, _ => .nil
  | _, _, _ + 1, .nil => .nil
  | _, _, k + 1, .cons a b => .cons a (b.take k)
theorem DqAll.drop {K : PySem.W.Frag} {T : Addr → Prop} {H : Hp} : ∀ {vs : List V} {ds : List PyData} (k : Nat), DqAll K T H vs ds → DqAll K T H (vs.drop k) (ds.drop k)
  | _, _, 0, h => h
  | _, _, _ + 1, .nil => .nil
  | _, _, k + 1, .cons _ b => b.drop k
theorem DqAll.get {K : PySem.W.Frag} {T : Addr → Prop} {H : Hp} : ∀ {vs : List V} {ds : List PyData} {i : Nat} {x : V}, DqAll K T H vs ds → vs[i]? = some x → ∃ d, ds[i]? = some d ∧ Dq K T H x d
  | _, _, _, _, .nil, e => by simp at e
  | _, _, 0, _, .cons h _, e => by simp at e; subst e; exact ⟨_, rfl, h⟩
  | _, _, i + 1, x, .cons _ b, e => by
    obtain ⟨d, h1, h2⟩ := DqAll.get (i := i) (x := x) b (by simpa using e)
    exact ⟨d, by simpa using h1, h2⟩
theorem DqAll.rev {K : PySem.W.Frag} {T : Addr → Prop} {H : Hp} : ∀ {vs : List V} {ds : List PyData}, DqAll K T H vs ds → DqAll K T H vs.reverse ds.reverse
  | _, _, .nil => .nil
  | _, _, .cons a b => by
    rw [List.reverse_cons, List.reverse_cons]
    exact b.rev.app (.cons a .nil)
theorem roads_dq {K : PySem.W.Frag} {T : Addr → Prop} {H : Hp} : ∀ {xs : List V} {rs : List R4}, Roads K H xs rs → DqAll K T H xs (rs.map R4.d)
  | _, [], .nil => .nil
  | _, r :: rs, .cons a b => .cons (by
      obtain ⟨p, rfl, h⟩ := dp_r4 (r := r) a
      exact .tup h (.cons (.int _) (.cons (.int _) (.cons (.int _) (.cons (.int _) .nil))))) (roads_dq (rs := rs) b)

/-- what stays, the tape a tape -/
structure Kp (K : PySem.W.Frag) (t sc : Addr) (ns : List Int) (H H' : Hp) : Prop where
  kt : Kt t H H'
  tp : Tape K H t sc ns → Tape K H' t sc ns
theorem Kp.refl {K : PySem.W.Frag} {t sc : Addr} {ns : List Int} (H : Hp) : Kp K t sc ns H H := ⟨Kt.refl _ _, fun h => h⟩
theorem Kp.trans {K : PySem.W.Frag} {t sc : Addr} {ns : List Int} {H H1 H2 : Hp} (a : Kp K t sc ns H H1) (b : Kp K t sc ns H1 H2) : Kp K t sc ns H H2 := ⟨a.kt.trans b.kt, fun h => b.tp (a.tp h)⟩
theorem K0.kp {K : PySem.W.Frag} {t sc : Addr} {ns : List Int} {H H' : Hp} (k : K0 H H') : Kp K t sc ns H H' := ⟨k.kt, fun h => h.k0 k⟩

section
variable {K : PySem.W.Frag} {T : Addr → Prop} {t sc : Addr} {ns : List Int} {H0 : Hp} {σ : L2.St}
/-- an expression makes data of which P holds -/
def Mk (K : PySem.W.Frag) (T : Addr → Prop) (t sc : Addr) (ns : List Int) (H0 : Hp) (σ : L2.St) (te : TE) (P : PyData → Prop) : Prop := T t → (∀ b, T b → H0 b ≠ none) → ∀ H, Kp K t sc ns H0 H → ∀ Q : VK, (∀ v H' d, Kp K t sc ns H H' → P d → Dq K T H' v d → Q v H') → te σ H Q
def MkL (K : PySem.W.Frag) (T : Addr → Prop) (t sc : Addr) (ns : List Int) (H0 : Hp) (σ : L2.St) (ta : TA) (P : List PyData → Prop) : Prop := T t → (∀ b, T b → H0 b ≠ none) → ∀ H, Kp K t sc ns H0 H → ∀ Q : List V → Hp → Prop, (∀ vs H' ds, Kp K t sc ns H H' → P ds → DqAll K T H' vs ds → Q vs H') → ta σ H Q
def MkI (K : PySem.W.Frag) (T : Addr → Prop) (t sc : Addr) (ns : List Int) (H0 : Hp) (σ : L2.St) (te : TE) (i : Int) : Prop := Mk K T t sc ns H0 σ te (· = .int i)
theorem Mk.imp {te : TE} {P P' : PyData → Prop} (h : Mk K T t sc ns H0 σ te P) (i : ∀ d, P d → P' d) : Mk K T t sc ns H0 σ te P' := fun hTt hdm H k Q q => h hTt hdm H k Q fun v H' d k' p dq => q v H' d k' (i d p) dq
theorem mk_int {i : Int} : Mk K T t sc ns H0 σ (tC (.int i)) (· = .int i) := fun _ _ H _ _ q => q _ H _ (Kp.refl H) rfl (.int i)
theorem mk_bl {b : Bool} : Mk K T t sc ns H0 σ (tC (.bl b)) (· = .bool b) := fun _ _ H _ _ q => q _ H _ (Kp.refl H) rfl (.bl b)
theorem mk_non : Mk K T t sc ns H0 σ (tC .non) (· = .none) := fun _ _ H _ _ q => q _ H _ (Kp.refl H) rfl .non
theorem mk_str {x : Str} : Mk K T t sc ns H0 σ (tC (.str x)) (· = .str x) := fun _ _ H _ _ q => q _ H _ (Kp.refl H) rfl (.str x)
theorem mk_var {i : Nat} {v : V} {d : PyData} (e : σ[i]? = some (some v)) (h : Dq K T H0 v d) : Mk K T t sc ns H0 σ (tVar i) (· = d) := fun hTt hdm H k _ q => ⟨v, e, q v H d (Kp.refl H) rfl (Dq.kt hTt k.kt d v h)⟩
theorem mk_add {ta tb : TE} {i j : Int} (ha : Mk K T t sc ns H0 σ ta (· = .int i)) (hb : Mk K T t sc ns H0 σ tb (· = .int j)) : Mk K T t sc ns H0 σ (tOp (rI0 fun i j => .int (i + j)) ta tb) (· = .int (i + j)) := fun hTt hdm H k Q q => ha hTt hdm H k _ fun v H1 d k1 e dq => by
  subst e; cases dq
  exact hb hTt hdm H1 (k.trans k1) _ fun v H2 d k2 e dq => by
    subst e; cases dq
    exact ⟨i, j, rfl, rfl, q _ H2 _ (k1.trans k2) rfl (.int _)⟩
theorem mk_sub {ta tb : TE} {i j : Int} (ha : Mk K T t sc ns H0 σ ta (· = .int i)) (hb : Mk K T t sc ns H0 σ tb (· = .int j)) : Mk K T t sc ns H0 σ (tOp (rI0 fun i j => .int (i - j)) ta tb) (· = .int (i - j)) := fun hTt hdm H k Q q => ha hTt hdm H k _ fun v H1 d k1 e dq => by
  subst e; cases dq
  exact hb hTt hdm H1 (k.trans k1) _ fun v H2 d k2 e dq => by
    subst e; cases dq
    exact ⟨i, j, rfl, rfl, q _ H2 _ (k1.trans k2) rfl (.int _)⟩
theorem mk_neg {ta : TE} {i : Int} (ha : Mk K T t sc ns H0 σ ta (· = .int i)) : Mk K T t sc ns H0 σ (tUn (rU fun i => .int (-i)) ta) (· = .int (-i)) := fun hTt hdm H k Q q => ha hTt hdm H k _ fun v H1 d k1 e dq => by
  subst e; cases dq
  exact ⟨i, rfl, q _ H1 _ k1 rfl (.int _)⟩
theorem mkl_nil : MkL K T t sc ns H0 σ tNil (· = []) := fun _ _ H _ _ q => q [] H [] (Kp.refl H) rfl .nil
theorem mkl_cons {te : TE} {ta : TA} {d : PyData} {ds : List PyData} (h : Mk K T t sc ns H0 σ te (· = d)) (hr : MkL K T t sc ns H0 σ ta (· = ds)) : MkL K T t sc ns H0 σ (tCons te ta) (· = d :: ds) := fun hTt hdm H k Q q => h hTt hdm H k _ fun v H1 d1 k1 e dq => hr hTt hdm H1 (k.trans k1) _ fun vs H2 es k2 e2 dqs => by
  subst e e2
  exact q _ H2 _ (k1.trans k2) rfl (.cons (Dq.kt hTt k2.kt _ _ dq) dqs)
theorem mkl_consP {te : TE} {ta : TA} {P : PyData → Prop} {ds : List PyData} (h : Mk K T t sc ns H0 σ te P) (hr : MkL K T t sc ns H0 σ ta (· = ds)) : MkL K T t sc ns H0 σ (tCons te ta) (fun l => ∃ d, P d ∧ l = d :: ds) := fun hTt hdm H k Q q => h hTt hdm H k _ fun v H1 d1 k1 e dq => hr hTt hdm H1 (k.trans k1) _ fun vs H2 es k2 e2 dqs => by
  subst e2
  exact q _ H2 _ (k1.trans k2) ⟨d1, e, rfl⟩ (.cons (Dq.kt hTt k2.kt _ _ dq) dqs)
theorem mk_tup {ta : TA} {P : List PyData → Prop} (h : MkL K T t sc ns H0 σ ta P) (hl : ∀ ds, P ds → ds.length ≤ 1000) : Mk K T t sc ns H0 σ (tTup ta) (fun d => ∃ ds, P ds ∧ d = .tuple ds) := fun hTt hdm H k Q q => h hTt hdm H k _ fun vs H1 ds k1 p dqs => by
  refine ⟨by rw [dqs.len]; exact Nat.le_of_lt (small1000 (hl ds p)), fun a na => ?_⟩
  have kn : K0 H1 (upd H1 a (.tup vs)) := K0.new na
  exact q _ _ _ (k1.trans kn.kp) ⟨ds, p, rfl⟩ (.tup (.inl (.inl upd_same)) (DqAll.kt hTt kn.kt _ _ dqs))
theorem mk_tupE {ta : TA} {ds : List PyData} (h : MkL K T t sc ns H0 σ ta (· = ds)) (hl : ds.length ≤ 1000 := by decide) : Mk K T t sc ns H0 σ (tTup ta) (· = .tuple ds) := (mk_tup h fun es e => by rw [e]; exact hl).imp fun d ⟨es, e, e2⟩ => by rw [e2, e]
theorem mk_lst {ta : TA} {P : List PyData → Prop} (h : MkL K T t sc ns H0 σ ta P) (hl : ∀ ds, P ds → ds.length ≤ 1000) : Mk K T t sc ns H0 σ (tLst ta) (fun d => ∃ ds, P ds ∧ d = .list ds) := fun hTt hdm H k Q q => h hTt hdm H k _ fun vs H1 ds k1 p dqs => by
  refine ⟨by rw [dqs.len]; exact Nat.le_of_lt (small1000 (hl ds p)), fun a na => ?_⟩
  have kn : K0 H1 (upd H1 a (.lst vs)) := K0.new na
  exact q _ _ _ (k1.trans kn.kp) ⟨ds, p, rfl⟩ (.lst upd_same (fun z => hdm _ z ((k.trans k1).kt.dom _ na)) (DqAll.kt hTt kn.kt _ _ dqs))
theorem mk_lstE {ta : TA} {ds : List PyData} (h : MkL K T t sc ns H0 σ ta (· = ds)) (hl : ds.length ≤ 1000 := by decide) : Mk K T t sc ns H0 σ (tLst ta) (· = .list ds) := (mk_lst h fun es e => by rw [e]; exact hl).imp fun d ⟨es, e, e2⟩ => by rw [e2, e]
/-- xs + ys, two lists -/
theorem mk_catL {ta tb : TE} {ds es : List PyData} (ha : Mk K T t sc ns H0 σ ta (· = .list ds)) (hb : Mk K T t sc ns H0 σ tb (· = .list es)) (hl : ds.length + es.length ≤ 1000 := by decide) : Mk K T t sc ns H0 σ (tOp rCat ta tb) (· = .list (ds ++ es)) := fun hTt hdm H k Q q => ha hTt hdm H k _ fun v H1 d k1 e dq => by
  subst e
  exact hb hTt hdm H1 (k.trans k1) _ fun v2 H2 d k2 e dq2 => by
    subst e
    have dq' := Dq.kt hTt k2.kt _ _ dq
    cases dq' with
    | @lst a xs _ h1 n1 a1 => cases dq2 with
      | @lst b ys _ h2 n2 a2 =>
        refine ⟨_, _, _, _, rfl, rfl, h1, h2, ?_, fun p np => ?_⟩
        · rw [a1.len, a2.len]; exact Nat.le_of_lt (small1000 hl)
        · have kn : K0 H2 (upd H2 p (.lst (xs ++ ys))) := K0.new np
          exact q _ _ _ ((k1.trans k2).trans kn.kp) rfl (.lst upd_same (fun z => hdm _ z (((k.trans k1).trans k2).kt.dom _ np)) (DqAll.kt hTt kn.kt _ _ (a1.app a2)))
/-- t + u, two tuples -/
theorem mk_catT {ta tb : TE} {P1 P2 : List PyData → Prop} (ha : Mk K T t sc ns H0 σ ta (fun d => ∃ ds, P1 ds ∧ d = .tuple ds)) (hb : Mk K T t sc ns H0 σ tb (fun d => ∃ ds, P2 ds ∧ d = .tuple ds)) (hl : ∀ ds es, P1 ds → P2 es → ds.length + es.length ≤ 1000) :
    Mk K T t sc ns H0 σ (tOp (rCatA K) ta tb) (fun d => ∃ ds, (∃ d1 d2, P1 d1 ∧ P2 d2 ∧ ds = d1 ++ d2) ∧ d = .tuple ds) := fun hTt hdm H k Q q => ha hTt hdm H k _ fun v H1 d k1 e dq => by
  obtain ⟨ds, p1, rfl⟩ := e
  exact hb hTt hdm H1 (k.trans k1) _ fun v2 H2 d k2 e dq2 => by
    obtain ⟨es, p2, rfl⟩ := e
    have dq' := Dq.kt hTt k2.kt _ _ dq
    cases dq' with
    | @tup a xs _ h1 a1 => cases dq2 with
      | @tup b ys _ h2 a2 =>
        refine ⟨_, _, _, _, rfl, rfl, h1, h2, ?_, fun e => ?_, fun e1 e2 => ?_, fun _ _ p np => ?_⟩
        · rw [a1.len, a2.len]; exact Nat.le_of_lt (small1000 (hl _ _ p1 p2))
        · subst e
          cases a1
          exact q _ _ _ (k1.trans k2) ⟨es, ⟨[], es, p1, p2, rfl⟩, rfl⟩ (.tup h2 a2)
        · subst e2
          cases a2
          exact q _ _ _ (k1.trans k2) ⟨ds, ⟨ds, [], p1, p2, by simp⟩, rfl⟩ (.tup h1 a1)
        · have kn : K0 H2 (upd H2 p (.tup (xs ++ ys))) := K0.new np
          exact q _ _ _ ((k1.trans k2).trans kn.kp) ⟨_, ⟨ds, es, p1, p2, rfl⟩, rfl⟩ (.tup (.inl (.inl upd_same)) (DqAll.kt hTt kn.kt _ _ (a1.app a2)))
def cutD (ds : List PyData) (lo hi : Option Int) : List PyData := (ds.drop (HT.sIx ds.length 0 lo)).take (HT.sIx ds.length ds.length hi - HT.sIx ds.length 0 lo)
def MkO (K : PySem.W.Frag) (T : Addr → Prop) (t sc : Addr) (ns : List Int) (H0 : Hp) (σ : L2.St) (to : TO) (o : Option Int) : Prop := T t → (∀ b, T b → H0 b ≠ none) → ∀ H, Kp K t sc ns H0 H → ∀ Q : Option Int → Hp → Prop, (∀ H', Kp K t sc ns H H' → Q o H') → to σ H Q
theorem mko_none : MkO K T t sc ns H0 σ tNoPart none := fun _ _ H _ _ q => q H (Kp.refl H)
theorem mko_some {te : TE} {i : Int} (h : Mk K T t sc ns H0 σ te (· = .int i)) : MkO K T t sc ns H0 σ (tPart te) (some i) := fun hTt hdm H k _ q => h hTt hdm H k _ fun v H1 d k1 e dq => by
  subst e; cases dq
  exact ⟨i, rfl, q H1 k1⟩
theorem mk_sl {te : TE} {tl th : TO} {lo hi : Option Int} {ds : List PyData} (h : Mk K T t sc ns H0 σ te (· = .tuple ds)) (h1 : MkO K T t sc ns H0 σ tl lo) (h2 : MkO K T t sc ns H0 σ th hi) : Mk K T t sc ns H0 σ (tSl (rSlA K) te tl th) (· = .tuple (cutD ds lo hi)) := fun hTt hdm H k Q q => h hTt hdm H k _ fun v H1 d k1 e dq => by
  subst e
  exact h1 hTt hdm H1 (k.trans k1) _ fun H2 k2 => h2 hTt hdm H2 ((k.trans k1).trans k2) _ fun H3 k3 => by
    have dq' := Dq.kt hTt (k2.trans k3).kt _ _ dq
    cases dq' with
    | @tup a xs _ hq hall =>
      refine ⟨_, _, rfl, hq, fun hw => ?_, fun hw p np => ?_⟩
      · have : cutD ds lo hi = ds := by
          unfold cutD
          rw [← hall.len, hw.1, hw.2, List.drop_zero, Nat.sub_zero]
          exact List.take_of_length_le (by rw [hall.len]; exact Nat.le_refl _)
        rw [this] at q
        exact q _ H3 _ ((k1.trans k2).trans k3) rfl (.tup hq hall)
      · have kn : K0 H3 (upd H3 p (.tup (cutV xs lo hi))) := K0.new np
        refine q _ _ _ (((k1.trans k2).trans k3).trans kn.kp) rfl (.tup (.inl (.inl upd_same)) (DqAll.kt hTt kn.kt _ _ ?_))
        unfold cutV cutD
        rw [hall.len]
        exact (hall.drop _).take _
/-- t[i], a tuple at a written place -/
theorem mk_ixT {te ti : TE} {ds : List PyData} {j : Nat} {d : PyData} (h : Mk K T t sc ns H0 σ te (· = .tuple ds)) (hi : Mk K T t sc ns H0 σ ti (· = .int j)) (hd : ds[j]? = some d) : Mk K T t sc ns H0 σ (tOp (rIxT K) te ti) (· = d) := fun hTt hdm H k Q q => h hTt hdm H k _ fun v H1 d1 k1 e dq => by
  subst e
  exact hi hTt hdm H1 (k.trans k1) _ fun v2 H2 d2 k2 e dq2 => by
    subst e; cases dq2
    have dq' := Dq.kt hTt k2.kt _ _ dq
    cases dq' with
    | @tup a xs _ hq hall =>
      have hl : j < xs.length := by rw [hall.len]; exact (List.getElem?_eq_some_iff.mp hd).1
      obtain ⟨d', e1, e2⟩ := hall.get (List.getElem?_eq_getElem hl)
      rw [hd] at e1; cases e1
      exact ⟨_, _, _, _, rfl, rfl, hq, atI_nat (List.getElem?_eq_getElem hl), q _ H2 _ (k1.trans k2) rfl e2⟩
end
end HK

set_option Elab.async false
set_option linter.all false
set_option maxRecDepth 100000
set_option maxHeartbeats 2000000
namespace HK
open PySem PySem.Spec PyProof.Rows L2 GAl GxR
open Evl (pss_cut)
section
variable {P : Program} {w : World} {K : PySem.W.Frag} {mg : Str → Option Value} {base : Heap}
def spSome (K : PySem.W.Frag) : Sp := fun vs H Q _ => ∃ (t sc r : Addr) (ns : List Int) (xs : List V), vs = [.ref t, .ref r] ∧ Tape K H t sc ns ∧ (SqT K H r xs ∨ (H r = some (.lst xs) ∧ r ≠ t)) ∧ 0 < xs.length ∧ xs.length ≤ 100000 ∧
  ∀ (j : Nat) (x : V) (H' : Hp), xs[j]? = some x → Kp K t sc ns H H' → Q x H'
end
end HK

set_option Elab.async false
set_option linter.all false
set_option maxHeartbeats 2000000
namespace HK
/-! ### the mathematics: going through the roads as often as there are places -/
abbrev IF := Int → Option Int
def put (f : IF) (i x : Int) : IF := fun j => if j = i then some x else f j
def Le (g f : IF) : Prop := ∀ v a, f v = some a → ∃ b, g v = some b ∧ b ≤ a
theorem Le.refl (f : IF) : Le f f := fun v a h => ⟨a, h, Int.le_refl _⟩
theorem Le.trans {f g h : IF} (a : Le f g) (b : Le g h) : Le f h := fun v x e => by
  obtain ⟨y, e1, l1⟩ := b v x e
  obtain ⟨z, e2, l2⟩ := a v y e1
  exact ⟨z, e2, by omega⟩
def rlx (src g : IF) (r : R4) : IF := match src r.s with
  | none => g
  | some a => match g r.e with
    | none => put g r.e (a + r.l)
    | some b => if a + r.l < b then put g r.e (a + r.l) else g
structure IInv (n : Int) (rs : List R4) (root : Int) (f : IF) : Prop where
  rt0 : f root = some 0
  rng : ∀ v a, f v = some a → 0 ≤ v ∧ v < n ∧ 0 ≤ a
  wt : ∀ v b, f v = some b → v = root ∨ ∃ r ∈ rs, r.e = v ∧ ∃ a, f r.s = some a ∧ a + r.l ≤ b
def Closed (rs : List R4) (f : IF) : Prop := ∀ r ∈ rs, ∀ a, f r.s = some a → ∃ b, f r.e = some b ∧ b ≤ a + r.l
section
variable {n root : Int} {rs : List R4}
theorem put_inv {g : IF} {r : R4} {x a' : Int} (I : IInv n rs root g) (hr : RoadOk n r) (hm : r ∈ rs) (ha : g r.s = some a') (hx : a' + r.l ≤ x) (hlt : ∀ b, g r.e = some b → x < b) : IInv n rs root (put g r.e x) ∧ Le (put g r.e x) g := by
  have h0 := (I.rng _ _ ha).2.2
  have hl := hr.l0
  have ne : r.e ≠ root := fun z => by
    have := hlt 0 (by rw [z]; exact I.rt0)
    omega
  have le : Le (put g r.e x) g := fun v b e => by
    by_cases hv : v = r.e
    · subst hv
      exact ⟨x, if_pos rfl, Int.le_of_lt (hlt b e)⟩
    · exact ⟨b, by unfold put; rw [if_neg hv]; exact e, Int.le_refl _⟩
  refine ⟨⟨?_, fun v b e => ?_, fun v b e => ?_⟩, le⟩
  · unfold put; rw [if_neg (fun z => ne z.symm)]; exact I.rt0
  · unfold put at e
    by_cases hv : v = r.e
    · rw [if_pos hv] at e
      cases e
      rw [hv]
      exact ⟨hr.e0, hr.e1, by omega⟩
    · rw [if_neg hv] at e
      exact I.rng v b e
  · by_cases hv : v = r.e
    · unfold put at e
      rw [if_pos hv] at e
      cases e
      exact .inr ⟨r, hm, hv.symm, a', by unfold put; rw [if_neg hr.ne]; exact ha, hx⟩
    · unfold put at e
      rw [if_neg hv] at e
      rcases I.wt v b e with h | ⟨r', h1, h2, a, h3, h4⟩
      · exact .inl h
      · obtain ⟨a2, h5, h6⟩ := le _ _ h3
        exact .inr ⟨r', h1, h2, a2, h5, by omega⟩
theorem rlx_inv {src g : IF} {r : R4} (I : IInv n rs root g) (hr : RoadOk n r) (hm : r ∈ rs) (hs : Le g src) :
    IInv n rs root (rlx src g r) ∧ Le (rlx src g r) g ∧ ∀ a, src r.s = some a → ∃ b, rlx src g r r.e = some b ∧ b ≤ a + r.l := by
  unfold rlx
  cases e : src r.s with
  | none => exact ⟨I, .refl _, fun a z => by cases z⟩
  | some a =>
    obtain ⟨a', e1, l1⟩ := hs _ _ e
    cases e2 : g r.e with
    | none =>
      obtain ⟨h1, h2⟩ := put_inv (x := a + r.l) I hr hm e1 (by omega) (fun b z => by rw [e2] at z; cases z)
      exact ⟨h1, h2, fun a2 z => by cases z; exact ⟨_, if_pos rfl, Int.le_refl _⟩⟩
    | some b =>
      by_cases hb : a + r.l < b
      · simp only [hb, if_true]
        obtain ⟨h1, h2⟩ := put_inv (x := a + r.l) I hr hm e1 (by omega) (fun b' z => by rw [e2] at z; cases z; exact hb)
        exact ⟨h1, h2, fun a2 z => by cases z; exact ⟨_, if_pos rfl, Int.le_refl _⟩⟩
      · simp only [hb, if_false]
        exact ⟨I, .refl _, fun a2 z => by cases z; exact ⟨b, e2, by omega⟩⟩
def rnd (S : IF → IF) (l : List R4) (g : IF) : IF := l.foldl (fun g r => rlx (S g) g r) g
theorem rnd_inv {S : IF → IF} {f : IF} (hS : ∀ g, Le g f → Le g (S g) ∧ Le (S g) f) : ∀ (l : List R4) (g : IF), (∀ r ∈ l, r ∈ rs ∧ RoadOk n r) → IInv n rs root g → Le g f →
    IInv n rs root (rnd S l g) ∧ Le (rnd S l g) g ∧ ∀ r ∈ l, ∀ a, f r.s = some a → ∃ b, rnd S l g r.e = some b ∧ b ≤ a + r.l
  | [], g, _, I, _ => ⟨I, .refl _, fun r h => by cases h⟩
  | r :: l, g, hl, I, hf => by
    obtain ⟨s1, s2⟩ := hS g hf
    obtain ⟨i1, i2, i3⟩ := rlx_inv I (hl r (List.mem_cons_self ..)).2 (hl r (List.mem_cons_self ..)).1 s1
    obtain ⟨j1, j2, j3⟩ := rnd_inv hS l (rlx (S g) g r) (fun q h => hl q (List.mem_cons_of_mem _ h)) i1 (i2.trans hf)
    refine ⟨j1, j2.trans i2, fun q hq a ha => ?_⟩
    rcases List.mem_cons.mp hq with rfl | hq
    · obtain ⟨a', e, le⟩ := s2 _ _ ha
      obtain ⟨b, e2, le2⟩ := i3 a' e
      obtain ⟨c, e3, le3⟩ := j2 _ _ e2
      exact ⟨c, e3, by omega⟩
    · exact j3 q hq a ha
def iter (F : IF → IF) : Nat → IF → IF
  | 0, f => f
  | k + 1, f => F (iter F k f)
theorem half {D f : IF} (hok : ∀ r ∈ rs, RoadOk n r) (c : Closed rs D) (d0 : D root = some 0) (I : IInv n rs root f) : Le D f := by
  have key : ∀ (N : Nat) (v b : Int), f v = some b → b.toNat < N → ∃ c, D v = some c ∧ c ≤ b := by
    intro N
    induction N with
    | zero => intro v b _ h; omega
    | succ N ih =>
      intro v b e hb
      have h0 := (I.rng v b e).2.2
      rcases I.wt v b e with rfl | ⟨r, hm, rfl, a, e2, le⟩
      · exact ⟨0, d0, h0⟩
      · have hl := (hok r hm).l0
        have ha := (I.rng _ _ e2).2.2
        obtain ⟨x, e3, l3⟩ := ih r.s a e2 (by omega)
        obtain ⟨y, e4, l4⟩ := c r hm x e3
        exact ⟨y, e4, by omega⟩
  exact fun v b e => key (b.toNat + 1) v b e (by omega)
theorem two_same {f g : IF} (hok : ∀ r ∈ rs, RoadOk n r) (cf : Closed rs f) (If : IInv n rs root f) (cg : Closed rs g) (Ig : IInv n rs root g) : f = g := by
  have h1 := half hok cf If.rt0 Ig
  have h2 := half hok cg Ig.rt0 If
  funext v
  cases e : f v with
  | none =>
    cases e2 : g v with
    | none => rfl
    | some b => obtain ⟨c, e3, _⟩ := h1 v b e2; rw [e] at e3; cases e3
  | some a =>
    obtain ⟨b, e2, l2⟩ := h2 v a e
    obtain ⟨c, e3, l3⟩ := h1 v b e2
    rw [e] at e3
    cases e3
    rw [e2]
    have : a = b := by omega
    rw [this]
theorem countP_lt {α : Type} {p q : α → Bool} : ∀ {l : List α}, (∀ x ∈ l, p x = true → q x = true) → (∃ x ∈ l, q x = true ∧ ¬ p x = true) → l.countP p < l.countP q
  | [], _, h => by obtain ⟨x, hx, _⟩ := h; cases hx
  | y :: l, h, hx => by
    have hm : l.countP p ≤ l.countP q := List.countP_mono_left (fun x hx => h x (List.mem_cons_of_mem _ hx))
    obtain ⟨x, hx, hq, hp⟩ := hx
    rw [List.countP_cons, List.countP_cons]
    rcases List.mem_cons.mp hx with rfl | hx
    · rw [if_pos hq, if_neg hp]; omega
    · have ih := countP_lt (fun x hx => h x (List.mem_cons_of_mem _ hx)) ⟨x, hx, hq, hp⟩
      have := h y (List.mem_cons_self ..)
      by_cases hy : p y = true
      · rw [if_pos hy, if_pos (this hy)]; omega
      · rw [if_neg hy]
        split <;> omega
variable {F : IF → IF} {f0 : IF}
def Turns (n : Int) (rs : List R4) (root : Int) (F : IF → IF) : Prop := ∀ f, IInv n rs root f → IInv n rs root (F f) ∧ Le (F f) f ∧ ∀ r ∈ rs, ∀ a, f r.s = some a → ∃ b, F f r.e = some b ∧ b ≤ a + r.l
theorem iter_inv (hF : Turns n rs root F) (I0 : IInv n rs root f0) : ∀ k, IInv n rs root (iter F k f0)
  | 0 => I0
  | k + 1 => (hF _ (iter_inv hF I0 k)).1
theorem iter_le (hF : Turns n rs root F) (I0 : IInv n rs root f0) (k : Nat) : ∀ j, Le (iter F (k + j) f0) (iter F k f0)
  | 0 => .refl _
  | j + 1 => ((hF _ (iter_inv hF I0 (k + j))).2.1).trans (iter_le hF I0 k j)
theorem stab (hF : Turns n rs root F) (I0 : IInv n rs root f0) (v : Int) : ∃ K, ∀ k, K ≤ k → iter F k f0 v = iter F K f0 v := by
  have key : ∀ (N k : Nat) (m : Int), iter F k f0 v = some m → m.toNat < N → ∃ K, ∀ k, K ≤ k → iter F k f0 v = iter F K f0 v := by
    intro N
    induction N with
    | zero => intro k m _ h; omega
    | succ N ih =>
      intro k m e hm
      by_cases hh : ∀ j, k ≤ j → iter F j f0 v = some m
      · exact ⟨k, fun j hj => by rw [hh j hj, e]⟩
      · have ⟨j, hj⟩ := Classical.not_forall.mp hh
        have ⟨hk, hj⟩ := Classical.not_imp.mp hj
        obtain ⟨d, rfl⟩ := Nat.exists_eq_add_of_le hk
        obtain ⟨b, e2, l2⟩ := iter_le hF I0 k d v m e
        have hb := ((iter_inv hF I0 (k + d)).rng _ _ e2).2.2
        have : b ≠ m := fun z => hj (by rw [e2, z])
        exact ih (k + d) b e2 (by omega)
  by_cases h : ∃ k m, iter F k f0 v = some m
  · obtain ⟨k, m, e⟩ := h
    exact key (m.toNat + 1) k m e (by omega)
  · have none : ∀ k, iter F k f0 v = none := fun k => by
      cases e : iter F k f0 v with
      | none => rfl
      | some m => exact absurd ⟨k, m, e⟩ h
    exact ⟨0, fun k _ => by rw [none k, none 0]⟩
theorem stab_all (hF : Turns n rs root F) (I0 : IInv n rs root f0) : ∀ N : Nat, ∃ K, ∀ (i : Nat), i < N → ∀ k, K ≤ k → iter F k f0 (i : Int) = iter F K f0 (i : Int)
  | 0 => ⟨0, fun i h => by omega⟩
  | N + 1 => by
    obtain ⟨K1, h1⟩ := stab_all hF I0 N
    obtain ⟨K2, h2⟩ := stab hF I0 (N : Int)
    refine ⟨max K1 K2, fun i hi k hk => ?_⟩
    have a1 : K1 ≤ max K1 K2 := Nat.le_max_left ..
    have a2 : K2 ≤ max K1 K2 := Nat.le_max_right ..
    by_cases hi' : i = N
    · subst hi'
      rw [h2 k (by omega), h2 _ a2]
    · rw [h1 i (by omega) k (by omega), h1 i (by omega) _ a1]
theorem limit (hF : Turns n rs root F) (I0 : IInv n rs root f0) : ∃ D, IInv n rs root D ∧ Closed rs D := by
  obtain ⟨K, h⟩ := stab_all hF I0 n.toNat
  have same : iter F (K + 1) f0 = iter F K f0 := by
    funext v
    by_cases hv : 0 ≤ v ∧ v < n
    · obtain ⟨i, rfl⟩ := Int.eq_ofNat_of_zero_le hv.1
      exact h i (by omega) (K + 1) (by omega)
    · have none : ∀ k, iter F k f0 v = none := fun k => by
        cases e : iter F k f0 v with
        | none => rfl
        | some m =>
          have := (iter_inv hF I0 k).rng _ _ e
          exact absurd ⟨this.1, this.2.1⟩ hv
      rw [none, none]
  refine ⟨_, iter_inv hF I0 K, fun r hr a ha => ?_⟩
  obtain ⟨b, e, l⟩ := (hF _ (iter_inv hF I0 K)).2.2 r hr a ha
  exact ⟨b, by rw [← same]; exact e, l⟩
theorem conv (hok : ∀ r ∈ rs, RoadOk n r) (hF : Turns n rs root F) (I0 : IInv n rs root f0) : Closed rs (iter F n.toNat f0) := by
  obtain ⟨D, ID, cD⟩ := limit hF I0
  have low : ∀ k, Le D (iter F k f0) := fun k => half hok cD ID.rt0 (iter_inv hF I0 k)
  have stay : ∀ k v b, D v = some b → iter F k f0 v = some b → iter F (k + 1) f0 v = some b := fun k v b hd e => by
    obtain ⟨c, e1, l1⟩ := (hF _ (iter_inv hF I0 k)).2.1 v b e
    obtain ⟨c', e2, l2⟩ := low (k + 1) v c e1
    rw [hd] at e2
    cases e2
    have : c = b := by omega
    rw [← this]; exact e1
  have prog : ∀ (k N : Nat) (v b : Int), D v = some b → b.toNat < N → iter F k f0 v ≠ some b → ∃ v' b', D v' = some b' ∧ iter F k f0 v' ≠ some b' ∧ iter F (k + 1) f0 v' = some b' := by
    intro k N
    induction N with
    | zero => intro v b _ h; omega
    | succ N ih =>
      intro v b hd hb hne
      rcases ID.wt v b hd with rfl | ⟨r, hm, rfl, a, e2, le⟩
      · rw [ID.rt0] at hd
        cases hd
        exact absurd (iter_inv hF I0 k).rt0 hne
      · have hl := (hok r hm).l0
        have ha := (ID.rng _ _ e2).2.2
        by_cases hs : iter F k f0 r.s = some a
        · obtain ⟨b', e3, l3⟩ := (hF _ (iter_inv hF I0 k)).2.2 r hm a hs
          obtain ⟨c, e4, l4⟩ := low (k + 1) r.e b' e3
          rw [hd] at e4
          cases e4
          have : b' = b := by omega
          exact ⟨r.e, b, hd, hne, by rw [← this]; exact e3⟩
        · exact ih r.s a e2 (by omega) hs
  let fin : Nat → Nat → Bool := fun k i => decide (iter F k f0 (i : Int) = D (i : Int)) && (D (i : Int)).isSome
  have hn : ∀ v b, D v = some b → ∃ i : Nat, v = (i : Int) ∧ i ∈ List.range n.toNat := fun v b e => by
    have := ID.rng v b e
    obtain ⟨i, rfl⟩ := Int.eq_ofNat_of_zero_le this.1
    exact ⟨i, rfl, List.mem_range.mpr (by omega)⟩
  have main : ∀ k, (∀ v b, D v = some b → iter F k f0 v = some b) ∨ k + 1 ≤ (List.range n.toNat).countP (fin k) := by
    intro k
    induction k with
    | zero =>
      obtain ⟨i, hi, hm⟩ := hn root 0 ID.rt0
      refine .inr (List.countP_pos_iff.mpr ⟨i, hm, ?_⟩)
      show (decide (f0 (i : Int) = D (i : Int)) && (D (i : Int)).isSome) = true
      rw [← hi, I0.rt0, ID.rt0]
      rfl
    | succ k ih =>
      rcases ih with h | h
      · exact .inl fun v b e => stay k v b e (h v b e)
      · by_cases all : ∀ v b, D v = some b → iter F k f0 v = some b
        · exact .inl fun v b e => stay k v b e (all v b e)
        · refine .inr (Nat.lt_of_le_of_lt h (countP_lt (fun i _ hi => ?_) ?_))
          · have hi' := Bool.and_eq_true_iff.mp hi
            have h1 := of_decide_eq_true hi'.1
            obtain ⟨b, e⟩ := Option.isSome_iff_exists.mp hi'.2
            have := stay k i b e (h1.trans e)
            exact Bool.and_eq_true_iff.mpr ⟨decide_eq_true (this.trans e.symm), hi'.2⟩
          · have ⟨v, hv⟩ := Classical.not_forall.mp all
            have ⟨b, hb⟩ := Classical.not_forall.mp hv
            have ⟨hd, hne⟩ := Classical.not_imp.mp hb
            obtain ⟨v', b', d', n', e'⟩ := prog k (b.toNat + 1) v b hd (by omega) hne
            obtain ⟨i, rfl, hm⟩ := hn v' b' d'
            refine ⟨i, hm, Bool.and_eq_true_iff.mpr ⟨decide_eq_true (e'.trans d'.symm), by rw [d']; rfl⟩, fun z => ?_⟩
            exact n' ((of_decide_eq_true (Bool.and_eq_true_iff.mp z).1).trans d')
  have fin' : ∀ v b, D v = some b → iter F n.toNat f0 v = some b := by
    rcases main n.toNat with h | h
    · exact h
    · have := List.countP_le_length (p := fin n.toNat) (l := List.range n.toNat)
      rw [List.length_range] at this
      omega
  have eq : iter F n.toNat f0 = D := by
    funext v
    cases e : D v with
    | some b => exact fin' v b e
    | none =>
      cases e2 : iter F n.toNat f0 v with
      | none => rfl
      | some b => obtain ⟨c, e3, _⟩ := low n.toNat v b e2; rw [e] at e3; cases e3
  rw [eq]; exact cD
/-- the two ways of going through -/
theorem turns_at (hok : ∀ r ∈ rs, RoadOk n r) : Turns n rs root (fun f => rnd id rs f) := fun f I => by
  obtain ⟨h1, h2, h3⟩ := rnd_inv (S := id) (f := f) (n := n) (rs := rs) (root := root) (fun g h => ⟨.refl _, h⟩) rs f (fun r h => ⟨h, hok r h⟩) I (.refl _)
  exact ⟨h1, h2, h3⟩
theorem turns_by (hok : ∀ r ∈ rs, RoadOk n r) : Turns n rs root (fun f => rnd (fun _ => f) rs f) := fun f I => by
  obtain ⟨h1, h2, h3⟩ := rnd_inv (S := fun _ => f) (f := f) (n := n) (rs := rs) (root := root) (fun g h => ⟨h, .refl _⟩) rs f (fun r h => ⟨h, hok r h⟩) I (.refl _)
  exact ⟨h1, h2, h3⟩
def ini (root : Int) : IF := put (fun _ => none) root 0
theorem ini_inv (h0 : 0 ≤ root) (h1 : root < n) : IInv n rs root (ini root) := by
  refine ⟨if_pos rfl, fun v a e => ?_, fun v b e => ?_⟩
  · unfold ini put at e
    by_cases hv : v = root
    · rw [if_pos hv] at e; cases e; subst hv; exact ⟨h0, h1, Int.le_refl _⟩
    · rw [if_neg hv] at e; cases e
  · unfold ini put at e
    by_cases hv : v = root
    · exact .inl hv
    · rw [if_neg hv] at e; cases e
end
/-- what is found -/
def due (n : Int) (rs : List R4) (root : Int) : IF := iter (fun f => rnd id rs f) n.toNat (ini root)
theorem due_inv {n root : Int} {rs : List R4} (hok : ∀ r ∈ rs, RoadOk n r) (h0 : 0 ≤ root) (h1 : root < n) : IInv n rs root (due n rs root) := iter_inv (turns_at hok) (ini_inv h0 h1) _
theorem due_closed {n root : Int} {rs : List R4} (hok : ∀ r ∈ rs, RoadOk n r) (h0 : 0 ≤ root) (h1 : root < n) : Closed rs (due n rs root) := conv hok (turns_at hok) (ini_inv h0 h1)
theorem due_by {n root : Int} {rs : List R4} (hok : ∀ r ∈ rs, RoadOk n r) (h0 : 0 ≤ root) (h1 : root < n) : iter (fun f => rnd (fun _ => f) rs f) n.toNat (ini root) = due n rs root :=
  two_same hok (conv hok (turns_by hok) (ini_inv h0 h1)) (iter_inv (turns_by hok) (ini_inv h0 h1) _) (due_closed hok h0 h1) (due_inv hok h0 h1)
end HK

set_option Elab.async false
set_option linter.all false
set_option maxRecDepth 100000
set_option maxHeartbeats 2000000
namespace HK
open PySem PySem.Spec PyProof.Rows L2 GAl GxR
/-! ### a dict of whole numbers by whole numbers -/
structure DI (kvs : List (Key × V)) (f : IF) : Prop where
  nd : (kvs.map (·.1)).Nodup
  ks : ∀ p ∈ kvs, ∃ i x : Int, p = (Sum.inl i, V.int x)
  val : ∀ i : Int, valV kvs (Sum.inl i) = (f i).map V.int
theorem valV_mem {κ : Type} [DecidableEq κ] : ∀ {kvs : List (κ × V)} {p : κ × V}, (kvs.map (·.1)).Nodup → p ∈ kvs → valV kvs p.1 = some p.2
  | q :: r, p, nd, h => by
    have nd' := List.nodup_cons.mp nd
    rcases List.mem_cons.mp h with rfl | h
    · exact valV_pos rfl
    · have : ¬ q.1 = p.1 := fun z => nd'.1 (List.mem_map.mpr ⟨p, h, z.symm⟩)
      rw [valV_neg this]
      exact valV_mem nd'.2 h
theorem DI.at_ {kvs : List (Key × V)} {f : IF} (h : DI kvs f) {p : Key × V} (hp : p ∈ kvs) : ∃ i x : Int, p = (Sum.inl i, V.int x) ∧ f i = some x := by
  obtain ⟨i, x, rfl⟩ := h.ks p hp
  have e := valV_mem h.nd hp
  rw [h.val] at e
  cases e2 : f i with
  | none => rw [e2] at e; cases e
  | some y => rw [e2] at e; cases e; exact ⟨i, _, rfl, e2⟩
theorem DI.mem {kvs : List (Key × V)} {f : IF} (h : DI kvs f) (i : Int) : (Sum.inl i : Key) ∈ kvs.map (·.1) ↔ (f i).isSome = true := by
  constructor
  · intro hm
    obtain ⟨p, hp, e⟩ := List.mem_map.mp hm
    obtain ⟨j, x, rfl, e2⟩ := h.at_ hp
    have e : (Sum.inl j : Key) = Sum.inl i := e
    cases e
    rw [e2]; rfl
  · intro hs
    obtain ⟨x, e⟩ := Option.isSome_iff_exists.mp hs
    exact valV_in (v := .int x) (by rw [h.val, e]; rfl)
theorem DI.put {kvs : List (Key × V)} {f : IF} (h : DI kvs f) (i x : Int) : DI (putK kvs (Sum.inl i) (.int x)) (HK.put f i x) := by
  refine ⟨?_, fun p hp => ?_, fun j => ?_⟩
  · cases e : valV kvs (Sum.inl i) with
    | none => exact nd_putK _ h.nd e
    | some v =>
      unfold putK
      rw [valV_any, e]
      simp only [Option.isSome_some, if_true]
      have : (kvs.map fun kv => if kv.1 = (Sum.inl i : Key) then (kv.1, V.int x) else kv).map (·.1) = kvs.map (·.1) := by
        rw [List.map_map]
        exact List.map_congr_left fun p _ => by
          show (if p.1 = (Sum.inl i : Key) then (p.1, V.int x) else p).1 = p.1
          split <;> rfl
      rw [this]; exact h.nd
  · unfold putK at hp
    split at hp
    · obtain ⟨q, hq, rfl⟩ := List.mem_map.mp hp
      obtain ⟨j, y, rfl⟩ := h.ks q hq
      by_cases e : (Sum.inl j : Key) = Sum.inl i
      · exact ⟨j, x, by simp only [e, if_true]⟩
      · exact ⟨j, y, by simp only [e, if_false]⟩
    · rcases List.mem_append.mp hp with hp | hp
      · exact h.ks p hp
      · exact ⟨i, x, List.mem_singleton.mp hp⟩
  · rw [valV_put, h.val]
    unfold HK.put
    by_cases e : j = i
    · subst e; simp
    · simp [e]
theorem DI.one (root : Int) : DI (mergeK [] [(Sum.inl root, V.int 0)]) (ini root) := by
  have h0 : DI [] (fun _ => none) := ⟨List.nodup_nil, fun p hp => (by cases hp), fun i => rfl⟩
  exact h0.put root 0
theorem DI.same {ks ls : List (Key × V)} {f : IF} (h : DI ks f) (g : DI ls f) : ks.length = ls.length ∧ ∀ p ∈ ks, valV ls p.1 = some p.2 ∧ flatB p.2 = true := by
  constructor
  · have : (ks.map (·.1)).Perm (ls.map (·.1)) := (List.perm_ext_iff_of_nodup h.nd g.nd).mpr fun k => by
      cases k with
      | inl i => rw [h.mem, g.mem]
      | inr s =>
        constructor
        · intro hm
          obtain ⟨p, hp, e⟩ := List.mem_map.mp hm
          obtain ⟨j, x, rfl⟩ := h.ks p hp
          cases e
        · intro hm
          obtain ⟨p, hp, e⟩ := List.mem_map.mp hm
          obtain ⟨j, x, rfl⟩ := g.ks p hp
          cases e
    have := this.length_eq
    rwa [List.length_map, List.length_map] at this
  · intro p hp
    obtain ⟨i, x, rfl, e⟩ := h.at_ hp
    exact ⟨by show valV ls (Sum.inl i) = _; rw [g.val, e]; rfl, rfl⟩
theorem DI.pair {kvs : List (Key × V)} {f : IF} (h : DI kvs f) {v x : Int} (e : f v = some x) : (Sum.inl v, V.int x) ∈ kvs := by
  have := (h.mem v).mpr (by rw [e]; rfl)
  obtain ⟨pp, hpp, ep⟩ := List.mem_map.mp this
  obtain ⟨j, z, rfl, ej⟩ := h.at_ hpp
  cases ep
  rw [e] at ej
  cases ej
  exact hpp
theorem rnd_take {S : IF → IF} {rs : List R4} {g : IF} {j : Nat} {r : R4} (h : rs[j]? = some r) : rnd S (rs.take (j + 1)) g = rlx (S (rnd S (rs.take j) g)) (rnd S (rs.take j) g) r := by
  have : rs.take (j + 1) = rs.take j ++ [r] := by rw [List.take_add_one, h]; rfl
  rw [this]
  unfold rnd
  rw [List.foldl_append]
  rfl
/-! ### a good net is one -/
def pr (r : R4) : List Int := [r.s, r.e]
theorem pairs_map (rs : List R4) : (rs.map R4.d).map pairD = rs.map pr := by rw [List.map_map]; rfl
abbrev nt (m : PyData) (ds : List PyData) : PyData := .tuple [m, .tuple ds]
theorem lex_fore {a b : R4} (h : a.lt b) : HT.lexLt (pr a) (pr b) = true := by
  have h : a.s < b.s ∨ (a.s = b.s ∧ a.e < b.e) := h
  simp only [pr, HT.lexLt]
  rcases h with h | ⟨h, h2⟩
  · rw [if_neg (by omega)]
    exact decide_eq_true (by omega)
  · rw [if_pos h, if_neg (by omega)]
    exact decide_eq_true (by omega)
/-- a good net is one -/
theorem road_yes {n : Int} {r : R4} (h : RoadOk n r) : isRoadD n r.d = true := by
  obtain ⟨h1, h2, h3, h4, h5, h6, h7, h8, h9⟩ := h
  have a1 : r.s ≤ n - 1 := by omega
  have a2 : r.e ≤ n - 1 := by omega
  simp [R4.d, isRoadD, withinD, neD, h1, a1, h3, a2, h5, h6, h7, h8, h9]
theorem net_yes {n : Int} {rs : List R4} (G : Good n rs) : isNetD (nt (.int n) (rs.map R4.d)) = true := by
  show ((decide (1 ≤ n) && decide (n ≤ 12)) && (((rs.map R4.d).all (isRoadD n)) && risesB ((rs.map R4.d).map pairD))) = true
  rw [decide_eq_true G.n1, decide_eq_true G.n2, pairs_map]
  have h1 : (rs.map R4.d).all (isRoadD n) = true := by
    rw [List.all_map, List.all_eq_true]
    exact fun r hr => road_yes (G.ok r hr)
  have h2 : risesB (rs.map pr) = true := risesB_yes fun j hj => by
    rw [List.length_map] at hj
    have hp := List.pairwise_iff_getElem.mp G.up j (j + 1) (by omega) (by omega) (by omega)
    have e1 : (rs.map pr).getD j [] = pr rs[j] := by simp [List.getD_eq_getElem?_getD, List.getElem?_eq_getElem (show j < rs.length by omega)]
    have e2 : (rs.map pr).getD (j + 1) [] = pr rs[j + 1] := by simp [List.getD_eq_getElem?_getD, List.getElem?_eq_getElem (show j + 1 < rs.length by omega)]
    rw [e1, e2]
    exact lex_fore hp
  rw [h1, h2]
  rfl
theorem NetAt.k0 {K : PySem.W.Frag} {H H' : Hp} {a : Addr} {n : Int} {rs : List R4} (h : NetAt K H a n rs) (k : K0 H H') : NetAt K H' a n rs := h.kt (k.kt (t := 0))
theorem NetAt.ans {K : PySem.W.Frag} {H : Hp} {a : Addr} {n : Int} {rs : List R4} (h : NetAt K H a n rs) (G : Good n rs) (hl : rs.length ≤ 156) : NetAns K H (.ref a) true := by
  obtain ⟨r, xs, o, h1, h2, hc, hd, h3⟩ := h
  refine .inl ⟨nt (.int n) (rs.map R4.d), .tup h1 (.cons (.int _) (.cons (.tup (h2) h3) .nil)), fun m rs' e => ?_, (net_yes G).symm⟩
  cases e
  rw [List.length_map]; omega
end HK

set_option Elab.async false
set_option linter.all false
set_option maxRecDepth 100000
set_option maxHeartbeats 2000000
namespace HK
open PySem PySem.Spec PyProof.Rows L2 GAl GxR
abbrev sIsPlace : Stmt := topS 17
abbrev sNeedNet : Stmt := topS 19
abbrev sNeedPlace : Stmt := topS 20
theorem scIsPlace : FnScope ["net", "thing"] ["net", "thing"] (defScope sIsPlace) := ⟨rfl, rfl, rfl, by decide +kernel, rfl, by decide +kernel, by decide +kernel⟩
theorem scNeedNet : FnScope ["net"] ["net"] (defScope sNeedNet) := ⟨rfl, rfl, rfl, by decide +kernel, rfl, by decide +kernel, by decide +kernel⟩
theorem scNeedPlace : FnScope ["net", "place"] ["net", "place"] (defScope sNeedPlace) := ⟨rfl, rfl, rfl, by decide +kernel, rfl, by decide +kernel, by decide +kernel⟩
theorem K0.lock {H H' : Hp} {p : Addr} {u : HO} {od : Obj} (h : H p = some u) (nt : ∀ ps, u ≠ .tbl ps) (k : K0 (upd H p (.frz od u)) H') : K0 H (upd H' p u) := by
  refine ⟨fun b o e m => ?_, fun P hP => ?_, fun b e => ?_⟩
  · by_cases hb : b = p
    · subst hb
      rw [h] at e
      cases e
      exact upd_same
    · rw [upd_ne hb]
      exact k.oth b o (by rw [upd_ne hb]; exact e) m
  · obtain ⟨ps, e, ht⟩ := hP
    have hb : P ≠ p := fun z => by
      rw [z, h] at e
      exact nt ps (Option.some.inj e)
    obtain ⟨ps', e', ht'⟩ := k.tab P ⟨ps, by rw [upd_ne hb]; exact e, ht⟩
    exact ⟨ps', by rw [upd_ne hb]; exact e', ht'⟩
  · by_cases hb : b = p
    · rw [hb, upd_same] at e; cases e
    · rw [upd_ne hb] at e
      have := k.dom b e
      rwa [upd_ne hb] at this
section
variable {P : Program} {w : World} {K : PySem.W.Frag} {mg : Str → Option Value} {base : Heap}
def spIsPlace (K : PySem.W.Frag) : Sp := fun vs H Q _ => ∃ (a : Addr) (n : Int) (rs : List R4) (v : Int), vs = [.ref a, .int v] ∧ NetAt K H a n rs ∧ Q (.bl (decide (0 ≤ v) && decide (v ≤ n - 1))) H
theorem ok_isplace {f fW : Addr} {fd fdW : FuncData} (F : Fun K "is_place" "is_place" sIsPlace f fd)
    (kW : PySem.W.keepIn K (.ref fW) = true) (bW : Binds K fdW ["thing", "least", "greatest"] []) (gW : mg "is_within" = some (.ref fW)) (GW : FnOk P w K mg base CX0 2 fW fdW ["thing", "least", "greatest"] (spWithin K)) :
    FnOk P w K mg base CX0 3 f fd ["net", "thing"] (spIsPlace K) := by
  refine F.ok scIsPlace (fun vs H Q E h => ?_) (fun cdv A outer s H vs Q E hr h => ?_)
  · obtain ⟨a, n, rs, v, rfl, _⟩ := h
    rfl
  · obtain ⟨a, n, rs, v, rfl, hN, q⟩ := h
    obtain ⟨r, xs, o, h1, h2, hc, hd, h3⟩ := hN
    refine ⟨_, pss_one (ps_ret (pe_call GW hr (by rfl) gW kW bW .nil pass0 (pa_cons (pv 1) (pa_cons pe_int (pa_cons (pe_op op_sub (pe_ix ix_tup (pv 0) pe_int (fun _ _ => rfl)) pe_int) pa_nil))))), ?_⟩
    exact ⟨_, rfl, _, rfl, a, _, _, _, rfl, rfl, h1, atI_nat (j := 0) rfl, _, _, rfl, rfl, .int v, .int v, 0, n - 1, rfl, .int _, q⟩
def spNeedNet (K : PySem.W.Frag) (Pn Pr : Addr) : Sp := fun vs H Q _ => ∃ (a : Addr) (n : Int) (rs : List R4), vs = [.ref a] ∧ NetAt K H a n rs ∧ Good n rs ∧ rs.length ≤ 156 ∧ TabG H Pn ∧ TabG H Pr ∧ ∀ H', K0 H H' → Q .non H'
theorem ok_neednet {f fN Pn Pr : Addr} {fd fdN : FuncData} (F : Fun K "need_net" "need_net" sNeedNet f fd)
    (kN : PySem.W.keepIn K (.ref fN) = true) (bN : Binds K fdN ["thing"] []) (gN : mg "is_net" = some (.ref fN)) (GN : FnOk P w K mg base CX0 5 fN fdN ["thing"] (spIsNet K Pn Pr)) :
    FnOk P w K mg base CX0 6 f fd ["net"] (spNeedNet K Pn Pr) := by
  refine F.ok scNeedNet (fun vs H Q E h => ?_) (fun cdv A outer s H vs Q E hr h => ?_)
  · obtain ⟨a, n, rs, rfl, _⟩ := h
    rfl
  · obtain ⟨a, n, rs, rfl, hN, hG, hl, tn, tr, q⟩ := h
    refine ⟨_, pss_one (ps_if (pt_not (pt_val (pe_call GN hr (by rfl) gN kN bN .nil pass0 (pa_cons (pv 0) pa_nil)))) pss_never pss_nil), ?_⟩
    exact ⟨_, rfl, .ref a, true, rfl, hN.ans hG hl, tn, tr, fun H' k => ⟨_, rfl, iteF (q H' k)⟩⟩
def spNeedPlace (K : PySem.W.Frag) : Sp := fun vs H Q _ => ∃ (a : Addr) (n : Int) (rs : List R4) (v : Int), vs = [.ref a, .int v] ∧ NetAt K H a n rs ∧ 0 ≤ v ∧ v < n ∧ Q .non H
theorem ok_needplace {f fN : Addr} {fd fdN : FuncData} (F : Fun K "need_place" "need_place" sNeedPlace f fd)
    (kN : PySem.W.keepIn K (.ref fN) = true) (bN : Binds K fdN ["net", "thing"] []) (gN : mg "is_place" = some (.ref fN)) (GN : FnOk P w K mg base CX0 3 fN fdN ["net", "thing"] (spIsPlace K)) :
    FnOk P w K mg base CX0 4 f fd ["net", "place"] (spNeedPlace K) := by
  refine F.ok scNeedPlace (fun vs H Q E h => ?_) (fun cdv A outer s H vs Q E hr h => ?_)
  · obtain ⟨a, n, rs, v, rfl, _⟩ := h
    rfl
  · obtain ⟨a, n, rs, v, rfl, hN, h0, h1, q⟩ := h
    refine ⟨_, pss_one (ps_if (pt_not (pt_val (pe_call GN hr (by rfl) gN kN bN .nil pass0 (pa_cons (pv 0) (pa_cons (pv 1) pa_nil))))) pss_never pss_nil), ?_⟩
    refine ⟨_, rfl, _, rfl, a, n, rs, v, rfl, hN, _, rfl, ?_⟩
    rw [decide_eq_true h0, decide_eq_true (show v ≤ n - 1 by omega)]
    exact iteF q
theorem road_at {H : Hp} {xs : List V} {rs : List R4} {j : Nat} {x : V} (h3 : Roads K H xs rs) (hx : xs[j]? = some x) : ∃ (t : R4) (q1 : Addr), rs[j]? = some t ∧ x = .ref q1 ∧ SqT K H q1 t.vs := by
  obtain ⟨d, e1, e2⟩ := dpAll_get h3 hx
  obtain ⟨t, rfl, hrd⟩ : ∃ t : R4, d = t.d ∧ rs[j]? = some t := by
    rw [List.getElem?_map] at e1
    cases e3 : rs[j]? with
    | none => rw [e3] at e1; cases e1
    | some t => rw [e3] at e1; cases e1; exact ⟨t, rfl, rfl⟩
  obtain ⟨q1, rfl, hs⟩ := dp_r4 e2
  exact ⟨t, q1, hrd, rfl, hs⟩
theorem dget {H : Hp} {p : Addr} {kvs : List (Key × V)} {g : IF} {v x : Int} (hk : H p = some (.dK kvs)) (hD : DI kvs g) (e : g v = some x) : DGet H p (.int v) (some (.int x)) := by
  have := DGet.k (k := Sum.inl v) hk
  rw [hD.val, e] at this
  exact this
theorem inV_mem {i : Int} {js : List Int} (h : i ∈ js) : inV (.int i) (js.map V.int) = true := by
  unfold inV
  rw [List.any_map, List.any_eq_true]
  exact ⟨i, h, by simp [eqV]⟩
theorem upd_back {H : Hp} {p : Addr} {o : HO} (h : H p = some o) : upd H p o = H := by
  funext b
  by_cases e : b = p
  · rw [e, upd_same, h]
  · rw [upd_ne e]
theorem sqT_lock {H : Hp} {a p : Addr} {xs : List V} {kvs : List (Key × V)} {o : HO} (h : SqT K H a xs) (hp : H p = some (.dK kvs)) : SqT K (upd H p o) a xs := by
  rcases h with (h | ⟨o', h⟩) | h
  · exact .inl (.inl (by rw [upd_ne (ne_of h hp (fun z => by cases z))]; exact h))
  · exact .inl (.inr ⟨o', by rw [upd_ne (ne_of h hp (fun z => by cases z))]; exact h⟩)
  · exact .inr h
end
end HK

set_option Elab.async false
set_option linter.all false
set_option maxRecDepth 100000
set_option maxHeartbeats 4000000
namespace HK
open PySem PySem.Spec PyProof.Rows L2 GAl GxR
open Evl (pss_cut)
theorem dgetR {H : Hp} {p : Addr} {kvs : List (Key × V)} {g : IF} (hk : Rd H p (.dK kvs)) (hD : DI kvs g) (v : Int) : DGet H p (.int v) ((g v).map V.int) := .inl ⟨kvs, Sum.inl v, hk, rfl, by rw [hD.val]⟩
theorem K0.rd {H H' : Hp} {p : Addr} {kvs : List (Key × V)} (k : K0 H H') (h : Rd H p (.dK kvs)) : Rd H' p (.dK kvs) := by
  rcases h with h | ⟨o, h⟩
  · exact .inl (k.oth p _ h (fun _ z => by cases z))
  · exact .inr ⟨o, k.oth p _ h (fun _ z => by cases z)⟩
section
variable {P : Program} {w : World} {K : PySem.W.Frag} {mg : Str → Option Value} {base : Heap}
theorem tabG_lock {H : Hp} {p : Addr} {u o : HO} {Pp : Addr} (h : H p = some u) (nt : ∀ ps, u ≠ .tbl ps) (hT : TabG H Pp) : TabG (upd H p o) Pp := by
  obtain ⟨ps, e, ht⟩ := hT
  exact ⟨ps, by rw [upd_ne (fun z => by rw [z, h] at e; exact nt ps (Option.some.inj e))]; exact e, ht⟩
theorem netAt_lock {H : Hp} {a p : Addr} {n : Int} {rs : List R4} {kvs : List (Key × V)} {od : Obj} (h : NetAt K H a n rs) (hp : H p = some (.dK kvs)) : NetAt K (upd H p (.frz od (.dK kvs))) a n rs := by
  obtain ⟨r, xs, o, h1, h2, hc, hd, h3⟩ := h
  refine ⟨r, xs, o, sqT_lock h1 hp, sqT_lock h2 hp, hc, hd, ?_⟩
  clear h1 h2
  unfold Roads at h3 ⊢
  induction rs generalizing xs with
  | nil => cases h3; exact .nil
  | cons r rs ih =>
    cases h3 with
    | cons a b =>
      refine .cons ?_ (ih _ b)
      obtain ⟨q, rfl, h⟩ := dp_r4 (r := r) a
      exact r4_dp (r := r) (sqT_lock h hp)
end
end HK

set_option Elab.async false
set_option linter.all false
set_option maxRecDepth 100000
set_option maxHeartbeats 4000000
namespace HK
open PySem PySem.Spec PyProof.Rows L2 GAl GxR
theorem sub_len {l ks : List Int} (nl : l.Nodup) (nk : ks.Nodup) (h : ∀ x ∈ l, x ∈ ks) : l.length ≤ ks.length := by
  have pm : (ks.filter fun x => decide (x ∈ l)).Perm l := (List.perm_ext_iff_of_nodup (List.Nodup.sublist List.filter_sublist nk) nl).mpr fun x => by
    rw [List.mem_filter]
    exact ⟨fun z => of_decide_eq_true z.2, fun z => ⟨h x z, decide_eq_true z⟩⟩
  rw [← pm.length_eq]
  exact List.length_filter_le _ _
/-- the tables of generator expressions -/
def TbL (H : Hp) (l : List Addr) : Prop := ∀ P ∈ l, TabG H P
theorem TbL.kt {t : Addr} {H H' : Hp} {l : List Addr} (h : TbL H l) (k : Kt t H H') : TbL H' l := fun P hP => k.tab P (h P hP)
theorem TbL.k0 {H H' : Hp} {l : List Addr} (h : TbL H l) (k : K0 H H') : TbL H' l := fun P hP => k.tab P (h P hP)
end HK

set_option Elab.async false
set_option linter.all false
set_option maxRecDepth 100000
set_option maxHeartbeats 2000000
/-! list(d.values()); set(t) of a tuple of whole numbers -/
namespace HkL
open PySem PySem.Spec PyProof.Rows L2
section
variable {X : Cx} {e : Expr} {te : TE} {p apos cpos pos : Pos}
def tListVals (te : TE) : TE := fun σ H Q => te σ H fun x H1 => ∃ (d : Addr) (kvs : List (Key × V)), x = .ref d ∧ Rd H1 d (.dK kvs) ∧ kvs.length ≤ sizeLine ∧ ∀ q, H1 q = none → Q (.ref q) (upd H1 q (.lst (kvs.map (·.2))))
theorem dict_at {pins : List (Addr × Obj)} {σ : L2.St} {H : Hp} {s : Shared} {d : Addr} {kvs : List (Key × V)} (I : Inv X pins σ H s) (h : Rd H d (.dK kvs)) : ∃ vs ep, KV kvs vs ∧ s.heap.DictAt (mixKind X.prog X.w) d vs ep ∧ (d == sysModules) = false := by
  rcases h with h | ⟨o, h⟩
  · obtain ⟨z, lo, vs, rk, hd⟩ := (show ObjOk X.prog X.w H s.heap d (.dK kvs) from I.hok d _ h)
    obtain ⟨ep, hat⟩ := hd.dictAt
    exact ⟨vs, ep, rk, hat, lo⟩
  · obtain ⟨hs, hgd, hx, es, ep, vs, hdt, hsz, kv, hm⟩ := I.frzK h
    exact ⟨vs, ep, kv, hm, hs⟩
theorem pe_listVals (hc : X.calm = true) (he : PE X e te) (hg : Gl X "list") (hm : X.mg "list" = none) (hv : bootBuiltins "list" = some (.type "list")) (hbase : attributeBase e "values" X.env (eval e X.env) = eval e X.env := by rfl) (hline : (apos.endLine == cpos.line) = true := by rfl)
    (hs : starEach [.Call (.Attribute e "values" apos) [] [] cpos] X.env = (false, eval (.Call (.Attribute e "values" apos) [] [] cpos) X.env) :: starEach [] X.env := by rfl) :
    PE X (.Call (.Name "list" p) [.Call (.Attribute e "values" apos) [] [] cpos] [] pos) (tListVals te) := by
  refine ⟨fun pins s σ H Q I hq => ?_⟩
  refine wpAny_Call_Name_kw (ld_blt I hg hm hv ?_)
  refine PyProof.Rows.callWith_type1 ?_ hs rfl
  rw [hs]
  show wpAny _ _ (spliced ((false, eval (.Call (.Attribute e "values" apos) [] [] cpos) X.env) :: backTo pos (starEach [] X.env))) _ _ s
  refine Calls.spliced_cons ?_
  refine wpAny_Call_method (T := "dict") (id := "dict.values") hbase rfl hline F.plainAttrs_dict F.slot_dict_values F.type_dict_values (thn (he.run pins s σ H _ I hq) fun u s1 ⟨x, H1, I1, rx, d, kvs, ex, hd, hz, q⟩ => ?_)
  subst ex
  obtain rfl : u = Value.ref d := rx
  obtain ⟨vs, ep, kv, hat, hs0⟩ := dict_at I1 hd
  have hdo := hat.dictOf
  have lk : kvs.length = vs.length := Paired.length kv
  have I2 : Inv X pins σ H1 { s1 with heap := s1.heap.push { cls := .type "dict_values", data := .fields #[.ref d] } } := I1.kept (t' := s1.toks) fun b ob q => Heap.get?_push_of_some _ q
  refine ⟨hdo.typeIs, hdo.mapOf.noDict, ?_⟩
  show wpAny _ _ (callWith cpos (.builtin "dict.values") [.ref d] [] []) _ X.xe s1
  refine method_meetsIn F.slot_dict_values F.entry_dict_values rfl (PySem.evalArgs_none ⟨rfl, hdo.typeIs, F.args_dict_values_1 _, _, meets_dict_values (mixKind X.prog X.w) d hs0, ⟨vs, hdo⟩, ?_⟩)
  refine Calls.spliced_nil ?_
  refine PySem.W.kdl_call (PySem.W.kdl_values (knd := mixKind X.prog X.w) (kvs := vs) (ep := ep) (r := s1.heap.objs.size) (d := d)) (I1.ok.hd hc) ⟨⟨_, Heap.get?_push_size _ rfl, rfl, rfl⟩, hat.push _⟩ (by rw [← lk]; exact hz) fun h' tk acc' c' hkeep hS hacc => ?_
  refine ⟨.ref _, upd H1 _ (.lst (kvs.map (·.2))), I2.laid hkeep (Nat.le_refl _) (show ObjOk X.prog X.w _ _ _ (.lst (kvs.map (·.2))) from ⟨?_, acc'.toList, c', ?_, ?_⟩), rfl, q _ (I2.hok.fresh (Nat.le_refl _))⟩
  · rw [List.length_map]; exact hz
  · have el : acc'.toList.length = acc'.size := by simp
    refine vals_of_at (by rw [List.length_map, el, hacc.1, lk]) fun j x w h1 h2 => ?_
    obtain ⟨k, hky⟩ := hacc.2 j w (by rw [← Array.getElem?_toList]; exact h2)
    rw [List.getElem?_map] at h1
    cases e2 : kvs[j]? with
    | none => rw [e2] at h1; cases h1
    | some pk =>
      rw [e2] at h1
      cases h1
      obtain ⟨qv, g1, g2, g3⟩ := LiI.paired_get kv e2
      rw [hky] at g1
      cases g1
      exact g3
  · rw [Array.toArray_toList]; exact hS
/-- tuple(l), tuple(t) -/
def rTup (K : PySem.W.Frag) : List V → Hp → VK → Prop := fun xs H Q => ∃ p ys, xs = [.ref p] ∧ ((SqL K H p ys ∧ ∀ l, H l = none → Q (.ref l) (upd H l (.tup ys))) ∨ (SqT K H p ys ∧ Q (.ref p) H))
theorem call_tupR : CallR X (.type "tuple") (rTup X.K) := call_tuple_of
/-- set(t) -/
def rSetT (K : PySem.W.Frag) (w : World) : List V → Hp → VK → Prop := fun vs H Q => ∃ (l : Addr) (ns : List Int), vs = [.ref l] ∧ SqT K H l (ns.map V.int) ∧ ns.length ≤ 1000 ∧ ∀ (p : Addr) (c : Nat), H p = none → c ≤ ns.length → Q (.ref p) (upd H p (SetO w p (fun j => decide (j ∈ ns)) c))
theorem cr_setT (hc : X.calm = true) : CallR X (.type "set") (rSetT X.K X.w) := by
  intro pins s σ H vs us Q I r h
  obtain ⟨l, ns, rfl, hl, hb, q⟩ := h
  cases r with
  | cons r rr =>
    cases rr
    cases r
    obtain ⟨its, rv, pt, hz⟩ := I.tuple hl
    have hi : IntsAre its.toArray.toList ns := ints_of_vals rv
    refine call_set_tupI ns (I.ok.hd hc) (show s.heap.IsTuple l its.toArray from pt) hi (by unfold scanBound; omega) fun h' tk c R1 hcn k => ?_
    exact ⟨.ref _, upd H s.heap.objs.size (SetO X.w s.heap.objs.size (fun j => decide (j ∈ ns)) c), I.laid k (Nat.le_refl _) (setO_new R1), rfl, q _ c (I.hok.fresh (Nat.le_refl _)) hcn⟩
end
end HkL

set_option Elab.async false
set_option linter.all false
set_option maxRecDepth 100000
set_option maxHeartbeats 4000000
namespace HK
open PySem PySem.Spec PyProof.Rows L2 GAl GxR
open Evl (pss_cut)
abbrev sAreP : Stmt := topS 18
abbrev N_scAreP : List Str := ["net", "thing", "place"]
theorem scAreP : FnScope N_scAreP ["net", "thing"] (defScope sAreP) := ⟨rfl, rfl, rfl, by decide +kernel, rfl, by decide +kernel, by decide +kernel⟩
abbrev N_scRises : List Str := ["row", "low", "high"]
/-! ### rising tuples of places -/
def risI (l : List Int) : Bool := (List.range (l.length - 1)).all fun i => decide (l.getD i 0 < l.getD (i + 1) 0)
theorem risI_yes {l : List Int} (h : ∀ j, j < l.length - 1 → l.getD j 0 < l.getD (j + 1) 0) : risI l = true := by
  unfold risI
  rw [List.all_eq_true]
  exact fun j hj => decide_eq_true (h j (List.mem_range.mp hj))
theorem risI_no {l : List Int} {j : Nat} (hj : j < l.length - 1) (h : ¬ l.getD j 0 < l.getD (j + 1) 0) : risI l = false := by
  unfold risI
  rw [Bool.eq_false_iff]
  intro z
  exact h (of_decide_eq_true (List.all_eq_true.mp z j (List.mem_range.mpr hj)))
theorem risI_iff {l : List Int} : risI l = true ↔ l.Pairwise (· < ·) := by
  constructor
  · intro h
    have step : ∀ j, j < l.length - 1 → l.getD j 0 < l.getD (j + 1) 0 := fun j hj => by
      unfold risI at h
      exact of_decide_eq_true (List.all_eq_true.mp h j (List.mem_range.mpr hj))
    have far : ∀ d i, i + d + 1 < l.length → l.getD i 0 < l.getD (i + d + 1) 0 := fun d => by
      induction d with
      | zero => exact fun i hi => step i (by omega)
      | succ d ih =>
        intro i hi
        have h1 := ih i (by omega)
        have h2 := step (i + d + 1) (by omega)
        rw [show i + (d + 1) + 1 = i + d + 1 + 1 by omega]
        omega
    rw [List.pairwise_iff_getElem]
    intro i j hi hj hij
    have := far (j - i - 1) i (by omega)
    rw [show i + (j - i - 1) + 1 = j by omega] at this
    simpa [List.getD_eq_getElem?_getD, List.getElem?_eq_getElem hi, List.getElem?_eq_getElem hj] using this
  · intro h
    refine risI_yes fun j hj => ?_
    have := List.pairwise_iff_getElem.mp h j (j + 1) (by omega) (by omega) (by omega)
    simpa [List.getD_eq_getElem?_getD, List.getElem?_eq_getElem (show j < l.length by omega), List.getElem?_eq_getElem (show j + 1 < l.length by omega)] using this
def AreP (n : Int) (l : List Int) : Prop := (∀ v ∈ l, 0 ≤ v ∧ v < n) ∧ l.Pairwise (· < ·)
theorem AreP.len {n : Int} {l : List Int} (h : AreP n l) : l.length ≤ n.toNat := by
  have nd : l.Nodup := h.2.imp fun a => Int.ne_of_lt a
  have := sub_len (ks := (List.range n.toNat).map fun (i : Nat) => (i : Int)) nd (List.pairwise_map.mpr (List.pairwise_lt_range.imp fun a z => by omega)) fun x hx => by
    obtain ⟨h0, h1⟩ := h.1 x hx
    exact List.mem_map.mpr ⟨x.toNat, List.mem_range.mpr (by omega), by omega⟩
  simpa using this
theorem cut1' (xs : List V) : cutV xs (some 1) none = xs.drop 1 := cut1 xs
theorem getI {ns : List Int} {i : Nat} {x : V} (h : (ns.map V.int)[i]? = some x) : x = .int (ns.getD i 0) := by
  rw [List.getElem?_map] at h
  cases e : ns[i]? with
  | none => rw [e] at h; cases h
  | some v => rw [e] at h; cases h; rw [List.getD_eq_getElem?_getD, e]; rfl
section
variable {P : Program} {w : World} {K : PySem.W.Frag} {mg : Str → Option Value} {base : Heap}
def spRisesI (K : PySem.W.Frag) (Pr : Addr) : Sp := fun vs H Q _ => ∃ (a : Addr) (ns : List Int), vs = [.ref a] ∧ SqT K H a (ns.map V.int) ∧ TabG H Pr ∧ ∀ H', K0 H H' → Q (.bl (risI ns)) H'
theorem ok_risesI {f c Pr : Addr} {fd : FuncData} (F : FunC K "rises" "rises" sRises f fd c) (TB : TabB base mg c Pr) (m_zip : mg "zip" = none) (m_all : mg "all" = none) : FnOk P w K mg base CX0 2 f fd ["row"] (spRisesI K Pr) := by
  refine F.ok scRises (fun vs H Q E h => ?_) (fun A outer s H vs Q E hr h => ?_)
  · obtain ⟨a, ns, rfl, _⟩ := h
    rfl
  · obtain ⟨a, ns, rfl, hS, hP, q⟩ := h
    refine ⟨_, (pss_one (ps_ret (pe_allG (own := [("low", 1), ("high", 2)]) (k := 0) (g := (gTup K 2 (gCons (gName 1) (gCons (gName 2) gNil)))) (tt := tYes) (te := (tOp (rI0 fun i j => .bl (decide (i < j))) (tVar 1) (tVar 2))) (hr.mono (by decide)) (by rfl) m_all rfl scRises.nd TB rfl (gsc_by (N := N_scRises) (sc := defScope sRises) (by decide +kernel)) (RZ.pi_zipA (by rfl) m_zip (pa_cons (pv 0) (pa_cons (pe_slice sl_tupA (pv 0) (po_some pe_int) po_none) pa_nil))) (fun A' hr' _ _ _ _ _ _ => (pg_tup rfl (pgs_cons (pg_name (i := 1) scRises.nd rfl (.inl rfl)) (pgs_cons (pg_name (i := 2) scRises.nd rfl (.inl rfl)) pgs_nil)))) (fun A' hr' _ _ _ _ _ _ => pts_nil) (fun A' hr' _ _ _ _ _ _ => (pe_cmpR op_lt (pv 1) (pv 2) (nomark _)))))), ?_⟩
    have go : ∀ (c : Addr) (H1 : Hp), K0 H H1 → SqT K H1 c ((ns.map V.int).drop 1) → ∃ xs ys, xs = ns.map V.int ∧ SqT K H1 a xs ∧ SqT K H1 c ys ∧ TabG H1 Pr ∧ ∀ H2, Tabbed Pr H1 H2 → ∃ W : Nat → Nat → Hp → Prop, (∃ m, W 0 m H2) ∧
        GTurn (RZ.ItzT K a c) (gTup K 2 (gCons (gName 1) (gCons (gName 2) gNil))) tYes (tOp (rI0 fun i j => .bl (decide (i < j))) (tVar 1) (tVar 2)) [1, 2] [some (.ref a), none, none] (Q (.bl true)) (stpAll (Q (.bl false))) W := fun c H1 k1 hC1 => by
      refine ⟨_, _, rfl, k1.sqT hS, hC1, k1.tab _ hP, fun H2 hT2 => ?_⟩
      have kt := K0.tbd (k1.tab _ hP) hT2
      have k2 : K0 H H2 := k1.trans kt
      refine ⟨fun i m H3 => i + m = ns.length - 1 ∧ K0 H2 H3 ∧ ∀ j, j < i → ns.getD j 0 < ns.getD (j + 1) 0, ⟨ns.length - 1, by omega, K0.refl _, fun j hj => absurd hj (Nat.not_lt_zero _)⟩, fun i m H3 hW => ?_⟩
      obtain ⟨em, k3, hlt⟩ := hW
      have k13 := k2.trans k3
      have hA : SqT K H3 a (ns.map V.int) := k13.sqT hS
      have hC : SqT K H3 c ((ns.map V.int).drop 1) := (kt.trans k3).sqT hC1
      by_cases hi : i < ns.length - 1
      · have h1 : i < (ns.map V.int).length := by rw [List.length_map]; omega
        have h2 : i + 1 < (ns.map V.int).length := by rw [List.length_map]; omega
        have g1 : (ns.map V.int)[i]? = some (ns.map V.int)[i] := List.getElem?_eq_getElem h1
        have g2 : ((ns.map V.int).drop 1)[i]? = some (ns.map V.int)[i + 1] := by rw [List.getElem?_drop, Nat.add_comm 1 i]; exact List.getElem?_eq_getElem h2
        refine .inr ⟨⟨_, _, _, _, hA, hC, g1, g2⟩, fun H' => K0 H2 H' ∧ ns.getD i 0 < ns.getD (i + 1) 0, fun H' hN => ?_, fun x H' hy => ?_⟩
        · obtain ⟨k', hl'⟩ := hN
          refine ⟨m - 1, by omega, by omega, k', fun j hj => ?_⟩
          by_cases e : j = i
          · rw [e]; exact hl'
          · exact hlt j (by omega)
        · obtain ⟨T, x1, x2, rfl, nT, rfl, f1, f2⟩ := hy
          have ex1 : x1 = .int (ns.getD i 0) := getI (f1 _ hA)
          have ex2 : x2 = .int (ns.getD (i + 1) 0) := getI (by
            have := f2 _ hC
            rwa [List.getElem?_drop, Nat.add_comm 1 i] at this)
          subst ex1 ex2
          have kT : K0 H3 (upd H3 T (.tup [.int (ns.getD i 0), .int (ns.getD (i + 1) 0)])) := K0.new nT
          refine ⟨T, _, rfl, .inl (.inl upd_same), rfl, _, _, rfl, _, _, rfl, rfl, rfl, tyes ?_⟩
          refine ⟨_, rfl, _, rfl, _, _, rfl, rfl, _, rfl, ?_⟩
          by_cases hb : ns.getD i 0 < ns.getD (i + 1) 0
          · rw [decide_eq_true hb]
            exact iteT ⟨k3.trans kT, hb⟩
          · rw [decide_eq_false hb]
            exact iteF (qeq (q _ (k13.trans kT)) (risI_no hi hb))
      · refine .inl ⟨⟨_, _, hA, hC, .inr (by rw [List.length_drop, List.length_map]; omega)⟩, ?_⟩
        exact qeq (q _ k13) (risI_yes fun j hj => hlt j (by omega))
    refine ⟨.ref a, rfl, .ref a, rfl, 1, rfl, a, _, rfl, hS, fun z => ?_, fun _ c nc => ?_⟩
    · have e0 : (ns.map V.int).drop 1 = ns.map V.int := by
        cases ns with
        | nil => rfl
        | cons v r =>
          have := z.1
          rw [show HT.sIx ((v :: r).map V.int).length 0 (some 1) = min 1 ((v :: r).map V.int).length from HT.sIx_nat _ 0 1, List.length_map, List.length_cons] at this
          omega
      obtain ⟨xs, ys, e, h1, h2, h3⟩ := go a H (K0.refl H) (by rw [e0]; exact hS)
      exact ⟨a, a, xs, ys, rfl, .inr ⟨h1, h2, h3⟩⟩
    · obtain ⟨xs, ys, e, h1, h2, h3⟩ := go c _ (K0.new nc) (by rw [← cut1]; exact .inl (.inl upd_same))
      exact ⟨a, c, xs, ys, rfl, .inr ⟨h1, h2, h3⟩⟩
def spAreP (K : PySem.W.Frag) (Pr Pa : Addr) : Sp := fun vs H Q _ => ∃ (a : Addr) (n : Int) (rs : List R4) (p : Addr) (ns : List Int), vs = [.ref a, .ref p] ∧ NetAt K H a n rs ∧ SqT K H p (ns.map V.int) ∧ TabG H Pr ∧ TabG H Pa ∧ ∀ (H' : Hp) (b : Bool), K0 H H' → (b = true ↔ AreP n ns) → Q (.bl b) H'
theorem ok_arep {f c Pr Pa : Addr} {fd : FuncData} {f_isplace f_rises : Addr} {fd_isplace fd_rises : FuncData} (F : FunC K "are_places" "are_places" sAreP f fd c) (TB : TabB base mg c Pa)
    (k_isplace : PySem.W.keepIn K (.ref f_isplace) = true) (b_isplace : Binds K fd_isplace ["net", "thing"] []) (g_isplace : mg "is_place" = some (.ref f_isplace)) (G_isplace : FnOk P w K mg base CX0 3 f_isplace fd_isplace ["net", "thing"] (spIsPlace K))
    (k_rises : PySem.W.keepIn K (.ref f_rises) = true) (b_rises : Binds K fd_rises ["row"] []) (g_rises : mg "rises" = some (.ref f_rises)) (G_rises : FnOk P w K mg base CX0 2 f_rises fd_rises ["row"] (spRisesI K Pr))
    (m_isinstance : mg "isinstance" = none) (m_tuple : mg "tuple" = none) (m_all : mg "all" = none) : FnOk P w K mg base CX0 5 f fd ["net", "thing"] (spAreP K Pr Pa) := by
  refine F.ok scAreP (fun vs H Q E h => ?_) (fun A outer s H vs Q E hr h => ?_)
  · obtain ⟨a, n, rs, p, ns, rfl, _⟩ := h
    rfl
  · obtain ⟨a, n, rs, p, ns, rfl, hN, hS, tr, ta, q⟩ := h
    refine ⟨_, (pss_cons (ps_if (pt_not (pt_val (pe_callB call_isi (by rfl) m_isinstance boot_isinstance (pa_cons (pv 1) (pa_cons (pe_bltn (v := .ty "tuple") (by rfl) m_tuple (by decide +kernel) rfl) pa_nil))))) (pss_one (ps_ret pe_bl)) pss_nil)
      (pss_one (ps_ret (pe_and (pe_allG (own := [("place", 2)]) (k := 3) (g := (gName 2)) (tt := tYes) (te := (tCall (spIsPlace K) [] E0 (tCons (tVar 0) (tCons (tVar 2) tNil)))) (hr.mono (by decide)) (by rfl) m_all rfl scAreP.nd TB rfl (gsc_by (N := N_scAreP) (sc := defScope sAreP) (by decide +kernel)) (pi_tup (pv 1)) (fun A' hr' _ _ _ _ _ _ => (pg_name (i := 2) scAreP.nd rfl (.inl rfl))) (fun A' hr' _ _ _ _ _ _ => pts_nil) (fun A' hr' _ _ _ _ _ _ => (pe_call G_isplace (hr'.mono (by decide)) (by rfl) g_isplace k_isplace b_isplace .nil pass0 (pa_cons (pv 0) (pa_cons (pv 2) pa_nil))))) (pe_one (pe_call G_rises (hr.mono (by decide)) (by rfl) g_rises k_rises b_rises .nil pass0 (pa_cons (pv 1) pa_nil))))))), ?_⟩
    refine ⟨_, rfl, .ref p, .ty "tuple", .type "tuple", _, true, rfl, .ty "tuple", sqT_ty hS, kit_ty (tys_tuple (by decide)), _, rfl, iteF ?_⟩
    refine ⟨_, rfl, p, rfl, ⟨_, hS⟩, ta, fun H2 hT2 => ?_⟩
    have k2 : K0 H H2 := K0.tbd ta hT2
    refine ⟨fun i m H3 => i + m = ns.length ∧ K0 H H3 ∧ ∀ v ∈ ns.take i, 0 ≤ v ∧ v < n, ⟨ns.length, by omega, k2, fun v hv => by rw [List.take_zero] at hv; cases hv⟩, fun i m H3 hW => ?_⟩
    obtain ⟨em, k3, hall⟩ := hW
    have hA : SqT K H3 p (ns.map V.int) := k3.sqT hS
    by_cases hi : i < ns.length
    · have h1 : i < (ns.map V.int).length := by rw [List.length_map]; omega
      have g1 : (ns.map V.int)[i]? = some (ns.map V.int)[i] := List.getElem?_eq_getElem h1
      have g0 : ns[i]? = some ns[i] := List.getElem?_eq_getElem hi
      refine .inr ⟨⟨_, _, hA, g1⟩, fun H' => K0 H H' ∧ (0 ≤ ns[i] ∧ ns[i] < n), fun H' hN => ⟨m - 1, by omega, by omega, hN.1, fun v hv => ?_⟩, fun x H' hy => ?_⟩
      · rw [List.take_add_one, g0] at hv
        rcases List.mem_append.mp hv with hv | hv
        · exact hall v hv
        · have := List.mem_singleton.mp hv
          subst this
          exact hN.2
      · obtain ⟨rfl, fx⟩ := hy
        have ex : x = .int ns[i] := by
          have := fx _ hA
          rw [List.getElem?_map, g0] at this
          exact (Option.some.inj this).symm
        subst ex
        refine ⟨rfl, tyes ⟨_, rfl, _, rfl, a, n, rs, ns[i], rfl, hN.k0 k3, _, rfl, ?_⟩⟩
        by_cases hb : 0 ≤ ns[i] ∧ ns[i] < n
        · rw [decide_eq_true hb.1, decide_eq_true (show ns[i] ≤ n - 1 by omega)]
          exact iteT ⟨k3, hb⟩
        · have : (decide (0 ≤ ns[i]) && decide (ns[i] ≤ n - 1)) = false := by
            rw [Bool.eq_false_iff]
            intro z
            rw [Bool.and_eq_true, decide_eq_true_iff, decide_eq_true_iff] at z
            exact hb ⟨z.1, by omega⟩
          rw [this]
          exact iteF ⟨_, rfl, iteF (q _ false k3 ⟨fun z => by (cases z), fun z => absurd (z.1 _ (List.getElem_mem hi)) hb⟩)⟩
    · rw [List.take_of_length_le (by omega)] at hall
      refine .inl ⟨⟨_, hA, by rw [List.length_map]; omega⟩, _, rfl, iteT ?_⟩
      refine ⟨_, rfl, p, ns, rfl, hA, k3.tab _ tr, fun H4 k4 => ?_⟩
      exact q _ _ (k3.trans k4) ⟨fun z => ⟨hall, risI_iff.mp z⟩, fun z => risI_iff.mpr z.2⟩
end
end HK

set_option Elab.async false
set_option linter.all false
set_option maxRecDepth 100000
set_option maxHeartbeats 4000000
namespace HK
open PySem PySem.Spec PyProof.Rows L2 GAl GxR
section
variable {P : Program} {w : World} {K : PySem.W.Frag} {mg : Str → Option Value} {base : Heap}
def spPairs (K : PySem.W.Frag) (Pp : Addr) : Sp := fun vs H Q _ => ∃ (p : Addr) (kvs : List (Key × V)) (g : IF), vs = [.ref p] ∧ H p = some (.dK kvs) ∧ DI kvs g ∧ TabG H Pp ∧ ∀ H', K0 H H' → Q (.bl true) H'
end
end HK

set_option Elab.async false
set_option linter.all false
set_option maxRecDepth 100000
set_option maxHeartbeats 2000000
namespace HkX
open PySem PySem.Spec PyProof.Rows L2
/-- a thing's own truth -/
def tTruK (K : PySem.W.Frag) (te : TE) : TT := fun σ H Q => te σ H fun x H' => ∃ k, TruV K x H' k ∧ Q k H'
section
variable {X : Cx}
/-- max(xs, default=d) of a list of whole numbers -/
def rMaxDef (K : PySem.W.Frag) : List V → List V → Hp → VK → Prop := fun vs zs H Q => ∃ (a : Addr) (ns : List Int) (d : Int), vs = [V.ref a] ∧ zs = [.int d] ∧ SqL K H a (ns.map V.int) ∧ (ns = [] → Q (.int d) H) ∧ (∀ (n : Int) (r : List Int), ns = n :: r → Q (.int (r.foldl max n)) H)
theorem vals_intsR : ∀ (ns : List Int) (us : List Value) (h : Heap), Vals (ns.map V.int) us → ∃ as, PySem.ReadsAll h us (ns.map PyData.int) as
  | [], us, h, r => by
    cases r
    exact ⟨_, PySem.ReadsAll.nil⟩
  | n :: ns, us, h, r => by
    cases r with
    | cons r1 r2 =>
      obtain ⟨as, q⟩ := vals_intsR ns _ h r2
      obtain ⟨t, rfl⟩ := (show ∃ t, _ = Value.int n t from r1)
      exact ⟨_, PySem.ReadsAll.cons (PySem.Reads.int n t) q⟩
theorem cr_maxDef (hc : X.calm = true) (hu : X.A.units + 3 < cLine) : CallRK X (.builtin "max") [Str.ofString "default"] (rMaxDef X.K) := by
  intro pins s σ H vs zs us ws Q I r rz h
  obtain ⟨a, ns, d, rfl, rfl, hs, q0, q1⟩ := h
  obtain rfl := Vals.ref1 r
  obtain ⟨its, rv, hl, _⟩ := I.list hs
  obtain ⟨w1, rfl, e1⟩ := vals1 rz
  obtain ⟨t1, rfl⟩ := (show ∃ t, w1 = Value.int d t from e1)
  obtain ⟨as, hr⟩ := vals_intsR ns its s.heap rv
  have hd : ∀ l : List Int, PyData.depthAll (l.map PyData.int) ≤ 1 := fun l => by
    induction l with
    | nil => exact Nat.zero_le _
    | cons n r ih =>
      rw [List.map_cons]
      simp only [PyData.depthAll, PyData.depth]
      omega
  refine PySem.W.max_list_default (I.ok.hd hc) hl.isList hr ⟨fun x hx y hy => ?_, fun x hx => ?_⟩ (by have := hd ns; omega) (fun e h' tk hk => ?_) (fun y ys i v h' tk bs e hv r hk => ?_)
  · obtain ⟨i, _, rfl⟩ := List.mem_map.mp hx
    obtain ⟨j, _, rfl⟩ := List.mem_map.mp hy
    rfl
  · obtain ⟨i, _, rfl⟩ := List.mem_map.mp hx
    intro z; cases z
  · exact ⟨.int d, H, I.kept hk, ⟨_, rfl⟩, q0 (List.map_eq_nil_iff.mp e)⟩
  · cases ns with
    | nil => cases e
    | cons n r0 =>
      rw [List.map_cons] at e
      obtain ⟨rfl, rfl⟩ := List.cons.inj e
      rw [PySem.W.maxD_ints] at r
      cases r
      exact ⟨.int _, H, I.kept hk, ⟨_, rfl⟩, q1 n r0 rfl⟩
end
section
variable {X : Cx}
/-- d != e, two dicts of the same keys and the same objects -/
def rNeDS : R2 := fun x y H Q => ∃ a b ks ls, x = .ref a ∧ y = .ref b ∧ H a = some (.dK ks) ∧ H b = some (.dK ls) ∧ ks.length = ls.length ∧ (∀ p ∈ ks, valV ls p.1 = some p.2 ∧ (flatB p.2 = true ∨ ∃ c, p.2 = .ref c)) ∧ Q (.bl false) H
theorem hits_same {A : Around} {s : Shared} {kvs : List (Key × V)} {vb : List (Key × Value)} (rb : KV kvs vb) {ks : List (Key × V)} {va : List (Key × Value)} (ra : KV ks va) :
    (∀ p ∈ ks, valV kvs p.1 = some p.2 ∧ (flatB p.2 = true ∨ ∃ c, p.2 = .ref c)) → PySem.W.KeqHits A s vb va true := by
  unfold KV at ra
  induction ra with
  | nil => intro _; exact .nil
  | @cons p q ps qs h t ih =>
    intro hp
    obtain ⟨h1, h2⟩ := h
    obtain ⟨e, f⟩ := hp p List.mem_cons_self
    have rr : RelO (some p.2) (valueAt vb p.1) := by rw [← e]; exact rb.val p.1
    obtain ⟨y, hy, ry⟩ := rr.some_of
    obtain ⟨k, v⟩ := q
    have h1' : p.1 = k := h1
    rw [h1'] at hy
    show PySem.W.KeqHits A s vb ((k, v) :: qs) (true && true)
    rcases f with f | ⟨c, f⟩
    · exact .hit hy (eqAt_same h2 ry f) (ih fun p' hm => hp p' (List.mem_cons_of_mem _ hm))
    · rw [f] at h2 ry
      cases (show v = Value.ref c from h2)
      cases (show y = Value.ref c from ry)
      exact .hit hy (SeqAt.EqAt.same _) (ih fun p' hm => hp p' (List.mem_cons_of_mem _ hm))
theorem op_neDS (hu : X.A.units < cLine) : OpR X (compareOp .NotEq) rNeDS := by
  intro pins s σ H x y v u Q I rx ry h
  obtain ⟨a, b, ks, ls, rfl, rfl, ea, eb, hlen, hp, q⟩ := h
  obtain rfl : v = Value.ref a := rx
  obtain rfl : u = Value.ref b := ry
  obtain ⟨_, ya, va, ra, da⟩ := (show ObjOk X.prog X.w H s.heap a (.dK ks) from I.hok a _ ea)
  obtain ⟨_, yb, vb, rb, db⟩ := (show ObjOk X.prog X.w H s.heap b (.dK ls) from I.hok b _ eb)
  have hl : va.length = vb.length := by rw [← ra.length, ← rb.length]; exact hlen
  exact PySem.W.keq_ne (knd := mixKind X.prog X.w) (r := true) ya yb da db hu (fun _ => hits_same rb ra hp) (fin_bl I q (by simp [hl]))
end
end HkX

set_option Elab.async false
set_option linter.all false
set_option maxRecDepth 100000
set_option maxHeartbeats 4000000
namespace HK
open PySem PySem.Spec PyProof.Rows L2 GAl GxR
open Evl (pss_cut)
abbrev sNums : Stmt := topS 46
abbrev N_scNums : List Str := ["thing", "number"]
theorem scNums : FnScope N_scNums ["thing"] (defScope sNums) := ⟨rfl, rfl, rfl, by decide +kernel, rfl, by decide +kernel, by decide +kernel⟩
abbrev sHasN : Stmt := topS 45
abbrev N_scHasN : List Str := ["thing", "place", "numbers"]
theorem scHasN : FnScope N_scHasN ["thing"] (defScope sHasN) := ⟨rfl, rfl, rfl, by decide +kernel, rfl, by decide +kernel, by decide +kernel⟩
/-! ### dicts of rising tuples of numbers -/
abbrev KpL := List (Int × List Int)
def KVs (K : PySem.W.Frag) (H : Hp) (kvs : List (Key × V)) (kps : KpL) : Prop := kvs.length = kps.length ∧ ∀ (i : Nat) (p : Int) (ms : List Int), kps[i]? = some (p, ms) → ∃ q : Addr, kvs[i]? = some (.inl p, .ref q) ∧ SqT K H q (ms.map V.int)
theorem KVs.k0 {K : PySem.W.Frag} {H H' : Hp} {kvs : List (Key × V)} {kps : KpL} (h : KVs K H kvs kps) (k : K0 H H') : KVs K H' kvs kps := ⟨h.1, fun i p ms e => by
  obtain ⟨q, a, b⟩ := h.2 i p ms e
  exact ⟨q, a, k.sqT b⟩⟩
theorem KVs.kt {K : PySem.W.Frag} {t : Addr} {H H' : Hp} {kvs : List (Key × V)} {kps : KpL} (h : KVs K H kvs kps) (k : Kt t H H') : KVs K H' kvs kps := ⟨h.1, fun i p ms e => by
  obtain ⟨q, a, b⟩ := h.2 i p ms e
  exact ⟨q, a, k.sqT b⟩⟩
theorem KVs.at_ {K : PySem.W.Frag} {H : Hp} {kvs : List (Key × V)} {kps : KpL} (h : KVs K H kvs kps) {i : Nat} {kv : Key × V} (e : kvs[i]? = some kv) : ∃ (p : Int) (ms : List Int) (q : Addr), kps[i]? = some (p, ms) ∧ kv = (.inl p, .ref q) ∧ SqT K H q (ms.map V.int) := by
  have hi : i < kps.length := by rw [← h.1]; exact (List.getElem?_eq_some_iff.mp e).1
  obtain ⟨q, a, b⟩ := h.2 i kps[i].1 kps[i].2 (List.getElem?_eq_getElem hi)
  rw [e] at a
  cases a
  exact ⟨_, _, q, List.getElem?_eq_getElem hi, rfl, b⟩
structure KpOk (n : Int) (kps : KpL) : Prop where
  up : (kps.map (·.1)).Pairwise (· < ·)
  inn : ∀ p ∈ kps, 0 ≤ p.1 ∧ p.1 < n
  up2 : ∀ p ∈ kps, p.2.Pairwise (· < ·)
  nn : ∀ p ∈ kps, ∀ v ∈ p.2, 0 ≤ v
  few : ∀ p ∈ kps, p.2.length ≤ 10
theorem KpOk.nodup {n : Int} {kps : KpL} (h : KpOk n kps) : (kps.map (·.1)).Nodup := h.up.imp fun a => Int.ne_of_lt a
theorem KpOk.len {n : Int} {kps : KpL} (h : KpOk n kps) (hn : n ≤ 12) : kps.length ≤ 12 := by
  have a : AreP n (kps.map (·.1)) := ⟨fun v hv => by
    obtain ⟨p, hp, rfl⟩ := List.mem_map.mp hv
    exact h.inn p hp, h.up⟩
  have := a.len
  rw [List.length_map] at this
  omega
section
variable {P : Program} {w : World} {K : PySem.W.Frag} {mg : Str → Option Value} {base : Heap}
def spNums (K : PySem.W.Frag) (Pr Pu : Addr) : Sp := fun vs H Q _ => ∃ (q : Addr) (ms : List Int), vs = [.ref q] ∧ SqT K H q (ms.map V.int) ∧ ms.Pairwise (· < ·) ∧ (∀ v ∈ ms, 0 ≤ v) ∧ TabG H Pr ∧ TabG H Pu ∧ ∀ H', K0 H H' → Q (.bl true) H'
theorem ok_nums {f c Pr Pu : Addr} {fd : FuncData} {f_whole f_rises : Addr} {fd_whole fd_rises : FuncData} (F : FunC K "are_numbers" "are_numbers" sNums f fd c) (TB : TabB base mg c Pu) (k_whole : PySem.W.keepIn K (.ref f_whole) = true) (b_whole : Binds K fd_whole ["thing"] []) (g_whole : mg "is_whole" = some (.ref f_whole)) (G_whole : FnOk P w K mg base CX0 1 f_whole fd_whole ["thing"] (spWhole K))
    (k_rises : PySem.W.keepIn K (.ref f_rises) = true) (b_rises : Binds K fd_rises ["row"] []) (g_rises : mg "rises" = some (.ref f_rises)) (G_rises : FnOk P w K mg base CX0 2 f_rises fd_rises ["row"] (spRisesI K Pr))
    (m_isinstance : mg "isinstance" = none) (m_tuple : mg "tuple" = none) (m_all : mg "all" = none) : FnOk P w K mg base CX0 3 f fd ["thing"] (spNums K Pr Pu) := by
  refine F.ok scNums (fun vs H Q E h => ?_) (fun A outer s H vs Q E hr h => ?_)
  · obtain ⟨q, ms, rfl, _⟩ := h
    rfl
  · obtain ⟨q1, ms, rfl, hS, hup, hnn, tr, tu, q⟩ := h
    have hu := hu_of hr
    refine ⟨_, (pss_cons (ps_if (pt_not (pt_val (pe_callB call_isi (by rfl) m_isinstance boot_isinstance (pa_cons (pv 0) (pa_cons (pe_bltn (v := .ty "tuple") (by rfl) m_tuple (by decide +kernel) rfl) pa_nil))))) (pss_one (ps_ret pe_bl)) pss_nil)
      (pss_one (ps_ret (pe_and (pe_allG (own := [("number", 1)]) (k := 1) (g := (gName 1)) (tt := tYes) (te := (tAndV (tCall (spWhole K) [] E0 (tCons (tVar 1) tNil)) (tOp (rI0 fun i j => .bl (decide (j ≤ i))) (tVar 1) (tC (.int 0))))) (hr.mono (by decide)) (by rfl) m_all rfl scNums.nd TB rfl (gsc_by (N := N_scNums) (sc := defScope sNums) (by decide +kernel)) (pi_tup (pv 0)) (fun A' hr' _ _ _ _ _ _ => (pg_name (i := 1) scNums.nd rfl (.inl rfl))) (fun A' hr' _ _ _ _ _ _ => pts_nil) (fun A' hr' _ _ _ _ _ _ => (pe_and (pe_call G_whole (hr'.mono (by decide)) (by rfl) g_whole k_whole b_whole .nil pass0 (pa_cons (pv 1) pa_nil)) (pe_one (pe_cmpR op_ge (pv 1) pe_int (nomark _)))))) (pe_one (pe_call G_rises (hr.mono (by decide)) (by rfl) g_rises k_rises b_rises .nil pass0 (pa_cons (pv 0) pa_nil))))))), ?_⟩
    refine ⟨_, rfl, .ref q1, .ty "tuple", .type "tuple", _, true, rfl, .ty "tuple", sqT_ty hS, kit_ty (tys_tuple (by decide)), _, rfl, iteF ?_⟩
    refine ⟨_, rfl, q1, rfl, ⟨_, hS⟩, tu, fun H2 hT2 => ?_⟩
    have k2 : K0 H H2 := K0.tbd tu hT2
    refine ⟨fun i m H3 => i + m = ms.length ∧ K0 H H3, ⟨ms.length, by omega, k2⟩, fun i m H3 hW => ?_⟩
    obtain ⟨em, k3⟩ := hW
    have hA : SqT K H3 q1 (ms.map V.int) := k3.sqT hS
    by_cases hi : i < ms.length
    · have h1 : i < (ms.map V.int).length := by rw [List.length_map]; omega
      have g1 : (ms.map V.int)[i]? = some (ms.map V.int)[i] := List.getElem?_eq_getElem h1
      have g0 : ms[i]? = some ms[i] := List.getElem?_eq_getElem hi
      refine .inr ⟨⟨_, _, hA, g1⟩, fun H' => K0 H H', fun H' hN => ⟨m - 1, by omega, by omega, hN⟩, fun x H' hy => ?_⟩
      obtain ⟨rfl, fx⟩ := hy
      have ex : x = .int ms[i] := by
        have := fx _ hA
        rw [List.getElem?_map, g0] at this
        exact (Option.some.inj this).symm
      subst ex
      refine ⟨rfl, tyes ⟨_, rfl, .int ms[i], .int ms[i], rfl, .int ms[i], _, rfl, iteT ⟨_, rfl, _, 0, rfl, rfl, _, rfl, ?_⟩⟩⟩
      rw [decide_eq_true (hnn _ (List.getElem_mem hi))]
      exact iteT k3
    · refine .inl ⟨⟨_, hA, by rw [List.length_map]; omega⟩, _, rfl, iteT ⟨_, rfl, q1, ms, rfl, hA, k3.tab _ tr, fun H4 k4 => ?_⟩⟩
      rw [risI_iff.mpr hup]
      exact q _ (k3.trans k4)
def spHasN (K : PySem.W.Frag) (Pr Pu Ph : Addr) : Sp := fun vs H Q _ => ∃ (d : Addr) (kvs : List (Key × V)) (kps : KpL) (n : Int), vs = [.ref d] ∧ H d = some (.dK kvs) ∧ KVs K H kvs kps ∧ KpOk n kps ∧ TabG H Pr ∧ TabG H Pu ∧ TabG H Ph ∧ ∀ H', K0 H H' → Q (.bl true) H'
theorem ok_hasn {f c Pr Pu Ph : Addr} {fd : FuncData} {f_whole f_arenumbers : Addr} {fd_whole fd_arenumbers : FuncData} (F : FunC K "has_numbers" "has_numbers" sHasN f fd c) (TB : TabB base mg c Ph) (k_whole : PySem.W.keepIn K (.ref f_whole) = true) (b_whole : Binds K fd_whole ["thing"] []) (g_whole : mg "is_whole" = some (.ref f_whole)) (G_whole : FnOk P w K mg base CX0 1 f_whole fd_whole ["thing"] (spWhole K))
    (k_arenumbers : PySem.W.keepIn K (.ref f_arenumbers) = true) (b_arenumbers : Binds K fd_arenumbers ["thing"] []) (g_arenumbers : mg "are_numbers" = some (.ref f_arenumbers)) (G_arenumbers : FnOk P w K mg base CX0 3 f_arenumbers fd_arenumbers ["thing"] (spNums K Pr Pu))
    (m_isinstance : mg "isinstance" = none) (m_dict : mg "dict" = none) (m_all : mg "all" = none) : FnOk P w K mg base CX0 5 f fd ["thing"] (spHasN K Pr Pu Ph) := by
  refine F.ok scHasN (fun vs H Q E h => ?_) (fun A outer s H vs Q E hr h => ?_)
  · obtain ⟨d, kvs, kps, n, rfl, _⟩ := h
    rfl
  · obtain ⟨p, kvs, kps, n, rfl, hp, hK, hO, tr, tu, th, q⟩ := h
    have hu := hu_of hr
    refine ⟨_, (pss_cons (ps_if (pt_not (pt_val (pe_callB call_isi (by rfl) m_isinstance boot_isinstance (pa_cons (pv 0) (pa_cons (pe_bltn (v := .ty "dict") (by rfl) m_dict (by decide +kernel) rfl) pa_nil))))) (pss_one (ps_ret pe_bl)) pss_nil)
      (pss_one (ps_ret (pe_lock (pe_allG (own := [("place", 1), ("numbers", 2)]) (k := 3) (g := (gTup K 2 (gCons (gName 1) (gCons (gName 2) gNil)))) (tt := tYes) (te := (tAndV (tCall (spWhole K) [] E0 (tCons (tVar 1) tNil)) (tCall (spNums K Pr Pu) [] E0 (tCons (tVar 2) tNil)))) (hr.mono (by decide)) (by rfl) m_all rfl scHasN.nd TB rfl (gsc_by (N := N_scHasN) (sc := defScope sHasN) (by decide +kernel)) (pi_items (pv 0)) (fun A' hr' _ _ _ _ _ _ => (pg_tup rfl (pgs_cons (pg_name (i := 1) scHasN.nd rfl (.inl rfl)) (pgs_cons (pg_name (i := 2) scHasN.nd rfl (.inl rfl)) pgs_nil)))) (fun A' hr' _ _ _ _ _ _ => pts_nil) (fun A' hr' _ _ _ _ _ _ => (pe_and (pe_call G_whole (hr'.mono (by decide)) (by rfl) g_whole k_whole b_whole .nil pass0 (pa_cons (pv 1) pa_nil)) (pe_one (pe_call G_arenumbers (hr'.mono (by decide)) (by rfl) g_arenumbers k_arenumbers b_arenumbers .nil pass0 (pa_cons (pv 2) pa_nil)))))))))), ?_⟩
    refine ⟨_, rfl, .ref p, .ty "dict", .type "dict", _, true, rfl, .ty "dict", .base (.dK hp), kit_ty (tys_dict (by decide)), _, rfl, iteF ?_⟩
    refine ⟨p, _, hp, trivial, fun od => ⟨_, rfl, p, od, kvs, rfl, upd_same, tabG_lock hp (fun _ z => by cases z) th, fun H2 hT2 => ?_⟩⟩
    have k2 : K0 (upd H p (.frz od (.dK kvs))) H2 := K0.tbd (tabG_lock hp (fun _ z => by cases z) th) hT2
    refine ⟨fun i m H3 => i + m = kvs.length ∧ K0 (upd H p (.frz od (.dK kvs))) H3, ⟨kvs.length, by omega, k2⟩, fun i m H3 hW => ?_⟩
    obtain ⟨em, k3⟩ := hW
    have hp3 : H3 p = some (.frz od (.dK kvs)) := k3.oth p _ upd_same (fun _ z => by cases z)
    have kl : ∀ {b : Addr} {xs : List V}, SqT K H b xs → SqT K (upd H p (.frz od (.dK kvs))) b xs := fun {b xs} hb => sqT_lock hb hp
    by_cases hi : i < kvs.length
    · refine .inr ⟨⟨hp3, hi⟩, fun H' => K0 (upd H p (.frz od (.dK kvs))) H', fun H' hN => ⟨m - 1, by omega, by omega, hN⟩, fun x H' hy => ?_⟩
      obtain ⟨T, k, v, hkv, rfl, nT, rfl⟩ := hy
      obtain ⟨j, ms, qq, e1, e, hq⟩ := hK.at_ hkv
      cases e
      have hm := List.mem_of_getElem? e1
      refine ⟨T, _, rfl, .inl (.inl upd_same), rfl, _, _, rfl, _, _, rfl, rfl, rfl, tyes ?_⟩
      have kT := k3.trans (K0.new nT (o := .tup [.int j, .ref qq]))
      refine ⟨_, rfl, .int j, .int j, rfl, .int j, _, rfl, iteT ⟨_, rfl, qq, ms, rfl, kT.sqT (kl hq), hO.up2 _ hm, hO.nn _ hm, kT.tab _ (tabG_lock hp (fun _ z => by cases z) tr), kT.tab _ (tabG_lock hp (fun _ z => by cases z) tu), fun H9 k9 => ⟨_, rfl, iteT (kT.trans k9)⟩⟩⟩
    · exact .inl ⟨⟨hp3, by omega⟩, hp3, q _ (K0.lock hp (fun _ z => by cases z) k3)⟩
end
end HK

set_option Elab.async false
set_option linter.all false
set_option maxRecDepth 100000
set_option maxHeartbeats 4000000
namespace HK
open PySem PySem.Spec PyProof.Rows L2 GAl GxR
open Evl (pss_cut)
/-- the number to go on with, less one -/
def lastsK (kps : KpL) : List Int := kps.filterMap fun p => p.2.getLast?
def topK (kps : KpL) : Int := match lastsK kps with
  | [] => -1
  | n :: r => r.foldl max n
def nextV (kps : KpL) : List Int → Option (Int × Int)
  | [] => none
  | p :: r => if p ∈ kps.map (·.1) then some (p, 1 + topK kps) else nextV kps r
theorem KVs.keys {K : PySem.W.Frag} {H : Hp} {kvs : List (Key × V)} {kps : KpL} (h : KVs K H kvs kps) : kvs.map (·.1) = kps.map fun p => (.inl p.1 : Key) := by
  refine List.ext_getElem? fun i => ?_
  rw [List.getElem?_map, List.getElem?_map]
  cases e : kps[i]? with
  | none =>
    have : kvs.length ≤ i := by rw [h.1]; exact List.getElem?_eq_none_iff.mp e
    rw [List.getElem?_eq_none this]
    rfl
  | some p =>
    obtain ⟨q, a, _⟩ := h.2 i p.1 p.2 e
    rw [a]
    rfl
theorem KVs.nd {K : PySem.W.Frag} {H : Hp} {kvs : List (Key × V)} {kps : KpL} (h : KVs K H kvs kps) (n : (kps.map (·.1)).Nodup) : (kvs.map (·.1)).Nodup := by
  rw [h.keys]
  refine List.pairwise_map.mpr ?_
  exact (List.pairwise_map.mp n).imp fun a z => a (Sum.inl.inj z)
theorem KVs.val {K : PySem.W.Frag} {H : Hp} {kvs : List (Key × V)} {kps : KpL} (h : KVs K H kvs kps) (n : (kps.map (·.1)).Nodup) {p : Int} {ms : List Int} (hm : (p, ms) ∈ kps) : ∃ q : Addr, valV kvs (.inl p) = some (.ref q) ∧ SqT K H q (ms.map V.int) := by
  obtain ⟨i, hi, e⟩ := List.mem_iff_getElem.mp hm
  obtain ⟨q, a, b⟩ := h.2 i p ms (by rw [List.getElem?_eq_getElem hi, e])
  exact ⟨q, valV_mem (p := (.inl p, .ref q)) (h.nd n) (List.mem_of_getElem? a), b⟩
theorem KVs.isS {K : PySem.W.Frag} {H : Hp} {kvs : List (Key × V)} {kps : KpL} (h : KVs K H kvs kps) (n : (kps.map (·.1)).Nodup) (p : Int) : (valV kvs (.inl p)).isSome = decide (p ∈ kps.map (·.1)) := by
  by_cases hp : p ∈ kps.map (·.1)
  · obtain ⟨⟨p', ms⟩, hm, rfl⟩ := List.mem_map.mp hp
    obtain ⟨q, e, _⟩ := h.val n hm
    rw [decide_eq_true hp]
    show (valV kvs (.inl p')).isSome = true
    rw [e]; rfl
  · rw [decide_eq_false hp]
    cases e : valV kvs (.inl p) with
    | none => rfl
    | some v =>
      have h1 : (.inl p : Key) ∈ kvs.map (·.1) := valV_in e
      rw [h.keys] at h1
      obtain ⟨r, hr, er⟩ := List.mem_map.mp h1
      cases er
      exact absurd (List.mem_map.mpr ⟨r, hr, rfl⟩) hp
section
variable {P : Program} {w : World} {K : PySem.W.Frag} {mg : Str → Option Value} {base : Heap}
def spNextR (K : PySem.W.Frag) (Pr Pu Ph : Addr) : Sp := fun vs H Q _ => ∃ (d a : Addr) (kvs : List (Key × V)) (kps : KpL) (n : Int) (ps : List Int), vs = [.ref d, .ref a] ∧ H d = some (.dK kvs) ∧ KVs K H kvs kps ∧ KpOk n kps ∧ n ≤ 12 ∧ SqL K H a (ps.map V.int) ∧ TabG H Pr ∧ TabG H Pu ∧ TabG H Ph ∧
  (nextV kps ps = none → ∀ H', K0 H H' → Q .non H') ∧ (∀ p m, nextV kps ps = some (p, m) → ∀ (q : Addr) (H' : Hp), K0 H H' → SqT K H' q [.int p, .int m] → Q (.ref q) H')
end
end HK

set_option Elab.async false
set_option linter.all false
set_option maxRecDepth 100000
set_option maxHeartbeats 4000000
namespace HK
open PySem PySem.Spec PyProof.Rows L2 GAl GxR
open Evl (pss_cut)
/-- places out of which no road leads -/
def ClosedP (n : Int) (rs : List R4) (root : Int) (ns : List Int) : Prop := AreP n ns ∧ root ∈ ns ∧ ∀ r ∈ rs, r.s ∈ ns → r.e ∈ ns
theorem flatI (ns : List Int) : (ns.map V.int).all flatV = true := by
  rw [List.all_map, List.all_eq_true]
  exact fun _ _ => rfl
theorem inI_iff {i : Int} {js : List Int} : inV (.int i) (js.map V.int) = true ↔ i ∈ js := by
  unfold inV
  rw [List.any_map, List.any_eq_true]
  constructor
  · rintro ⟨x, hx, e⟩
    have e : (x == i) = true := e
    rw [← beq_iff_eq.mp e]; exact hx
  · intro h
    exact ⟨i, h, by simp [eqV]⟩
theorem inI {k : Int} {ns : List Int} : inV (V.int k) (ns.map V.int) = decide (k ∈ ns) := by
  rw [Bool.eq_iff_iff, inI_iff, decide_eq_true_iff]
section
variable {P : Program} {w : World} {K : PySem.W.Frag} {mg : Str → Option Value} {base : Heap}
def spIsClosed (K : PySem.W.Frag) (Pn Pr Pa Pc : Addr) : Sp := fun vs H Q _ => ∃ (a : Addr) (n : Int) (rs : List R4) (root : Int) (p : Addr) (ns : List Int), vs = [.ref a, .int root, .ref p] ∧ NetAt K H a n rs ∧ Good n rs ∧ rs.length ≤ 156 ∧ 0 ≤ root ∧ root < n ∧ SqT K H p (ns.map V.int) ∧ ns.length ≤ 1000 ∧
  TbL H [Pn, Pr, Pa, Pc] ∧ ∀ (H' : Hp) (b : Bool), K0 H H' → (b = true ↔ ClosedP n rs root ns) → Q (.bl b) H'
end
end HK

set_option Elab.async false
set_option linter.all false
set_option maxRecDepth 100000
set_option maxHeartbeats 2000000
namespace GAl
open PySem PySem.Spec PyProof.Rows L2 GxR
open Sem (wp)
/-! ### generator expressions whose consumer keeps a record S of its own -/

theorem Inv.kallS {X : Cx} {ps : List (Addr × Obj)} {S : Addr} {oS oS' : Obj} {σ : L2.St} {H : Hp} {s s'' : Shared} (I : Inv X (ps ++ [(S, oS)]) σ H s) (hy : S ∈ X.ex ∨ X.s_0.heap.objs.size ≤ S) (hps : ∀ p ∈ X.pn ++ ps, p.1 ≠ S)
    (ho : s''.os = s.os) (hb : AllBare s''.gens) (k : ∀ b o, b ≠ S → s.heap.get? b = some o → s''.heap.get? b = some o) (hS : s''.heap.get? S = some oS') (hd : ∀ v, oS'.data ≠ .cell v) : Inv X (ps ++ [(S, oS')]) σ H s'' := by
  obtain ⟨h1, h2, h3, h4, h5⟩ := I.pin (S, oS) (List.mem_append_right _ (List.mem_append_right _ (List.mem_singleton.mpr rfl)))
  have hcell : ∀ x c, X.env.cells.lookup x = some c → c ≠ S := fun x c e z => by
    obtain ⟨v, o, q, d⟩ := I.cell x c e
    have h1 : s.heap.get? S = some oS := h1
    rw [z, h1] at q
    cases q
    exact h5 _ d
  have I' : Inv X ps σ H s := I.unpinned
  have I1 := I'.turned (it := S) (h' := s''.heap) (t' := s.toks) k h2 h3 hy hcell hps
  have I2 : Inv X ps σ H s'' := Inv.kall I1 ho hb (fun _ _ e => e)
  refine I2.pins_of fun p hp => ?_
  rcases List.mem_append.mp hp with hp | hp
  · exact I2.pin p (List.mem_append_right _ hp)
  · have := List.mem_singleton.mp hp
    subst this
    exact ⟨hS, h2, h3, h4, hd⟩

section
variable {G : Type}
def REndS (XG : Cx) (a : Addr) (oa : Obj) (S : Addr) (Rep : Obj → G → Prop) (σw : L2.St) (Qd : G → Hp → Prop) : Nat → Shared → Shared → Prop := fun _ s₀ s₁ =>
  ∃ γ oS H4, s₀.heap.get? S = some oS ∧ Rep oS γ ∧ Inv XG ([(a, oa)] ++ [(S, oS)]) σw H4 s₁ ∧ Qd γ H4
def YOutS (XG : Cx) (a : Addr) (oa : Obj) (S : Addr) (Rep : Obj → G → Prop) (stp : G → V → Hp → (G → Prop) → Prop) : Protocol := fun _ s₀ v s kap =>
  ∃ γ oS y H4 σ4, s₀.heap.get? S = some oS ∧ Rep oS γ ∧ Inv XG ([(a, oa)] ++ [(S, oS)]) σ4 H4 s ∧ RelV y v ∧
    stp γ y H4 (fun γ' => ∀ (s'' : Shared) (oS' : Obj), s''.os = s.os → AllBare s''.gens → (∀ b o, b ≠ S → s.heap.get? b = some o → s''.heap.get? b = some o) → s''.heap.get? S = some oS' → Rep oS' γ' → (∀ v, oS'.data ≠ .cell v) → kap (.send .none) s'')
/-- what a turn asks -/
def GTurnS (J : It) (g : TG) (tt : TT) (te : TE) (vs : List Nat) (σw : L2.St) (Qd : Nat → G → Hp → Prop) (stp : G → V → Hp → (G → Prop) → Prop) (W : Nat → Nat → G → Hp → Prop) : Prop :=
  ∀ i m γ H, W i m γ H → (J.stop i H ∧ Qd m γ H) ∨ (J.go i H ∧ ∃ Nx : G → Hp → Prop, (∀ γ' H', Nx γ' H' → ∃ m', m' < m ∧ W (i + 1) m' γ' H') ∧ ∀ x H', J.yld i H x H' → g x σw H' fun σ2 H2 => wipe σ2 vs = σw ∧ tt σ2 H2 fun b H3 =>
    if b = true then te σ2 H3 fun y H4 => stp γ y H4 (fun γ' => Nx γ' H4) else Nx γ H3)
/-- one turn of the last clause -/
@[reducible] def turnOf (tg iter : Expr) (ifs : List Expr) (elt : Expr) (it : Value) (cenv : Env) (c : Code) : Sem Fin := do
  standAt iter.pos
  match ← pyNext it with
  | none => pure (.done .next)
  | some v =>
    letOwnedTupleGo tg it v
    assign tg cenv v
    let mut ok := true
    for c in ifs do
      if ok then ok ← isTrue c cenv (eval c cenv)
    if ok then
      (do let v ← eval elt cenv; standAt elt.pos; let _ ← yieldOut cenv v)
    again c
/-- what the iterator's objects are, whatever stands in the heap -/
def FpSt (X : Cx) (b : Addr) : Prop := b ≠ X.env.locals ∧ b ∉ X.fs ∧ (b ∈ X.ex ∨ X.s_0.heap.objs.size ≤ b) ∧ (∀ x c, X.env.cells.lookup x = some c → c ≠ b)
end

section
variable {G : Type} {X XG XI : Cx} {elt tg iter : Expr} {ifs : List Expr} {it a S : Addr} {oa : Obj} {fp : List Addr} {cenv : Env} {AG : Around} {c : Code} {fs : List Frame} {lv : Value → Sem Unit} {J : It} {tn : Nat → Heap → Prop} {R : GenEnd} {ps : List (Addr × Obj)}
  {g : TG} {tt : TT} {te : TE} {vs : List Nat} {σw : L2.St} {Qd : Nat → G → Hp → Prop} {Rep : Obj → G → Prop} {stp : G → V → Hp → (G → Prop) → Prop} {W : Nat → Nat → G → Hp → Prop}

theorem gen_loopS (hA : XI.A = AG.over c fs) (hP : XI.prog = X.prog) (hw : XI.w = X.w) (hK : XI.K = X.K) (hcalm : XI.calm = true) (henv : XI.env = cenv) (hxe : XI.xe = fun _ _ => False) (hpn : XI.pn = [])
    (hden : (model X.prog X.w).den c = (turnOf tg iter ifs elt (.ref it) cenv c).onRaise lv) (hcq : c.quiet = true) (hfs : splitAtGen fs = none) (hfg : fs.any Frame.guarded = false)
    (hco : cenv.scope.isCoroutine = false) (T : Turn X.prog X.w X.K tg J fp it tn) (hst : ∀ b ∈ fp, FpSt XI b) (hSy : S ∈ XI.ex ∨ XI.s_0.heap.objs.size ≤ S) (hSfp : ∀ b ∈ fp, S ≠ b) (hpsS : ∀ p ∈ ps, p.1 ≠ S) (hpsf : ∀ p ∈ ps, ∀ b ∈ fp, p.1 ≠ b) (haps : (a, oa) ∈ ps)
    (hmono : ∀ γ y H (p q : G → Prop), (∀ γ', p γ' → q γ') → stp γ y H p → stp γ y H q)
    (htr : ∀ ps σ H s, Inv XI ps σ H s → Inv XG ps σ H s)
    (hend : ∀ m n γ oS s₀ s H, m < n → s₀.heap.get? S = some oS → Rep oS γ → Inv XI (ps ++ [(S, oS)]) σw H s → Qd m γ H → Seg (model X.prog X.w) AG R (YOutS XG a oa S Rep stp) n s₀ c (leafOf (.ok .next)) fs s)
    (pg : PG XI tg g) (pt : PTs XI ifs tt) (pe : PE XI elt te) (hW : GTurnS J g tt te vs σw Qd stp W) :
    ∀ (m n i : Nat) (γ : G) (oS : Obj) (s₀ s : Shared) (H : Hp), m < n → W i m γ H → s₀.heap.get? S = some oS → Rep oS γ → Inv XI (ps ++ [(S, oS)]) σw H s → tn i s.heap → (∀ b ∈ fp, H b = none) →
      Seg (model X.prog X.w) AG R (YOutS XG a oa S Rep stp) n s₀ c ((model X.prog X.w).den c) fs s := by
  have stat : ∀ {oS : Obj} {σ' : L2.St} {H' : Hp} {s' : Shared}, Inv XI (ps ++ [(S, oS)]) σ' H' s' → (∀ b ∈ fp, H' b = none) → ∀ b ∈ fp, FpOk XI (ps ++ [(S, oS)]) H' b := fun {oS σ' H' s'} I' hn b hb =>
    ⟨hn b hb, (hst b hb).1, (hst b hb).2.1, (hst b hb).2.2.1, (hst b hb).2.2.2, fun p hp => by
      rw [hpn, List.nil_append] at hp
      rcases List.mem_append.mp hp with hp | hp
      · exact hpsf p hp b hb
      · have := List.mem_singleton.mp hp
        subst this
        exact hSfp b hb⟩
  have hpsS' : ∀ p ∈ XI.pn ++ ps, p.1 ≠ S := by rw [hpn]; exact hpsS
  intro m
  induction m using Nat.strongRecOn with
  | ind m ih =>
    intro n i γ oS s₀ s H hmn w hS0 hRep I st nH
    rw [hden, Sem.onRaise_eq_wrap]
    refine seg_bind_wrap (wpAny_standAt ?_)
    rcases hW i m γ H w with ⟨stop, qq⟩ | ⟨go, Nx, hNx, step⟩
    · have td := T.done XI hP hw hK hcalm i _ s _ H (fun _ _ => False) I (stat I nH) st stop
      rw [hA] at td
      refine seg_bind_wrap (thnF td fun r s1 ⟨hr, I1⟩ => ?_)
      subst hr
      exact hend m n γ oS s₀ s1 H hmn hS0 hRep I1 qq
    · have ti := T.item XI hP hw hK hcalm i _ s _ H (fun _ _ => False) I (stat I nH) st go
      rw [hA] at ti
      refine seg_bind_wrap (thnF ti fun r s1 ⟨u, hr, h1⟩ => ?_)
      subst hr
      refine seg_bind_wrap (thnF h1 fun _ s2 ⟨x, H2, I2, r2, y2, st2, n2⟩ => ?_)
      have I2' := I2.pinned (stat I2 n2) (T.obj _ _ st2)
      have rg := pg.run _ s2 _ H2 x u _ I2' r2 (step x H2 y2)
      rw [hA, hP, hw, henv, hxe] at rg
      refine seg_bind_wrap (thnF rg fun _ s3 ⟨σ3, H3, I3, hw3, q3⟩ => ?_)
      have rt := pt.run _ s3 σ3 H3 _ I3 q3
      rw [hA, hP, hw, henv, hxe] at rt
      refine seg_bind_wrap (thnF rt fun b s5 ⟨H5, I5, q5⟩ => ?_)
      have hl : σw.length = σ3.length := by rw [← hw3, wipe_length]
      have pin' : ∀ {H' : Hp} {s' : Shared} {σ' : L2.St}, Inv XI ((ps ++ [(S, oS)]) ++ pinsAt fp s2.heap) σ' H' s' → ∀ b ∈ fp, ∀ o, s2.heap.get? b = some o → s'.heap.get? b = some o ∧ H' b = none := fun {H' s' σ'} I' b hb o e =>
        let z := I'.pin (b, o) (List.mem_append_right _ (List.mem_append_right _ (mem_pinsAt hb e)))
        ⟨z.1, z.2.1⟩
      cases b with
      | false =>
        simp only [Bool.false_eq_true, if_false] at q5 ⊢
        obtain ⟨m', hm, w'⟩ := hNx γ H5 q5
        refine seg_again hcq (ih m' hm n (i + 1) γ oS s₀ s5 H5 (by omega) w' hS0 hRep ((I5.unpinned (pins := ps ++ [(S, oS)])).weak hl (fun j v e => ?_)) (T.keep _ _ _ st2 fun b hb o e => (pin' I5 b hb o e).1) (fun b hb => ?_))
        · rw [← hw3] at e
          exact (wipe_some e).1
        · obtain ⟨o, e, _⟩ := T.obj _ _ st2 b hb
          exact (pin' I5 b hb o e).2
      | true =>
        simp only [if_true] at q5 ⊢
        have hy : ∀ v, yieldOut cenv v = yieldValue v := fun v => by simp only [yieldOut, hco, Bool.false_eq_true, if_false]
        simp only [hy]
        rw [Sem.bind_eq_wrap', Sem.bind_eq_wrap', Sem.wrap_wrap, Sem.wrap_wrap]
        have re := pe.run _ s5 σ3 H5 _ I5 q5
        rw [hA, hP, hw, henv, hxe] at re
        refine seg_wrap (thnF re fun z s6 ⟨yv, H6, I6, r6, q6⟩ => ?_)
        cases n with
        | zero => exact absurd hmn (Nat.not_lt_zero _)
        | succ n =>
          have I6' : Inv XI (ps ++ [(S, oS)]) σ3 H6 s6 := I6.unpinned
          have I6w : Inv XI (ps ++ [(S, oS)]) σw H6 s6 := I6'.weak hl (fun j v e => by rw [← hw3] at e; exact (wipe_some e).1)
          refine seg_at (seg_yield hfs rfl hfg ⟨γ, oS, yv, H6, σ3, hS0, hRep, htr _ _ _ _ (I6'.pins_of fun p hp => I6'.pin p (List.mem_append_right _ ?_)), r6, hmono _ _ _ _ _ (fun γ' nx s'' oS' e1 e2 e3 e4 e5 e6 => ?_) q6⟩)
          · rcases List.mem_append.mp hp with hp | hp
            · have := List.mem_singleton.mp hp
              subst this
              exact List.mem_append_left _ haps
            · exact List.mem_append_right _ hp
          · obtain ⟨m', hm, w'⟩ := hNx γ' H6 nx
            refine seg_again hcq (ih m' hm n (i + 1) γ' oS' s'' s'' H6 (by omega) w' e4 e5 (Inv.kallS I6w hSy hpsS' e1 e2 e3 e4 e6) (T.keep _ _ _ st2 fun b hb o e => e3 b o (fun z => hSfp b hb z.symm) (pin' I6 b hb o e).1) (fun b hb => ?_))
            obtain ⟨o, e, _⟩ := T.obj _ _ st2 b hb
            exact (pin' I6 b hb o e).2
end
end GAl

set_option Elab.async false
set_option linter.all false
set_option maxRecDepth 100000
set_option maxHeartbeats 2000000
namespace GAl
open PySem PySem.Spec PyProof.Rows L2 GxR
open Sem (wp)
section
variable {G : Type} {X : Cx} {elt tg iter : Expr} {ifs : List Expr} {scope : Scope} {pos : Pos} {it a S : Addr} {oa : Obj} {fp : List Addr} {cenv : Env} {AG : Around} {s4 : Shared} {Hs : Hp} {J : It} {tn : Nat → Heap → Prop}
  {g : TG} {tt : TT} {te : TE} {vs : List Nat} {σw : L2.St} {Qd : G → Hp → Prop} {Rep : Obj → G → Prop} {stp : G → V → Hp → (G → Prop) → Prop} {W : Nat → Nat → G → Hp → Prop}
theorem gen_beginS (hc : X.calm = true) (hco : cenv.scope.isCoroutine = false) (T : Turn X.prog X.w X.K tg J fp it tn) (hafp : ∀ b ∈ fp, a ≠ b) (hSfp : ∀ b ∈ fp, S ≠ b) (haS : a ≠ S) (hSy : s4.heap.objs.size ≤ S)
    (hmono : ∀ γ y H (p q : G → Prop), (∀ γ', p γ' → q γ') → stp γ y H p → stp γ y H q)
    (pg : PG (gcx X (AG.over (.compLoop (.GeneratorExp elt [⟨tg, iter, ifs, 0⟩] scope pos) 0 (.ref it) .none cenv) []) s4 Hs cenv fp) tg g)
    (pt : PTs (gcx X (AG.over (.compLoop (.GeneratorExp elt [⟨tg, iter, ifs, 0⟩] scope pos) 0 (.ref it) .none cenv) []) s4 Hs cenv fp) ifs tt)
    (pe : PE (gcx X (AG.over (.compLoop (.GeneratorExp elt [⟨tg, iter, ifs, 0⟩] scope pos) 0 (.ref it) .none cenv) []) s4 Hs cenv fp) elt te)
    (hW : GTurnS J g tt te vs σw (fun _ => Qd) stp W) (m : Nat) (γ : G) (oS : Obj) (s₀ s : Shared) (H : Hp) (w : W 0 m γ H) (hS0 : s₀.heap.get? S = some oS) (hRep : Rep oS γ)
    (I : Inv (gcx X (AG.over (.compLoop (.GeneratorExp elt [⟨tg, iter, ifs, 0⟩] scope pos) 0 (.ref it) .none cenv) []) s4 Hs cenv fp) ([(a, oa)] ++ [(S, oS)]) σw H s) (st : tn 0 s.heap) (nH : ∀ b ∈ fp, H b = none) :
      Seg (model X.prog X.w) AG (fun n s₀ r s₁ => r = .ok .next ∧ REndS (gcx X (AG.over (.compLoop (.GeneratorExp elt [⟨tg, iter, ifs, 0⟩] scope pos) 0 (.ref it) .none cenv) []) s4 Hs cenv fp) a oa S Rep σw Qd n s₀ s₁)
        (YOutS (gcx X (AG.over (.compLoop (.GeneratorExp elt [⟨tg, iter, ifs, 0⟩] scope pos) 0 (.ref it) .none cenv) []) s4 Hs cenv fp) a oa S Rep stp) (m + 1) s₀
        (.compStart (.GeneratorExp elt [⟨tg, iter, ifs, 0⟩] scope pos) 0 (.ref it) .none cenv)
        ((model X.prog X.w).den (.compStart (.GeneratorExp elt [⟨tg, iter, ifs, 0⟩] scope pos) 0 (.ref it) .none cenv)) [] s := by
  have hst : ∀ b ∈ fp, FpSt (gcx X (AG.over (.compLoop (.GeneratorExp elt [⟨tg, iter, ifs, 0⟩] scope pos) 0 (.ref it) .none cenv) []) s4 Hs cenv fp) b := fun b hb =>
    ⟨(I.ok.exf b hb).1, I.ok.exfs b hb, .inl hb, fun x c e => (I.ok.exf b hb).2 x c e⟩
  have loop := gen_loopS (a := a) (oa := oa) (S := S) (ps := [(a, oa)]) (R := fun n s₀ r s₁ => r = .ok .next ∧ REndS (gcx X (AG.over (.compLoop (.GeneratorExp elt [⟨tg, iter, ifs, 0⟩] scope pos) 0 (.ref it) .none cenv) []) s4 Hs cenv fp) a oa S Rep σw Qd n s₀ s₁) (Rep := Rep) (Qd := fun _ => Qd)
    (c := .compLoop (.GeneratorExp elt [⟨tg, iter, ifs, 0⟩] scope pos) 0 (.ref it) .none cenv) (fs := []) (cenv := cenv) (iter := iter) (lv := leaving cenv) (X := X) (AG := AG)
    (XG := gcx X (AG.over (.compLoop (.GeneratorExp elt [⟨tg, iter, ifs, 0⟩] scope pos) 0 (.ref it) .none cenv) []) s4 Hs cenv fp)
    (XI := gcx X (AG.over (.compLoop (.GeneratorExp elt [⟨tg, iter, ifs, 0⟩] scope pos) 0 (.ref it) .none cenv) []) s4 Hs cenv fp)
    rfl rfl rfl rfl hc rfl rfl rfl rfl rfl rfl rfl hco T hst (.inr hSy) hSfp
    (fun p hp => by have := List.mem_singleton.mp hp; subst this; exact haS) (fun p hp b hb => by have := List.mem_singleton.mp hp; subst this; exact hafp b hb) (List.mem_singleton.mpr rfl)
    hmono (fun _ _ _ _ I => I) (fun m n γ oS s₀ s H _ e1 e2 I q => seg_end (.ok .next) ⟨rfl, γ, oS, H, e1, e2, I, q⟩) pg pt pe hW m (m + 1) 0 γ oS s₀ s H (Nat.lt_succ_self _) w hS0 hRep I st nH
  show Seg _ AG _ _ _ s₀ _ ((compStart (.GeneratorExp elt [⟨tg, iter, ifs, 0⟩] scope pos) 0 (.ref it) .none cenv).onRaise (leaving cenv)) [] s
  unfold compStart
  rw [Sem.onRaise_eq_wrap]
  show Seg _ AG _ _ _ s₀ _ ((ask >>= _).wrap _ _ _ _) [] s
  refine seg_bind_wrap (wpAny_askSetting ?_)
  split
  · exact seg_again rfl loop
  · first
      | exact seg_bind_wrap (wpAny_rule (seg_bind_wrap (wpAny_standAt (seg_bind_wrap (T.self _ 0 s _ _ st (seg_again rfl loop))))))
      | (refine seg_bind_wrap (wpAny_rule ?_); show Seg _ AG _ _ _ s₀ _ ((standAt iter.pos >>= _).wrap _ _ _ _) [] s; exact seg_bind_wrap (wpAny_standAt (seg_bind_wrap (T.self _ 0 s _ _ st (seg_again rfl loop)))))
end

/-- what a consumed generator expression asks: the walked thing, the def's table, the turns -/
def tGenS {G : Type} (P : Addr) (wi : TI) (g : TG) (tt : TT) (te : TE) (vs : List Nat) (stp : G → V → Hp → (G → Prop) → Prop) (γ0 : G) (Qd : G → Hp → Prop) : L2.St → Hp → Prop := fun σ H =>
  wi σ H fun J H1 => TabG H1 P ∧ ∀ H2, Tabbed P H1 H2 → ∃ W : Nat → Nat → G → Hp → Prop, (∃ m, W 0 m γ0 H2) ∧ GTurnS J g tt te vs (wipe σ vs) (fun _ => Qd) stp W

section
variable {G : Type} {X : Cx} {pins : List (Addr × Obj)} {σ : L2.St} {H : Hp} {s : Shared}
theorem gen_makeS {c P : Addr} {elt tg iter : Expr} {ifs : List Expr} {gpos : Pos} {scope : Scope} {own : List (Str × Nat)} {wi : TI} {g : TG} {tt : TT} {te : TE} {k : Nat} {stp : G → V → Hp → (G → Prop) → Prop} {Rep : Obj → G → Prop} {γ0 : G} {Qd : G → Hp → Prop} {Q' : Value → Shared → Prop}
    (hr : Room (k + 1) X.A) (hc : X.calm = true) (hN : X.N.Nodup) (TB : TabB X.base X.mg c P) (hcode : X.env.code = .ref c) (SC : GSc X.N X.env.scope scope own) (hi : PI X tg iter wi)
    (hg : ∀ (A' : Around), Room k A' → ∀ (s : Shared) (H : Hp) (cl : List (Str × Addr)) (C : Addr) (code : Value) (fp : List Addr), PG (gcx X A' s H (genEnv scope cl C code builtinsNs X.env) fp) tg g)
    (ht : ∀ (A' : Around), Room k A' → ∀ (s : Shared) (H : Hp) (cl : List (Str × Addr)) (C : Addr) (code : Value) (fp : List Addr), PTs (gcx X A' s H (genEnv scope cl C code builtinsNs X.env) fp) ifs tt)
    (he : ∀ (A' : Around), Room k A' → ∀ (s : Shared) (H : Hp) (cl : List (Str × Addr)) (C : Addr) (code : Value) (fp : List Addr), PE (gcx X A' s H (genEnv scope cl C code builtinsNs X.env) fp) elt te)
    (hmono : ∀ γ y H (p q : G → Prop), (∀ γ', p γ' → q γ') → stp γ y H p → stp γ y H q)
    (hs : ∀ v, genFold iter X.env v = pure v) (I : Inv X pins σ H s) (h : tGenS P wi g tt te (own.map (·.2)) stp γ0 Qd σ H)
    (hQ : ∀ (XG : Cx) (a : Addr) (oa : Obj) (gn n : Nat) (σw : L2.St) (s5 : Shared) (gs : GenState), XG.prog = X.prog → XG.w = X.w → XG.pn = [] → s5.heap.get? a = some oa → s5.heap.IsGen a gn → s5.gens[gn]? = some gs → s5.heap.NoLimit → AllBare s5.gens →
      (∀ (S : Addr) (s'' : Shared) (oS : Obj), s5.heap.objs.size ≤ S → s''.os = s5.os → AllBare s''.gens → (∀ b o, s5.heap.get? b = some o → s''.heap.get? b = some o) → s''.heap.get? S = some oS → Rep oS γ0 → (∀ v, oS.data ≠ .cell v) →
        gs.Goes (model X.prog X.w) X.A.in1.in1 (fun n s₀ r s₁ => r = .ok .next ∧ REndS XG a oa S Rep σw Qd n s₀ s₁) (YOutS XG a oa S Rep stp) n (.send .none) s'') →
      (∀ S, s5.heap.objs.size ≤ S → XG.s_0.heap.objs.size ≤ S) → (∀ s' ps σ' H', Inv XG ps σ' H' s' → Inv X pins σ H' s') → Q' (.ref a) s5) :
    wpAny (model X.prog X.w) X.A (eval (.GeneratorExp elt [⟨tg, iter, ifs, 0⟩] scope gpos) X.env) Q' X.xe s := by
  have ok := SC.blk
  have hfree : ∀ y ∈ scope.names, y.2 = .free → ∃ c, X.env.cells.lookup y.1 = some c := fun y hy e => by
    rcases ok.free y hy e with k | k
    · exact I.ok.has _ (.inl k)
    · exact I.ok.has _ (.inr k)
  refine wpAny_GeneratorExp_make SC.co (closure_ok hfree) SC.cell SC.dot ok.kind (by have := hr.dp; omega) ?_ hs
  refine thn (hi.run pins s σ H _ I h) fun xv s1 hx => thn hx fun itv s2 h2 => ?_
  obtain ⟨it, fp, tn, J, H2, e, I2, T, st2, f2, ⟨ps, hP, hts⟩, q⟩ := h2
  subst e
  have hPs : s2.heap.get? P = some { cls := .none, data := .fields ps } := I2.hok P _ hP
  have cd : PySem.W.CodeHd s2.heap c P := TB.code.keeps fun b u e => I2.bk b u e
  have nP : ∀ b ∈ fp, b ≠ P := fun b hb z => by
    have := (f2 b hb).1
    rw [z, hP] at this; cases this
  have sz2 : ∀ b ∈ fp, b < s2.heap.objs.size := fun b hb => by
    obtain ⟨o, e, _⟩ := T.obj _ _ st2 b hb
    exact Heap.lt_size e
  have cont : ∀ (code : Value) (h3 : Heap) (tk : Nat) (ps' : Array Value), Heap.ExtBut P s2.heap h3 → s2.heap.objs.size ≤ h3.objs.size → h3.get? P = some { cls := .none, data := .fields ps' } → (∃ more, ps' = ps ++ more) → TriplesOk ps'.toList →
      wpAny (model X.prog X.w) X.A (builtinsFor X.env.globals X.env.builtins) (fun bi s₄ =>
        ∀ h', h'.Ns s₄.heap.objs.size (fun y => if y = ".0" then some (.ref it) else none) → Heap.SameBut s₄.heap.objs.size (s₄.heap.push { cls := .type "frame", data := .dict #[] }) h' →
          Q' (.ref h'.objs.size) { s₄ with
            gens := s₄.gens.push (.fresh (.compStart (.GeneratorExp elt [⟨tg, iter, ifs, 0⟩] scope gpos) 0 (.ref it) .none (genEnv scope (cloFrom X.env.cells scope.names []) s₄.heap.objs.size code bi X.env))),
            toks := s₄.toks + 1 + 1 + 1,
            heap := h'.push { cls := .type "generator", data := .fields #[.int s₄.gens.size 0, .str "<genexpr>" (s₄.toks + 1), .str (X.env.qual ++ "<genexpr>") (s₄.toks + 1 + 1)] } }) X.xe { s2 with heap := h3, toks := tk } := by
    intro code h3 tk ps' hx hsz hP3 hmore ht3
    obtain ⟨bm, ob, e1, e2, e3, e4, e5, e6, e7, e8⟩ := TB.bm
    have keep3 : ∀ b u, b ≠ P → s2.heap.get? b = some u → h3.get? b = some u := fun b u hb e => hx b u hb e
    refine wpAny_builtinsFor (m := X.mg) (by rw [I2.ok.glob]; exact (I2.mod.glob.keeps I2.bk).extBut hx TB.gP) e1 e2 (keep3 _ _ e4 (I2.bk _ _ e5)) e6 e7 e8 ?_
    intro h' hn' hs'
    obtain ⟨more, em⟩ := hmore
    have I3 : Inv X pins σ (upd H2 P (.tbl (ps ++ more))) { s2 with heap := h3, toks := tk } :=
      inv_tab (more := more) (h' := h3) (g' := s2.gens) (d' := s2.drawn) (t' := tk) I2 hP keep3 (by rw [← em]; exact hP3) I2.bare
    obtain ⟨W, ⟨m0, w0⟩, turn⟩ := q (upd H2 P (.tbl (ps ++ more))) ⟨⟨ps ++ more, upd_same, by rw [← em]; exact ht3⟩, fun b hb => upd_ne hb⟩
    generalize hH3 : upd H2 P (.tbl (ps ++ more)) = H3 at I3 w0
    generalize hs4 : ({ s2 with heap := h3, toks := tk } : Shared) = s4 at I3 hn' hs' ⊢
    have hh4 : s4.heap = h3 := by rw [← hs4]
    have st4 : tn 0 s4.heap := T.keep _ _ _ st2 fun b hb o e => by rw [hh4]; exact keep3 b o (nP b hb) e
    have f3 : ∀ b ∈ fp, FpOk X pins H3 b ∧ b < s4.heap.objs.size := fun b hb => by
      refine ⟨⟨?_, (f2 b hb).2⟩, by rw [hh4]; exact Nat.lt_of_lt_of_le (sz2 b hb) hsz⟩
      rw [← hH3, upd_ne (nP b hb)]
      exact (f2 b hb).1
    have hszh : h'.objs.size = s4.heap.objs.size + 1 := by rw [hs'.1, Heap.size_push]
    have keep' : ∀ b o, s4.heap.get? b = some o → h'.get? b = some o := fun b o e => hs'.extBut b o (Nat.ne_of_lt (Heap.lt_size e)) (Heap.get?_push_of_some _ e)
    generalize hoa : ({ cls := .type "generator", data := .fields #[.int s4.gens.size 0, .str "<genexpr>" (s4.toks + 1), .str (X.env.qual ++ "<genexpr>") (s4.toks + 1 + 1)] } : Obj) = oa
    have ga : (h'.push oa).get? h'.objs.size = some oa := Heap.get?_push_size _ (by rw [← hoa]; rfl)
    have isg : (h'.push oa).IsGen h'.objs.size s4.gens.size := by rw [← hoa]; exact ⟨_, _, _, Heap.get?_push_size _ rfl, rfl, rfl, rfl⟩
    generalize hce : genEnv scope (cloFrom X.env.cells scope.names []) s4.heap.objs.size code builtinsNs X.env = cenv
    generalize hA' : X.A.in1.in1.over (.compLoop (.GeneratorExp elt [⟨tg, iter, ifs, 0⟩] scope gpos) 0 (.ref it) .none cenv) [] = A'
    have hfr : A'.frames = some (cenv :: X.stack) := by
      rw [← hA']
      show pushEnvs [cenv] (pushEnvs [] X.A.frames) = _
      rw [I2.ok.frames]
      rfl
    have hdp : A'.depth = X.A.depth + 1 := by rw [← hA']; rfl
    have hun : A'.units = X.A.units + 5 := by rw [← hA']; rfl
    have hhd : A'.handled = none := by rw [← hA']; exact hr.hd
    have hr' : Room k A' := ⟨hhd, by rw [hdp]; have := hr.dp; omega, by rw [hun]; have := hr.un; omega⟩
    have bare5 : AllBare (s4.gens.push (.fresh (.compStart (.GeneratorExp elt [⟨tg, iter, ifs, 0⟩] scope gpos) 0 (.ref it) .none cenv))) := I3.bare.push rfl
    have I5 := gen_start (A' := A') (cenv := cenv) (code := code) (m := fun y => if y = ".0" then some (.ref it) else none) (h5 := h'.push oa) (g' := s4.gens.push (.fresh (.compStart (.GeneratorExp elt [⟨tg, iter, ifs, 0⟩] scope gpos) 0 (.ref it) .none cenv)))
      (t5 := s4.toks + 1 + 1 + 1) (a := h'.objs.size) (oa := oa) I3 ok SC.cell hN f3 hce.symm hfr hhd (hn'.push _) (fun b o e => Heap.get?_push_of_some _ (keep' b o e)) bare5 ga (by omega) (by rw [← hoa]; intro v z; cases z)
    have back : ∀ s' ps' σ' H', Inv (gcx X A' s4 H3 cenv fp) ps' σ' H' s' → Inv X pins σ H' s' := fun s' ps' σ' H' I' =>
      I3.call' (ch := fp) I'.os I'.base I'.hok I'.bare fun b hb => ⟨(f3 b hb).1.2.2.2.1, (f3 b hb).1.2.1, (f3 b hb).1.2.2.2.2.1, (f3 b hb).1.2.2.2.2.2⟩
    have pg : PG (gcx X A' s4 H3 cenv fp) tg g := by rw [← hce]; exact hg A' hr' _ _ _ _ _ _
    have pt : PTs (gcx X A' s4 H3 cenv fp) ifs tt := by rw [← hce]; exact ht A' hr' _ _ _ _ _ _
    have pe : PE (gcx X A' s4 H3 cenv fp) elt te := by rw [← hce]; exact he A' hr' _ _ _ _ _ _
    refine hQ (gcx X A' s4 H3 cenv fp) h'.objs.size oa s4.gens.size (m0 + 1) (wipe σ (own.map (·.2))) _ _ rfl rfl rfl ga isg (Array.getElem?_push_size ..) I5.nolimit bare5 (fun S s'' oS hS e1 e2 e3 e4 e5 e6 => ?_) (fun S hS => Nat.le_trans I5.sz hS) back
    refine ⟨rfl, ?_⟩
    have hS : h'.objs.size + 1 ≤ S := by
      have hS : (h'.push oa).objs.size ≤ S := hS
      rwa [Heap.size_push] at hS
    have fS := I5.fpOk (b := S) (H' := H3) (by show (h'.push oa).objs.size ≤ S; rw [Heap.size_push]; exact hS) (I5.hok.fresh (by show (h'.push oa).objs.size ≤ S; rw [Heap.size_push]; exact hS))
    have I6 : Inv (gcx X A' s4 H3 cenv fp) ([(h'.objs.size, oa)] ++ [(S, oS)]) (wipe σ (own.map (·.2))) H3 s'' := by
      have I6 := Inv.kall I5 e1 e2 e3
      refine I6.pins_of fun p hp => ?_
      rcases List.mem_append.mp hp with hp | hp
      · exact I6.pin p (List.mem_append_right _ hp)
      · have := List.mem_singleton.mp hp
        subst this
        exact ⟨e4, fS.1, fS.2.1, fS.2.2.1, e6⟩
    subst hA'
    refine gen_beginS hc (by rw [← hce]; exact SC.co) T (fun b hb => Nat.ne_of_gt (Nat.lt_trans (f3 b hb).2 (by omega))) (fun b hb => Nat.ne_of_gt (Nat.lt_of_lt_of_le (f3 b hb).2 (by omega))) (Nat.ne_of_lt hS) (by omega) hmono pg pt pe turn m0 γ0 oS _ _ H3 w0 e4 e5 I6 ?_ (fun b hb => (f3 b hb).1.1)
    exact T.keep _ _ _ st4 fun b hb o e => e3 b o (Heap.get?_push_of_some _ (keep' b o e))
  refine ⟨I2.nolimit, ?_⟩
  cases hf : codeAmong gpos ps.toList with
  | none =>
    refine wpAny_genexprCodeX hcode (cd.code hPs hts) (cd.tab hPs) hf fun c' h' tk hx hge hlt hco' _ htab' _ => ?_
    obtain ⟨o1, vs, f1, tf, fl, tg', inF, tx, tt', op, _, _, _, _, _, _, _, _, _, htr, _⟩ := hco'
    exact cont _ h' tk _ hx (Nat.le_trans hge (Nat.le_of_lt hlt)) htab'.2 ⟨_, rfl⟩ htr
  | some cv =>
    refine wpAny_genexprCode_hit hcode (cd.code hPs hts) hf ?_
    exact cont cv s2.heap s2.toks ps (Heap.ExtBut.refl _ _) (Nat.le_refl _) hPs ⟨#[], by simp⟩ hts
end
end GAl

set_option Elab.async false
set_option linter.all false
set_option maxRecDepth 100000
set_option maxHeartbeats 2000000
namespace GAl
open PySem PySem.Spec PyProof.Rows L2 GxR
open Sem (wp)
/-! ### a generator expression that is consumed two codes deeper -/
section
variable {G : Type} {X : Cx} {pins : List (Addr × Obj)} {σ : L2.St} {H : Hp} {s : Shared}
theorem gen_makeS4 {c P : Addr} {elt tg iter : Expr} {ifs : List Expr} {gpos : Pos} {scope : Scope} {own : List (Str × Nat)} {wi : TI} {g : TG} {tt : TT} {te : TE} {k : Nat} {stp : G → V → Hp → (G → Prop) → Prop} {Rep : Obj → G → Prop} {γ0 : G} {Qd : G → Hp → Prop} {Q' : Value → Shared → Prop}
    (hr : Room (k + 1) X.A) (hc : X.calm = true) (hN : X.N.Nodup) (TB : TabB X.base X.mg c P) (hcode : X.env.code = .ref c) (SC : GSc X.N X.env.scope scope own) (hi : PI X tg iter wi)
    (hg : ∀ (A' : Around), Room k A' → ∀ (s : Shared) (H : Hp) (cl : List (Str × Addr)) (C : Addr) (code : Value) (fp : List Addr), PG (gcx X A' s H (genEnv scope cl C code builtinsNs X.env) fp) tg g)
    (ht : ∀ (A' : Around), Room k A' → ∀ (s : Shared) (H : Hp) (cl : List (Str × Addr)) (C : Addr) (code : Value) (fp : List Addr), PTs (gcx X A' s H (genEnv scope cl C code builtinsNs X.env) fp) ifs tt)
    (he : ∀ (A' : Around), Room k A' → ∀ (s : Shared) (H : Hp) (cl : List (Str × Addr)) (C : Addr) (code : Value) (fp : List Addr), PE (gcx X A' s H (genEnv scope cl C code builtinsNs X.env) fp) elt te)
    (hmono : ∀ γ y H (p q : G → Prop), (∀ γ', p γ' → q γ') → stp γ y H p → stp γ y H q)
    (hs : ∀ v, genFold iter X.env v = pure v) (I : Inv X pins σ H s) (h : tGenS P wi g tt te (own.map (·.2)) stp γ0 Qd σ H)
    (hQ : ∀ (XG : Cx) (a : Addr) (oa : Obj) (gn n : Nat) (σw : L2.St) (s5 : Shared) (gs : GenState), XG.prog = X.prog → XG.w = X.w → XG.pn = [] → s5.heap.get? a = some oa → s5.heap.IsGen a gn → s5.gens[gn]? = some gs → s5.heap.NoLimit → AllBare s5.gens →
      (∀ (S : Addr) (s'' : Shared) (oS : Obj), s5.heap.objs.size ≤ S → s''.os = s5.os → AllBare s''.gens → (∀ b o, s5.heap.get? b = some o → s''.heap.get? b = some o) → s''.heap.get? S = some oS → Rep oS γ0 → (∀ v, oS.data ≠ .cell v) →
        gs.Goes (model X.prog X.w) X.A.in1.in1.in1.in1 (fun n s₀ r s₁ => r = .ok .next ∧ REndS XG a oa S Rep σw Qd n s₀ s₁) (YOutS XG a oa S Rep stp) n (.send .none) s'') →
      (∀ S, s5.heap.objs.size ≤ S → XG.s_0.heap.objs.size ≤ S) → (∀ s' ps σ' H', Inv XG ps σ' H' s' → Inv X pins σ H' s') → Q' (.ref a) s5) :
    wpAny (model X.prog X.w) X.A (eval (.GeneratorExp elt [⟨tg, iter, ifs, 0⟩] scope gpos) X.env) Q' X.xe s := by
  have ok := SC.blk
  have hfree : ∀ y ∈ scope.names, y.2 = .free → ∃ c, X.env.cells.lookup y.1 = some c := fun y hy e => by
    rcases ok.free y hy e with k | k
    · exact I.ok.has _ (.inl k)
    · exact I.ok.has _ (.inr k)
  refine wpAny_GeneratorExp_make SC.co (closure_ok hfree) SC.cell SC.dot ok.kind (by have := hr.dp; omega) ?_ hs
  refine thn (hi.run pins s σ H _ I h) fun xv s1 hx => thn hx fun itv s2 h2 => ?_
  obtain ⟨it, fp, tn, J, H2, e, I2, T, st2, f2, ⟨ps, hP, hts⟩, q⟩ := h2
  subst e
  have hPs : s2.heap.get? P = some { cls := .none, data := .fields ps } := I2.hok P _ hP
  have cd : PySem.W.CodeHd s2.heap c P := TB.code.keeps fun b u e => I2.bk b u e
  have nP : ∀ b ∈ fp, b ≠ P := fun b hb z => by
    have := (f2 b hb).1
    rw [z, hP] at this; cases this
  have sz2 : ∀ b ∈ fp, b < s2.heap.objs.size := fun b hb => by
    obtain ⟨o, e, _⟩ := T.obj _ _ st2 b hb
    exact Heap.lt_size e
  have cont : ∀ (code : Value) (h3 : Heap) (tk : Nat) (ps' : Array Value), Heap.ExtBut P s2.heap h3 → s2.heap.objs.size ≤ h3.objs.size → h3.get? P = some { cls := .none, data := .fields ps' } → (∃ more, ps' = ps ++ more) → TriplesOk ps'.toList →
      wpAny (model X.prog X.w) X.A (builtinsFor X.env.globals X.env.builtins) (fun bi s₄ =>
        ∀ h', h'.Ns s₄.heap.objs.size (fun y => if y = ".0" then some (.ref it) else none) → Heap.SameBut s₄.heap.objs.size (s₄.heap.push { cls := .type "frame", data := .dict #[] }) h' →
          Q' (.ref h'.objs.size) { s₄ with
            gens := s₄.gens.push (.fresh (.compStart (.GeneratorExp elt [⟨tg, iter, ifs, 0⟩] scope gpos) 0 (.ref it) .none (genEnv scope (cloFrom X.env.cells scope.names []) s₄.heap.objs.size code bi X.env))),
            toks := s₄.toks + 1 + 1 + 1,
            heap := h'.push { cls := .type "generator", data := .fields #[.int s₄.gens.size 0, .str "<genexpr>" (s₄.toks + 1), .str (X.env.qual ++ "<genexpr>") (s₄.toks + 1 + 1)] } }) X.xe { s2 with heap := h3, toks := tk } := by
    intro code h3 tk ps' hx hsz hP3 hmore ht3
    obtain ⟨bm, ob, e1, e2, e3, e4, e5, e6, e7, e8⟩ := TB.bm
    have keep3 : ∀ b u, b ≠ P → s2.heap.get? b = some u → h3.get? b = some u := fun b u hb e => hx b u hb e
    refine wpAny_builtinsFor (m := X.mg) (by rw [I2.ok.glob]; exact (I2.mod.glob.keeps I2.bk).extBut hx TB.gP) e1 e2 (keep3 _ _ e4 (I2.bk _ _ e5)) e6 e7 e8 ?_
    intro h' hn' hs'
    obtain ⟨more, em⟩ := hmore
    have I3 : Inv X pins σ (upd H2 P (.tbl (ps ++ more))) { s2 with heap := h3, toks := tk } :=
      inv_tab (more := more) (h' := h3) (g' := s2.gens) (d' := s2.drawn) (t' := tk) I2 hP keep3 (by rw [← em]; exact hP3) I2.bare
    obtain ⟨W, ⟨m0, w0⟩, turn⟩ := q (upd H2 P (.tbl (ps ++ more))) ⟨⟨ps ++ more, upd_same, by rw [← em]; exact ht3⟩, fun b hb => upd_ne hb⟩
    generalize hH3 : upd H2 P (.tbl (ps ++ more)) = H3 at I3 w0
    generalize hs4 : ({ s2 with heap := h3, toks := tk } : Shared) = s4 at I3 hn' hs' ⊢
    have hh4 : s4.heap = h3 := by rw [← hs4]
    have st4 : tn 0 s4.heap := T.keep _ _ _ st2 fun b hb o e => by rw [hh4]; exact keep3 b o (nP b hb) e
    have f3 : ∀ b ∈ fp, FpOk X pins H3 b ∧ b < s4.heap.objs.size := fun b hb => by
      refine ⟨⟨?_, (f2 b hb).2⟩, by rw [hh4]; exact Nat.lt_of_lt_of_le (sz2 b hb) hsz⟩
      rw [← hH3, upd_ne (nP b hb)]
      exact (f2 b hb).1
    have hszh : h'.objs.size = s4.heap.objs.size + 1 := by rw [hs'.1, Heap.size_push]
    have keep' : ∀ b o, s4.heap.get? b = some o → h'.get? b = some o := fun b o e => hs'.extBut b o (Nat.ne_of_lt (Heap.lt_size e)) (Heap.get?_push_of_some _ e)
    generalize hoa : ({ cls := .type "generator", data := .fields #[.int s4.gens.size 0, .str "<genexpr>" (s4.toks + 1), .str (X.env.qual ++ "<genexpr>") (s4.toks + 1 + 1)] } : Obj) = oa
    have ga : (h'.push oa).get? h'.objs.size = some oa := Heap.get?_push_size _ (by rw [← hoa]; rfl)
    have isg : (h'.push oa).IsGen h'.objs.size s4.gens.size := by rw [← hoa]; exact ⟨_, _, _, Heap.get?_push_size _ rfl, rfl, rfl, rfl⟩
    generalize hce : genEnv scope (cloFrom X.env.cells scope.names []) s4.heap.objs.size code builtinsNs X.env = cenv
    generalize hA' : X.A.in1.in1.in1.in1.over (.compLoop (.GeneratorExp elt [⟨tg, iter, ifs, 0⟩] scope gpos) 0 (.ref it) .none cenv) [] = A'
    have hfr : A'.frames = some (cenv :: X.stack) := by
      rw [← hA']
      show pushEnvs [cenv] (pushEnvs [] X.A.frames) = _
      rw [I2.ok.frames]
      rfl
    have hdp : A'.depth = X.A.depth + 1 := by rw [← hA']; rfl
    have hun : A'.units = X.A.units + 7 := by rw [← hA']; rfl
    have hhd : A'.handled = none := by rw [← hA']; exact hr.hd
    have hr' : Room k A' := ⟨hhd, by rw [hdp]; have := hr.dp; omega, by rw [hun]; have := hr.un; omega⟩
    have bare5 : AllBare (s4.gens.push (.fresh (.compStart (.GeneratorExp elt [⟨tg, iter, ifs, 0⟩] scope gpos) 0 (.ref it) .none cenv))) := I3.bare.push rfl
    have I5 := gen_start (A' := A') (cenv := cenv) (code := code) (m := fun y => if y = ".0" then some (.ref it) else none) (h5 := h'.push oa) (g' := s4.gens.push (.fresh (.compStart (.GeneratorExp elt [⟨tg, iter, ifs, 0⟩] scope gpos) 0 (.ref it) .none cenv)))
      (t5 := s4.toks + 1 + 1 + 1) (a := h'.objs.size) (oa := oa) I3 ok SC.cell hN f3 hce.symm hfr hhd (hn'.push _) (fun b o e => Heap.get?_push_of_some _ (keep' b o e)) bare5 ga (by omega) (by rw [← hoa]; intro v z; cases z)
    have back : ∀ s' ps' σ' H', Inv (gcx X A' s4 H3 cenv fp) ps' σ' H' s' → Inv X pins σ H' s' := fun s' ps' σ' H' I' =>
      I3.call' (ch := fp) I'.os I'.base I'.hok I'.bare fun b hb => ⟨(f3 b hb).1.2.2.2.1, (f3 b hb).1.2.1, (f3 b hb).1.2.2.2.2.1, (f3 b hb).1.2.2.2.2.2⟩
    have pg : PG (gcx X A' s4 H3 cenv fp) tg g := by rw [← hce]; exact hg A' hr' _ _ _ _ _ _
    have pt : PTs (gcx X A' s4 H3 cenv fp) ifs tt := by rw [← hce]; exact ht A' hr' _ _ _ _ _ _
    have pe : PE (gcx X A' s4 H3 cenv fp) elt te := by rw [← hce]; exact he A' hr' _ _ _ _ _ _
    refine hQ (gcx X A' s4 H3 cenv fp) h'.objs.size oa s4.gens.size (m0 + 1) (wipe σ (own.map (·.2))) _ _ rfl rfl rfl ga isg (Array.getElem?_push_size ..) I5.nolimit bare5 (fun S s'' oS hS e1 e2 e3 e4 e5 e6 => ?_) (fun S hS => Nat.le_trans I5.sz hS) back
    refine ⟨rfl, ?_⟩
    have hS : h'.objs.size + 1 ≤ S := by
      have hS : (h'.push oa).objs.size ≤ S := hS
      rwa [Heap.size_push] at hS
    have fS := I5.fpOk (b := S) (H' := H3) (by show (h'.push oa).objs.size ≤ S; rw [Heap.size_push]; exact hS) (I5.hok.fresh (by show (h'.push oa).objs.size ≤ S; rw [Heap.size_push]; exact hS))
    have I6 : Inv (gcx X A' s4 H3 cenv fp) ([(h'.objs.size, oa)] ++ [(S, oS)]) (wipe σ (own.map (·.2))) H3 s'' := by
      have I6 := Inv.kall I5 e1 e2 e3
      refine I6.pins_of fun p hp => ?_
      rcases List.mem_append.mp hp with hp | hp
      · exact I6.pin p (List.mem_append_right _ hp)
      · have := List.mem_singleton.mp hp
        subst this
        exact ⟨e4, fS.1, fS.2.1, fS.2.2.1, e6⟩
    subst hA'
    refine gen_beginS hc (by rw [← hce]; exact SC.co) T (fun b hb => Nat.ne_of_gt (Nat.lt_trans (f3 b hb).2 (by omega))) (fun b hb => Nat.ne_of_gt (Nat.lt_of_lt_of_le (f3 b hb).2 (by omega))) (Nat.ne_of_lt hS) (by omega) hmono pg pt pe turn m0 γ0 oS _ _ H3 w0 e4 e5 I6 ?_ (fun b hb => (f3 b hb).1.1)
    exact T.keep _ _ _ st4 fun b hb o e => e3 b o (Heap.get?_push_of_some _ (keep' b o e))
  refine ⟨I2.nolimit, ?_⟩
  cases hf : codeAmong gpos ps.toList with
  | none =>
    refine wpAny_genexprCodeX hcode (cd.code hPs hts) (cd.tab hPs) hf fun c' h' tk hx hge hlt hco' _ htab' _ => ?_
    obtain ⟨o1, vs, f1, tf, fl, tg', inF, tx, tt', op, _, _, _, _, _, _, _, _, _, htr, _⟩ := hco'
    exact cont _ h' tk _ hx (Nat.le_trans hge (Nat.le_of_lt hlt)) htab'.2 ⟨_, rfl⟩ htr
  | some cv =>
    refine wpAny_genexprCode_hit hcode (cd.code hPs hts) hf ?_
    exact cont cv s2.heap s2.toks ps (Heap.ExtBut.refl _ _) (Nat.le_refl _) hPs ⟨#[], by simp⟩ hts
end
end GAl

set_option Elab.async false
set_option linter.all false
set_option maxRecDepth 100000
set_option maxHeartbeats 2000000
namespace GAl
open PySem PySem.Spec PyProof.Rows L2 GxR
open Sem (wp)
/-! ### tuple of a generator expression -/
abbrev lstObj (acc : Array Value) (c : Nat) : Obj := { cls := .type "list", dict := none, data := .seq acc c, slots := #[] }
def RepT : Obj → List V → Prop := fun o γ => ∃ acc c, o = lstObj acc c ∧ Vals γ acc.toList
def stpT : List V → V → Hp → (List V → Prop) → Prop := fun γ y _ N => γ.length ≤ 1000 ∧ N (γ ++ [y])
theorem stpT_mono : ∀ γ y H (p q : List V → Prop), (∀ γ', p γ' → q γ') → stpT γ y H p → stpT γ y H q := fun _ _ _ _ _ h ⟨k, n⟩ => ⟨k, h _ n⟩
theorem vals_snoc {γ : List V} {us : List Value} {y : V} {v : Value} (h : Vals γ us) (r : RelV y v) : Vals (γ ++ [y]) (us ++ [v]) := by
  induction h with
  | nil => exact .cons r .nil
  | cons a _ ih => exact .cons a ih
section
variable {X XG : Cx} {A : Around} {a S : Addr} {oa : Obj} {g : Nat} {σw : L2.St} {Qd : List V → Hp → Prop} {R : Result → Shared → Prop}
theorem tup_loop (hh : A.handled = none) (hroom : A.depth < recursionLimit) (hpn : XG.pn = []) (hSy : S ∈ XG.ex ∨ XG.s_0.heap.objs.size ≤ S) (res : Value)
    (hfin : ∀ s' ps σ' H' γ acc c, Inv XG ps σ' H' s' → s'.heap.get? S = some (lstObj acc c) → Vals γ acc.toList → Qd γ H' → R (.ok (.ret res)) s') :
    ∀ (n : Nat) (s : Shared) (acc : Array Value) (c : Nat), s.heap.get? a = some oa → s.heap.get? S = some (lstObj acc c) → a ≠ S →
      GSt (model X.prog X.w) A.in1.in1 (REndS XG a oa S RepT σw Qd) (YOutS XG a oa S RepT stpT) a g n s → codeAny (model X.prog X.w) A (.builtin "list.extend.loop" ⟨[.ref S, .ref a, res], []⟩) R s := by
  intro n
  induction n with
  | zero =>
    intro s acc c hoa hS haS ⟨hg, hl, gs, hgs, hgo⟩
    refine codeAny_builtin F.entry_extend_loop ?_
    rw [Around.under_plainId F.plain_extend_loop _]
    show wpAny _ A.in1 (pyNext (.ref a) >>= _) _ _ s
    refine wpAny_bind (next_sz (A := A.in1) hh hl hroom hg hgs hgo (fun v s₁ gs' hsz hb hv => ?_) (fun s₁ hsz hp h' hk => ?_))
    · obtain ⟨γ, oS', y, H4, σ4, e1, e2, I4, r, k, nn⟩ := hv
      have e1 : s.heap.get? S = some oS' := e1
      rw [hS] at e1; cases e1
      obtain ⟨acc', c', e3, hV⟩ := e2
      cases e3
      have hS' : s₁.heap.get? S = some (lstObj acc c) := (I4.pin (S, lstObj acc c) (by rw [hpn]; simp)).1
      have hln : γ.length = acc.size := by rw [hV.length]; simp
      show wpAny _ A.in1 (updateSeq S (·.push v) >>= _) _ _ _
      refine wpAny_bind (wpAny_updateSeq hS' rfl (wpAny_pure ⟨plainId_quiet F.plain_extend_loop _, ?_⟩) (by rw [sizeLine_eq]; omega) (by show (acc.push v).size ≤ sizeLine + 1; rw [Array.size_push, sizeLine_eq]; omega))
      exact False.elim (nn (Shared.setGen { s₁ with heap := s₁.heap.update S (Obj.mapSeq (·.push v)) } g gs') _ rfl (bare_set I4.bare hb) (fun b o hb' e => (Heap.get?_update_other _ _ (Ne.symm hb')).trans e) (Heap.get?_update_self _ hS' rfl) ⟨_, _, rfl, by
        rw [Array.toList_push]
        exact vals_snoc hV r⟩ (fun v z => by cases z))
    · obtain ⟨γ, oS', H4, e1, e2, I4, q⟩ := hp
      have e1 : s.heap.get? S = some oS' := e1
      rw [hS] at e1; cases e1
      obtain ⟨acc', c', e3, hV⟩ := e2
      cases e3
      have hS1 : s₁.heap.get? S = some (lstObj acc c) := (I4.pin (S, lstObj acc c) (by rw [hpn]; simp)).1
      exact wpAny_pure (hfin _ _ σw H4 _ _ _ (Inv.kall I4 rfl (bare_set I4.bare rfl) hk) (hk _ _ hS1) hV q)
  | succ n ih =>
    intro s acc c hoa hS haS ⟨hg, hl, gs, hgs, hgo⟩
    refine codeAny_builtin F.entry_extend_loop ?_
    rw [Around.under_plainId F.plain_extend_loop _]
    show wpAny _ A.in1 (pyNext (.ref a) >>= _) _ _ s
    refine wpAny_bind (next_sz (A := A.in1) hh hl hroom hg hgs hgo (fun v s₁ gs' hsz hb hv => ?_) (fun s₁ hsz hp h' hk => ?_))
    · obtain ⟨γ, oS', y, H4, σ4, e1, e2, I4, r, k, nn⟩ := hv
      have e1 : s.heap.get? S = some oS' := e1
      rw [hS] at e1; cases e1
      obtain ⟨acc', c', e3, hV⟩ := e2
      cases e3
      have hS' : s₁.heap.get? S = some (lstObj acc c) := (I4.pin (S, lstObj acc c) (by rw [hpn]; simp)).1
      have ha : s₁.heap.get? a = some oa := (I4.pin (a, oa) (by rw [hpn]; simp)).1
      obtain ⟨x, hx⟩ := gens_some hgs hsz rfl
      have hln : γ.length = acc.size := by rw [hV.length]; simp
      show wpAny _ A.in1 (updateSeq S (·.push v) >>= _) _ _ _
      refine wpAny_bind (wpAny_updateSeq hS' rfl (wpAny_pure ⟨plainId_quiet F.plain_extend_loop _, ?_⟩) (by rw [sizeLine_eq]; omega) (by show (acc.push v).size ≤ sizeLine + 1; rw [Array.size_push, sizeLine_eq]; omega))
      have oth : ∀ b o, b ≠ S → s₁.heap.get? b = some o → (s₁.heap.update S (Obj.mapSeq (·.push v))).get? b = some o := fun b o hb' e => (Heap.get?_update_other _ _ (Ne.symm hb')).trans e
      have hS3 := Heap.get?_update_self (Obj.mapSeq (·.push v)) hS' rfl
      have hV' : Vals (γ ++ [y]) (acc.push v).toList := by
        rw [Array.toList_push]
        exact vals_snoc hV r
      refine ih _ (acc.push v) _ (oth a oa haS ha) hS3 haS ⟨isgen_of hg hoa (oth a oa haS ha), ?_, gs', setGen_self hx, ?_⟩
      · exact (Inv.kallS (ps := [(a, oa)]) (s'' := { s₁.setGen g gs' with heap := s₁.heap.update S (Obj.mapSeq (·.push v)) }) I4 hSy (by rw [hpn]; intro p hp; have := List.mem_singleton.mp hp; subst this; exact haS) rfl (bare_set I4.bare hb) oth hS3 (fun v z => by cases z)).nolimit
      · exact nn (Shared.setGen { s₁.setGen g gs' with heap := s₁.heap.update S (Obj.mapSeq (·.push v)) } g .running) _ rfl (bare_set (bare_set I4.bare hb) rfl) oth hS3 ⟨_, _, rfl, hV'⟩ (fun v z => by cases z)
    · obtain ⟨γ, oS', H4, e1, e2, I4, q⟩ := hp
      have e1 : s.heap.get? S = some oS' := e1
      rw [hS] at e1; cases e1
      obtain ⟨acc', c', e3, hV⟩ := e2
      cases e3
      have hS1 : s₁.heap.get? S = some (lstObj acc c) := (I4.pin (S, lstObj acc c) (by rw [hpn]; simp)).1
      exact wpAny_pure (hfin _ _ σw H4 _ _ _ (Inv.kall I4 rfl (bare_set I4.bare rfl) hk) (hk _ _ hS1) hV q)
end
section
variable {prog : Program} {w : World} {A : Around} {E : Value → Shared → Prop} {s : Shared} {a : Addr} {g : Nat}
theorem keeps_push {h : Heap} {o : Obj} : ∀ b u, h.get? b = some u → (h.push o).get? b = some u := fun b u e => Heap.get?_push_of_some _ e
/-- a generator is collected by the loop that extends a new list -/
theorem collect_by {Q : List Value → Shared → Prop} (hG : s.heap.IsGen a g)
    (hQ : ∀ (h' : Heap) (S : Addr) (c tk : Nat), s.heap.objs.size ≤ S → (∀ b o, s.heap.get? b = some o → h'.get? b = some o) → h'.get? S = some (lstObj #[] c) →
      codeAny (model prog w) A (.builtin "list.extend.loop" ⟨[.ref S, .ref a, .ref S], []⟩) (fun r s' => ∃ acc c', r = .ok (.ret (.ref S)) ∧ s'.heap.get? S = some (lstObj acc c') ∧ Q acc.toList s') { s with heap := h', toks := tk }) :
    wpAny (model prog w) A (collect (.ref a)) Q E s := by
  obtain ⟨oa, hoa⟩ : ∃ oa, s.heap.get? a = some oa := by
    obtain ⟨_, _, _, o, _⟩ := hG
    exact ⟨_, o⟩
  have hlt := Heap.lt_size hoa
  have hSa : s.heap.objs.size ≠ a := fun e => Nat.lt_irrefl _ (e ▸ hlt)
  unfold collect
  refine wpAny_bind (wpAny_runValue (codeAny_builtin F.entry_proto_collect ?_))
  rw [Around.under_plainId F.plain_proto_collect _]
  show wpAny _ A.in1 (newList [] >>= fun l => again (.builtin "list.__iadd__" ⟨[l, .ref a], []⟩)) _ _ s
  refine wpAny_bind (wpAny_newObj_type ?_)
  refine wpAny_pure ⟨plainId_quiet F.plain_list_iadd _, codeAny_builtin F.entry_list_iadd ?_⟩
  rw [Around.under_plainId F.plain_list_iadd _]
  have hG1 : (s.heap.push (lstObj #[] 0)).IsGen a g := hG.push _
  have ty : (⟨s.heap.push (lstObj #[] 0), s.gens, s.drawn, s.toks, s.os⟩ : Shared).TypeIs (.ref a) "generator" := Heap.IsGen.typeIs (s := ⟨s.heap.push (lstObj #[] 0), s.gens, s.drawn, s.toks, s.os⟩) hG1
  show wpAny _ A.in1 (Builtin.List.listExtendWith (.ref s.heap.objs.size) (.ref a) (.ref s.heap.objs.size)) _ _ _
  unfold Builtin.List.listExtendWith
  refine wpAny_bind (wpAny_typeOf ty ?_)
  simp only [show Builtin.List.listSameRef (.ref s.heap.objs.size) (.ref a) = false by simp [Builtin.List.listSameRef, hSa], show (Value.type "generator" == Value.type "list") = false by decide, show (Value.type "generator" == Value.type "tuple") = false by decide, Bool.or_false, Bool.false_eq_true, if_false]
  refine wpAny_bind (wpAny_pyIter_gen hG1 ?_)
  refine wpAny_bind (wpAny_holding ?_)
  unfold Builtin.List.listLengthHint
  refine wpAny_bind (wpAny_specialOf ty F.gen_no_len ?_)
  show wpAny _ A.in1 (specialOf (Value.ref a) (Str.ofString "__length_hint__") >>= _) _ _ _
  refine wpAny_bind (wpAny_specialOf ty F.gen_no_hint ?_)
  apply wpAny_pure
  show wpAny _ A.in1 (rule "list.extend.makes-room" >>= fun _ => Builtin.List.listTouch (.ref s.heap.objs.size) >>= fun _ => again (.builtin "list.extend.loop" ⟨[.ref s.heap.objs.size, .ref a, .ref s.heap.objs.size], []⟩)) _ _ _
  refine wpAny_bind (wpAny_rule (wpAny_bind ?_))
  have g1 : (s.heap.push (lstObj #[] 0)).get? s.heap.objs.size = some (lstObj #[] 0) := Heap.get?_push_size _ rfl
  show wpAny _ A.in1 (updateSeq s.heap.objs.size (·.push .none) >>= fun _ => updateSeq s.heap.objs.size (·.pop)) _ _ _
  refine wpAny_bind (wpAny_updateSeq g1 rfl ?_)
  have g2 := Heap.get?_update_self (Obj.mapSeq (·.push Value.none)) g1 rfl
  refine wpAny_updateSeq g2 rfl ?_
  have g3 := Heap.get?_update_self (Obj.mapSeq (·.pop)) g2 rfl
  refine wpAny_pure ⟨plainId_quiet F.plain_extend_loop _, codeAny_mono (hQ _ _ _ _ (Nat.le_refl _) (fun b o e => ?_) g3) fun r s' hr => ?_⟩
  · have hb : b ≠ s.heap.objs.size := Nat.ne_of_lt (Heap.lt_size e)
    exact (Heap.get?_update_other _ _ (Ne.symm hb)).trans ((Heap.get?_update_other _ _ (Ne.symm hb)).trans (keeps_push b o e))
  · obtain ⟨acc, c', rfl, h1, h2⟩ := hr
    show wpAny _ A (load s.heap.objs.size >>= _) _ _ s'
    exact wpAny_bind (wpAny_load h1 (wpAny_pure h2))
/-- tuple(g) -/
theorem call_tup_by {Q : Value → Shared → Prop} (hG : s.heap.IsGen a g)
    (hQ : ∀ (h' : Heap) (S : Addr) (c tk : Nat), s.heap.objs.size ≤ S → (∀ b o, s.heap.get? b = some o → h'.get? b = some o) → h'.get? S = some (lstObj #[] c) →
      codeAny (model prog w) A.in1.in1 (.builtin "list.extend.loop" ⟨[.ref S, .ref a, .ref S], []⟩) (fun r s' => ∃ acc c', r = .ok (.ret (.ref S)) ∧ s'.heap.get? S = some (lstObj acc c') ∧ acc.size ≤ sizeLine ∧ Q (.ref s'.heap.objs.size) { s' with heap := s'.heap.push { cls := .type "tuple", data := .seq acc } }) { s with heap := h', toks := tk }) :
    wpAny (model prog w) A (call (.type "tuple") [.ref a]) Q E s := by
  refine callType_codes (Q₁ := fun obj s₁ => s₁.TypeIs obj "tuple" ∧ Q obj s₁) F.called_tuple (F.typeCall_tuple_1 _) F.entry_object_init ?_ fun obj s₁ h₁ => ⟨h₁.1, F.args_object_init_2 obj _, object_init_meets F.called_tuple.init.lookup F.called_tuple.made (by decide) prog w A.in1 _ s₁ ⟨h₁.1, rfl, h₁.2⟩⟩
  refine codeAny_of_tree ?_
  show wpAny _ A.in1.in1 (do checkBuiltinCall "tuple.__new__" ⟨[.type "tuple", .ref a], []⟩; again (.builtin "tuple.__new__" ⟨[.type "tuple", .ref a], []⟩)) _ _ s
  refine wpAny_bind (wpAny_of_eq (F.newCall_tuple_1 _) (wpAny_pure ⟨plainId_quiet F.plain_tuple_new _, codeAny_builtin F.entry_tuple_new ?_⟩))
  rw [Around.under_plainId F.plain_tuple_new _]
  have e1 := sub_tuple_self
  have e2 := init_tuple_lookup
  have e3 := madeHere_tuple
  have e4 := hG.typeIs
  wp_walk using wpAny_typeOf e4, collect_by hG
  intro h' S c tk hS hk h1
  refine codeAny_mono (hQ h' S c tk hS hk h1) fun r s' hr => ?_
  obtain ⟨acc, c', rfl, h2, h3, h4⟩ := hr
  refine ⟨acc, c', rfl, h2, ?_⟩
  show wpAny _ _ (Builtin.Tuple.tupleExact acc.toList.toArray >>= fun v => ret v) _ _ _
  unfold Builtin.Tuple.tupleExact
  refine wpAny_bind (wpAny_newObj_type ?_ (by rw [Array.toArray_toList]; exact h3))
  refine wpAny_pure ?_
  rw [Array.toArray_toList]
  exact ⟨⟨_, Heap.get?_push_size _ rfl, rfl⟩, h4⟩
end
section
variable {X : Cx}
def tTupG (P : Addr) (wi : TI) (g : TG) (tt : TT) (te : TE) (vs : List Nat) : TE := fun σ H Q => tGenS P wi g tt te vs stpT ([] : List V) (fun γ H' => γ.length ≤ 1001 ∧ ∀ p, H' p = none → Q (.ref p) (upd H' p (.tup γ))) σ H
theorem pe_tupG {c P : Addr} {elt tg iter : Expr} {ifs : List Expr} {p pos gpos : Pos} {scope : Scope} {own : List (Str × Nat)} {wi : TI} {g : TG} {tt : TT} {te : TE} {k : Nat}
    (hr : Room (k + 1) X.A) (hgl : Gl X "tuple") (hm : X.mg "tuple" = none) (hc : X.calm = true) (hN : X.N.Nodup) (TB : TabB X.base X.mg c P) (hcode : X.env.code = .ref c) (S : GSc X.N X.env.scope scope own) (hi : PI X tg iter wi)
    (hg : ∀ (A' : Around), Room k A' → ∀ (s : Shared) (H : Hp) (cl : List (Str × Addr)) (C : Addr) (code : Value) (fp : List Addr), PG (gcx X A' s H (genEnv scope cl C code builtinsNs X.env) fp) tg g)
    (ht : ∀ (A' : Around), Room k A' → ∀ (s : Shared) (H : Hp) (cl : List (Str × Addr)) (C : Addr) (code : Value) (fp : List Addr), PTs (gcx X A' s H (genEnv scope cl C code builtinsNs X.env) fp) ifs tt)
    (he : ∀ (A' : Around), Room k A' → ∀ (s : Shared) (H : Hp) (cl : List (Str × Addr)) (C : Addr) (code : Value) (fp : List Addr), PE (gcx X A' s H (genEnv scope cl C code builtinsNs X.env) fp) elt te)
    (hs : ∀ v, genFold iter X.env v = pure v := by intro _; rfl)
    (hst : starEach [.GeneratorExp elt [⟨tg, iter, ifs, 0⟩] scope gpos] X.env = (false, eval (.GeneratorExp elt [⟨tg, iter, ifs, 0⟩] scope gpos) X.env) :: starEach [] X.env := by rfl)
    (hb : bootBuiltins "tuple" = some (.type "tuple") := by decide +kernel) :
    PE X (.Call (.Name "tuple" p) [.GeneratorExp elt [⟨tg, iter, ifs, 0⟩] scope gpos] [] pos) (tTupG P wi g tt te (own.map (·.2))) := by
  refine ⟨fun pins s σ H Q I h => ?_⟩
  refine wpAny_Call_Name_kw (ld_blt I hgl hm hb ?_ (by decide) (by decide))
  refine PyProof.Rows.callWith_type1 ?_ hst (by rfl)
  rw [hst]
  show wpAny _ _ (spliced ((false, eval (.GeneratorExp elt [⟨tg, iter, ifs, 0⟩] scope gpos) X.env) :: backTo pos (starEach [] X.env))) _ _ s
  refine Calls.spliced_cons (gen_makeS4 (Rep := RepT) hr hc hN TB hcode S hi hg ht he stpT_mono hs I h fun XG a oa gn n σw s5 gs eP eW epn ha hG hgs hnl hb5 go hy back => ?_)
  refine Calls.spliced_nil ?_
  show wpAny _ _ (call (.type "tuple") [.ref a]) _ _ _
  refine call_tup_by hG fun h' L c tk hL hk h1 => ?_
  have haL : a ≠ L := Nat.ne_of_lt (Nat.lt_of_lt_of_le (Heap.lt_size ha) hL)
  refine tup_loop (A := X.A.in1.in1) (X := X) (XG := XG) (oa := oa) (g := gn) (σw := σw) (Qd := fun γ H' => γ.length ≤ 1001 ∧ ∀ p, H' p = none → Q (.ref p) (upd H' p (.tup γ))) hr.hd (by have := hr.dp; show X.A.depth < _; omega) epn (.inr (hy _ hL)) _ (fun s' ps σ' H' γ acc c' I' hS' hV q => ?_) n ({ s5 with heap := h', toks := tk } : Shared) #[] c (hk _ _ ha) h1 haL ⟨isgen_of hG ha (hk _ _ ha), (Heap.NoLimit.keeps hnl hk : h'.NoLimit), gs, hgs, ?_⟩
  · obtain ⟨ql, q⟩ := q
    have hln : γ.length = acc.size := by rw [hV.length]; simp
    have hsz : acc.size ≤ sizeLine := by rw [sizeLine_eq]; omega
    refine ⟨acc, c', rfl, hS', hsz, ?_⟩
    have I2 := back s' _ σ' H' I'
    have new : H' s'.heap.objs.size = none := I2.hok.fresh (Nat.le_refl _)
    refine ⟨.ref s'.heap.objs.size, upd H' s'.heap.objs.size (.tup γ), I2.laid (a := s'.heap.objs.size) (o := .tup γ) (h' := s'.heap.push { cls := .type "tuple", data := .seq acc }) (t' := s'.toks) (fun _ _ e => Heap.get?_push_of_some _ e) (Nat.le_refl _) ?_, rfl, q _ new⟩
    refine ⟨by rw [sizeLine_eq]; omega, acc.toList, hV, ?_⟩
    rw [Array.toArray_toList]
    exact ⟨_, Heap.get?_push_size _ rfl, rfl, 0, rfl⟩
  · exact go L (Shared.setGen _ gn .running) _ hL rfl (bare_set hb5 rfl) hk h1 ⟨_, _, rfl, .nil⟩ (fun v z => by cases z)
end
end GAl

set_option Elab.async false
set_option linter.all false
set_option maxRecDepth 100000
set_option maxHeartbeats 4000000
namespace HK
open PySem PySem.Spec PyProof.Rows L2 GAl GxR
open Evl (pss_cut)
abbrev sKeepers : Stmt := topS 49
abbrev N_scKeepers : List Str := ["kept", "number", "place"]
theorem scKeepers : FnScope N_scKeepers ["kept", "number"] (defScope sKeepers) := ⟨rfl, rfl, rfl, by decide +kernel, rfl, by decide +kernel, by decide +kernel⟩
abbrev sNeedS : Stmt := topS 42
abbrev N_scNeedS : List Str := ["net", "kept", "place"]
theorem scNeedS : FnScope N_scNeedS ["net", "kept"] (defScope sNeedS) := ⟨rfl, rfl, rfl, by decide +kernel, rfl, by decide +kernel, by decide +kernel⟩
abbrev sNeedRoom : Stmt := topS 44
abbrev N_scNeedRoom : List Str := ["net"]
theorem scNeedRoom : FnScope N_scNeedRoom ["net"] (defScope sNeedRoom) := ⟨rfl, rfl, rfl, by decide +kernel, rfl, by decide +kernel, by decide +kernel⟩
/-- the places that keep a number -/
def keepK (kps : KpL) (m : Int) : List Int := (kps.filter fun p => decide (m ∈ p.2)).map (·.1)
theorem asc_eq : ∀ {xs ys : List Int}, xs.Pairwise (· < ·) → ys.Pairwise (· < ·) → (∀ v, v ∈ xs ↔ v ∈ ys) → xs = ys
  | [], [], _, _, _ => rfl
  | [], y :: ys, _, _, h => absurd ((h y).mpr (List.mem_cons_self ..)) List.not_mem_nil
  | x :: xs, [], _, _, h => absurd ((h x).mp (List.mem_cons_self ..)) List.not_mem_nil
  | x :: xs, y :: ys, hx, hy, h => by
    have px := List.pairwise_cons.mp hx
    have py := List.pairwise_cons.mp hy
    have e : x = y := by
      rcases List.mem_cons.mp ((h x).mp (List.mem_cons_self ..)) with e | hm
      · exact e
      · rcases List.mem_cons.mp ((h y).mpr (List.mem_cons_self ..)) with e | hm2
        · exact e.symm
        · have a := py.1 x hm
          have b := px.1 y hm2
          omega
    subst e
    rw [asc_eq px.2 py.2 fun v => ⟨fun hv => ?_, fun hv => ?_⟩]
    · rcases List.mem_cons.mp ((h v).mp (List.mem_cons_of_mem _ hv)) with e | hm
      · have := px.1 v hv; omega
      · exact hm
    · rcases List.mem_cons.mp ((h v).mpr (List.mem_cons_of_mem _ hv)) with e | hm
      · have := py.1 v hv; omega
      · exact hm
theorem sorted_keys {n : Int} {kps : KpL} (h : KpOk n kps) {ys : List Int} (hp : ys.Perm (kps.map (·.1))) (hs : ys.Pairwise (· ≤ ·)) : ys = kps.map (·.1) := by
  have nd : ys.Nodup := hp.nodup_iff.mpr h.nodup
  have st : ys.Pairwise (· < ·) := (hs.and nd).imp fun a => by omega
  exact asc_eq st h.up fun v => hp.mem_iff
theorem KVs.keysI {K : PySem.W.Frag} {H : Hp} {kvs : List (Key × V)} {kps : KpL} (h : KVs K H kvs kps) : kvs.map (·.1) = (kps.map (·.1)).map Sum.inl := by
  rw [h.keys, List.map_map]
  rfl
theorem keep_succ {kps : KpL} {m : Int} {i : Nat} {p : Int} {ms : List Int} (e : kps[i]? = some (p, ms)) : keepK (kps.take (i + 1)) m = keepK (kps.take i) m ++ (if m ∈ ms then [p] else []) := by
  unfold keepK
  rw [List.take_add_one, e, List.filter_append, List.map_append]
  congr 1
  by_cases h : m ∈ ms
  · rw [if_pos h]
    show (List.filter _ [(p, ms)]).map _ = _
    rw [List.filter_cons_of_pos (by exact decide_eq_true h)]
    rfl
  · rw [if_neg h]
    show (List.filter _ [(p, ms)]).map _ = _
    rw [List.filter_cons_of_neg (by simpa using h)]
    rfl
theorem keep_len (kps : KpL) (m : Int) : (keepK kps m).length ≤ kps.length := by
  unfold keepK
  rw [List.length_map]
  exact List.length_filter_le ..
section
variable {P : Program} {w : World} {K : PySem.W.Frag} {mg : Str → Option Value} {base : Heap}
def spKeepers (K : PySem.W.Frag) (Pk : Addr) : Sp := fun vs H Q _ => ∃ (d : Addr) (kvs : List (Key × V)) (kps : KpL) (n m : Int), vs = [.ref d, .int m] ∧ H d = some (.dK kvs) ∧ KVs K H kvs kps ∧ KpOk n kps ∧ n ≤ 12 ∧ TabG H Pk ∧ ∀ (q : Addr) (H' : Hp), K0 H H' → SqT K H' q ((keepK kps m).map V.int) → Q (.ref q) H'
theorem ok_keepers {f c Pk : Addr} {fd : FuncData} (F : FunC K "keepers_of" "keepers_of" sKeepers f fd c) (TB : TabB base mg c Pk)
    (m_tuple : mg "tuple" = none) (m_sorted : mg "sorted" = none) : FnOk P w K mg base CX0 2 f fd ["kept", "number"] (spKeepers K Pk) := by
  refine F.ok scKeepers (fun vs H Q E h => ?_) (fun A outer s H vs Q E hr h => ?_)
  · obtain ⟨d, kvs, kps, n, m, rfl, _⟩ := h
    rfl
  · obtain ⟨d, kvs, kps, n, m, rfl, hd, hK, hO, hn, tk, q⟩ := h
    have hu := hu_of hr
    refine ⟨_, (pss_one (ps_ret (pe_tupG (own := [("place", 2)]) (k := 0) (g := (gName 2)) (tt := (tTest (tOp (rIn K false) (tVar 1) (tDGet (tVar 0) (tVar 2))))) (te := (tVar 2)) (hr.mono (by decide)) (by rfl) m_tuple rfl scKeepers.nd TB rfl (gsc_by (N := N_scKeepers) (sc := defScope sKeepers) (by decide +kernel)) (pi_list (pe_callB (call_sortedDI rfl) (by rfl) m_sorted boot_sorted (pa_cons (pv 0) pa_nil))) (fun A' hr' _ _ _ _ _ _ => (pg_name (i := 2) scKeepers.nd rfl (.inl rfl))) (fun A' hr' _ _ _ _ _ _ => (pts_one (pt_cmpR op_in_seq (pv 1) (pe_dget (hu_of hr') (pv 0) (pv 2) (fun _ _ => rfl)) rfl))) (fun A' hr' _ _ _ _ _ _ => (pv 2))))), ?_⟩
    have hkl := hO.len hn
    refine ⟨_, rfl, d, kvs, kps.map (·.1), rfl, .inl hd, hK.keysI, by rw [List.length_map]; omega, fun ys sp perm up nsp => ?_⟩
    obtain rfl := sorted_keys hO perm up
    have ks := K0.new nsp (o := .lst ((kps.map (·.1)).map V.int))
    have hS : upd H sp (.lst ((kps.map (·.1)).map V.int)) sp = some (.lst ((kps.map (·.1)).map V.int)) := upd_same
    generalize upd H sp (.lst ((kps.map (·.1)).map V.int)) = H1 at ks hS ⊢
    refine ⟨sp, rfl, ⟨_, .inl (.inl hS)⟩, ks.tab _ tk, fun H2 hT2 => ?_⟩
    have k2 : K0 H H2 := ks.trans (K0.tbd (ks.tab _ tk) hT2)
    have hS2 : H2 sp = some (.lst ((kps.map (·.1)).map V.int)) := (K0.tbd (ks.tab _ tk) hT2).oth sp _ hS (fun _ z => by cases z)
    refine ⟨fun i r γ H5 => i + r = kps.length ∧ K0 H2 H5 ∧ γ = (keepK (kps.take i) m).map V.int, ⟨kps.length, by omega, K0.refl _, rfl⟩, fun i r γ H5 hW => ?_⟩
    obtain ⟨em, k5, eγ⟩ := hW
    have hS5 : SqL K H5 sp ((kps.map (·.1)).map V.int) := .inl (.inl (k5.oth sp _ hS2 (fun _ z => by cases z)))
    by_cases hi : i < kps.length
    · have e0 : kps[i]? = some (kps[i].1, kps[i].2) := List.getElem?_eq_getElem hi
      refine .inr ⟨⟨_, _, hS5, by rw [List.getElem?_map, List.getElem?_map, e0]; rfl⟩, fun γ' H' => K0 H2 H' ∧ γ' = (keepK (kps.take (i + 1)) m).map V.int, fun γ' H' hN => ⟨r - 1, by omega, by omega, hN⟩, fun z H' hy => ?_⟩
      obtain ⟨rfl, fx⟩ := hy
      have ez := fx _ hS5
      rw [List.getElem?_map, List.getElem?_map, e0] at ez
      cases ez
      have k6 := k2.trans k5
      obtain ⟨q1, e1, hq⟩ := (hK.k0 k6).val hO.nodup (List.getElem_mem hi)
      refine ⟨rfl, _, rfl, _, rfl, _, rfl, d, .ref q1, rfl, .inl ⟨kvs, .inl kps[i].1, .inl (k6.oth d _ hd (fun _ w => by cases w)), rfl, e1.symm⟩, q1, _, rfl, .inr hq, rfl, ?_, _, rfl, ?_⟩
      · rw [List.all_map]
        exact List.all_eq_true.mpr fun _ _ => rfl
      · rw [keep_succ e0, eγ]
        show if (inV (V.int m) (kps[i].2.map V.int)) = true then _ else _
        rw [inI]
        by_cases hm : m ∈ kps[i].2
        · rw [decide_eq_true hm, if_pos hm]
          refine iteT ⟨_, rfl, ?_, k5, ?_⟩
          · rw [List.length_map]
            have h1 := keep_len (kps.take i) m
            have h2 := List.length_take_le' i kps
            omega
          · rw [List.map_append]; rfl
        · rw [decide_eq_false hm, if_neg hm, List.append_nil]
          exact iteF ⟨k5, rfl⟩
    · rw [List.take_of_length_le (by omega)] at eγ
      refine .inl ⟨⟨_, hS5, by rw [List.length_map, List.length_map]; omega⟩, ?_, fun q1 nq => ?_⟩
      · rw [eγ, List.length_map]
        have h1 := keep_len kps m
        omega
      · refine q q1 _ ((k2.trans k5).trans (K0.new nq)) (.inl (.inl ?_))
        rw [upd_same, eγ]
def spNeedRoom (K : PySem.W.Frag) : Sp := fun vs H Q _ => ∃ (a : Addr) (n : Int) (rs : List R4), vs = [.ref a] ∧ NetAt K H a n rs ∧ n < 12 ∧ Q .non H
theorem ok_needroom {f : Addr} {fd : FuncData} {t12 : Tok} (F : Fun K "need_room" "need_room" sNeedRoom f fd) (c_MOST_PLACES : mg "MOST_PLACES" = some (.int 12 t12)) : FnOk P w K mg base CX0 1 f fd ["net"] (spNeedRoom K) := by
  refine F.ok scNeedRoom (fun vs H Q E h => ?_) (fun cdv A outer s H vs Q E hr h => ?_)
  · obtain ⟨a, n, rs, rfl, _⟩ := h
    rfl
  · obtain ⟨a, n, rs, rfl, hN, hn, q⟩ := h
    have hu := hu_of hr
    refine ⟨_, (pss_one (ps_if (pt_cmpR op_ge (pe_ix ix_tup (pv 0) pe_int (fun _ _ => rfl)) (pe_glob (v := .int 12) (by rfl) c_MOST_PLACES ⟨_, rfl⟩) (nomark _)) pss_never pss_nil)), ?_⟩
    obtain ⟨r, xs, o, h1, _⟩ := hN
    refine ⟨_, rfl, a, _, 0, .int n, rfl, rfl, h1, atI_nat (j := 0) rfl, _, _, rfl, rfl, _, rfl, ?_⟩
    rw [decide_eq_false (by omega)]
    exact iteF q
def spNeedS (K : PySem.W.Frag) (Pn Pr Pu Ph Ps : Addr) : Sp := fun vs H Q _ => ∃ (a d : Addr) (n : Int) (rs : List R4) (kvs : List (Key × V)) (kps : KpL), vs = [.ref a, .ref d] ∧ NetAt K H a n rs ∧ Good n rs ∧ rs.length ≤ 156 ∧ H d = some (.dK kvs) ∧ KVs K H kvs kps ∧ KpOk n kps ∧ TabG H Pn ∧ TabG H Pr ∧ TabG H Pu ∧ TabG H Ph ∧ TabG H Ps ∧ ∀ H', K0 H H' → Q .non H'
theorem ok_needs {f c Pn Pr Pu Ph Ps : Addr} {fd : FuncData} {f_neednet f_hasnumbers f_isplace : Addr} {fd_neednet fd_hasnumbers fd_isplace : FuncData} (F : FunC K "need_standing" "need_standing" sNeedS f fd c) (TB : TabB base mg c Ps) (k_neednet : PySem.W.keepIn K (.ref f_neednet) = true) (b_neednet : Binds K fd_neednet ["net"] []) (g_neednet : mg "need_net" = some (.ref f_neednet)) (G_neednet : FnOk P w K mg base CX0 6 f_neednet fd_neednet ["net"] (spNeedNet K Pn Pr))
    (k_hasnumbers : PySem.W.keepIn K (.ref f_hasnumbers) = true) (b_hasnumbers : Binds K fd_hasnumbers ["thing"] []) (g_hasnumbers : mg "has_numbers" = some (.ref f_hasnumbers)) (G_hasnumbers : FnOk P w K mg base CX0 5 f_hasnumbers fd_hasnumbers ["thing"] (spHasN K Pr Pu Ph))
    (k_isplace : PySem.W.keepIn K (.ref f_isplace) = true) (b_isplace : Binds K fd_isplace ["net", "thing"] []) (g_isplace : mg "is_place" = some (.ref f_isplace)) (G_isplace : FnOk P w K mg base CX0 3 f_isplace fd_isplace ["net", "thing"] (spIsPlace K))
    (m_all : mg "all" = none) : FnOk P w K mg base CX0 7 f fd ["net", "kept"] (spNeedS K Pn Pr Pu Ph Ps) := by
  refine F.ok scNeedS (fun vs H Q E h => ?_) (fun A outer s H vs Q E hr h => ?_)
  · obtain ⟨a, d, n, rs, kvs, kps, rfl, _⟩ := h
    rfl
  · obtain ⟨a, d, n, rs, kvs, kps, rfl, hN, G, hl, hd, hK, hO, tn, tr, tu, th, ts, q⟩ := h
    have hu := hu_of hr
    refine ⟨_, (pss_cons (ps_expr (pe_call G_neednet (hr.mono (by decide)) (by rfl) g_neednet k_neednet b_neednet .nil pass0 (pa_cons (pv 0) pa_nil)))
      (pss_one (ps_if (PW.pt (pw_or (pt_not (pt_val (pe_call G_hasnumbers (hr.mono (by decide)) (by rfl) g_hasnumbers k_hasnumbers b_hasnumbers .nil pass0 (pa_cons (pv 1) pa_nil)))) (pw_or1 (pt_not (pt_val (pe_lock (pe_allG (own := [("place", 2)]) (k := 3) (g := (gName 2)) (tt := tYes) (te := (tCall (spIsPlace K) [] E0 (tCons (tVar 0) (tCons (tVar 2) tNil)))) (hr.mono (by decide)) (by rfl) m_all rfl scNeedS.nd TB rfl (gsc_by (N := N_scNeedS) (sc := defScope sNeedS) (by decide +kernel)) (pi_keys (pv 1)) (fun A' hr' _ _ _ _ _ _ => (pg_name (i := 2) scNeedS.nd rfl (.inl rfl))) (fun A' hr' _ _ _ _ _ _ => pts_nil) (fun A' hr' _ _ _ _ _ _ => (pe_call G_isplace (hr'.mono (by decide)) (by rfl) g_isplace k_isplace b_isplace .nil pass0 (pa_cons (pv 0) (pa_cons (pv 2) pa_nil))))))))))) pss_never pss_nil))), ?_⟩
    refine ⟨_, rfl, a, n, rs, rfl, hN, G, hl, tn, tr, fun H1 k1 => ?_⟩
    have hd1 : H1 d = some (.dK kvs) := k1.oth d _ hd (fun _ z => by cases z)
    refine ⟨_, rfl, d, kvs, kps, n, rfl, hd1, hK.k0 k1, hO, k1.tab _ tr, k1.tab _ tu, k1.tab _ th, fun H2 k2 => ⟨_, rfl, iteF ?_⟩⟩
    have k12 := k1.trans k2
    have hd2 : H2 d = some (.dK kvs) := k12.oth d _ hd (fun _ z => by cases z)
    have ts2 := k12.tab _ ts
    refine ⟨d, _, hd2, trivial, fun od => ⟨_, rfl, d, od, rfl, .inl ⟨kvs, upd_same, tabG_lock hd2 (fun _ z => by cases z) ts2, fun H3 hT3 => ?_⟩⟩⟩
    have k3 : K0 (upd H2 d (.frz od (.dK kvs))) H3 := K0.tbd (tabG_lock hd2 (fun _ z => by cases z) ts2) hT3
    refine ⟨fun i m H4 => i + m = kvs.length ∧ K0 (upd H2 d (.frz od (.dK kvs))) H4, ⟨kvs.length, by omega, k3⟩, fun i m H4 hW => ?_⟩
    obtain ⟨em, k4⟩ := hW
    have hd4 : H4 d = some (.frz od (.dK kvs)) := k4.oth d _ upd_same (fun _ z => by cases z)
    by_cases hi : i < kvs.length
    · refine .inr ⟨⟨hd4, hi⟩, fun H' => K0 (upd H2 d (.frz od (.dK kvs))) H', fun H' hN => ⟨m - 1, by omega, by omega, hN⟩, fun x H' hy => ?_⟩
      obtain ⟨rfl, k, v, hkv, rfl⟩ := hy
      obtain ⟨j, ms, qq, e1, e, hq⟩ := (hK.k0 k12).at_ hkv
      cases e
      obtain ⟨j0, j1⟩ := hO.inn _ (List.mem_of_getElem? e1)
      refine ⟨rfl, tyes ⟨_, rfl, _, rfl, a, n, rs, j, rfl, (netAt_lock (hN.k0 k12) hd2).k0 k4, _, rfl, ?_⟩⟩
      rw [decide_eq_true j0, decide_eq_true (show j ≤ n - 1 by omega)]
      exact iteT k4
    · exact .inl ⟨⟨hd4, by omega⟩, hd4, _, rfl, iteF (q _ (k12.trans (K0.lock hd2 (fun _ z => by cases z) k4)))⟩
end
end HK

set_option Elab.async false
set_option linter.all false
set_option maxRecDepth 100000
set_option maxHeartbeats 4000000
/-! dicts whose keys are tuples of any depth (whole numbers, truths, texts, None within), by the library's nestedKind; told by HO.ext -/
namespace HkN
open PySem PySem.Spec PyProof.Rows L2
abbrev NK := PySem.NestedKey
theorem room_u9 {k : Nat} {A : Around} (h : Room k A) : A.units + 9 < cLine := by have := h.units; omega
/-- key, the key's own tuple, value -/
abbrev NE := NK × Addr × V
mutual
/-- the value is such a key -/
inductive KeyV (K : PySem.W.Frag) (H : Hp) : NK → V → Prop
  | non : KeyV K H .none .non
  | int (i : Int) : KeyV K H (.num i) (.int i)
  | bl (b : Bool) : KeyV K H (.num (if b = true then 1 else 0)) (.bl b)
  | str (x : Str) : KeyV K H (.text x) (.str x)
  | tup {a : Addr} {vs : List V} {ks : List NK} : SqT K H a vs → KeyVs K H ks vs → KeyV K H (.tup ks) (.ref a)
inductive KeyVs (K : PySem.W.Frag) (H : Hp) : List NK → List V → Prop
  | nil : KeyVs K H [] []
  | cons {k : NK} {v : V} {ks : List NK} {vs : List V} : KeyV K H k v → KeyVs K H ks vs → KeyVs K H (k :: ks) (v :: vs)
end
mutual
theorem KeyV.mono {K : PySem.W.Frag} {H H' : Hp} (t : ∀ a xs, SqT K H a xs → SqT K H' a xs) : ∀ (k : NK) (v : V), KeyV K H k v → KeyV K H' k v
  | .none, _, h => by cases h; exact .non
  | .num i, _, h => by
    cases h with
    | int => exact .int i
    | bl b => exact .bl b
  | .text x, _, h => by cases h; exact .str x
  | .tup ks, _, h => by
    cases h with
    | tup s a => exact .tup (t _ _ s) (KeyVs.mono t ks _ a)
theorem KeyVs.mono {K : PySem.W.Frag} {H H' : Hp} (t : ∀ a xs, SqT K H a xs → SqT K H' a xs) : ∀ (ks : List NK) (vs : List V), KeyVs K H ks vs → KeyVs K H' ks vs
  | [], _, h => by cases h; exact .nil
  | k :: ks, _, h => by
    cases h with
    | cons a b => exact .cons (KeyV.mono t k _ a) (KeyVs.mono t ks _ b)
end
section
variable {X : Cx} {pins : List (Addr × Obj)} {σ : L2.St} {H : Hp} {s : Shared}
mutual
theorem KeyV.is (I : Inv X pins σ H s) : ∀ (k : NK) (v : V) (u : Value), KeyV X.K H k v → RelV v u → NestedIs s.heap k u
  | .none, _, _, h, r => by
    cases h
    cases r
    exact .none
  | .num i, _, _, h, r => by
    cases h with
    | int =>
      obtain ⟨t, rfl⟩ := r
      exact .int i t
    | bl b =>
      cases r
      exact .bool rfl
  | .text x, _, _, h, r => by
    cases h
    obtain ⟨t, rfl⟩ := r
    exact .text x t
  | .tup ks, _, _, h, r => by
    cases h with
    | tup hs ha =>
      cases r
      obtain ⟨its, rv, ⟨o, ho, hc, n, hd⟩, _⟩ := I.tuple hs
      exact .tup ho hc hd (by simpa using KeyVs.is I ks _ its ha rv)
theorem KeyVs.is (I : Inv X pins σ H s) : ∀ (ks : List NK) (vs : List V) (us : List Value), KeyVs X.K H ks vs → Vals vs us → NestedAll s.heap ks us
  | [], _, _, h, r => by
    cases h
    cases r
    exact .nil
  | k :: ks, _, _, h, r => by
    cases h with
    | cons h1 h2 =>
      cases r with
      | cons r1 r2 => exact .cons (KeyV.is I k _ _ h1 r1) (KeyVs.is I ks _ _ h2 r2)
end
end
/-! ### the dict -/
def valN (kvs : List NE) (k : NK) : Option V := (kvs.find? fun e => decide (e.1 = k)).map (·.2.2)
def putN (kvs : List NE) (k : NK) (b : Addr) (v : V) : List NE := if (valN kvs k).isSome = true then kvs.map (fun e => if e.1 = k then (e.1, e.2.1, v) else e) else kvs ++ [(k, b, v)]
abbrev KN : List NE → List (NK × Addr × Value) → Prop := Paired fun p q => p.1 = q.1 ∧ p.2.1 = q.2.1 ∧ RelV p.2.2 q.2.2
def DNφ (P : Program) (w : World) (a : Addr) (kvs : List NE) (h : Heap) : Prop := kvs.length ≤ sizeLine ∧ (a == sysModules) = false ∧ ∃ xs : List (NK × Addr × Value), KN kvs xs ∧ ∃ o es ep, h.get? a = some o ∧ o.ExactDict ∧ o.data = .dict es ep ∧ es.toList = xs.map (entryOfKey (nestedKind P w)) ∧ (xs.map (·.1)).Nodup
def DN (P : Program) (w : World) (a : Addr) (kvs : List NE) : HO := .ext (DNφ P w a kvs)
/-- the keys' own tuples stand -/
def KsOk (K : PySem.W.Frag) (H : Hp) (kvs : List NE) : Prop := ∀ e ∈ kvs, KeyV K H e.1 (.ref e.2.1) ∧ e.1.depth ≤ 8
theorem KsOk.mono {K : PySem.W.Frag} {H H' : Hp} {kvs : List NE} (h : KsOk K H kvs) (t : ∀ a xs, SqT K H a xs → SqT K H' a xs) : KsOk K H' kvs := fun e he => ⟨KeyV.mono t _ _ (h e he).1, (h e he).2⟩
theorem KsOk.nil {K : PySem.W.Frag} {H : Hp} : KsOk K H [] := fun e he => by cases he
theorem putN_len {kvs : List NE} {k : NK} {b : Addr} {v : V} : (putN kvs k b v).length ≤ kvs.length + 1 := by
  unfold putN
  split
  · rw [List.length_map]; exact Nat.le_succ _
  · rw [List.length_append]; exact Nat.le_refl _
theorem KsOk.put {K : PySem.W.Frag} {H : Hp} {kvs : List NE} (h : KsOk K H kvs) {k : NK} {b : Addr} {v : V} (hk : KeyV K H k (.ref b)) (hd : k.depth ≤ 8) : KsOk K H (putN kvs k b v) := fun e he => by
  unfold putN at he
  split at he
  · obtain ⟨e', he', rfl⟩ := List.mem_map.mp he
    split
    · exact h e' he'
    · exact h e' he'
  · rcases List.mem_append.mp he with he | he
    · exact h e he
    · rw [List.mem_singleton.mp he]; exact ⟨hk, hd⟩
theorem KN.val {kvs : List NE} {xs : List (NK × Addr × Value)} (r : KN kvs xs) (k : NK) : RelO (valN kvs k) ((atKey xs k).map (·.2)) := by
  induction r with
  | nil => exact True.intro
  | @cons p q ps qs h t ih =>
    obtain ⟨h1, _, h2⟩ := h
    by_cases e : p.1 = k
    · have e' : q.1 = k := h1.symm.trans e
      have a : valN (p :: ps) k = some p.2.2 := by simp [valN, List.find?_cons, e]
      have b : atKey (q :: qs) k = some q.2 := by simp [atKey, List.find?_cons, e']
      rw [a, b]; exact h2
    · have e' : ¬ q.1 = k := fun z => e (h1.trans z)
      have a : valN (p :: ps) k = valN ps k := by simp [valN, List.find?_cons, e]
      have b : atKey (q :: qs) k = atKey qs k := by simp [atKey, List.find?_cons, e']
      rw [a, b]; exact ih
theorem KN.put {kvs : List NE} {xs : List (NK × Addr × Value)} (r : KN kvs xs) (k : NK) {b : Addr} {y : V} {u : Value} (ry : RelV y u) : KN (putN kvs k b y) (storedH xs k b u) := by
  have e : (valN kvs k).isSome = (atKey xs k).isSome := by
    rw [(r.val k).isSome_eq, Option.isSome_map]
  unfold putN storedH
  rw [e]
  by_cases q : (atKey xs k).isSome = true
  · rw [if_pos q, if_pos q]
    clear e q
    induction r with
    | nil => exact .nil
    | @cons p q ps qs h t ih =>
      rw [List.map_cons, List.map_cons]
      refine .cons ?_ ih
      obtain ⟨h1, h2, h3⟩ := h
      unfold putAt
      by_cases e : p.1 = k
      · rw [if_pos e, if_pos (h1.symm.trans e)]; exact ⟨h1, h2, ry⟩
      · rw [if_neg e, if_neg (fun z => e (h1.trans z))]; exact ⟨h1, h2, h3⟩
  · rw [if_neg q, if_neg q]; exact Paired.snoc r ⟨rfl, rfl, ry⟩
section
variable {P : Program} {w : World} {H : Hp} {h : Heap} {a : Addr}
theorem dn_ok {kvs : List NE} (z : DNφ P w a kvs h) : ObjOk P w H h a (DN P w a kvs) := by
  refine ⟨z, ?_, fun h1 h2 p k => ?_⟩
  · obtain ⟨_, _, xs, _, o, es, ep, ho, _⟩ := z
    exact ⟨o, ho⟩
  · obtain ⟨z1, z2, xs, r, o, es, ep, ho, q⟩ := p
    exact ⟨z1, z2, xs, r, o, es, ep, k _ ho, q⟩
theorem dn_get {kvs : List NE} (ok : HOk P w H h) (e : Rd H a (DN P w a kvs)) : DNφ P w a kvs h := by
  have := e.ok ok
  exact this.1
end
section
variable {X : Cx} {pins : List (Addr × Obj)} {σ : L2.St} {H : Hp} {s : Shared} {a : Addr}
theorem dn_of {kvs : List NE} (I : Inv X pins σ H s) (e : Rd H a (DN X.prog X.w a kvs)) (hk : KsOk X.K H kvs) : kvs.length ≤ sizeLine ∧ (a == sysModules) = false ∧ ∃ xs, KN kvs xs ∧ s.heap.DictOfH (nestedKind X.prog X.w) a xs := by
  obtain ⟨z, y, xs, r, o, es, ep, h1, h2, h3, h4, h5⟩ := dn_get I.hok e
  refine ⟨z, y, xs, r, o, es, ep, h1, h2, h3, h4, fun x hx => ?_, h5⟩
  have all : ∀ {l : List NE} {m : List (NK × Addr × Value)}, KN l m → KsOk X.K H l → ∀ x ∈ m, (nestedKind X.prog X.w).is s.heap x.1 x.2.1 := by
    intro l m q
    induction q with
    | nil => intro _ x hx; exact nomatch hx
    | @cons p q ps qs hq t ih =>
      intro hl x hx
      rcases List.mem_cons.mp hx with e | hx
      · subst e
        obtain ⟨h1, h2⟩ := hl p (List.mem_cons_self ..)
        rw [← hq.1, ← hq.2.1]
        exact ⟨KeyV.is I _ _ _ h1 rfl, h2⟩
      · exact ih (fun e he => hl e (List.mem_cons_of_mem _ he)) x hx
  exact all r hk x hx
/-- what the dict at a holds at the key y -/
def DGetN (P : Program) (w : World) (K : PySem.W.Frag) (H : Hp) (a : Addr) (y : V) (r : Option V) : Prop := ∃ (kvs : List NE) (k : NK) (b : Addr), Rd H a (DN P w a kvs) ∧ KsOk K H kvs ∧ y = .ref b ∧ KeyV K H k (.ref b) ∧ k.depth ≤ 8 ∧ r = valN kvs k
/-- the heap behind a[y] = v -/
def DPutN (P : Program) (w : World) (K : PySem.W.Frag) (H : Hp) (a : Addr) (y v : V) (H' : Hp) : Prop := ∃ (kvs : List NE) (k : NK) (b : Addr), H a = some (DN P w a kvs) ∧ KsOk K H kvs ∧ y = .ref b ∧ KeyV K H k (.ref b) ∧ k.depth ≤ 8 ∧ kvs.length < sizeLine ∧ H' = upd H a (DN P w a (putN kvs k b v))
variable {y v : V} {u r : Value} {o : Option V} {A : Around} {E : Value → Shared → Prop}
theorem room9 (hu : A.units + 9 < cLine) : (nestedKind X.prog X.w).room A.in1 := by
  show A.in1.units + 8 < cLine
  rw [Around.in1_units]
  omega
theorem n_getItem {Q : Value → Shared → Prop} (hu : A.units + 9 < cLine) (I : Inv X pins σ H s) (g : DGetN X.prog X.w X.K H a y (some v)) (ry : RelV y u) (h : ∀ w' s', Inv X pins σ H s' → RelV v w' → Q w' s') :
    wpAny (model X.prog X.w) A (getItem (.ref a) u) Q E s := by
  obtain ⟨kvs, k, b, e, hk, rfl, ky, kd, l⟩ := g
  cases (show u = Value.ref b from ry)
  obtain ⟨z, hd, xs, rel, dd⟩ := dn_of I e hk
  obtain ⟨w', hw, rw'⟩ := RelO.some_of (v := v) (o := (atKey xs k).map (·.2)) (by rw [l]; exact rel.val k)
  obtain ⟨p, hp, hp2⟩ := Option.map_eq_some_iff.mp hw
  refine wpAny_getItem_heap (room9 (X := X) hu) ⟨KeyV.is I _ _ _ ky rfl, kd⟩ dd hp ?_
  rw [hp2]
  exact h w' _ (I.tok _) rw'
theorem n_in {Q : Value → Shared → Prop} (hu : A.units + 9 < cLine) (I : Inv X pins σ H s) (g : DGetN X.prog X.w X.K H a y o) (ry : RelV y u) (h : ∀ s', Inv X pins σ H s' → Q (.bool o.isSome) s') :
    wpAny (model X.prog X.w) A (compareOp .In u (.ref a)) Q E s := by
  obtain ⟨kvs, k, b, e, hk, rfl, ky, kd, l⟩ := g
  cases (show u = Value.ref b from ry)
  obtain ⟨z, hd, xs, rel, dd⟩ := dn_of I e hk
  refine wpAny_in_heap (room9 (X := X) hu) ⟨KeyV.is I _ _ _ ky rfl, kd⟩ hd dd ?_
  have q := (rel.val k).isSome_eq
  rw [Option.isSome_map] at q
  rw [← q, ← l]
  exact h _ (I.tok _)
theorem n_setItem {H' : Hp} {Q : Unit → Shared → Prop} (hu : A.units + 9 < cLine) (I : Inv X pins σ H s) (g : DPutN X.prog X.w X.K H a y v H') (ry : RelV y u) (rv : RelV v r) (h : ∀ s', Inv X pins σ H' s' → Q () s') :
    wpAny (model X.prog X.w) A (setItem (.ref a) u r) Q E s := by
  obtain ⟨kvs, k, b, e, hk, rfl, ky, kd, l, rfl⟩ := g
  cases (show u = Value.ref b from ry)
  obtain ⟨z, hd, xs, rel, dd⟩ := dn_of I (.inl e) hk
  have hz : xs.length ≤ sizeLine := by rw [← Paired.length rel]; exact z
  refine wpAny_setItem_heap (hsz := hz) (room9 (X := X) hu) ⟨KeyV.is I _ _ _ ky rfl, kd⟩ dd fun h' dd' hs => h _ ?_
  obtain ⟨q, es, ep, hq, h2, h3, h4, _, h5⟩ := dd'
  refine d_write I (by rw [e]; exact True.intro) hs ⟨q, hq⟩ (dn_ok ⟨?_, hd, _, rel.put k rv, q, es, ep, hq, h2, h3, h4, h5⟩)
  have := putN_len (kvs := kvs) (k := k) (b := b) (v := v)
  omega
theorem n_typeIs (I : Inv X pins σ H s) (g : DGetN X.prog X.w X.K H a y o) : s.TypeIs (.ref a) "dict" := by
  obtain ⟨kvs, k, b, e, hk, _⟩ := g
  obtain ⟨_, _, xs, _, dd⟩ := dn_of I e hk
  exact dd.typeIs
end
/-! ### readings and rules -/
def tDNewN (P : Program) (w : World) : TE := fun _ H Q => ∀ p, H p = none → Q (.ref p) (upd H p (DN P w p []))
def tDGetN (P : Program) (w : World) (K : PySem.W.Frag) (td ty : TE) : TE := fun σ H Q => td σ H fun x H1 => ty σ H1 fun y H2 => ∃ a v, x = .ref a ∧ DGetN P w K H2 a y (some v) ∧ Q v H2
def tDInN (P : Program) (w : World) (K : PySem.W.Frag) (ty td : TE) : TE := fun σ H Q => ty σ H fun y H1 => td σ H1 fun x H2 => ∃ a o, x = .ref a ∧ DGetN P w K H2 a y o ∧ Q (.bl o.isSome) H2
def sDPutN (P : Program) (w : World) (K : PySem.W.Frag) (td ty tv : TE) : TS := fun D σ H => tv σ H fun v H1 => td σ H1 fun x H2 => ty σ H2 fun y H3 => ∃ a H4, x = .ref a ∧ DPutN P w K H3 a y v H4 ∧ D.nx σ H4
section
variable {X : Cx} {o i value : Expr} {td ty tv : TE} {pos pos' : Pos}
theorem pe_dnewN : PE X (.Dict [] [] pos) (tDNewN X.prog X.w) := ⟨fun pins s σ H Q I h =>
  wpAny_Dict_empty ⟨.ref s.heap.objs.size, _, I.laid (a := s.heap.objs.size) (o := DN X.prog X.w s.heap.objs.size []) (t' := s.toks) (fun _ _ q => Heap.get?_push_of_some _ q) (Nat.le_refl _)
    (dn_ok ⟨Nat.zero_le _, beq_eq_false_iff_ne.mpr (Ne.symm (Nat.ne_of_lt I.big)), [], .nil, _, #[], 0, Heap.get?_push_size _ rfl, ⟨rfl, rfl, rfl⟩, rfl, rfl, List.nodup_nil⟩), rfl, h _ (I.hok.fresh (Nat.le_refl _))⟩⟩
theorem pe_dgetN (hu : X.A.units + 9 < cLine) (ho : PE X o td) (hi : PE X i ty) (hs : NoSl i) : PE X (.Subscript o i pos) (tDGetN X.prog X.w X.K td ty) := by
  refine ⟨fun pins s σ H Q I h => ?_⟩
  refine subD_of PySem.F.slot_dict_getitem.lookup hs (thn (ho.run pins s σ H _ I h) fun u s1 ⟨x, H1, I1, rx, q1⟩ => thn (hi.run pins s1 σ H1 _ I1 q1) fun iv s2 ⟨y, H2, I2, ry, a, v, ex, g, q2⟩ => ?_)
  subst ex
  obtain rfl : u = Value.ref a := rx
  exact ⟨n_typeIs I2 g, n_getItem hu I2 g ry fun w' s3 I3 rw' => ⟨v, H2, I3, rw', q2⟩⟩
theorem pc_dinN (hu : X.A.units + 9 < cLine) (hi : PE X i ty) (ho : PE X o td) : PC X .In i o (tDInN X.prog X.w X.K ty td) := by
  refine ⟨fun pins s σ H Q I h => ?_⟩
  refine thn (hi.run pins s σ H _ I h) fun iv s1 ⟨y, H1, I1, ry, q1⟩ => thn (ho.run pins s1 σ H1 _ I1 q1) fun u s2 ⟨x, H2, I2, rx, a, ov, ex, g, q2⟩ => ?_
  subst ex
  obtain rfl : u = Value.ref a := rx
  exact n_in hu I2 g ry fun s3 I3 => ⟨.bl ov.isSome, H2, I3, rfl, q2⟩
theorem ps_dputN (hu : X.A.units + 9 < cLine) (ho : PE X o td) (hi : PE X i ty) (hv : PE X value tv) (hs : swapsWith value (some (.Subscript o i pos')) pos.line X.env = pure false) :
    PS X (.Assign [.Subscript o i pos'] value pos) (sDPutN X.prog X.w X.K td ty tv) := by
  refine ⟨fun pins s σ H D I h => ?_⟩
  refine wpAny_Assign_Subscript (thn (hv.run pins s σ H _ I h) fun r s1 ⟨v, H1, I1, rv, q1⟩ => thn (ho.run pins s1 σ H1 _ I1 q1) fun u s2 ⟨x, H2, I2, rx, q2⟩ => thn (hi.run pins s2 σ H2 _ I2 q2) fun iv s3 ⟨y, H3, I3, ry, a, H4, ex, g, q3⟩ => ?_) hs
  subst ex
  obtain rfl : u = Value.ref a := rx
  exact n_setItem hu I3 g ry rv fun s4 I4 => ⟨σ, H4, I4, q3⟩
/-- len(d) -/
def rLenN (P : Program) (w : World) (K : PySem.W.Frag) : List V → Hp → VK → Prop := fun xs H Q => ∃ (p : Addr) (kvs : List NE), xs = [.ref p] ∧ Rd H p (DN P w p kvs) ∧ KsOk K H kvs ∧ Q (.int ((kvs.length : Nat) : Int)) H
theorem call_lenN : CallR X (.builtin "len") (rLenN X.prog X.w X.K) := by
  intro pins s σ H xs us Q I r h
  obtain ⟨p, kvs, rfl, hp, hk, q⟩ := h
  obtain ⟨u, rfl, rx⟩ := vals1 r
  obtain rfl : u = .ref p := rx
  obtain ⟨z, hd, ys, rel, dd⟩ := dn_of I hp hk
  have hl : kvs.length = ys.length := Paired.length rel
  refine call_len_dictH hd dd (by rw [← hl]; rw [sizeLine_eq] at z; omega) ?_
  rw [← hl]
  exact ⟨.int ((kvs.length : Nat) : Int), H, I.tok _, ⟨_, rfl⟩, q⟩
/-- isinstance(d, dict) and other types -/
def rIsiN (P : Program) (w : World) (K : PySem.W.Frag) : List V → Hp → VK → Prop := fun xs H Q => ∃ (a : Addr) (kvs : List NE) (c : V) (u : Value) (b : Bool), xs = [.ref a, c] ∧ ClsV c u ∧ Rd H a (DN P w a kvs) ∧ PySem.W.kitOne K (.type "dict") u = some b ∧ Q (.bl b) H
theorem call_isiN : CallR X (.builtin "isinstance") (rIsiN X.prog X.w X.K) := by
  intro pins s σ H xs us Q I r h
  obtain ⟨a, kvs, c, u, b, rfl, k, ha, e, q⟩ := h
  obtain ⟨u1, u2, rfl, r1, r2⟩ := vals2 r
  have e2 := k.eq r2
  subst e2
  cases (show u1 = Value.ref a from r1)
  obtain ⟨_, _, xs, _, o, es, ep, h1, h2, _⟩ := dn_get I.hok ha
  exact PySem.W.kia_one PySem.W.kitx_dict I.kIn (show _ from ⟨o, h1, h2.1⟩) e (fun z => nomatch z) fun tk => ⟨.bl b, H, I.tok tk, rfl, q⟩
/-- d.clear() -/
def rDClearN (P : Program) (w : World) : V → List V → Hp → VK → Prop := fun x xs H Q => ∃ (a : Addr) (kvs : List NE), x = .ref a ∧ xs = [] ∧ H a = some (DN P w a kvs) ∧ Q .non (upd H a (DN P w a []))
end
section
variable {X : Cx} {pins : List (Addr × Obj)} {σ : L2.St} {H : Hp} {s : Shared} {d : Addr} {o : Obj}
theorem frzN {kvs : List NE} (I : Inv X pins σ H s) (h : H d = some (.frz o (DN X.prog X.w d kvs))) :
    (d == sysModules) = false ∧ s.heap.get? d = some o ∧ o.ExactDict ∧ ∃ (es : Array DictEntry) (ep : Nat), o.data = .dict es ep ∧ es.size = kvs.length ∧
      ∀ (i : Nat) (e : NE), kvs[i]? = some e → ∃ en : DictEntry, es[i]? = some en ∧ en.key = .ref e.2.1 ∧ RelV e.2.2 en.val := by
  obtain ⟨hd, q⟩ := I.hok d _ h
  obtain ⟨z, hs, xs, pr, o', es, ep, ho, hx, hdt, he, _⟩ := q.1
  rw [hd] at ho
  cases ho
  refine ⟨hs, hd, hx, es, ep, hdt, ?_, fun i k e => ?_⟩
  · have l1 : es.size = xs.length := size_of_entries he
    have l2 : kvs.length = xs.length := Paired.length pr
    omega
  · obtain ⟨b, hb, e1, e2, e3⟩ := paired_get pr e
    have q := entry_at he i
    rw [hb] at q
    exact ⟨_, q, by show Value.ref b.2.1 = _; rw [e2], e3⟩
end
def ItkN (P : Program) (w : World) (d : Addr) (o : Obj) (kvs : List NE) : It :=
  ⟨fun i H => H d = some (.frz o (DN P w d kvs)) ∧ i < kvs.length, fun i H x H' => H' = H ∧ ∃ e, kvs[i]? = some e ∧ x = .ref e.2.1, fun i H => H d = some (.frz o (DN P w d kvs)) ∧ kvs.length ≤ i⟩
def ItdN (P : Program) (w : World) (d : Addr) (o : Obj) (kvs : List NE) : It :=
  ⟨fun i H => H d = some (.frz o (DN P w d kvs)) ∧ i < kvs.length, fun i H x H' => H' = H ∧ ∃ e, kvs[i]? = some e ∧ x = e.2.2, fun i H => H d = some (.frz o (DN P w d kvs)) ∧ kvs.length ≤ i⟩
section
variable {P : Program} {w : World} {K : PySem.W.Frag} {tg : Expr} {d : Addr} {o : Obj} {es : Array DictEntry} {ep : Nat}
theorem turn_keysN {kvs : List NE} (it : Addr) (hod : o.data = .dict es ep) : Turn P w K tg (ItkN P w d o kvs) [it] it (fun i h => h.IsKeyIter it d i kvs.length ep) where
  mem := by simp
  obj := fun i h st b hb => by
    have e : b = it := by simpa using hb
    subst e
    obtain ⟨oi, e, c, dd⟩ := st
    exact ⟨oi, e, fun v z => by rw [dd] at z; cases z⟩
  keep := fun i h h' st k => st.at fun oi e => k it (by simp) oi e
  item := by
    intro X hP hw hK hc i pins s σ H E I hf st hg
    subst hP hw hK
    obtain ⟨hd, hi⟩ := hg
    obtain ⟨f0, f1, f2, f3, f4, f5⟩ := hf it (by simp)
    obtain ⟨hs, hgd, hx, es', ep', hdt, hsz, ent⟩ := frzN I hd
    obtain ⟨rfl, rfl⟩ := dict_ep hod hdt
    obtain ⟨e, hkv⟩ : ∃ p, kvs[i]? = some p := ⟨kvs[i], List.getElem?_eq_getElem hi⟩
    obtain ⟨en, hen, hkey, hq⟩ := ent i e hkv
    refine next_key_item st hgd hdt hsz hen fun h' st' sb => ?_
    have I1 : Inv X pins σ H { s with heap := h' } := I.turned (t' := s.toks) (fun b ob hb e => (sb.2 b hb).trans e) f0 f1 f3 f4 f5
    obtain ⟨oi, eo, c, dd⟩ := id st'
    exact ⟨en.key, rfl, go_of (s := { s with heap := h' }) eo c dd (by decide) ⟨.ref e.2.1, H, I1, hkey, ⟨rfl, e, hkv, rfl⟩, st', fun b hb => (hf b hb).1⟩⟩
  done := by
    intro X hP hw hK hc i pins s σ H E I hf st hg
    subst hP hw hK
    obtain ⟨hd, hi⟩ := hg
    obtain ⟨f0, f1, f2, f3, f4, f5⟩ := hf it (by simp)
    obtain ⟨hs, hgd, hx, es', ep', hdt, hsz, ent⟩ := frzN I hd
    obtain ⟨rfl, rfl⟩ := dict_ep hod hdt
    exact next_key_end (I.ok.hd hc) st hgd hdt hsz hi fun h' eb => ⟨rfl, I.turned (t' := s.toks) (fun b ob hb e => eb b ob hb e) f0 f1 f3 f4 f5⟩
  self := fun A i s Q E st h => by
    refine wpAny_pyIter_slot st.typeIs F.slot_dict_keyiterator_iter (wpAny_call_entry F.slot_dict_keyiterator_iter st.typeIs F.entry_dict_keyiterator_iter ?_ (F.args_dict_keyiterator_iter_1 _))
    show wpAny _ _ (ret (.ref it)) _ _ s
    exact wpAny_pure ⟨_, rfl, "dict_keyiterator", _, st.typeIs, F.slot_dict_keyiterator_next.lookup, h⟩
theorem turn_valsN {kvs : List NE} (it : Addr) (hod : o.data = .dict es ep) : Turn P w K tg (ItdN P w d o kvs) [it] it (fun i h => h.IsValIter it d i kvs.length ep) where
  mem := by simp
  obj := fun i h st b hb => by
    have e : b = it := by simpa using hb
    subst e
    obtain ⟨oi, e, c, dd⟩ := st
    exact ⟨oi, e, fun v z => by rw [dd] at z; cases z⟩
  keep := fun i h h' st k => st.at fun oi e => k it (by simp) oi e
  item := by
    intro X hP hw hK hc i pins s σ H E I hf st hg
    subst hP hw hK
    obtain ⟨hd, hi⟩ := hg
    obtain ⟨f0, f1, f2, f3, f4, f5⟩ := hf it (by simp)
    obtain ⟨hs, hgd, hx, es', ep', hdt, hsz, ent⟩ := frzN I hd
    obtain ⟨rfl, rfl⟩ := dict_ep hod hdt
    obtain ⟨e, hkv⟩ : ∃ p, kvs[i]? = some p := ⟨kvs[i], List.getElem?_eq_getElem hi⟩
    obtain ⟨en, hen, hkey, hq⟩ := ent i e hkv
    rw [← hsz] at st
    have hi2 : i < es'.size := by omega
    refine wpAny_pyNext_values_item_raw st ⟨_, hgd, hx, hdt⟩ hi2 fun h' st' sb => ?_
    have I1 : Inv X pins σ H { s with heap := h' } := I.turned (t' := s.toks) (fun b ob hb e => (sb.2 b hb).trans e) f0 f1 f3 f4 f5
    obtain ⟨oi, eo, c, dd⟩ := id st'
    have een : es'[i] = en := by
      rw [Array.getElem?_eq_getElem hi2] at hen
      exact Option.some.inj hen
    refine ⟨es'[i].val, rfl, go_of (s := { s with heap := h' }) eo c dd (by decide) ⟨e.2.2, H, I1, by rw [een]; exact hq, ⟨rfl, e, hkv, rfl⟩, ?_, fun b hb => (hf b hb).1⟩⟩
    show h'.IsValIter it d (i + 1) kvs.length _
    rw [← hsz]
    exact st'
  done := by
    intro X hP hw hK hc i pins s σ H E I hf st hg
    subst hP hw hK
    obtain ⟨hd, hi⟩ := hg
    obtain ⟨f0, f1, f2, f3, f4, f5⟩ := hf it (by simp)
    obtain ⟨hs, hgd, hx, es', ep', hdt, hsz, ent⟩ := frzN I hd
    obtain ⟨rfl, rfl⟩ := dict_ep hod hdt
    rw [← hsz] at st
    exact wpAny_pyNext_values_end_raw (I.ok.hd hc) st ⟨_, hgd, hx, hdt⟩ (by omega) fun h' eb => ⟨rfl, I.turned (t' := s.toks) (fun b ob hb e => eb b ob hb e) f0 f1 f3 f4 f5⟩
  self := fun A i s Q E st h => wpAny_pyIter_valiter st h
end
def iKeysN (P : Program) (w : World) (td : TE) : TI := fun σ H R => td σ H fun x H1 => ∃ d o kvs, x = .ref d ∧ H1 d = some (.frz o (DN P w d kvs)) ∧ R (ItkN P w d o kvs) H1
def iValsN (P : Program) (w : World) (td : TE) : TI := fun σ H R => td σ H fun x H1 => ∃ d o kvs, x = .ref d ∧ H1 d = some (.frz o (DN P w d kvs)) ∧ R (ItdN P w d o kvs) H1
section
variable {X : Cx} {tg e : Expr} {td : TE} {apos cpos : Pos}
theorem pi_keysN (he : PE X e td) : PI X tg e (iKeysN X.prog X.w td) := by
  refine ⟨fun pins s σ H R I h => ?_⟩
  refine thn (he.run pins s σ H _ I h) fun u s1 ⟨x, H1, I1, rx, d, o, kvs, ex, hd, q⟩ => ?_
  subst ex
  obtain rfl : u = Value.ref d := rx
  obtain ⟨hs, hgd, hx, es, ep, hdt, hsz, ent⟩ := frzN I1 hd
  refine iter_keys hs hgd hx hdt (pi_one (tk := s1.toks) I1 _ (turn_keysN _ hdt) ⟨_, Heap.get?_push_size _ rfl, rfl, ?_⟩ q)
  rw [hsz] <;> rfl
theorem pi_valuesN (he : PE X e td) (hbase : attributeBase e "values" X.env (eval e X.env) = eval e X.env := by rfl) (hline : (apos.endLine == cpos.line) = true := by rfl) : PI X tg (.Call (.Attribute e "values" apos) [] [] cpos) (iValsN X.prog X.w td) := by
  refine ⟨fun pins s σ H R I h => ?_⟩
  refine wpAny_Call_method (T := "dict") (id := "dict.values") hbase rfl hline F.plainAttrs_dict F.slot_dict_values F.type_dict_values (thn (he.run pins s σ H _ I h) fun u s1 ⟨x, H1, I1, rx, d, o, kvs, ex, hd, q⟩ => ?_)
  subst ex
  obtain rfl : u = Value.ref d := rx
  obtain ⟨hs, hgd, hx, es, ep, hdt, hsz, ent⟩ := frzN I1 hd
  refine ⟨⟨o, hgd, hx.1⟩, fun b z => (by cases z; exact ⟨o, hgd, hx.2.1⟩), ?_⟩
  have I2 : Inv X pins σ H1 { s1 with heap := s1.heap.push { cls := .type "dict_values", data := .fields #[.ref d] } } := I1.kept (t' := s1.toks) fun b ob q => Heap.get?_push_of_some _ q
  have fin : wpAny (model X.prog X.w) X.A (pyIter (.ref s1.heap.objs.size)) (PIE X pins σ tg R) X.xe { s1 with heap := s1.heap.push { cls := .type "dict_values", data := .fields #[.ref d] } } := by
    refine wpAny_pyIter_values_raw (d := d) (es := es) (ep := ep) ⟨_, Heap.get?_push_size _ rfl, rfl, rfl⟩ ⟨o, Heap.get?_push_of_some _ hgd, hx, hdt⟩ (pi_one (tk := s1.toks) I2 _ (turn_valsN _ hdt) ⟨_, Heap.get?_push_size _ rfl, rfl, ?_⟩ q)
    rw [hsz] <;> rfl
  show wpAny _ _ (callWith cpos (.builtin "dict.values") [.ref d] [] []) _ X.xe s1
  exact method_meetsIn F.slot_dict_values F.entry_dict_values rfl (PySem.evalArgs_none ⟨rfl, ⟨o, hgd, hx.1⟩, F.args_dict_values_1 _, _, meets_dict_values_raw d hs, ⟨es, ep, o, hgd, hx, hdt⟩, fin⟩)
end
section
variable {P : Program} {w : World} {d : Addr} {o : Obj}
theorem walk_keysN {kvs : List NE} : Walk (ItkN P w d o kvs) kvs.length (fun H => H d = some (.frz o (DN P w d kvs))) (fun i H x H' => H' = H ∧ ∃ e, kvs[i]? = some e ∧ x = .ref e.2.1) :=
  ⟨fun _ _ hi q => ⟨q, hi⟩, fun _ q => ⟨q, Nat.le_refl _⟩, fun _ _ _ _ _ _ y => y⟩
theorem walk_valsN {kvs : List NE} : Walk (ItdN P w d o kvs) kvs.length (fun H => H d = some (.frz o (DN P w d kvs))) (fun i H x H' => H' = H ∧ ∃ e, kvs[i]? = some e ∧ x = e.2.2) :=
  ⟨fun _ _ hi q => ⟨q, hi⟩, fun _ q => ⟨q, Nat.le_refl _⟩, fun _ _ _ _ _ _ y => y⟩
end
section
variable {X : Cx}
theorem mt_clearN : MtR X "dict.clear" (rDClearN X.prog X.w) := by
  intro pins s σ H x xs v us Q I rx rxs h
  obtain ⟨a, kvs, rfl, rfl, ha, q⟩ := h
  cases rx
  cases rxs
  obtain ⟨z, hs, ys, r, o, es, ep, h1, h2, h3, h4, h5⟩ := dn_get I.hok (.inl ha)
  have hsz : es.size = ys.length := size_of_entries h4
  have hl : kvs.length = ys.length := Paired.length r
  refine call_meetsIn F.slot_dict_clear (show s.TypeIs (.ref a) "dict" from ⟨o, h1, h2.1⟩) F.entry_dict_clear (F.args_dict_clear_1 _) (meets_dict_clear_raw a) ⟨es, ep, ⟨o, h1, h2, h3⟩, by omega, fun h' hr' hs' => ?_⟩
  obtain ⟨o', ho', hc', hdat'⟩ := hr'
  exact ⟨.non, upd H a (DN X.prog X.w a []), d_write (t' := s.toks) I (by rw [ha]; exact True.intro) hs' ⟨o', ho'⟩ (dn_ok ⟨Nat.zero_le _, hs, [], .nil, o', #[], ep + 1, ho', hc', hdat', rfl, List.nodup_nil⟩), rfl, q⟩
end
end HkN

set_option Elab.async false
set_option linter.all false
set_option maxRecDepth 100000
set_option maxHeartbeats 4000000
/-! a set comprehension over two clauses (whole numbers), along the library's rule for lists; a walk for any comprehension; not in of nested keys; a block inside a block -/
namespace HkC
open PySem PySem.Spec PyProof.Rows L2
theorem turnS2_out (elt t0 i0 t1 i1 : Expr) (ifs0 ifs1 : List Expr) (scope : Scope) (pos : Pos) (it acc : Value) (env : Env) :
    compTurn (.SetComp elt [⟨t0, i0, ifs0, 0⟩, ⟨t1, i1, ifs1, 0⟩] scope pos) 0 it acc env = (do
      standAt i0.pos
      match ← pyNext it with
      | none => pure (.done .next)
      | some v =>
        letOwnedTupleGo t0 it v
        assign t0 env v
        let mut ok := true
        for c in ifs0 do
          if ok then ok ← isTrue c env (eval c env)
        if ok then
          let x ← eval i1 env
          standAt i1.pos
          let x ← foldedSetIterable i1 env x
          let _ ← runOwn (.compStart (.SetComp elt [⟨t0, i0, ifs0, 0⟩, ⟨t1, i1, ifs1, 0⟩] scope pos) 1 (← holding [x] (pyIter x)) acc env) env
        again (.compLoop (.SetComp elt [⟨t0, i0, ifs0, 0⟩, ⟨t1, i1, ifs1, 0⟩] scope pos) 0 it acc env)) := by rfl
theorem turnS2_in (elt t0 i0 t1 i1 : Expr) (ifs0 ifs1 : List Expr) (scope : Scope) (pos : Pos) (it acc : Value) (env : Env) :
    compTurn (.SetComp elt [⟨t0, i0, ifs0, 0⟩, ⟨t1, i1, ifs1, 0⟩] scope pos) 1 it acc env = (do
      standAt i1.pos
      match ← pyNext it with
      | none => pure (.done .next)
      | some v =>
        letOwnedTupleGo t1 it v
        assign t1 env v
        let mut ok := true
        for c in ifs1 do
          if ok then ok ← isTrue c env (eval c env)
        if ok then
          (do let v ← eval elt env; standAt elt.pos; let _ ← call (.builtin "set.add") [acc, v])
        again (.compLoop (.SetComp elt [⟨t0, i0, ifs0, 0⟩, ⟨t1, i1, ifs1, 0⟩] scope pos) 1 it acc env)) := by rfl
section
variable {prog : Program} {w : World} {A : Around} {R : Result → Shared → Prop} {s : Shared} {elt t0 i0 t1 i1 : Expr} {ifs0 ifs1 : List Expr} {scope : Scope} {pos : Pos} {it acc : Value} {env : Env}
theorem loopS2_out (hs : ∀ x, foldedSetIterable i1 env x = pure x) (I : Nat → Shared → Prop)
    (turn : ∀ n s, I n s → wpAny (model prog w) A (pyNext it) (fun r s₁ => match r with
      | none => R (.ok .next) s₁
      | some v => wpAny (model prog w) A (letOwnedTupleGo t0 it v) (fun _ s₁' => wpAny (model prog w) A (assign t0 env v) (fun _ s₂ =>
          wpAny (model prog w) A (forIn ifs0 true fun c r => if r = true then do let ok ← isTrue c env (eval c env); pure (ForInStep.yield ok) else pure (ForInStep.yield r)) (fun ok s₃ =>
            if ok = true then wpAny (model prog w) A (eval i1 env) (fun x s₄ => wpAny (model prog w) A (pyIter x) (fun it1 s₅ =>
              codeAny (model prog w) A (.compStart (.SetComp elt [⟨t0, i0, ifs0, 0⟩, ⟨t1, i1, ifs1, 0⟩] scope pos) 1 it1 acc env) (fun r s' => match r with
                | .ok _ => ∃ m, m < n ∧ I m s'
                | .error _ => False) s₅) (notedBy (model prog w) A env fun e s' => R (.error e) s') s₄) (notedBy (model prog w) A env fun e s' => R (.error e) s') s₃
            else ∃ m, m < n ∧ I m s₃) (notedBy (model prog w) A env fun e s' => R (.error e) s') s₂) (notedBy (model prog w) A env fun e s' => R (.error e) s') s₁') (notedBy (model prog w) A env fun e s' => R (.error e) s') s₁) (notedBy (model prog w) A env fun e s' => R (.error e) s') s)
    (n : Nat) (h : I n s) :
    codeAny (model prog w) A (.compLoop (.SetComp elt [⟨t0, i0, ifs0, 0⟩, ⟨t1, i1, ifs1, 0⟩] scope pos) 0 it acc env) R s := by
  refine codeAny_loop rfl I (fun n s hI => ?_) n h
  show wpAny _ A ((compTurn (.SetComp elt [⟨t0, i0, ifs0, 0⟩, ⟨t1, i1, ifs1, 0⟩] scope pos) 0 it acc env).onRaise (fun x => do noteFrame x env; theTreesLotGoes x)) _ _ s
  refine wpAny_noted ?_
  rw [turnS2_out]
  refine wpAny_bind (wpAny_standAt (wpAny_bind (wpAny_mono (turn n s hI) (fun r s₁ h₁ => ?_) fun _ _ h' => h')))
  cases r with
  | none => exact wpAny_pure h₁
  | some v =>
    refine wpAny_bind (wpAny_mono h₁ (fun _ s₁' h₁' => ?_) fun _ _ h' => h')
    refine wpAny_bind (wpAny_mono h₁' (fun _ s₂ h₂ => wpAny_bind (wpAny_mono h₂ (fun ok s₃ h₃ => ?_) fun _ _ h' => h')) fun _ _ h' => h')
    cases ok with
    | false => exact wpAny_pure ⟨rfl, h₃⟩
    | true =>
      refine wpAny_bind (wpAny_mono h₃ (fun x s₄ h₄ => ?_) fun _ _ h' => h')
      refine wpAny_bind (wpAny_standAt (wpAny_bind (wpAny_of_eq (hs x) (wpAny_bind (wpAny_holding (wpAny_mono h₄ (fun it1 s₅ h₅ => ?_) fun _ _ h' => h'))))))
      refine wpAny_bind (wpAny_runOwn ?_)
      rw [Around.mark_none]
      refine codeAny_mono h₅ fun r s' hr => ?_
      cases r with
      | ok f =>
        first
          | exact wpAny_pure ⟨rfl, hr⟩
          | exact wpAny_bind (wpAny_pure (wpAny_pure ⟨rfl, hr⟩))
      | error e => exact hr.elim
theorem loopS2_in (I : Nat → Shared → Prop)
    (turn : ∀ n s, I n s → wpAny (model prog w) A (pyNext it) (fun r s₁ => match r with
      | none => R (.ok .next) s₁
      | some v => wpAny (model prog w) A (letOwnedTupleGo t1 it v) (fun _ s₁' => wpAny (model prog w) A (assign t1 env v) (fun _ s₂ =>
          wpAny (model prog w) A (forIn ifs1 true fun c r => if r = true then do let ok ← isTrue c env (eval c env); pure (ForInStep.yield ok) else pure (ForInStep.yield r)) (fun ok s₃ =>
            if ok = true then wpAny (model prog w) A (eval elt env) (fun x s₄ =>
              wpAny (model prog w) A (call (.builtin "set.add") [acc, x]) (fun _ s₅ => ∃ m, m < n ∧ I m s₅) (notedBy (model prog w) A env fun e s' => R (.error e) s') s₄) (notedBy (model prog w) A env fun e s' => R (.error e) s') s₃
            else ∃ m, m < n ∧ I m s₃) (notedBy (model prog w) A env fun e s' => R (.error e) s') s₂) (notedBy (model prog w) A env fun e s' => R (.error e) s') s₁') (notedBy (model prog w) A env fun e s' => R (.error e) s') s₁) (notedBy (model prog w) A env fun e s' => R (.error e) s') s)
    (n : Nat) (h : I n s) :
    codeAny (model prog w) A (.compLoop (.SetComp elt [⟨t0, i0, ifs0, 0⟩, ⟨t1, i1, ifs1, 0⟩] scope pos) 1 it acc env) R s := by
  refine codeAny_loop rfl I (fun n s hI => ?_) n h
  show wpAny _ A ((compTurn (.SetComp elt [⟨t0, i0, ifs0, 0⟩, ⟨t1, i1, ifs1, 0⟩] scope pos) 1 it acc env).onRaise (fun x => do noteFrame x env; theTreesLotGoes x)) _ _ s
  refine wpAny_noted ?_
  rw [turnS2_in]
  refine wpAny_bind (wpAny_standAt (wpAny_bind (wpAny_mono (turn n s hI) (fun r s₁ h₁ => ?_) fun _ _ h' => h')))
  cases r with
  | none => exact wpAny_pure h₁
  | some v =>
    refine wpAny_bind (wpAny_mono h₁ (fun _ s₁' h₁' => ?_) fun _ _ h' => h')
    refine wpAny_bind (wpAny_mono h₁' (fun _ s₂ h₂ => wpAny_bind (wpAny_mono h₂ (fun ok s₃ h₃ => ?_) fun _ _ h' => h')) fun _ _ h' => h')
    cases ok with
    | false => exact wpAny_pure ⟨rfl, h₃⟩
    | true =>
      exact wpAny_bind (wpAny_bind (wpAny_mono h₃ (fun x s₄ h₄ => wpAny_bind (wpAny_standAt (wpAny_bind (wpAny_mono h₄ (fun _ s₅ h₅ => wpAny_pure (wpAny_pure ⟨rfl, h₅⟩)) fun _ _ h' => h')))) fun _ _ h' => h'))
theorem startS1 (h0 : codeAny (model prog w) A (.compLoop (.SetComp elt [⟨t0, i0, ifs0, 0⟩, ⟨t1, i1, ifs1, 0⟩] scope pos) 1 it acc env) R s)
    (h : wpAny (model prog w) A (pyIter it) (fun it' s' => codeAny (model prog w) A (.compLoop (.SetComp elt [⟨t0, i0, ifs0, 0⟩, ⟨t1, i1, ifs1, 0⟩] scope pos) 1 it' acc env) R s')
      (notedBy (model prog w) A env fun x s' => R (.error x) s') s) :
    codeAny (model prog w) A (.compStart (.SetComp elt [⟨t0, i0, ifs0, 0⟩, ⟨t1, i1, ifs1, 0⟩] scope pos) 1 it acc env) R s := by
  refine codeAny_of_tree ?_
  show wpAny _ _ ((compStart (.SetComp elt [⟨t0, i0, ifs0, 0⟩, ⟨t1, i1, ifs1, 0⟩] scope pos) 1 it acc env).onRaise (fun x => do noteFrame x env; standAt theWindowsPlace)) _ _ s
  refine wpAny_notedAt ?_
  unfold compStart
  show wpAny _ _ (ask >>= _) _ _ s
  refine wpAny_bind (wpAny_askSetting (wpAny_ite ?_))
  split
  · first
      | exact wpAny_bind (wpAny_pure (wpAny_pure (And.intro rfl h0)))
      | exact wpAny_pure (And.intro rfl h0)
  · first
      | exact wpAny_bind (wpAny_rule (wpAny_bind (wpAny_standAt (wpAny_bind (wpAny_mono h (fun it' s' h' => wpAny_pure (And.intro rfl h')) fun _ _ x => x)))))
      | (refine wpAny_bind (wpAny_rule ?_); show wpAny _ _ (standAt i1.pos >>= _) _ _ s; exact wpAny_bind (wpAny_standAt (wpAny_bind (wpAny_mono h (fun it' s' h' => wpAny_pure (And.intro rfl h')) fun _ _ x => x))))
end
section
variable {X : Cx}
theorem addI_ok {pins : List (Addr × Obj)} {σ : L2.St} {H : Hp} {s : Shared} {E : Value → Shared → Prop} {D : Addr} {S : Int → Bool} {n : Nat} {y : Int} {u : Value} {Q : Value → Shared → Prop} (I : Inv X pins σ H s) (hD : H D = some (SetO X.w D S n)) (room : n + 1 < scanBound) (r : RelV (.int y) u)
    (h : ∀ s', Inv X pins σ (upd H D (SetO X.w D (fun j => S j || decide (j = y)) (if S y = true then n else n + 1))) s' → Q .none s') : wpAny (model X.prog X.w) X.A (call (.builtin "set.add") [.ref D, u]) Q E s := by
  obtain ⟨tk, rfl⟩ := r
  refine setR_add (setO_get I hD) room fun h' sb new => ?_
  have he : ∃ u, h'.get? D = some u := by
    have ⟨o, _, _, _, ho, _⟩ := new
    exact ⟨o, ho⟩
  exact h _ (I.write (e := D) (t' := s.toks + 1) (by rw [hD]; trivial) (.inl rfl) (fun b u hb hu => (sb.2 b hb).trans hu) he (setO_new new))
def tSc2 (w : World) (wi : TI) (g : TG) (tt : TT) (wi1 : TI) (g1 : TG) (tt1 : TT) (te : TE) (vs vs1 : List Nat) : TE := fun σ H Q => wi σ H fun J H1 => ∀ D, H1 D = none → ∃ W : Nat → Nat → Hp → Prop, (∃ m, W 0 m (upd H1 D (SetO w D (fun _ => false) 0))) ∧ ∀ i m H, W i m H →
  (J.stop i H ∧ Q (.ref D) H) ∨ (J.go i H ∧ ∃ Nx : Hp → Prop, (∀ H', Nx H' → ∃ m', m' < m ∧ W (i + 1) m' H') ∧ ∀ x H', J.yld i H x H' → g x (wipe σ vs) H' fun σ2 H2 => wipe σ2 vs = wipe σ vs ∧ tt σ2 H2 fun b H3 =>
    if b = true then ∃ d u, H3 d = some u ∧ Mut (some u) ∧ ∀ od, wi1 σ2 (upd H3 d (.frz od u)) fun J1 H4 => ∃ W1 : Nat → Nat → Hp → Prop, (∃ m, W1 0 m H4) ∧ ∀ j k H, W1 j k H →
      (J1.stop j H ∧ H d = some (.frz od u) ∧ Nx (upd H d u)) ∨ (J1.go j H ∧ ∃ Nx1 : Hp → Prop, (∀ H', Nx1 H' → ∃ k', k' < k ∧ W1 (j + 1) k' H') ∧ ∀ x H', J1.yld j H x H' → g1 x (wipe σ2 vs1) H' fun σ3 H5 => wipe σ3 vs1 = wipe σ2 vs1 ∧ tt1 σ3 H5 fun b H6 =>
        if b = true then te σ3 H6 fun y H7 => ∃ (c : Int) (S : Int → Bool) (n : Nat), y = .int c ∧ H7 D = some (SetO w D S n) ∧ n + 1 < scanBound ∧ Nx1 (upd H7 D (SetO w D (fun j => S j || decide (j = c)) (if S c = true then n else n + 1))) else Nx1 H6)
    else Nx H3)
theorem sc2_core {pins : List (Addr × Obj)} {s : Shared} {σ : L2.St} {H : Hp} {Q : VK} {elt tg iter tg1 iter1 : Expr} {ifs ifs1 : List Expr} {scope : Scope} {own : List (Str × Nat)} {vs1 : List Nat} {pos pos' : Pos} {wi wi1 : TI} {g g1 : TG} {tt tt1 : TT} {te : TE} {use : Option (Value → Sem Unit)} {Qf : Value → Shared → Prop}
    (hc : X.calm = true) (hN : X.N.Nodup) (I : Inv X pins σ H s) (hi : PI X tg iter wi) (ok : BlkOk X.N X.env.scope scope own) (hv : ∀ i ∈ vs1, i ∈ own.map (·.2))
    (hg : ∀ (s : Shared) (H : Hp) (C : Addr) (cl : List (Str × Addr)) (fp : List Addr), PG (X.blk s H scope (compEnvC scope cl C X.env) fp) tg g) (ht : ∀ (s : Shared) (H : Hp) (C : Addr) (cl : List (Str × Addr)) (fp : List Addr), PTs (X.blk s H scope (compEnvC scope cl C X.env) fp) ifs tt)
    (he : ∀ (s : Shared) (H : Hp) (C : Addr) (cl : List (Str × Addr)) (fp : List Addr), PE (X.blk s H scope (compEnvC scope cl C X.env) fp) elt te) (hs : ∀ x, foldedSetIterable iter X.env x = pure x)
    (hi1 : ∀ (s : Shared) (H : Hp) (C : Addr) (cl : List (Str × Addr)) (fp : List Addr), PI (X.blk s H scope (compEnvC scope cl C X.env) fp) tg1 iter1 wi1)
    (hg1 : ∀ (s : Shared) (H : Hp) (C : Addr) (cl : List (Str × Addr)) (fp : List Addr), PG (X.blk s H scope (compEnvC scope cl C X.env) fp) tg1 g1)
    (ht1 : ∀ (s : Shared) (H : Hp) (C : Addr) (cl : List (Str × Addr)) (fp : List Addr), PTs (X.blk s H scope (compEnvC scope cl C X.env) fp) ifs1 tt1)
    (hs1 : ∀ env x, foldedSetIterable iter1 env x = pure x)
    (h : tSc2 X.w wi g tt wi1 g1 tt1 te (own.map (·.2)) vs1 σ H Q)
    (hRR : ∀ D C s' m H', Inv X pins σ H' s' → Q (.ref D) H' → s'.heap.Ns C m → FpOk X pins H' C → compPost (model X.prog X.w) X.A X.xe use Qf (.ref D) C (.ok .next) s') :
    wpAny (model X.prog X.w) X.A (comprehension (.SetComp elt [⟨tg, iter, ifs, 0⟩, ⟨tg1, iter1, ifs1, 0⟩] scope pos) scope X.env pos' (newSet (.type "set")) false (eval iter X.env) use) Qf X.xe s := by
  have hfree : ∀ y ∈ scope.names, y.2 = .free → ∃ c, X.env.cells.lookup y.1 = some c := fun y hy e => by
    rcases ok.free y hy e with k | k
    · exact I.ok.has _ (.inl k)
    · exact I.ok.has _ (.inr k)
  refine wpAny_comprehension_free (use := use) rfl hs (closure_ok hfree) ok.kind (fun y hy e => by rw [ok.uniq y hy, e])
    (thn (hi.run pins s σ H _ I h) fun xv s1 hx => thn hx fun itv s2 h2 => ?_)
  obtain ⟨it, fp, tn, J, H2, e, I2, T, st2, f2, q⟩ := h2
  subst e
  refine PpSet.newSet_ok (newEnv_comp ?_)
  generalize hD : s2.heap.objs.size = D
  have hDn : H2 D = none := I2.hok.fresh (Nat.le_of_eq hD)
  obtain ⟨W, ⟨m0, w0⟩, turn⟩ := q D hDn
  -- the new list
  generalize hs3 : ({ s2 with heap := s2.heap.push { cls := .type "set", dict := none, data := .set #[] 0 (.fresh 0 0 (!X.w.params.followText "set-order")) } } : Shared) = s3
  have I3 : Inv X pins σ (upd H2 D (SetO X.w D (fun _ => false) 0)) s3 := by
    rw [← hs3]
    refine I2.laid (t' := s2.toks) (fun b o e => Heap.get?_push_of_some _ e) (Nat.le_of_eq hD) ?_
    rw [← hD]
    exact setO_new (setR_fresh X.w)
  have h3 : s3.heap = s2.heap.push { cls := .type "set", dict := none, data := .set #[] 0 (.fresh 0 0 (!X.w.params.followText "set-order")) } := by rw [← hs3]
  have sz : ∀ b ∈ fp, b < s2.heap.objs.size := fun b hb => by
    obtain ⟨o, e, _⟩ := T.obj _ _ st2 b hb
    exact Heap.lt_size e
  have f3 : ∀ b ∈ fp, FpOk X pins (upd H2 D (SetO X.w D (fun _ => false) 0)) b ∧ b < s3.heap.objs.size := fun b hb => by
    have hlt := sz b hb
    refine ⟨⟨?_, (f2 b hb).2⟩, by rw [h3, Heap.size_push]; exact Nat.lt_succ_of_lt hlt⟩
    rw [upd_ne (by rw [← hD]; exact Nat.ne_of_lt hlt)]
    exact (f2 b hb).1
  have st3 : tn 0 s3.heap := T.keep _ _ _ st2 fun b _ o e => by rw [h3]; exact Heap.get?_push_of_some _ e
  have I4 := block_start I3 ok hN f3
  have pg := hg s3 (upd H2 D (SetO X.w D (fun _ => false) 0)) s3.heap.objs.size (cellsFrom (s3.heap.objs.size + 1) scope.names (cloFrom X.env.cells scope.names [])) fp
  have pt := ht s3 (upd H2 D (SetO X.w D (fun _ => false) 0)) s3.heap.objs.size (cellsFrom (s3.heap.objs.size + 1) scope.names (cloFrom X.env.cells scope.names [])) fp
  have pe := he s3 (upd H2 D (SetO X.w D (fun _ => false) 0)) s3.heap.objs.size (cellsFrom (s3.heap.objs.size + 1) scope.names (cloFrom X.env.cells scope.names [])) fp
  have pi1 := hi1 s3 (upd H2 D (SetO X.w D (fun _ => false) 0)) s3.heap.objs.size (cellsFrom (s3.heap.objs.size + 1) scope.names (cloFrom X.env.cells scope.names [])) fp
  have pg1 := hg1 s3 (upd H2 D (SetO X.w D (fun _ => false) 0)) s3.heap.objs.size (cellsFrom (s3.heap.objs.size + 1) scope.names (cloFrom X.env.cells scope.names [])) fp
  have pt1 := ht1 s3 (upd H2 D (SetO X.w D (fun _ => false) 0)) s3.heap.objs.size (cellsFrom (s3.heap.objs.size + 1) scope.names (cloFrom X.env.cells scope.names [])) fp
  show codeAny _ _ (.compStart (.SetComp elt [⟨tg, iter, ifs, 0⟩, ⟨tg1, iter1, ifs1, 0⟩] scope pos) 0 (.ref it) (.ref D) (compEnvC scope (cellsFrom (s3.heap.objs.size + 1) scope.names (cloFrom X.env.cells scope.names [])) s3.heap.objs.size X.env)) (compPost (model X.prog X.w) X.A X.xe use Qf (.ref D) s3.heap.objs.size) { s3 with heap := pushCells (s3.heap.push { cls := .type "dict", data := .dict #[] }) scope.names }
  have nfp : ∀ b ∈ fp, (upd H2 D (SetO X.w D (fun _ => false) 0)) b = none := fun b hb => (f3 b hb).1.1
  generalize hce : compEnvC scope (cellsFrom (s3.heap.objs.size + 1) scope.names (cloFrom X.env.cells scope.names [])) s3.heap.objs.size X.env = ce at I4 pg pt pe pi1 pg1 pt1 ⊢
  have cL : ce.locals = s3.heap.objs.size := by subst hce; rfl
  generalize hH3 : upd H2 D (SetO X.w D (fun _ => false) 0) = H3 at I3 I4 pg pt pe pi1 pg1 pt1 w0 nfp f3
  generalize hs4 : ({ s3 with heap := pushCells (s3.heap.push { cls := .type "dict", data := .dict #[] }) scope.names } : Shared) = s4 at I4 ⊢
  have st4 : tn 0 s4.heap := T.keep _ _ _ st3 fun b _ o e => by rw [← hs4]; exact pushCells_keeps _ _ _ _ (Heap.get?_push_of_some _ e)
  have stat : ∀ {σ' : L2.St} {H' : Hp} {s' : Shared}, Inv (X.blk s3 H3 scope ce fp) [] σ' H' s' → (∀ b ∈ fp, H' b = none) → ∀ b ∈ fp, FpOk (X.blk s3 H3 scope ce fp) [] H' b := fun {σ' H' s'} I' hn b hb =>
    ⟨hn b hb, (I'.ok.exf b hb).1, I'.ok.exfs b hb, .inl hb, fun x c e => (I'.ok.exf b hb).2 x c e, fun p hp => absurd (show p ∈ ([] : List (Addr × Obj)) ++ [] from hp) (by simp)⟩
  have loop : codeAny (model X.prog X.w) X.A (.compLoop (.SetComp elt [⟨tg, iter, ifs, 0⟩, ⟨tg1, iter1, ifs1, 0⟩] scope pos) 0 (.ref it) (.ref D) ce) (compPost (model X.prog X.w) X.A X.xe use Qf (.ref D) s3.heap.objs.size) s4 := by
    refine loopS2_out (hs1 ce) (fun n s' => ∃ i H', Inv (X.blk s3 H3 scope ce fp) [] (wipe σ (own.map (·.2))) H' s' ∧ tn i s'.heap ∧ (∀ b ∈ fp, H' b = none) ∧ W i n H') ?_ m0 ⟨0, H3, I4, st4, nfp, w0⟩
    rintro n s5 ⟨i, H5, I5, st5, n5, w5⟩
    rcases turn i n H5 w5 with ⟨stop, qq⟩ | ⟨go, Nx, hNx, step⟩
    · have td := T.done (X.blk s3 H3 scope ce fp) rfl rfl rfl hc i [] s5 _ H5 (fun _ _ => False) I5 (stat I5 n5) st5 stop
      refine thnF td fun r s6 ⟨hr, I6⟩ => ?_
      subst hr
      -- back in the def's context
      have I7 : Inv X pins σ H5 s6 := I3.call' (ch := fp) I6.os I6.base I6.hok I6.bare fun b hb => ⟨(f3 b hb).1.2.2.2.1, (f3 b hb).1.2.1, (f3 b hb).1.2.2.2.2.1, (f3 b hb).1.2.2.2.2.2⟩
      have nC : H5 s3.heap.objs.size = none := by
        have z : H5 ce.locals = none := I6.free
        rw [cL] at z
        exact z
      obtain ⟨m, hn, _⟩ := I6.loc
      have hn : s6.heap.Ns ce.locals m := hn
      rw [cL] at hn
      exact hRR D s3.heap.objs.size s6 m H5 I7 qq hn (I3.fpOk (Nat.le_refl _) nC)
    · have ti := T.item (X.blk s3 H3 scope ce fp) rfl rfl rfl hc i [] s5 _ H5 (fun _ _ => False) I5 (stat I5 n5) st5 go
      refine thnF ti fun r s6 ⟨u, hr, h6⟩ => ?_
      subst hr
      refine thnF h6 fun _ s7 ⟨x, H7, I7, r7, y7, st7, n7⟩ => ?_
      have I7' := I7.pinned (stat I7 n7) (T.obj _ _ st7)
      refine thnF (pg.run _ s7 _ H7 x u _ I7' r7 (step x H7 y7)) fun _ s8 ⟨σ8, H8, I8, hw8, q8⟩ => ?_
      refine thnF (pt.run _ s8 σ8 H8 _ I8 q8) fun b s9 ⟨H9, I9, q9⟩ => ?_
      -- the turn's end, from any slots that know what the block knew at its start
      have fin : ∀ {σ9 : L2.St} {s' : Shared} {H' : Hp}, Inv (X.blk s3 H3 scope ce fp) ([] ++ pinsAt fp s7.heap) σ9 H' s' → (wipe σ (own.map (·.2))).length = σ9.length → (∀ (j : Nat) v, (wipe σ (own.map (·.2)))[j]? = some (some v) → σ9[j]? = some (some v)) → Nx H' →
          ∃ m, m < n ∧ ∃ i H', Inv (X.blk s3 H3 scope ce fp) [] (wipe σ (own.map (·.2))) H' s' ∧ tn i s'.heap ∧ (∀ b ∈ fp, H' b = none) ∧ W i m H' := fun {σ9 s' H'} I' hl hk nx => by
        obtain ⟨m', hm, w'⟩ := hNx H' nx
        have pin' : ∀ b ∈ fp, ∀ o, s7.heap.get? b = some o → s'.heap.get? b = some o ∧ H' b = none := fun b hb o e =>
          let z := I'.pin (b, o) (List.mem_append_right _ (List.mem_append_right _ (mem_pinsAt hb e)))
          ⟨z.1, z.2.1⟩
        refine ⟨m', hm, i + 1, H', (I'.unpinned (pins := [])).weak hl hk, T.keep _ _ _ st7 fun b hb o e => (pin' b hb o e).1, fun b hb => ?_, w'⟩
        obtain ⟨o, e, _⟩ := T.obj _ _ st7 b hb
        exact (pin' b hb o e).2
      have hl8 : (wipe σ (own.map (·.2))).length = σ8.length := by rw [← hw8, wipe_length]
      have hk8 : ∀ (j : Nat) v, (wipe σ (own.map (·.2)))[j]? = some (some v) → σ8[j]? = some (some v) := fun j v e => by
        rw [← hw8] at e
        exact (wipe_some e).1
      have hk9 : ∀ (j : Nat) v, (wipe σ (own.map (·.2)))[j]? = some (some v) → (wipe σ8 vs1)[j]? = some (some v) := fun j v e => by
        rw [← hw8] at e
        obtain ⟨e1, e2⟩ := wipe_some e
        rw [wipe_out fun z => e2 (hv j z)]
        exact e1
      cases b with
      | false =>
        simp only [Bool.false_eq_true, if_false] at q9 ⊢
        exact fin I9 hl8 hk8 q9
      | true =>
        simp only [if_true] at q9 ⊢
        obtain ⟨d1, u1, hd1, mu1, q9⟩ := q9
        obtain ⟨od1, I9l⟩ := I9.lock hd1 mu1
        refine thnF (pi1.run _ s9 σ8 _ _ I9l (q9 od1)) fun xv s10 hx => thnF hx fun itv s11 h11 => ?_
        obtain ⟨it1, fp1, tn1, J1, H11, e1, I11, T1, st11, f11, W1, ⟨m1, w1⟩, turn1⟩ := h11
        subst e1
        -- the inner loop
        have stat1 : ∀ {H' : Hp}, (∀ b ∈ fp1, H' b = none) → ∀ b ∈ fp1, FpOk (X.blk s3 H3 scope ce fp) ([] ++ pinsAt fp s7.heap) H' b := fun hn b hb => ⟨hn b hb, (f11 b hb).2⟩
        have loop1 : codeAny (model X.prog X.w) X.A (.compLoop (.SetComp elt [⟨tg, iter, ifs, 0⟩, ⟨tg1, iter1, ifs1, 0⟩] scope pos) 1 (.ref it1) (.ref D) ce)
            (fun r s' => match r with
              | .ok _ => ∃ m, m < n ∧ ∃ i H', Inv (X.blk s3 H3 scope ce fp) [] (wipe σ (own.map (·.2))) H' s' ∧ tn i s'.heap ∧ (∀ b ∈ fp, H' b = none) ∧ W i m H'
              | .error _ => False) s11 := by
          refine loopS2_in (fun k s' => ∃ j H', Inv (X.blk s3 H3 scope ce fp) ([] ++ pinsAt fp s7.heap) (wipe σ8 vs1) H' s' ∧ tn1 j s'.heap ∧ (∀ b ∈ fp1, H' b = none) ∧ W1 j k H') ?_ m1 ⟨0, H11, I11.weak (wipe_length _ _) (fun j v e => (wipe_some e).1), st11, fun b hb => (f11 b hb).1, w1⟩
          rintro k s12 ⟨j, H12, I12, st12, n12, w12⟩
          rcases turn1 j k H12 w12 with ⟨stop1, nx1⟩ | ⟨go1, Nx1, hNx1, step1⟩
          · refine thnF (T1.done (X.blk s3 H3 scope ce fp) rfl rfl rfl hc j _ s12 (wipe σ8 vs1) H12 (fun _ _ => False) I12 (stat1 n12) st12 stop1) fun r s13 ⟨hr, I13⟩ => ?_
            subst hr
            exact fin (I13.unlock nx1.1 (I9.nofrz hd1 mu1)) (hl8.trans (wipe_length σ8 vs1).symm) hk9 nx1.2
          · refine thnF (T1.item (X.blk s3 H3 scope ce fp) rfl rfl rfl hc j _ s12 (wipe σ8 vs1) H12 (fun _ _ => False) I12 (stat1 n12) st12 go1) fun r s13 ⟨u1, hr, h13⟩ => ?_
            subst hr
            refine thnF h13 fun _ s14 ⟨x1, H14, I14, r14, y14, st14, n14⟩ => ?_
            have I14' := I14.pinned (stat1 n14) (T1.obj _ _ st14)
            refine thnF (pg1.run _ s14 (wipe σ8 vs1) H14 x1 u1 _ I14' r14 (step1 x1 H14 y14)) fun _ s15 ⟨σ15, H15, I15, hw15, q15⟩ => ?_
            refine thnF (pt1.run _ s15 σ15 H15 _ I15 q15) fun b1 s16 ⟨H16, I16, q16⟩ => ?_
            have fin1 : ∀ {s' : Shared} {H' : Hp}, Inv (X.blk s3 H3 scope ce fp) (([] ++ pinsAt fp s7.heap) ++ pinsAt fp1 s14.heap) σ15 H' s' → Nx1 H' → ∃ m, m < k ∧ ∃ j H', Inv (X.blk s3 H3 scope ce fp) ([] ++ pinsAt fp s7.heap) (wipe σ8 vs1) H' s' ∧ tn1 j s'.heap ∧ (∀ b ∈ fp1, H' b = none) ∧ W1 j m H' := fun {s' H'} I' nx => by
              obtain ⟨m', hm, w'⟩ := hNx1 H' nx
              have pin' : ∀ b ∈ fp1, ∀ o, s14.heap.get? b = some o → s'.heap.get? b = some o ∧ H' b = none := fun b hb o e =>
                let z := I'.pin (b, o) (List.mem_append_right _ (List.mem_append_right _ (mem_pinsAt hb e)))
                ⟨z.1, z.2.1⟩
              refine ⟨m', hm, j + 1, H', I'.unpinned.weak (by rw [← hw15, wipe_length]) (fun j v e => by rw [← hw15] at e; exact (wipe_some e).1), T1.keep _ _ _ st14 fun b hb o e => (pin' b hb o e).1, fun b hb => ?_, w'⟩
              obtain ⟨o, e, _⟩ := T1.obj _ _ st14 b hb
              exact (pin' b hb o e).2
            cases b1 with
            | false =>
              simp only [Bool.false_eq_true, if_false] at q16 ⊢
              exact fin1 I16 q16
            | true =>
              simp only [if_true] at q16 ⊢
              refine thnF (pe.run _ s16 σ15 H16 _ I16 q16) fun z s17 ⟨yv, H17, I17, r17, cb, S0, n0, ey, hD17, hz17, nx⟩ => ?_
              subst ey
              exact addI_ok (X := X.blk s3 H3 scope ce fp) I17 hD17 hz17 r17 fun s18 I18 => fin1 I18 nx
        exact startS1 loop1 (T1.self X.A 0 _ _ _ st11 loop1)
  exact PpSet.codeAny_compStart_set loop (T.self X.A 0 _ _ _ st4 loop)
theorem pe_sc2 {elt tg iter tg1 iter1 : Expr} {ifs ifs1 : List Expr} {scope : Scope} {own : List (Str × Nat)} {vs1 : List Nat} {pos : Pos} {wi wi1 : TI} {g g1 : TG} {tt tt1 : TT} {te : TE} (hc : X.calm = true) (hN : X.N.Nodup) (hi : PI X tg iter wi) (ok : BlkOk X.N X.env.scope scope own) (hv : ∀ i ∈ vs1, i ∈ own.map (·.2))
    (hg : ∀ (s : Shared) (H : Hp) (C : Addr) (cl : List (Str × Addr)) (fp : List Addr), PG (X.blk s H scope (compEnvC scope cl C X.env) fp) tg g) (ht : ∀ (s : Shared) (H : Hp) (C : Addr) (cl : List (Str × Addr)) (fp : List Addr), PTs (X.blk s H scope (compEnvC scope cl C X.env) fp) ifs tt)
    (hi1 : ∀ (s : Shared) (H : Hp) (C : Addr) (cl : List (Str × Addr)) (fp : List Addr), PI (X.blk s H scope (compEnvC scope cl C X.env) fp) tg1 iter1 wi1)
    (hg1 : ∀ (s : Shared) (H : Hp) (C : Addr) (cl : List (Str × Addr)) (fp : List Addr), PG (X.blk s H scope (compEnvC scope cl C X.env) fp) tg1 g1) (ht1 : ∀ (s : Shared) (H : Hp) (C : Addr) (cl : List (Str × Addr)) (fp : List Addr), PTs (X.blk s H scope (compEnvC scope cl C X.env) fp) ifs1 tt1)
    (he : ∀ (s : Shared) (H : Hp) (C : Addr) (cl : List (Str × Addr)) (fp : List Addr), PE (X.blk s H scope (compEnvC scope cl C X.env) fp) elt te) (hs : ∀ x, foldedSetIterable iter X.env x = pure x := by intro _; rfl) (hs1 : ∀ env x, foldedSetIterable iter1 env x = pure x := by intro _ _; rfl) :
    PE X (.SetComp elt [⟨tg, iter, ifs, 0⟩, ⟨tg1, iter1, ifs1, 0⟩] scope pos) (tSc2 X.w wi g tt wi1 g1 tt1 te (own.map (·.2)) vs1) := by
  refine ⟨fun pins s σ H Q I h => ?_⟩
  rw [PpSet.eval_SetComp]
  refine sc2_core hc hN I hi ok hv hg ht he hs hi1 hg1 ht1 hs1 h fun D C s' m H' I' q hn f => ⟨m, hn, fun h'' sb => ?_⟩
  obtain ⟨f0, f1, f2, f3, f4, f5⟩ := f
  exact ⟨.ref D, H', I'.turned (t' := s'.toks) (fun b o hb e => (sb.2 b hb).trans e) f0 f1 f3 f4 f5, rfl, q⟩
end
/-- any comprehension over a walk: what a turn does with Nx is told by Body -/
theorem walk_any {J : It} {n : Nat} {G : Hp → Prop} {Y : Nat → Hp → V → Hp → Prop} (w : Walk J n G Y) {Body : (Hp → Prop) → V → Hp → Prop} {Qd : Hp → Prop} {H0 : Hp} (Pv : Nat → Hp → Prop) (h0 : Pv 0 H0) (hG : ∀ i H, i ≤ n → Pv i H → G H)
    (hs : ∀ i x H H', i < n → Pv i H → Y i H x H' → Body (Pv (i + 1)) x H') (hd : ∀ H, Pv n H → Qd H) :
    ∃ W : Nat → Nat → Hp → Prop, (∃ m, W 0 m H0) ∧ ∀ i m H, W i m H →
      (J.stop i H ∧ Qd H) ∨ (J.go i H ∧ ∃ Nx : Hp → Prop, (∀ H', Nx H' → ∃ m', m' < m ∧ W (i + 1) m' H') ∧ ∀ x H', J.yld i H x H' → Body Nx x H') := by
  refine ⟨fun i m H => m = n - i ∧ i ≤ n ∧ Pv i H, ⟨n, (Nat.sub_zero n).symm, Nat.zero_le _, h0⟩, ?_⟩
  rintro i m H ⟨rfl, hi, p⟩
  rcases Nat.lt_or_eq_of_le hi with hlt | rfl
  · refine .inr ⟨w.goes i H hlt (hG i H hi p), Pv (i + 1), fun H' p' => ⟨n - (i + 1), by omega, rfl, hlt, p'⟩, fun x H' y => hs i x H H' hlt p (w.yields i H x H' hlt (hG i H hi p) y)⟩
  · exact .inl ⟨w.stops H (hG i H hi p), hd H p⟩
theorem lookup_up {env : Env} : ∀ {names : List (Str × NameKind)} {x : Str}, names.lookup x = some .cell ∨ names.lookup x = some .free →
    (names.map fun (n, k) => if (k == NameKind.free && env.scope.kind == .function && env.kindOf n == some .cell) then (n, NameKind.cell) else (n, k)).lookup x = some .cell ∨ (names.map fun (n, k) => if (k == NameKind.free && env.scope.kind == .function && env.kindOf n == some .cell) then (n, NameKind.cell) else (n, k)).lookup x = some .free
  | [], _, h => by rcases h with h | h <;> cases h
  | (n, k) :: r, x, h => by
    have ih := @lookup_up env r x
    rw [List.map_cons]
    show List.lookup x ((if (k == NameKind.free && env.scope.kind == .function && env.kindOf n == some .cell) = true then (n, NameKind.cell) else (n, k)) :: _) = _ ∨ List.lookup x ((if (k == NameKind.free && env.scope.kind == .function && env.kindOf n == some .cell) = true then (n, NameKind.cell) else (n, k)) :: _) = _
    by_cases hc : (k == NameKind.free && env.scope.kind == .function && env.kindOf n == some .cell) = true
    · rw [if_pos hc]
      cases hx : x == n with
      | true => exact .inl (by simp only [List.lookup_cons, hx])
      | false =>
        simp only [List.lookup_cons, hx] at h ⊢
        exact ih h
    · rw [if_neg hc]
      cases hx : x == n with
      | true =>
        simp only [List.lookup_cons, hx] at h ⊢
        exact h
      | false =>
        simp only [List.lookup_cons, hx] at h ⊢
        exact ih h
theorem blk_up {N : List Str} {sc scope : Scope} {own : List (Str × Nat)} {env : Env} (h : BlkOk N sc scope own) : BlkOk N (relabel sc env) scope own :=
  ⟨h.kind, h.uniq, h.ix, fun y hy e => lookup_up (h.free y hy e), h.own⟩

/-- y not in d, nested keys -/
def tDNotInN (P : Program) (w : World) (K : PySem.W.Frag) (ty td : TE) : TE := fun σ H Q => ty σ H fun y H1 => td σ H1 fun x H2 => ∃ a o, x = .ref a ∧ HkN.DGetN P w K H2 a y o ∧ Q (.bl (!o.isSome)) H2
section
variable {X : Cx} {o i : Expr} {td ty : TE}
theorem n_notIn {pins : List (Addr × Obj)} {σ : L2.St} {H : Hp} {s : Shared} {a : Addr} {y : V} {u : Value} {o : Option V} {A : Around} {E : Value → Shared → Prop} {Q : Value → Shared → Prop} (hu : A.units + 9 < cLine) (I : Inv X pins σ H s) (g : HkN.DGetN X.prog X.w X.K H a y o) (ry : RelV y u) (h : ∀ s', Inv X pins σ H s' → Q (.bool (!o.isSome)) s') :
    wpAny (model X.prog X.w) A (compareOp .NotIn u (.ref a)) Q E s := by
  obtain ⟨kvs, k, b, e, hk, rfl, ky, kd, l⟩ := g
  cases (show u = Value.ref b from ry)
  obtain ⟨z, hd, xs, rel, dd⟩ := HkN.dn_of I e hk
  refine wpAny_notIn_heap (HkN.room9 (X := X) hu) ⟨HkN.KeyV.is I _ _ _ ky rfl, kd⟩ hd dd ?_
  have q := (rel.val k).isSome_eq
  rw [Option.isSome_map] at q
  rw [← q, ← l]
  exact h _ (I.tok _)
theorem pc_notinN (hu : X.A.units + 9 < cLine) (hi : PE X i ty) (ho : PE X o td) : PC X .NotIn i o (tDNotInN X.prog X.w X.K ty td) := by
  refine ⟨fun pins s σ H Q I h => ?_⟩
  refine thn (hi.run pins s σ H _ I h) fun iv s1 ⟨y, H1, I1, ry, q1⟩ => thn (ho.run pins s1 σ H1 _ I1 q1) fun u s2 ⟨x, H2, I2, rx, a, ov, ex, g, q2⟩ => ?_
  subst ex
  obtain rfl : u = Value.ref a := rx
  exact n_notIn hu I2 g ry fun s3 I3 => ⟨.bl (!ov.isSome), H2, I3, rfl, q2⟩
end
end HkC

set_option Elab.async false
set_option linter.all false
set_option maxRecDepth 100000
set_option maxHeartbeats 4000000
namespace HK
open PySem PySem.Spec PyProof.Rows L2 GAl GxR
open Evl (pss_cut)
abbrev sLookup : Stmt := topS 47
abbrev N_scLookup : List Str := ["things", "place", "number"]
theorem scLookup : FnScope N_scLookup ["things"] (defScope sLookup) := ⟨rfl, rfl, rfl, by decide +kernel, rfl, by decide +kernel, by decide +kernel⟩
abbrev sLacked : Stmt := topS 48
abbrev N_scLacked : List Str := ["kept", "wants", "place", "number"]
theorem scLacked : FnScope N_scLacked ["kept", "wants"] (defScope sLacked) := ⟨rfl, rfl, rfl, by decide +kernel, rfl, by decide +kernel, by decide +kernel⟩
abbrev sLackers : Stmt := topS 50
abbrev N_scLackers : List Str := ["kept", "wants", "number", "place"]
theorem scLackers : FnScope N_scLackers ["kept", "wants", "number"] (defScope sLackers) := ⟨rfl, rfl, rfl, by decide +kernel, rfl, by decide +kernel, by decide +kernel⟩
abbrev scLook2 : Scope := { kind := .function, names := [(Str.ofString ".0", .local), (Str.ofString "place", .local), (Str.ofString "things", .free)], isGenerator := false, isCoroutine := false, more := [] }
abbrev N_scKeepersL : List Str := N_scKeepers
/-! ### dicts in which numbers are found at once -/
def trueL (ms : List Int) : List (Key × V) := ms.map fun m => (Sum.inl m, V.bl true)
def LkVs (H : Hp) (kvs : List (Key × V)) (kps : KpL) : Prop := kvs.length = kps.length ∧ ∀ (i : Nat) (p : Int) (ms : List Int), kps[i]? = some (p, ms) → ∃ b : Addr, kvs[i]? = some (.inl p, .ref b) ∧ H b = some (.dK (trueL ms))
def LkAt (H : Hp) (d : Addr) (kps : KpL) : Prop := ∃ kvs, H d = some (.dK kvs) ∧ LkVs H kvs kps
theorem LkVs.k0 {H H' : Hp} {kvs : List (Key × V)} {kps : KpL} (h : LkVs H kvs kps) (k : K0 H H') : LkVs H' kvs kps := ⟨h.1, fun i p ms e => by
  obtain ⟨b, e1, e2⟩ := h.2 i p ms e
  exact ⟨b, e1, k.oth b _ e2 (fun _ z => by cases z)⟩⟩
theorem LkAt.k0 {H H' : Hp} {d : Addr} {kps : KpL} (h : LkAt H d kps) (k : K0 H H') : LkAt H' d kps := by
  obtain ⟨kvs, e, l⟩ := h
  exact ⟨kvs, k.oth d _ e (fun _ z => by cases z), l.k0 k⟩
theorem LkVs.keysI {H : Hp} {kvs : List (Key × V)} {kps : KpL} (h : LkVs H kvs kps) : kvs.map (·.1) = (kps.map (·.1)).map Sum.inl := by
  refine List.ext_getElem? fun i => ?_
  rw [List.getElem?_map, List.getElem?_map, List.getElem?_map]
  cases e : kps[i]? with
  | none =>
    have := List.getElem?_eq_none_iff.mp e
    rw [List.getElem?_eq_none_iff.mpr (show kvs.length ≤ i by rw [h.1]; exact this)]
    rfl
  | some p =>
    obtain ⟨b, e1, _⟩ := h.2 i p.1 p.2 e
    rw [e1]; rfl
theorem LkVs.nd {H : Hp} {kvs : List (Key × V)} {kps : KpL} (h : LkVs H kvs kps) (n : (kps.map (·.1)).Nodup) : (kvs.map (·.1)).Nodup := by
  rw [h.keysI]
  exact List.pairwise_map.mpr (n.imp fun a z => a (Sum.inl.inj z))
theorem LkVs.val {H : Hp} {kvs : List (Key × V)} {kps : KpL} (h : LkVs H kvs kps) (n : (kps.map (·.1)).Nodup) {p : Int} {ms : List Int} (hm : (p, ms) ∈ kps) : ∃ b : Addr, valV kvs (.inl p) = some (.ref b) ∧ H b = some (.dK (trueL ms)) := by
  obtain ⟨i, hi, e⟩ := List.mem_iff_getElem.mp hm
  obtain ⟨b, a, c⟩ := h.2 i p ms (by rw [List.getElem?_eq_getElem hi, e])
  exact ⟨b, valV_mem (p := (.inl p, .ref b)) (h.nd n) (List.mem_of_getElem? a), c⟩
theorem LkVs.at_ {H : Hp} {kvs : List (Key × V)} {kps : KpL} (h : LkVs H kvs kps) {i : Nat} {k : Key} {v : V} (e : kvs[i]? = some (k, v)) : ∃ (p : Int) (ms : List Int) (b : Addr), kps[i]? = some (p, ms) ∧ k = .inl p ∧ v = .ref b ∧ H b = some (.dK (trueL ms)) := by
  have hi : i < kps.length := by rw [← h.1]; exact (List.getElem?_eq_some_iff.mp e).1
  obtain ⟨b, a, c⟩ := h.2 i kps[i].1 kps[i].2 (List.getElem?_eq_getElem hi)
  rw [e] at a
  cases a
  exact ⟨_, _, b, List.getElem?_eq_getElem hi, rfl, rfl, c⟩
theorem trueL_in (ms : List Int) (v : Int) : (valV (trueL ms) (.inl v)).isSome = decide (v ∈ ms) := by
  by_cases h : v ∈ ms
  · rw [decide_eq_true h]
    cases e : valV (trueL ms) (.inl v) with
    | some x => rfl
    | none =>
      have hk : (Sum.inl v : Key) ∈ (trueL ms).map (·.1) := by
        unfold trueL
        rw [List.map_map]
        exact List.mem_map.mpr ⟨v, h, rfl⟩
      exact absurd hk (valV_not e)
  · rw [decide_eq_false h]
    cases e : valV (trueL ms) (.inl v) with
    | none => rfl
    | some x =>
      have hk := valV_in e
      unfold trueL at hk
      rw [List.map_map] at hk
      obtain ⟨u, hu, eu⟩ := List.mem_map.mp hk
      cases eu
      exact absurd hu h
theorem put_new {ls : List (Key × V)} {k : Key} {v : V} (h : k ∉ ls.map (·.1)) : putK ls k v = ls ++ [(k, v)] := by
  unfold putK
  rw [valV_any]
  cases e : valV ls k with
  | none => rfl
  | some x => exact absurd (valV_in e) h
section
variable {P : Program} {w : World} {K : PySem.W.Frag} {mg : Str → Option Value} {base : Heap}
def spLookup (K : PySem.W.Frag) : Sp := fun vs H Q _ => ∃ (d : Addr) (kvs : List (Key × V)) (kps : KpL) (n : Int), vs = [.ref d] ∧ H d = some (.dK kvs) ∧ KVs K H kvs kps ∧ KpOk n kps ∧ n ≤ 12 ∧ ∀ (D : Addr) (H' : Hp), K0 H H' → LkAt H' D kps → Q (.ref D) H'
theorem ok_lookup {f : Addr} {fd : FuncData} (F : Fun K "lookup" "lookup" sLookup f fd) : FnOk P w K mg base CX0 1 f fd ["things"] (spLookup K) := by
  refine F.ok scLookup (fun vs H Q E h => ?_) (fun cdv A outer s H vs Q E hr h => ?_)
  · obtain ⟨d, kvs, kps, n, rfl, _⟩ := h
    rfl
  · obtain ⟨d, kvs, kps, n, rfl, hd, hK, hO, hn, q⟩ := h
    have hu := hu_of hr
    refine ⟨_, (pss_one (ps_ret (pe_lock (pe_dc (own := [("place", 1)]) (g := (gName 1)) (tt := tYes) (tk := (tVar 1)) (tv := (tDc (iTup K (tDGet (tVar 0) (tVar 1))) (gName 2) tYes (tVar 2) (tC (.bl true)) [2]))  rfl scLookup.nd (pi_keys (pv 0)) (blkOk_by (N := N_scLookup) (sc := defScope sLookup) (by decide +kernel)) (fun _ _ _ _ _ => (pg_name (i := 1) scLookup.nd rfl (.inl rfl))) (fun _ _ _ _ _ => pts_nil) (fun _ _ _ _ _ => (pv 1)) (fun _ _ _ _ _ => (pe_dc (own := [("number", 2)]) (g := (gName 2)) (tt := tYes) (tk := (tVar 2)) (tv := (tC (.bl true)))  rfl scLookup.nd (pi_tup (pe_dget hu (pv 0) (pv 1) (fun _ _ => rfl))) (HkC.blk_up (blkOk_by (N := N_scLookup) (sc := scLook2) (by decide +kernel))) (fun _ _ _ _ _ => (pg_name (i := 2) scLookup.nd rfl (.inl rfl))) (fun _ _ _ _ _ => pts_nil) (fun _ _ _ _ _ => (pv 2)) (fun _ _ _ _ _ => pe_bl))))))), ?_⟩
    have hkl := hO.len hn
    refine ⟨d, _, hd, trivial, fun od => ⟨_, rfl, d, od, rfl, .inl ⟨kvs, upd_same, fun D nD => ?_⟩⟩⟩
    have hKl : KVs K (upd H d (.frz od (.dK kvs))) kvs kps := ⟨hK.1, fun i p ms e => by
      obtain ⟨q1, a, b⟩ := hK.2 i p ms e
      exact ⟨q1, a, sqT_lock b hd⟩⟩
    have hdl : (upd H d (.frz od (.dK kvs))) d = some (.frz od (.dK kvs)) := upd_same
    generalize hHL : upd H d (.frz od (.dK kvs)) = HL at nD hKl hdl ⊢
    refine HkC.walk_any walk_keys (fun i G => K0 HL G ∧ ∃ ls, G D = some (.dK ls) ∧ LkVs G ls (kps.take i) ∧ ∀ e ∈ ls, e.2 ≠ V.ref D) ⟨K0.new nD, [], upd_same, ⟨rfl, fun i p ms e => by rw [List.take_zero] at e; cases e⟩, fun e he => by cases he⟩ (fun i G _ h => h.1.oth d _ hdl (fun _ z => by cases z)) (fun i x G G' hi h y => ?_) (fun G h => ?_)
    · obtain ⟨k, ls, hD, hL, hne⟩ := h
      obtain ⟨rfl, kk, v, hkv, rfl⟩ := y
      obtain ⟨p, ms, q1, e1, e2, hq⟩ := (hKl.k0 k).at_ hkv
      cases e2
      have hd' := k.oth d _ hdl (fun _ z => by cases z)
      have hmm := List.mem_of_getElem? e1
      have hms := hO.few _ hmm
      refine ⟨rfl, tyes ⟨_, rfl, _, rfl, _, rfl, d, _, rfl, .inl ⟨kvs, .inl p, .inr ⟨od, hd'⟩, rfl, (valV_mem (p := ((.inl p : Key), V.ref q1)) (hKl.nd hO.nodup) (List.mem_of_getElem? hkv)).symm⟩, q1, rfl, ⟨_, hq⟩, fun D2 nD2 => ?_⟩⟩
      have nDD : D ≠ D2 := fun z => by rw [← z, hD] at nD2; cases nD2
      refine dc_tup (xs := ms.map V.int) (fun j G2 => K0 G' G2 ∧ G2 D2 = some (.dK (trueL (ms.take j)))) ⟨K0.new nD2, upd_same⟩ (fun j G2 _ h => h.1.sqT hq) (fun j x G2 hx h => ?_) (fun G2 h => ?_)
      · obtain ⟨k2, h2⟩ := h
        rw [List.getElem?_map] at hx
        obtain ⟨m, hm, rfl⟩ := Option.map_eq_some_iff.mp hx
        have hj := (List.getElem?_eq_some_iff.mp hm).1
        refine ⟨rfl, tyes ⟨_, rfl, _, .inl m, rfl, h2, ?_, k2.mut nD2, ?_⟩⟩
        · unfold trueL
          rw [List.length_map, sizeLine_eq]
          have := List.length_take_le' j ms
          show (ms.take j).length < _
          have h10 : ms.length ≤ 10 := hms
          omega
        · rw [upd_same, put_new]
          · unfold trueL
            rw [List.take_add_one, hm, List.map_append]
            rfl
          · unfold trueL
            rw [List.map_map]
            intro hin
            obtain ⟨u, hu1, hu2⟩ := List.mem_map.mp hin
            cases hu2
            have up := hO.up2 _ hmm
            obtain ⟨i2, hi2, e2⟩ := List.mem_iff_getElem.mp hu1
            rw [List.length_take] at hi2
            rw [List.getElem_take] at e2
            have h4 := List.pairwise_iff_getElem.mp up i2 j (show i2 < ms.length by omega) hj (by omega)
            have h5 : ms[j] = m := (List.getElem?_eq_some_iff.mp hm).2
            have h6 : ms[i2] < ms[j] := h4
            rw [e2, h5] at h6
            exact absurd h6 (Int.lt_irrefl _)
      · obtain ⟨k2, h2⟩ := h
        rw [List.length_map, List.take_of_length_le (Nat.le_refl _)] at h2
        have hD2 := k2.oth D _ hD (fun _ z => by cases z)
        have hll : ls.length = i := by
          rw [hL.1, List.length_take]
          have := hK.1
          omega
        have ltake : kps.take (i + 1) = kps.take i ++ [(p, ms)] := by rw [List.take_add_one, e1]; rfl
        have nin : (Sum.inl p : Key) ∉ ls.map (·.1) := by
          rw [hL.keysI]
          intro hin
          obtain ⟨u, hu1, hu2⟩ := List.mem_map.mp hin
          cases hu2
          have nd := hO.nodup
          rw [← List.take_append_drop (i + 1) kps, ltake, List.map_append, List.map_append] at nd
          exact (List.nodup_append.mp (List.nodup_append.mp nd).1).2.2 p hu1 p (List.mem_singleton.mpr rfl) rfl
        refine ⟨ls, .inl p, rfl, hD2, by rw [hll, sizeLine_eq]; have := hK.1; omega, (k.trans k2).mut nD, _, upd_same, ?_, ?_⟩
        · rw [put_new nin, ltake]
          refine ⟨by rw [List.length_append, List.length_append, hL.1]; rfl, fun j p' ms' e => ?_⟩
          by_cases hj : j < (kps.take i).length
          · rw [List.getElem?_append_left hj] at e
            obtain ⟨b, a1, a2⟩ := hL.2 j p' ms' e
            refine ⟨b, by rw [List.getElem?_append_left (by rw [hL.1]; exact hj)]; exact a1, ?_⟩
            have hb : b ≠ D := fun z => hne _ (List.mem_of_getElem? a1) (by rw [z])
            rw [upd_ne hb]
            exact k2.oth b _ a2 (fun _ z => by cases z)
          · rw [List.getElem?_append_right (by omega)] at e
            have hj0 : j - (kps.take i).length = 0 := by
              cases hh : j - (kps.take i).length with
              | zero => rfl
              | succ n => rw [hh] at e; cases e
            rw [hj0] at e
            cases e
            refine ⟨D2, by rw [List.getElem?_append_right (by rw [hL.1]; omega), hL.1, hj0]; rfl, ?_⟩
            rw [upd_ne (Ne.symm nDD)]
            exact h2
        · rw [put_new nin]
          intro e he
          rcases List.mem_append.mp he with he | he
          · exact hne e he
          · rw [List.mem_singleton.mp he]
            exact fun z => nDD (V.ref.inj z).symm
    · obtain ⟨k, ls, hD, hL, _⟩ := h
      have hd9 := k.oth d _ hdl (fun _ z => by cases z)
      rw [hK.1, List.take_length] at hL
      subst hHL
      have ndd : D ≠ d := fun z => by rw [z, hdl] at nD; cases nD
      refine ⟨hd9, q D _ (K0.lock hd (fun _ z => by cases z) k) ⟨ls, by rw [upd_ne ndd]; exact hD, hL.1, fun i p ms e => ?_⟩⟩
      obtain ⟨b, a1, a2⟩ := hL.2 i p ms e
      exact ⟨b, a1, by rw [upd_ne (fun z => by rw [z, hd9] at a2; cases a2)]; exact a2⟩
end
end HK

set_option Elab.async false
set_option linter.all false
set_option maxRecDepth 100000
set_option maxHeartbeats 4000000
namespace HK
open PySem PySem.Spec PyProof.Rows L2 GAl GxR HkN
open Evl (pss_cut)
/-! ### the numbers of a table -/
abbrev sTogether : Stmt := topS 30
abbrev N_scTogether : List Str := ["one", "other"]
theorem scTogether : FnScope N_scTogether ["one", "other"] (defScope sTogether) := ⟨rfl, rfl, rfl, by decide +kernel, rfl, by decide +kernel, by decide +kernel⟩
abbrev sIsLess : Stmt := topS 31
abbrev N_scIsLess : List Str := ["one", "other"]
theorem scIsLess : FnScope N_scIsLess ["one", "other"] (defScope sIsLess) := ⟨rfl, rfl, rfl, by decide +kernel, rfl, by decide +kernel, by decide +kernel⟩
/-- a number of a table, None where there is none -/
def nV : Option Int → V
  | none => .non
  | some i => .int i
def addO : Option Int → Option Int → Option Int
  | some a, some b => some (a + b)
  | _, _ => none
def ltO : Option Int → Option Int → Bool
  | none, _ => false
  | some _, none => true
  | some a, some b => decide (a < b)
section
variable {P : Program} {w : World} {K : PySem.W.Frag} {mg : Str → Option Value} {base : Heap}
def spTogether : Sp := fun vs H Q _ => ∃ a b : Option Int, vs = [nV a, nV b] ∧ Q (nV (addO a b)) H
def spIsLess : Sp := fun vs H Q _ => ∃ a b : Option Int, vs = [nV a, nV b] ∧ Q (.bl (ltO a b)) H
theorem ok_together {f : Addr} {fd : FuncData} (F : Fun K "together" "together" sTogether f fd) : FnOk P w K mg base CX0 1 f fd ["one", "other"] spTogether := by
  refine F.ok scTogether (fun vs H Q E h => ?_) (fun cdv A outer s H vs Q E hr h => ?_)
  · obtain ⟨a, b, rfl, _⟩ := h
    rfl
  · obtain ⟨a, b, rfl, q⟩ := h
    have hu := hu_of hr
    refine ⟨_, (pss_cons (ps_if (PW.pt (pw_or (pt_cmp (pc_isN (pv 0))) (pw_or1 (pt_cmp (pc_isN (pv 1)))))) (pss_one (ps_ret pe_non)) pss_nil)
      (pss_one (ps_ret (pe_op op_add (pv 0) (pv 1))))), ?_⟩
    cases a with
    | none => exact ⟨_, rfl, _, rfl, iteT q⟩
    | some a =>
      refine ⟨_, rfl, _, rfl, iteF ⟨_, rfl, ?_⟩⟩
      cases b with
      | none => exact ⟨_, rfl, iteT q⟩
      | some b => exact ⟨_, rfl, iteF ⟨_, rfl, _, rfl, _, _, rfl, rfl, q⟩⟩
theorem ok_isless {f : Addr} {fd : FuncData} (F : Fun K "is_less" "is_less" sIsLess f fd) : FnOk P w K mg base CX0 1 f fd ["one", "other"] spIsLess := by
  refine F.ok scIsLess (fun vs H Q E h => ?_) (fun cdv A outer s H vs Q E hr h => ?_)
  · obtain ⟨a, b, rfl, _⟩ := h
    rfl
  · obtain ⟨a, b, rfl, q⟩ := h
    have hu := hu_of hr
    refine ⟨_, (pss_one (ps_ret (pe_and (pe_cmp (pc_notN (pv 0))) (pe_one (pe_or (pe_cmp (pc_isN (pv 1))) (pe_one (pe_cmpR op_lt (pv 0) (pv 1) (nomark _)))))))), ?_⟩
    cases a with
    | none => exact ⟨_, rfl, _, rfl, iteF q⟩
    | some a =>
      refine ⟨_, rfl, _, rfl, iteT ⟨_, rfl, ?_⟩⟩
      cases b with
      | none => exact ⟨_, rfl, iteT q⟩
      | some b => exact ⟨_, rfl, iteF ⟨_, rfl, _, rfl, _, _, rfl, rfl, q⟩⟩
end
end HK

set_option Elab.async false
set_option linter.all false
set_option maxRecDepth 100000
set_option maxHeartbeats 4000000
namespace HK
open PySem PySem.Spec PyProof.Rows L2 GAl GxR HkN
/-! ### companies and partings -/
def cStep (f : List (List Int)) (p : Int) : List (List Int) := f ++ f.map fun a => a ++ [p]
def comps (hs : List Int) : List (List Int) := hs.foldl cStep [[]]
def compsN (hs : List Int) : List (List Int) := (comps hs).drop 1
theorem cStep_mem {hs : List Int} : ∀ {A : List (List Int)} {x : List Int}, x ∈ hs.foldl cStep A ↔ ∃ a ∈ A, ∃ t, t.Sublist hs ∧ x = a ++ t := by
  induction hs with
  | nil =>
    intro A x
    constructor
    · exact fun h => ⟨x, h, [], List.Sublist.slnil, (List.append_nil x).symm⟩
    · rintro ⟨a, ha, t, ht, rfl⟩
      rw [List.sublist_nil.mp ht, List.append_nil]; exact ha
  | cons p hs ih =>
    intro A x
    rw [List.foldl_cons, ih]
    unfold cStep
    constructor
    · rintro ⟨a, ha, t, ht, rfl⟩
      rcases List.mem_append.mp ha with ha | ha
      · exact ⟨a, ha, t, ht.cons p, rfl⟩
      · obtain ⟨a', ha', rfl⟩ := List.mem_map.mp ha
        exact ⟨a', ha', p :: t, ht.cons_cons p, by simp⟩
    · rintro ⟨a, ha, t, ht, rfl⟩
      cases ht with
      | cons _ ht => exact ⟨a, List.mem_append_left _ ha, t, ht, rfl⟩
      | cons_cons _ ht => exact ⟨a ++ [p], List.mem_append_right _ (List.mem_map.mpr ⟨a, ha, rfl⟩), _, ht, by simp⟩
theorem comps_mem {hs x : List Int} : x ∈ comps hs ↔ x.Sublist hs := by
  unfold comps
  rw [cStep_mem]
  constructor
  · rintro ⟨a, ha, t, ht, rfl⟩
    rw [List.mem_singleton.mp ha]; exact ht
  · exact fun h => ⟨[], List.mem_singleton.mpr rfl, x, h, rfl⟩
theorem cStep_hd {hs : List Int} : ∀ {A' : List (List Int)}, (∀ x ∈ A', x ≠ []) → ∃ R, hs.foldl cStep ([] :: A') = [] :: R ∧ ∀ x ∈ R, x ≠ [] := by
  induction hs with
  | nil => exact fun h => ⟨_, rfl, h⟩
  | cons p hs ih =>
    intro A' h
    refine ih (A' := A' ++ ([] :: A').map fun a => a ++ [p]) fun x hx => ?_
    rcases List.mem_append.mp hx with hx | hx
    · exact h x hx
    · obtain ⟨a, _, rfl⟩ := List.mem_map.mp hx
      exact fun z => by cases a <;> cases z
theorem comps_hd (hs : List Int) : comps hs = [] :: compsN hs ∧ ∀ x ∈ compsN hs, x ≠ [] := by
  obtain ⟨R, e, h⟩ := cStep_hd (hs := hs) (A' := []) fun x hx => by cases hx
  have e2 : compsN hs = R := by unfold compsN comps; rw [e]; rfl
  rw [e2]
  exact ⟨e, h⟩
theorem compsN_mem {hs x : List Int} : x ∈ compsN hs ↔ x.Sublist hs ∧ x ≠ [] := by
  obtain ⟨e, h⟩ := comps_hd hs
  constructor
  · exact fun hx => ⟨comps_mem.mp (by rw [e]; exact List.mem_cons_of_mem _ hx), h x hx⟩
  · rintro ⟨h1, h2⟩
    have := comps_mem.mpr h1
    rw [e] at this
    exact (List.mem_cons.mp this).resolve_left h2
theorem cStep_len {hs : List Int} : ∀ {A : List (List Int)}, (hs.foldl cStep A).length = A.length * 2 ^ hs.length := by
  induction hs with
  | nil => intro A; simp
  | cons p hs ih =>
    intro A
    rw [List.foldl_cons, ih]
    unfold cStep
    rw [List.length_append, List.length_map, List.length_cons, Nat.pow_succ]
    rw [Nat.mul_comm (2 ^ hs.length) 2, ← Nat.mul_assoc]
    congr 1
    omega
theorem comps_len (hs : List Int) : (comps hs).length = 2 ^ hs.length := by
  unfold comps
  rw [cStep_len]
  simp
theorem compsN_len (hs : List Int) : (compsN hs).length + 1 = 2 ^ hs.length := by
  have e := (comps_hd hs).1
  have := comps_len hs
  rw [e, List.length_cons] at this
  exact this
/-- what is within a company stands ahead of it -/
def Ord (A : List (List Int)) : Prop := ∀ i x, A[i]? = some x → ∀ s : List Int, s.Sublist x → s ≠ x → s ∈ A.take i
theorem Ord.step {A : List (List Int)} (h : Ord A) (p : Int) : Ord (cStep A p) := by
  intro i x hx s hs hne
  unfold cStep at hx ⊢
  by_cases hi : i < A.length
  · rw [List.getElem?_append_left hi] at hx
    rw [List.take_append_of_le_length (Nat.le_of_lt hi)]
    exact h i x hx s hs hne
  · obtain ⟨j, rfl⟩ : ∃ j, i = A.length + j := ⟨i - A.length, by omega⟩
    rw [List.getElem?_append_right (by omega), Nat.add_sub_cancel_left, List.getElem?_map] at hx
    obtain ⟨a, ha, rfl⟩ := Option.map_eq_some_iff.mp hx
    rw [List.take_append, List.take_of_length_le (Nat.le_add_right ..), Nat.add_sub_cancel_left]
    obtain ⟨s1, s2, rfl, h1, h2⟩ := List.sublist_append_iff.mp hs
    have c2 : s2 = [] ∨ s2 = [p] := by
      cases h2 with
      | cons _ h => exact .inl (List.sublist_nil.mp h)
      | cons_cons _ h => exact .inr (by rw [List.sublist_nil.mp h])
    rcases c2 with rfl | rfl
    · rw [List.append_nil]
      refine List.mem_append_left _ ?_
      by_cases e : s1 = a
      · rw [e]; exact List.mem_of_getElem? ha
      · exact List.mem_of_mem_take (h j a ha s1 h1 e)
    · refine List.mem_append_right _ ?_
      have e : s1 ≠ a := fun z => hne (by rw [z])
      have := h j a ha s1 h1 e
      rw [← List.map_take]
      exact List.mem_map.mpr ⟨s1, this, rfl⟩
theorem ord_fold {hs : List Int} : ∀ {A : List (List Int)}, Ord A → Ord (hs.foldl cStep A) := by
  induction hs with
  | nil => exact fun h => h
  | cons p hs ih => exact fun h => ih (h.step p)
theorem comps_ord (hs : List Int) : Ord (comps hs) := ord_fold fun i x hx s h1 h2 => by
  cases i with
  | zero =>
    cases hx
    exact absurd (List.sublist_nil.mp h1) h2
  | succ i => cases hx
theorem compsN_ord {hs : List Int} {i : Nat} {x s : List Int} (hx : (compsN hs)[i]? = some x) (h1 : s.Sublist x) (h2 : s ≠ x) (h0 : s ≠ []) : s ∈ (compsN hs).take i := by
  have e := (comps_hd hs).1
  have := comps_ord hs (i + 1) x (by rw [e]; exact hx) s h1 h2
  rw [e, List.take_succ_cons] at this
  exact (List.mem_cons.mp this).resolve_left h0
theorem comps_take {hs : List Int} {j : Nat} {p : Int} (h : hs[j]? = some p) : comps (hs.take (j + 1)) = cStep (comps (hs.take j)) p := by
  unfold comps
  rw [List.take_add_one, h, List.foldl_append]
  rfl
/-! partings -/
def otherF (r o : List Int) : List Int := r.filter fun x => !decide (x ∈ o)
def partsF (s : List Int) : List (List Int × List Int) := (compsN (s.drop 1)).map fun o => (s.take 1 ++ otherF (s.drop 1) o, o)
theorem filter_sub {s o : List Int} (hs : s.Nodup) (h : o.Sublist s) : s.filter (fun x => decide (x ∈ o)) = o := by
  induction h with
  | slnil => rfl
  | cons a h ih =>
    rename_i l1 l2
    have hn := List.nodup_cons.mp hs
    rw [List.filter_cons, decide_eq_false (fun z => hn.1 (h.subset z))]
    exact ih hn.2
  | cons_cons a h ih =>
    rename_i l1 l2
    have hn := List.nodup_cons.mp hs
    rw [List.filter_cons, decide_eq_true (List.mem_cons_self ..)]
    show a :: _ = a :: l1
    congr 1
    rw [← ih hn.2]
    refine List.filter_congr fun x hx => ?_
    have hxa : x ≠ a := fun z => hn.1 (by rw [← z]; exact hx)
    rw [Bool.eq_iff_iff, decide_eq_true_iff, decide_eq_true_iff, ih hn.2, List.mem_cons]
    exact ⟨fun z => z.resolve_left hxa, .inr⟩
theorem partsF_mem {s : List Int} {a b : List Int} (hs : s.Nodup) (h : (a, b) ∈ partsF s) : a ≠ [] ∧ b ≠ [] ∧ a.Sublist s ∧ b.Sublist s ∧ a ≠ s ∧ b ≠ s := by
  unfold partsF at h
  obtain ⟨o, ho, e⟩ := List.mem_map.mp h
  cases e
  obtain ⟨h1, h2⟩ := compsN_mem.mp ho
  cases s with
  | nil => exact absurd (List.sublist_nil.mp h1) h2
  | cons x r =>
    have hn := List.nodup_cons.mp hs
    have hr : b.Sublist r := h1
    refine ⟨(fun z => by cases z), h2, (List.filter_sublist (l := r)).cons_cons x, hr.cons x, fun z => ?_, fun z => ?_⟩
    · obtain ⟨y, hy⟩ := List.exists_mem_of_ne_nil b h2
      have e : otherF r b = r := (List.cons.inj z).2
      have : y ∈ otherF r b := by rw [e]; exact hr.subset hy
      have := (List.mem_filter.mp this).2
      rw [decide_eq_true hy] at this
      cases this
    · rw [z] at hr
      have := hr.subset (List.mem_cons_self ..)
      exact hn.1 this
theorem partsF_all {s : List Int} {g : Int → Bool} (hs : s.Nodup) (ha : s.filter g ≠ []) (hb : (s.filter fun x => !g x) ≠ []) : (s.filter g, s.filter fun x => !g x) ∈ partsF s ∨ ((s.filter fun x => !g x), s.filter g) ∈ partsF s := by
  have gen : ∀ (g : Int → Bool) (x : Int) (r : List Int), (x :: r).Nodup → g x = false → (x :: r).filter g ≠ [] → (((x :: r).filter fun x => !g x), (x :: r).filter g) ∈ partsF (x :: r) := fun g x r hn hg ha => by
    have hn := List.nodup_cons.mp hn
    unfold partsF
    have e1 : (x :: r).filter g = r.filter g := by rw [List.filter_cons, hg]; rfl
    rw [e1] at ha ⊢
    refine List.mem_map.mpr ⟨r.filter g, compsN_mem.mpr ⟨List.filter_sublist, ha⟩, ?_⟩
    congr 1
    show x :: otherF r (r.filter g) = (x :: r).filter fun x => !g x
    rw [List.filter_cons, hg]
    show _ = x :: _
    congr 1
    refine List.filter_congr fun y hy => ?_
    congr 1
    rw [Bool.eq_iff_iff, decide_eq_true_iff, List.mem_filter]
    exact ⟨fun z => z.2, fun z => ⟨hy, z⟩⟩
  cases s with
  | nil => exact absurd rfl ha
  | cons x r =>
    cases hg : g x with
    | false => exact .inr (gen g x r hs hg ha)
    | true =>
      have h2 := gen (fun y => !g y) x r hs (by rw [hg]; rfl) hb
      have e : ((x :: r).filter fun y => !!g y) = (x :: r).filter g := List.filter_congr fun y _ => by rw [Bool.not_not]
      rw [e] at h2
      exact .inl h2
end HK

set_option Elab.async false
set_option linter.all false
set_option maxRecDepth 100000
set_option maxHeartbeats 2000000
namespace HK
open PySem PySem.Spec PyProof.Rows L2 GAl GxR
/-! ### tuples put together and cut, whatever is in them -/
theorem cut_dropW (xs : List V) (j : Nat) : cutV xs (some (j : Int)) none = xs.drop j := by
  unfold cutV
  rw [HT.sIx_none, HT.sIx_nat]
  by_cases h : j ≤ xs.length
  · rw [Nat.min_eq_left h, List.take_of_length_le (by rw [List.length_drop]; exact Nat.le_refl _)]
  · rw [Nat.min_eq_right (by omega), Nat.sub_self, List.take_zero, List.drop_of_length_le (by omega)]
theorem sl_drop1 {K : PySem.W.Frag} {H : Hp} {a : Addr} {xs : List V} {Q : VK} (h : SqT K H a xs) (hq : ∀ (p : Addr) (H' : Hp), K0 H H' → SqT K H' p (xs.drop 1) → Q (.ref p) H') : rSlA K (.ref a) (some 1) none H Q := by
  have e : cutV xs (some 1) none = xs.drop 1 := cut_dropW xs 1
  refine ⟨a, xs, rfl, h, fun z => hq a H (K0.refl _) ?_, fun _ p np => hq p _ (K0.new np) ?_⟩
  · have e2 : cutV xs (some 1) none = xs := by
      unfold cutV
      rw [z.1, z.2, List.drop_zero, Nat.sub_zero, List.take_length]
    rw [← e, e2]; exact h
  · rw [← e]; exact .inl (.inl upd_same)
theorem cat_any {K : PySem.W.Frag} {H : Hp} {a b : Addr} {xs ys : List V} {Q : VK} (ha : SqT K H a xs) (hb : SqT K H b ys) (hl : xs.length + ys.length ≤ sizeLine) (hq : ∀ (p : Addr) (H' : Hp), K0 H H' → SqT K H' p (xs ++ ys) → Q (.ref p) H') : rCatA K (.ref a) (.ref b) H Q :=
  ⟨a, b, xs, ys, rfl, rfl, ha, hb, hl, fun z => hq b H (K0.refl _) (by rw [z]; exact hb), fun _ z => hq a H (K0.refl _) (by rw [z, List.append_nil]; exact ha), fun _ _ p np => hq p _ (K0.new np) (.inl (.inl upd_same))⟩
end HK

set_option Elab.async false
set_option linter.all false
set_option maxRecDepth 100000
set_option maxHeartbeats 4000000
namespace HK
open PySem PySem.Spec PyProof.Rows L2 GAl GxR HkN
open Evl (pss_cut)
/-! ### all companies -/
abbrev sComps : Stmt := topS 32
abbrev N_scComps : List Str := ["hearers", "found", "place", "some"]
theorem scComps : FnScope N_scComps ["hearers"] (defScope sComps) := ⟨rfl, rfl, rfl, by decide +kernel, rfl, by decide +kernel, by decide +kernel⟩
/-- tuples, one by one -/
def TRows (K : PySem.W.Frag) (H : Hp) (as : List Addr) (vs : List (List V)) : Prop := as.length = vs.length ∧ ∀ (j : Nat) (a : Addr) (v : List V), as[j]? = some a → vs[j]? = some v → SqT K H a v
theorem TRows.mono {K : PySem.W.Frag} {H H' : Hp} {as : List Addr} {vs : List (List V)} (h : TRows K H as vs) (k : ∀ a v, SqT K H a v → SqT K H' a v) : TRows K H' as vs := ⟨h.1, fun j a v e1 e2 => k a v (h.2 j a v e1 e2)⟩
theorem TRows.k0 {K : PySem.W.Frag} {H H' : Hp} {as : List Addr} {vs : List (List V)} (h : TRows K H as vs) (k : K0 H H') : TRows K H' as vs := h.mono fun _ _ => k.sqT
theorem TRows.app {K : PySem.W.Frag} {H : Hp} {as bs : List Addr} {vs us : List (List V)} (h : TRows K H as vs) (h2 : TRows K H bs us) : TRows K H (as ++ bs) (vs ++ us) := by
  refine ⟨by rw [List.length_append, List.length_append, h.1, h2.1], fun j a v e1 e2 => ?_⟩
  by_cases hj : j < as.length
  · rw [List.getElem?_append_left hj] at e1
    rw [List.getElem?_append_left (by rw [← h.1]; exact hj)] at e2
    exact h.2 j a v e1 e2
  · rw [List.getElem?_append_right (by omega)] at e1
    rw [List.getElem?_append_right (by rw [← h.1]; omega), ← h.1] at e2
    exact h2.2 _ a v e1 e2
theorem TRows.one {K : PySem.W.Frag} {H : Hp} {a : Addr} {v : List V} (s : SqT K H a v) : TRows K H [a] [v] := ⟨rfl, fun j b u e1 e2 => by
  cases j with
  | zero => cases e1; cases e2; exact s
  | succ j => cases e1⟩
theorem TRows.drop {K : PySem.W.Frag} {H : Hp} {as : List Addr} {vs : List (List V)} (h : TRows K H as vs) (n : Nat) : TRows K H (as.drop n) (vs.drop n) := by
  refine ⟨by rw [List.length_drop, List.length_drop, h.1], fun j a v e1 e2 => ?_⟩
  rw [List.getElem?_drop] at e1 e2
  exact h.2 _ a v e1 e2
abbrev iV (l : List Int) : List V := l.map V.int
theorem iV_snoc (c : List Int) (p : Int) : iV (c ++ [p]) = iV c ++ [.int p] := by
  show List.map _ _ = _
  rw [List.map_append]; rfl
abbrev cV (cs : List (List Int)) : List (List V) := cs.map iV
theorem cut1R (as : List Addr) : cutV (as.map V.ref) (some 1) none = (as.drop 1).map V.ref := by
  show cutV _ (some ((1 : Nat) : Int)) none = _
  rw [cut_dropW, List.map_drop]
section
variable {P : Program} {w : World} {K : PySem.W.Frag} {mg : Str → Option Value} {base : Heap}
def spComps (K : PySem.W.Frag) : Sp := fun vs H Q _ => ∃ (p : Addr) (hs : List Int), vs = [.ref p] ∧ SqT K H p (iV hs) ∧ hs.length ≤ 12 ∧
  ∀ (L : Addr) (as : List Addr) (H' : Hp), K0 H H' → H L = none → H' L = some (.lst (as.map V.ref)) → TRows K H' as (cV (compsN hs)) → Q (.ref L) H'
theorem comps_few {hs : List Int} (h : hs.length ≤ 12) (j : Nat) : (comps (hs.take j)).length ≤ 4096 := by
  rw [comps_len]
  have : (hs.take j).length ≤ 12 := by rw [List.length_take]; omega
  exact Nat.le_trans (Nat.pow_le_pow_right (by decide) this) (by decide)
theorem ok_comps {f : Addr} {fd : FuncData} (F : Fun K "companies" "companies" sComps f fd) : FnOk P w K mg base CX0 1 f fd ["hearers"] (spComps K) := by
  refine F.ok scComps (fun vs H Q E h => ?_) (fun cdv A outer s H vs Q E hr h => ?_)
  · obtain ⟨p, hs, rfl, _⟩ := h
    rfl
  · obtain ⟨p, hs, rfl, hp, hl, q⟩ := h
    have hu := hu_of hr
    refine ⟨_, (pss_cons (ps_set (i := 1) scComps.nd rfl (.inl rfl) (pe_lst (pa_cons (pe_tup pa_nil) pa_nil)))
      (pss_cons (ps_for PassesOwn.never rfl (pi_tup (pv 0)) (pg_name (i := 2) scComps.nd rfl (.inr rfl))
      (pss_one (ps_set (i := 1) scComps.nd rfl (.inl rfl) (pe_op op_cat (pv 1) (pe_lc (own := [("some", 3)]) (g := (gName 3)) (tt := tYes) (te := (tTup (StX.tStar K (tVar 3) (tCons (tVar 2) tNil)))) rfl scComps.nd (pi_list (pv 1)) (blkOk_by (N := N_scComps) (sc := defScope sComps) (by decide +kernel)) (fun _ _ _ _ _ => (pg_name (i := 3) scComps.nd rfl (.inl rfl))) (fun _ _ _ _ _ => pts_nil) (fun _ _ _ _ _ => (pe_tup (StX.pa_star (pv 3) (pa_cons (pv 2) pa_nil)))))))))
      (pss_one (ps_ret (pe_slice sl_list (pv 1) (po_some pe_int) po_none))))), ?_⟩
    refine ⟨Nat.zero_le _, fun q1 n1 => ⟨by rw [sizeLine_eq]; show 1 ≤ _; omega, fun L nL => ?_⟩⟩
    have k1 := (K0.new n1 (o := .tup [])).trans (K0.new nL (o := .lst [.ref q1]))
    have nL0 : H L = none := upd_none nL
    have hq1 : SqT K (upd (upd H q1 (.tup [])) L (.lst [.ref q1])) q1 [] := (K0.new nL).sqT (.inl (.inl upd_same))
    have hL : (upd (upd H q1 (.tup [])) L (.lst [.ref q1])) L = some (.lst (([q1] : List Addr).map V.ref)) := upd_same
    generalize upd (upd H q1 (.tup [])) L (.lst [.ref q1]) = H1 at k1 hq1 hL ⊢
    refine ⟨_, rfl, p, rfl, ⟨_, k1.sqT hp⟩, for_tup (K := K) (a := p) (xs := iV hs) (fun j σ' G => ∃ (F : Addr) (as : List Addr) (y2 y3 : Option V), σ' = [some (.ref p), some (.ref F), y2, y3] ∧ K0 H G ∧ H F = none ∧ G F = some (.lst (as.map V.ref)) ∧ TRows K G as (cV (comps (hs.take j))))
      ⟨L, [q1], none, none, rfl, k1, nL0, hL, TRows.one hq1⟩ (fun j σ' G _ h => ?_) (fun j z σ' G hz h => ?_) (fun σ' G h => ?_)⟩
    · obtain ⟨_, _, _, _, _, k, _⟩ := h
      exact k.sqT hp
    · obtain ⟨F, as, y2, y3, rfl, k, nF, hF, hR⟩ := h
      rw [List.getElem?_map] at hz
      obtain ⟨pl, hpl, rfl⟩ := Option.map_eq_some_iff.mp hz
      have hfew := comps_few hl j
      have hal : as.length = (comps (hs.take j)).length := by rw [hR.1, List.length_map]
      refine ⟨_, rfl, _, rfl, F, rfl, ⟨_, .inl (.inl hF)⟩, fun D nD => ?_⟩
      refine lc_list (K := K) (a := F) (xs := as.map V.ref) (fun u G' => ∃ bs, K0 G G' ∧ G' D = some (.lst ((bs : List Addr).map V.ref)) ∧ TRows K G' bs (cV (((comps (hs.take j)).map fun a => a ++ [pl]).take u))) ⟨[], K0.new nD, upd_same, rfl, fun i a v e => by cases e⟩ (fun u G' _ h => ?_) (fun u y G' hy h => ?_) (fun G' h => ?_)
      · obtain ⟨_, k', _⟩ := h
        exact .inl (.inl (k'.oth _ _ hF (fun _ z => by cases z)))
      · obtain ⟨bs, k', hD, hB⟩ := h
        rw [List.getElem?_map] at hy
        obtain ⟨a, ha, rfl⟩ := Option.map_eq_some_iff.mp hy
        have hu' := (List.getElem?_eq_some_iff.mp ha).1
        have hc : (comps (hs.take j))[u]? = some (comps (hs.take j))[u] := List.getElem?_eq_getElem (by omega)
        have hsa := k'.sqT (hR.2 u a _ ha (by rw [List.getElem?_map, hc]; rfl))
        generalize hcu : (comps (hs.take j))[u] = c at hc hsa
        have hcl : c.length ≤ 12 := by
          have := (comps_mem.mp (List.mem_of_getElem? hc)).length_le
          rw [List.length_take] at this
          omega
        refine ⟨rfl, tyes ⟨_, rfl, a, _, rfl, .inl hsa, _, rfl, by rw [List.length_append, List.length_map, sizeLine_eq]; show _ + 1 ≤ _; omega, fun T nT => ?_⟩⟩
        have kT := K0.new nT (o := .tup (iV c ++ [.int pl]))
        have hDT := kT.oth _ _ hD (fun _ z => by cases z)
        have hT : SqT K (upd G' T (.tup (iV c ++ [.int pl]))) T (iV (c ++ [pl])) := .inl (.inl (by rw [upd_same, iV_snoc]))
        have hbl : bs.length ≤ 4096 := by have := hB.1; rw [List.length_map, List.length_take, List.length_map] at this; omega
        refine ⟨bs.map V.ref, hDT, by rw [List.length_map, sizeLine_eq]; omega, bs ++ [T], (k'.trans kT).mut nD, by rw [upd_same, List.map_append]; rfl, ?_⟩
        have e : (((comps (hs.take j)).map fun a => a ++ [pl]).take (u + 1)) = (((comps (hs.take j)).map fun a => a ++ [pl]).take u) ++ [c ++ [pl]] := by
          rw [List.take_add_one, List.getElem?_map, hc]; rfl
        rw [e]
        have kS : Kt D (upd G' T (.tup (iV c ++ [.int pl]))) (upd (upd G' T (.tup (iV c ++ [.int pl]))) D (.lst (bs.map V.ref ++ [.ref T]))) := Kt.set hDT
        have := ((hB.k0 kT).app (TRows.one hT)).mono fun _ _ => kS.sqT
        rw [show cV ((((comps (hs.take j)).map fun a => a ++ [pl]).take u) ++ [c ++ [pl]]) = cV (((comps (hs.take j)).map fun a => a ++ [pl]).take u) ++ [iV (c ++ [pl])] from by show List.map _ _ = _; rw [List.map_append]; rfl]
        exact this
      · obtain ⟨bs, k', hD, hB⟩ := h
        rw [List.length_map, hal, List.take_of_length_le (by rw [List.length_map]; exact Nat.le_refl _)] at hB
        have hF' := k'.oth _ _ hF (fun _ z => by cases z)
        have hbl : bs.length ≤ 4096 := by have := hB.1; rw [List.length_map, List.length_map] at this; omega
        refine ⟨F, D, _, _, rfl, rfl, hF', hD, by rw [List.length_map, List.length_map, sizeLine_eq]; omega, fun F2 nF2 => ?_⟩
        have k2 := K0.new nF2 (o := .lst (as.map V.ref ++ bs.map V.ref))
        refine ⟨F2, as ++ bs, _, _, rfl, k.trans (k'.trans k2), (k.trans k').dom _ nF2, by rw [upd_same, List.map_append], ?_⟩
        rw [comps_take hpl]
        have := ((hR.k0 k').app hB).k0 k2
        rw [show cV (cStep (comps (hs.take j)) pl) = cV (comps (hs.take j)) ++ cV ((comps (hs.take j)).map fun a => a ++ [pl]) from by show List.map _ _ = _; unfold cStep; rw [List.map_append]]
        exact this
    · obtain ⟨F, as, y2, y3, rfl, k, nF, hF, hR⟩ := h
      rw [List.length_map, List.take_length] at hR
      refine ⟨_, rfl, 1, rfl, F, _, rfl, .inl (.inl hF), fun R nR => ?_⟩
      rw [cut1R]
      refine q R (as.drop 1) _ (k.trans (K0.new nR)) (k.dom _ nR) upd_same ?_
      have := (hR.drop 1).k0 (K0.new nR (o := .lst ((as.drop 1).map V.ref)))
      rw [show (cV (comps hs)).drop 1 = cV (compsN hs) from by show (List.map _ _).drop 1 = _; rw [← List.map_drop]; rfl] at this
      exact this
end
end HK

set_option Elab.async false
set_option linter.all false
set_option maxRecDepth 100000
set_option maxHeartbeats 4000000
namespace HK
open PySem PySem.Spec PyProof.Rows L2 GAl GxR HkN
open Evl (pss_cut)
/-! ### all partings -/
abbrev sParts : Stmt := topS 33
abbrev N_scParts : List Str := ["some", "first", "rest", "pairs", "other", "place"]
theorem scParts : FnScope N_scParts ["some"] (defScope sParts) := ⟨rfl, rfl, rfl, by decide +kernel, rfl, by decide +kernel, by decide +kernel⟩
theorem inI2 (m : Int) (l : List Int) : inV (.int m) (iV l) = decide (m ∈ l) := by
  rw [Bool.eq_iff_iff, decide_eq_true_iff]
  unfold inV
  rw [List.any_eq_true]
  constructor
  · rintro ⟨x, hx, e⟩
    obtain ⟨j, hj, rfl⟩ := List.mem_map.mp hx
    simp [eqV] at e
    first | (rw [e]; exact hj) | (rw [← e]; exact hj)
  · intro h
    exact ⟨.int m, List.mem_map.mpr ⟨m, h, rfl⟩, by simp [eqV]⟩
theorem cut_take1 (xs : List V) : cutV xs none (some 1) = xs.take 1 := by
  show cutV xs none (some ((1 : Nat) : Int)) = _
  unfold cutV
  rw [HT.sIx_none, HT.sIx_nat, List.drop_zero, Nat.sub_zero]
  by_cases h : 1 ≤ xs.length
  · rw [Nat.min_eq_left h]
  · cases xs with
    | nil => rfl
    | cons a r => exact absurd (Nat.succ_le_succ (Nat.zero_le _)) h
theorem sl_any {K : PySem.W.Frag} {H : Hp} {a : Addr} {xs : List V} {lo hi : Option Int} {Q : VK} (h : SqT K H a xs) (hq : ∀ (p : Addr) (H' : Hp), K0 H H' → SqT K H' p (cutV xs lo hi) → Q (.ref p) H') : rSlA K (.ref a) lo hi H Q := by
  refine ⟨a, xs, rfl, h, fun z => hq a H (K0.refl _) ?_, fun _ p np => hq p _ (K0.new np) (.inl (.inl upd_same))⟩
  have e2 : cutV xs lo hi = xs := by
    unfold cutV
    rw [z.1, z.2, List.drop_zero, Nat.sub_zero, List.take_length]
  rw [e2]; exact h
/-- pairs of companies -/
def PRows (K : PySem.W.Frag) (H : Hp) (ps : List Addr) (qs : List (List Int × List Int)) : Prop := ps.length = qs.length ∧ ∀ (j : Nat) (p : Addr) (q : List Int × List Int), ps[j]? = some p → qs[j]? = some q → ∃ a b : Addr, SqT K H p [.ref a, .ref b] ∧ SqT K H a (iV q.1) ∧ SqT K H b (iV q.2)
theorem PRows.mono {K : PySem.W.Frag} {H H' : Hp} {ps : List Addr} {qs : List (List Int × List Int)} (h : PRows K H ps qs) (k : ∀ a v, SqT K H a v → SqT K H' a v) : PRows K H' ps qs := ⟨h.1, fun j p q e1 e2 => by
  obtain ⟨a, b, h1, h2, h3⟩ := h.2 j p q e1 e2
  exact ⟨a, b, k _ _ h1, k _ _ h2, k _ _ h3⟩⟩
theorem PRows.k0 {K : PySem.W.Frag} {H H' : Hp} {ps : List Addr} {qs : List (List Int × List Int)} (h : PRows K H ps qs) (k : K0 H H') : PRows K H' ps qs := h.mono fun _ _ => k.sqT
theorem PRows.snoc {K : PySem.W.Frag} {H : Hp} {ps : List Addr} {qs : List (List Int × List Int)} (h : PRows K H ps qs) {p a b : Addr} {q : List Int × List Int} (h1 : SqT K H p [.ref a, .ref b]) (h2 : SqT K H a (iV q.1)) (h3 : SqT K H b (iV q.2)) : PRows K H (ps ++ [p]) (qs ++ [q]) := by
  refine ⟨by rw [List.length_append, List.length_append, h.1]; rfl, fun j x y e1 e2 => ?_⟩
  by_cases hj : j < ps.length
  · rw [List.getElem?_append_left hj] at e1
    rw [List.getElem?_append_left (by rw [← h.1]; exact hj)] at e2
    exact h.2 j x y e1 e2
  · have hl := (List.getElem?_eq_some_iff.mp e1).1
    rw [List.length_append, List.length_singleton] at hl
    have ej : j = ps.length := by omega
    subst ej
    rw [List.getElem?_append_right (Nat.le_refl _), Nat.sub_self] at e1
    rw [List.getElem?_append_right (by rw [h.1]; exact Nat.le_refl _), h.1, Nat.sub_self] at e2
    cases e1; cases e2
    exact ⟨a, b, h1, h2, h3⟩
theorem otherF_take {r o : List Int} {j : Nat} {x : Int} (h : r[j]? = some x) : otherF (r.take (j + 1)) o = otherF (r.take j) o ++ (if x ∈ o then [] else [x]) := by
  unfold otherF
  rw [List.take_add_one, h, List.filter_append]
  congr 1
  by_cases hx : x ∈ o
  · rw [if_pos hx]; show List.filter _ [x] = _; rw [List.filter_cons, decide_eq_true hx]; rfl
  · rw [if_neg hx]; show List.filter _ [x] = _; rw [List.filter_cons, decide_eq_false hx]; rfl
section
variable {P : Program} {w : World} {K : PySem.W.Frag} {mg : Str → Option Value} {base : Heap}
def spParts (K : PySem.W.Frag) (Pp : Addr) : Sp := fun vs H Q _ => ∃ (p : Addr) (s : List Int), vs = [.ref p] ∧ SqT K H p (iV s) ∧ s.length ≤ 12 ∧ TabG H Pp ∧
  ∀ (L : Addr) (ps : List Addr) (H' : Hp), K0 H H' → H L = none → H' L = some (.lst (ps.map V.ref)) → PRows K H' ps (partsF s) → Q (.ref L) H'
theorem ok_parts {f c Pp : Addr} {fd : FuncData} {f_comps : Addr} {fd_comps : FuncData} (F : FunC K "partings" "partings" sParts f fd c) (TB : TabB base mg c Pp) (k_comps : PySem.W.keepIn K (.ref f_comps) = true) (b_comps : Binds K fd_comps ["hearers"] []) (g_comps : mg "companies" = some (.ref f_comps)) (G_comps : FnOk P w K mg base CX0 1 f_comps fd_comps ["hearers"] (spComps K)) (m_tuple : mg "tuple" = none) : FnOk P w K mg base CX0 2 f fd ["some"] (spParts K Pp) := by
  refine F.ok scParts (fun vs H Q E h => ?_) (fun A outer s H vs Q E hr h => ?_)
  · obtain ⟨p, s, rfl, _⟩ := h
    rfl
  · obtain ⟨p, s, rfl, hp, hl, tp, q⟩ := h
    have hu := hu_of hr
    refine ⟨_, (pss_cons (ps_set (i := 1) scParts.nd rfl (.inl rfl) (pe_slice sl_tupA (pv 0) po_none (po_some pe_int)))
      (pss_cons (ps_set (i := 2) scParts.nd rfl (.inl rfl) (pe_slice sl_tupA (pv 0) (po_some pe_int) po_none))
      (pss_cons (ps_set (i := 3) scParts.nd rfl (.inl rfl) (pe_lst pa_nil))
      (pss_cons (ps_for PassesOwn.never rfl (pi_list (pe_call G_comps (hr.mono (by decide)) (by rfl) g_comps k_comps b_comps .nil pass0 (pa_cons (pv 2) pa_nil))) (pg_name (i := 4) scParts.nd rfl (.inr rfl))
      (pss_one (ps_expr (pe_bm PySem.F.plainAttrs_list PySem.F.slot_list_append PySem.F.type_list_append mt_append (pv 3) (pa_cons (pe_tup (pa_cons (pe_op op_catA (pv 1) (pe_tupG (own := [("place", 5)]) (k := 0) (g := (gName 5)) (tt := (tTest (tOp (rIn K true) (tVar 5) (tVar 4)))) (te := (tVar 5)) (hr.mono (by decide)) (by rfl) m_tuple rfl scParts.nd TB rfl (gsc_by (N := N_scParts) (sc := defScope sParts) (by decide +kernel)) (pi_tup (pv 2)) (fun A' hr' _ _ _ _ _ _ => (pg_name (i := 5) scParts.nd rfl (.inl rfl))) (fun A' hr' _ _ _ _ _ _ => (pts_one (pt_cmpR op_notIn_seq (pv 5) (pv 4) rfl))) (fun A' hr' _ _ _ _ _ _ => (pv 5)))) (pa_cons (pv 4) pa_nil))) pa_nil)))))
      (pss_one (ps_ret (pv 3))))))), ?_⟩
    refine ⟨_, rfl, ?_⟩
    delta tNoPart
    refine ⟨1, rfl, sl_any hp fun p1 H1 k1 h1 => ?_⟩
    rw [cut_take1] at h1
    refine ⟨_, rfl, 1, rfl, sl_any (k1.sqT hp) fun p2 H2 k2 h2 => ?_⟩
    rw [show cutV (iV s) (some 1) none = (iV s).drop 1 from cut_dropW (iV s) 1] at h2
    have h1' : SqT K H2 p1 (iV (s.take 1)) := by rw [show iV (s.take 1) = (iV s).take 1 from List.map_take]; exact k2.sqT h1
    have h2' : SqT K H2 p2 (iV (s.drop 1)) := by rw [show iV (s.drop 1) = (iV s).drop 1 from List.map_drop]; exact h2
    have k12 := k1.trans k2
    refine ⟨Nat.zero_le _, fun L nL => ?_⟩
    have kL := K0.new nL (o := .lst [])
    have hL : (upd H2 L (.lst [])) L = some (.lst (([] : List Addr).map V.ref)) := upd_same
    generalize upd H2 L (.lst []) = H3 at kL hL
    have k3 := k12.trans kL
    have nL0 := k12.dom _ nL
    have hdl : (s.drop 1).length ≤ 12 := by rw [List.length_drop]; omega
    refine ⟨_, rfl, p2, s.drop 1, rfl, kL.sqT h2', hdl, fun C as H4 k4 nC hC hR => ?_⟩
    have k04 := k3.trans k4
    have CL : C ≠ L := fun z => by rw [z, hL] at nC; cases nC
    have hlen : as.length = (compsN (s.drop 1)).length := by rw [hR.1, List.length_map]
    have hfew : (compsN (s.drop 1)).length ≤ 4096 := by
      have h1 := compsN_len (s.drop 1)
      have := Nat.pow_le_pow_right (n := 2) (by decide) hdl
      have e : (2 : Nat) ^ 12 = 4096 := by decide
      omega
    have hpl : (partsF s).length = (compsN (s.drop 1)).length := by unfold partsF; rw [List.length_map]
    refine ⟨C, rfl, ⟨_, .inl (.inl hC)⟩, for_list (K := K) (a := C) (xs := as.map V.ref) (fun j σ' G => ∃ (ps : List Addr) (y4 y5 : Option V), σ' = [some (.ref p), some (.ref p1), some (.ref p2), some (.ref L), y4, y5] ∧ K0 H G ∧ Kt L H4 G ∧ G L = some (.lst (ps.map V.ref)) ∧ PRows K G ps ((partsF s).take j))
      ⟨[], none, none, rfl, k04, Kt.refl _ _, k4.oth _ _ hL (fun _ z => by cases z), ⟨rfl, fun i p q e => by cases e⟩⟩ (fun j σ' G _ h => ?_) (fun j z σ' G hz h => ?_) (fun σ' G h => ?_)⟩
    · obtain ⟨_, _, _, _, _, kt, _⟩ := h
      exact .inl (.inl (kt.oth _ _ hC CL (fun _ z => by cases z)))
    · obtain ⟨ps, y4, y5, rfl, k, kt, hLg, hP⟩ := h
      rw [List.getElem?_map] at hz
      obtain ⟨b, hb, rfl⟩ := Option.map_eq_some_iff.mp hz
      have hj := (List.getElem?_eq_some_iff.mp hb).1
      have hc : (compsN (s.drop 1))[j]? = some (compsN (s.drop 1))[j] := List.getElem?_eq_getElem (by omega)
      have hsb := kt.sqT (hR.2 j b _ hb (by rw [List.getElem?_map, hc]; rfl))
      generalize (compsN (s.drop 1))[j] = o at hc hsb
      have hp1 := kt.sqT ((kL.trans k4).sqT h1')
      have hp2 := kt.sqT ((kL.trans k4).sqT h2')
      have hpsl : ps.length ≤ 4096 := by have := hP.1; rw [List.length_take] at this; omega
      refine ⟨_, rfl, .inl ⟨rfl, _, .inl (.inl hLg)⟩, _, rfl, _, rfl, p2, rfl, ⟨_, hp2⟩, k.tab _ tp, fun G2 hT2 => ?_⟩
      have kG2 := K0.tbd (k.tab _ tp) hT2
      refine ⟨fun i r γ H5 => i + r = (s.drop 1).length ∧ K0 G2 H5 ∧ γ = iV (otherF ((s.drop 1).take i) o), ⟨(s.drop 1).length, by omega, K0.refl _, rfl⟩, fun i r γ H5 hW => ?_⟩
      obtain ⟨em, k5, eγ⟩ := hW
      have k25 := kG2.trans k5
      have hp5 := k25.sqT hp2
      by_cases hi : i < (s.drop 1).length
      · have e0 : (s.drop 1)[i]? = some (s.drop 1)[i] := List.getElem?_eq_getElem hi
        refine .inr ⟨⟨_, _, hp5, by rw [List.getElem?_map, e0]; rfl⟩, fun γ' H' => K0 G2 H' ∧ γ' = iV (otherF ((s.drop 1).take (i + 1)) o), fun γ' H' hN => ⟨r - 1, by omega, by omega, hN⟩, fun z H' hy => ?_⟩
        obtain ⟨rfl, fx⟩ := hy
        have ez := fx _ hp5
        rw [List.getElem?_map, e0] at ez
        cases ez
        refine ⟨rfl, _, rfl, _, rfl, b, _, rfl, .inr (k25.sqT hsb), rfl, ?_, _, rfl, ?_⟩
        · rw [List.all_map]
          exact List.all_eq_true.mpr fun _ _ => rfl
        · rw [otherF_take e0, eγ]
          show if (!inV (V.int (s.drop 1)[i]) (iV o)) = true then _ else _
          rw [inI2]
          by_cases hm : (s.drop 1)[i] ∈ o
          · rw [decide_eq_true hm, if_pos hm, List.append_nil]
            exact iteF ⟨k5, rfl⟩
          · rw [decide_eq_false hm, if_neg hm]
            refine iteT ⟨_, rfl, ?_, k5, ?_⟩
            · rw [List.length_map]
              have h1 : (otherF ((s.drop 1).take i) o).length ≤ _ := List.length_filter_le _ _
              rw [List.length_take] at h1
              omega
            · exact (iV_snoc _ _).symm
      · rw [List.take_of_length_le (by omega)] at eγ
        have hol : (otherF (s.drop 1) o).length ≤ 12 := Nat.le_trans (List.length_filter_le _ _) hdl
        refine .inl ⟨⟨_, hp5, by rw [List.length_map]; omega⟩, ?_, fun T nT => ?_⟩
        · rw [eγ, List.length_map]; omega
        rw [eγ]
        have kT := K0.new nT (o := .tup (iV (otherF (s.drop 1) o)))
        have k2T := k25.trans kT
        refine cat_any (k2T.sqT hp1) (.inl (.inl upd_same)) (by rw [List.length_map, List.length_map, List.length_take, sizeLine_eq]; omega) fun one G6 k6 h6 => ?_
        have h6' : SqT K G6 one (iV (s.take 1 ++ otherF (s.drop 1) o)) := by rw [show iV (s.take 1 ++ otherF (s.drop 1) o) = iV (s.take 1) ++ iV (otherF (s.drop 1) o) from List.map_append]; exact h6
        have k26 := k2T.trans k6
        refine ⟨_, rfl, by rw [sizeLine_eq]; show 2 ≤ _; omega, fun pr npr => ?_⟩
        have kp := K0.new npr (o := .tup [.ref one, .ref b])
        have k27 := k26.trans kp
        have hL7 := k27.oth _ _ hLg (fun _ z => by cases z)
        refine ⟨L, _, .ref pr, rfl, rfl, hL7, by rw [List.length_map, sizeLine_eq]; omega, ?_⟩
        have kS : Kt L (upd G6 pr (.tup [.ref one, .ref b])) (upd (upd G6 pr (.tup [.ref one, .ref b])) L (.lst (ps.map V.ref ++ [.ref pr]))) := Kt.set hL7
        refine ⟨ps ++ [pr], _, _, rfl, (k.trans k27).mut nL0, (kt.trans k27.kt).trans kS, by rw [upd_same, List.map_append]; rfl, ?_⟩
        have e : (partsF s).take (j + 1) = (partsF s).take j ++ [(s.take 1 ++ otherF (s.drop 1) o, o)] := by
          rw [List.take_add_one]
          congr 1
          unfold partsF
          rw [List.getElem?_map, hc]; rfl
        rw [e]
        exact ((hP.k0 k27).mono fun _ _ => kS.sqT).snoc (kS.sqT (.inl (.inl upd_same))) (kS.sqT (kp.sqT h6')) (kS.sqT (k27.sqT hsb))
    · obtain ⟨ps, y4, y5, rfl, k, kt, hLg, hP⟩ := h
      rw [List.length_map, hlen, List.take_of_length_le (by omega)] at hP
      exact ⟨_, rfl, q L ps G k nL0 hLg hP⟩
end
end HK

set_option Elab.async false
set_option linter.all false
set_option maxRecDepth 100000
set_option maxHeartbeats 4000000
namespace HK
open PySem PySem.Spec PyProof.Rows L2 GAl GxR HkN
/-! ### tables and steps in the heap -/
/-- all but what is in F stands -/
structure KX (F : Addr → Prop) (H H' : Hp) : Prop where
  tup : ∀ b xs, H b = some (.tup xs) → H' b = some (.tup xs)
  frz : ∀ b o u, H b = some (.frz o u) → H' b = some (.frz o u)
  oth : ∀ b o, H b = some o → ¬ F b → (∀ ps, o ≠ .tbl ps) → H' b = some o
  tab : ∀ P, TabG H P → TabG H' P
  dom : ∀ b, H' b = none → H b = none
theorem K0.kx {F : Addr → Prop} {H H' : Hp} (k : K0 H H') : KX F H H' := ⟨fun b xs h => k.oth b _ h (fun _ z => by cases z), fun b o u h => k.oth b _ h (fun _ z => by cases z), fun b o h _ n => k.oth b o h n, k.tab, k.dom⟩
theorem KX.refl (F : Addr → Prop) (H : Hp) : KX F H H := (K0.refl H).kx
theorem KX.trans {F : Addr → Prop} {H H1 H2 : Hp} (a : KX F H H1) (b : KX F H1 H2) : KX F H H2 :=
  ⟨fun x xs h => b.tup x xs (a.tup x xs h), fun x o u h => b.frz x o u (a.frz x o u h), fun x o h n m => b.oth x o (a.oth x o h n m) n m, fun P h => b.tab P (a.tab P h), fun x h => a.dom x (b.dom x h)⟩
theorem KX.sqT {K : PySem.W.Frag} {F : Addr → Prop} {H H' : Hp} (k : KX F H H') {a : Addr} {xs : List V} (h : SqT K H a xs) : SqT K H' a xs := by
  rcases h with (h | ⟨o, h⟩) | h
  · exact .inl (.inl (k.tup _ _ h))
  · exact .inl (.inr ⟨o, k.frz _ _ _ h⟩)
  · exact .inr h
/-- a dict with nested keys is written -/
theorem KX.dn {P : Program} {w : World} {F : Addr → Prop} {H : Hp} {d : Addr} {kvs : List NE} {o : HO} (h : H d = some (DN P w d kvs)) (hF : F d) : KX F H (upd H d o) := by
  have nt : ∀ b u, H b = some u → (∀ φ, u ≠ .ext φ) → b ≠ d := fun b u e n z => by rw [z, h] at e; exact n _ (Option.some.inj e).symm
  refine ⟨fun b xs e => ?_, fun b o u e => ?_, fun b u e n _ => ?_, fun Q hQ => ?_, fun b e => upd_none e⟩
  · rw [upd_ne (nt b _ e fun _ z => by cases z)]; exact e
  · rw [upd_ne (nt b _ e fun _ z => by cases z)]; exact e
  · rw [upd_ne (fun z => n (by rw [z]; exact hF))]; exact e
  · obtain ⟨ps, e, ht⟩ := hQ
    exact ⟨ps, by rw [upd_ne (nt _ _ e fun _ z => by cases z)]; exact e, ht⟩
theorem sub_lenG {α : Type} [DecidableEq α] : ∀ {l ks : List α}, l.Nodup → (∀ x ∈ l, x ∈ ks) → l.length ≤ ks.length
  | [], _, _, _ => Nat.zero_le _
  | x :: r, ks, hn, h => by
    have hx := h x (List.mem_cons_self ..)
    have hn := List.nodup_cons.mp hn
    have := sub_lenG (l := r) (ks := ks.erase x) hn.2 fun y hy => (List.mem_erase_of_ne (fun z => hn.1 (by rw [← z]; exact hy))).mpr (h y (List.mem_cons_of_mem _ hy))
    rw [List.length_erase_of_mem hx] at this
    have hp := List.length_pos_of_mem hx
    show r.length + 1 ≤ _
    omega
def ck (s : List Int) (v : Int) : NK := .tup [.tup (s.map .num), .num v]
theorem num_inj : ∀ {a b : List Int}, (a.map NestedKey.num) = b.map NestedKey.num → a = b
  | [], [], _ => rfl
  | [], _ :: _, h => by cases h
  | _ :: _, [], h => by cases h
  | x :: a, y :: b, h => by
    rw [List.map_cons, List.map_cons] at h
    injection h with h1 h2
    injection h1 with h1
    rw [h1, num_inj h2]
theorem ck_inj {s s' : List Int} {v v' : Int} (h : ck s v = ck s' v') : s = s' ∧ v = v' := by
  unfold ck at h
  injection h with h
  injection h with h1 h2
  injection h1 with h1
  injection h2 with h2 _
  injection h2 with h2
  exact ⟨num_inj h1, h2⟩
theorem num_depth : ∀ s : List Int, NestedKey.depthAll (s.map .num) = 0
  | [] => rfl
  | x :: s => by
    show max 0 (NestedKey.depthAll (s.map .num)) = 0
    rw [num_depth s]; rfl
theorem ck_depth (s : List Int) (v : Int) : (ck s v).depth ≤ 8 := by
  show max (NestedKey.depthAll (s.map .num) + 1) (max 0 0) + 1 ≤ 8
  rw [num_depth]
  decide
theorem num_keys {K : PySem.W.Frag} {H : Hp} : ∀ s : List Int, KeyVs K H (s.map .num) (iV s)
  | [] => .nil
  | x :: s => .cons (.int x) (num_keys s)
theorem ck_key {K : PySem.W.Frag} {H : Hp} {b a : Addr} {s : List Int} {v : Int} (h1 : SqT K H b [.ref a, .int v]) (h2 : SqT K H a (iV s)) : KeyV K H (ck s v) (.ref b) := .tup h1 (.cons (.tup h2 (num_keys s)) (.cons (.int v) .nil))
abbrev CK := List Int × Int
abbrev ckp (k : CK) : NK := ck k.1 k.2
/-- a table with just these keys, in this order -/
def TbAt (P : Program) (w : World) (K : PySem.W.Frag) (H : Hp) (d : Addr) (ks : List CK) (T : List Int → Int → Option Int) : Prop := ∃ kvs : List NE, H d = some (DN P w d kvs) ∧ KsOk K H kvs ∧ kvs.map (·.1) = ks.map ckp ∧ ∀ k ∈ ks, valN kvs (ckp k) = some (nV (T k.1 k.2))
def tset (T : List Int → Int → Option Int) (s : List Int) (v : Int) (x : Option Int) : List Int → Int → Option Int := fun s' v' => if s' = s ∧ v' = v then x else T s' v'
theorem tset_same {T : List Int → Int → Option Int} {s : List Int} {v : Int} {x : Option Int} : tset T s v x s v = x := if_pos ⟨rfl, rfl⟩
theorem tset_ne {T : List Int → Int → Option Int} {s s' : List Int} {v v' : Int} {x : Option Int} (h : ¬ (s' = s ∧ v' = v)) : tset T s v x s' v' = T s' v' := if_neg h
theorem valN_put {kvs : List NE} {k : NK} {b : Addr} {v : V} (k' : NK) : valN (putN kvs k b v) k' = if k' = k then some v else valN kvs k' := by
  unfold putN
  by_cases h : (valN kvs k).isSome = true
  · rw [if_pos h]
    induction kvs with
    | nil => cases h
    | cons e r ih =>
      rw [List.map_cons]
      by_cases he : e.1 = k
      · by_cases hk : k' = k
        · rw [if_pos hk, if_pos he]
          unfold valN
          rw [List.find?_cons, show decide ((e.1, e.2.1, v).1 = k') = true from decide_eq_true (by rw [hk]; exact he)]
          rfl
        · rw [if_neg hk, if_pos he]
          have e1 : valN ((e.1, e.2.1, v) :: List.map (fun e => if e.1 = k then (e.1, e.2.1, v) else e) r) k' = valN (List.map (fun e => if e.1 = k then (e.1, e.2.1, v) else e) r) k' := by
            unfold valN
            rw [List.find?_cons, show decide ((e.1, e.2.1, v).1 = k') = false from decide_eq_false fun z => hk (z.symm.trans he)]
          have e2 : valN (e :: r) k' = valN r k' := by
            unfold valN
            rw [List.find?_cons, show decide (e.1 = k') = false from decide_eq_false fun z => hk (z.symm.trans he)]
          rw [e1, e2]
          by_cases hr : (valN r k).isSome = true
          · rw [ih hr, if_neg hk]
          · have nr : ∀ x ∈ r, ¬ x.1 = k := fun x hx z => hr (by
              unfold valN
              rw [Option.isSome_map, List.find?_isSome]
              exact ⟨x, hx, decide_eq_true z⟩)
            rw [show List.map (fun e => if e.1 = k then (e.1, e.2.1, v) else e) r = r from by
              conv => rhs; rw [← List.map_id r]
              exact List.map_congr_left fun x hx => if_neg (nr x hx)]
      · rw [if_neg he]
        have hr : (valN r k).isSome = true := by
          have e2 : valN (e :: r) k = valN r k := by
            unfold valN
            rw [List.find?_cons, show decide (e.1 = k) = false from decide_eq_false he]
          rw [← e2]; exact h
        have ih := ih hr
        by_cases hk : e.1 = k'
        · have hkk : ¬ k' = k := fun z => he (hk.trans z)
          rw [if_neg hkk]
          unfold valN
          rw [List.find?_cons, List.find?_cons, decide_eq_true hk]
        · have e1 : ∀ l : List NE, valN (e :: l) k' = valN l k' := fun l => by
            unfold valN
            rw [List.find?_cons, show decide (e.1 = k') = false from decide_eq_false hk]
          rw [e1, e1, ih]
  · rw [if_neg h]
    unfold valN
    rw [List.find?_append]
    by_cases hk : k' = k
    · rw [if_pos hk]
      have : kvs.find? (fun e => decide (e.1 = k')) = none := by
        rw [hk]
        cases hf : kvs.find? (fun e => decide (e.1 = k)) with
        | none => rfl
        | some x => exact absurd (by unfold valN; rw [hf]; rfl) h
      rw [this, hk]
      simp
    · rw [if_neg hk]
      cases hf : kvs.find? (fun e => decide (e.1 = k')) with
      | some x => rfl
      | none =>
        have : ([(k, b, v)] : List NE).find? (fun e => decide (e.1 = k')) = none := by
          rw [List.find?_cons, show decide ((k, b, v).1 = k') = false from decide_eq_false fun z => hk z.symm]; rfl
        rw [this]; rfl
theorem keys_put {kvs : List NE} {k : NK} {b : Addr} {v : V} : (putN kvs k b v).map (·.1) = if k ∈ kvs.map (·.1) then kvs.map (·.1) else kvs.map (·.1) ++ [k] := by
  have e : (valN kvs k).isSome = true ↔ k ∈ kvs.map (·.1) := by
    unfold valN
    rw [Option.isSome_map, List.find?_isSome]
    constructor
    · rintro ⟨x, hx, e⟩
      exact List.mem_map.mpr ⟨x, hx, of_decide_eq_true e⟩
    · intro h
      obtain ⟨x, hx, e⟩ := List.mem_map.mp h
      exact ⟨x, hx, decide_eq_true e⟩
  unfold putN
  by_cases h : (valN kvs k).isSome = true
  · rw [if_pos h, if_pos (e.mp h), List.map_map]
    refine List.map_congr_left fun x _ => ?_
    show (if x.1 = k then (x.1, x.2.1, v) else x).1 = x.1
    split <;> rfl
  · rw [if_neg h, if_neg (fun z => h (e.mpr z)), List.map_append]; rfl
section
variable {P : Program} {w : World} {K : PySem.W.Frag} {H : Hp} {d : Addr} {ks : List CK} {T : List Int → Int → Option Int} {s : List Int} {v : Int} {a b : Addr}
theorem ksOk_kx {F : Addr → Prop} {H' : Hp} {kvs : List NE} (h : KsOk K H kvs) (k : KX F H H') : KsOk K H' kvs := h.mono fun _ _ => k.sqT
theorem TbAt.kx {F : Addr → Prop} {H' : Hp} (h : TbAt P w K H d ks T) (k : KX F H H') (hd : ¬ F d) : TbAt P w K H' d ks T := by
  obtain ⟨kvs, h1, h2, h3⟩ := h
  exact ⟨kvs, k.oth _ _ h1 hd (fun _ z => by cases z), ksOk_kx h2 k, h3⟩
theorem TbAt.k0 {H' : Hp} (h : TbAt P w K H d ks T) (k : K0 H H') : TbAt P w K H' d ks T := h.kx (k.kx (F := fun _ => False)) id
theorem TbAt.ex (h : TbAt P w K H d ks T) : ∃ o, H d = some o := by
  obtain ⟨kvs, h1, _⟩ := h
  exact ⟨_, h1⟩
theorem TbAt.get (h : TbAt P w K H d ks T) (hk : (s, v) ∈ ks) (h1 : SqT K H b [.ref a, .int v]) (h2 : SqT K H a (iV s)) : DGetN P w K H d (.ref b) (some (nV (T s v))) := by
  obtain ⟨kvs, g1, g2, g3, g4⟩ := h
  exact ⟨kvs, ck s v, b, .inl g1, g2, rfl, ck_key h1 h2, ck_depth s v, (g4 _ hk).symm⟩
/-- a number is written -/
theorem TbAt.put (h : TbAt P w K H d ks T) (hl : ks.length ≤ 5000) (h1 : SqT K H b [.ref a, .int v]) (h2 : SqT K H a (iV s)) (x : Option Int) : ∃ H', DPutN P w K H d (.ref b) (nV x) H' ∧ TbAt P w K H' d (if (s, v) ∈ ks then ks else ks ++ [(s, v)]) (tset T s v x) ∧ (∀ F : Addr → Prop, F d → KX F H H') ∧ ∃ o, H' = upd H d o := by
  obtain ⟨kvs, g1, g2, g3, g4⟩ := h
  have hlen : kvs.length = ks.length := by have := congrArg List.length g3; rw [List.length_map, List.length_map] at this; exact this
  have kx : ∀ F : Addr → Prop, F d → KX F H (upd H d (DN P w d (putN kvs (ck s v) b (nV x)))) := fun F hF => KX.dn g1 hF
  have mem : ck s v ∈ kvs.map (·.1) ↔ (s, v) ∈ ks := by
    rw [g3]
    constructor
    · intro z
      obtain ⟨k, hk, e⟩ := List.mem_map.mp z
      obtain ⟨e1, e2⟩ := ck_inj e
      have : k = (s, v) := Prod.ext e1 e2
      rw [← this]; exact hk
    · exact fun z => List.mem_map.mpr ⟨_, z, rfl⟩
  refine ⟨_, ⟨kvs, ck s v, b, g1, g2, rfl, ck_key h1 h2, ck_depth s v, by rw [hlen, sizeLine_eq]; omega, rfl⟩, ⟨_, upd_same, ksOk_kx (g2.put (ck_key h1 h2) (ck_depth s v)) (kx (fun b => b = d) rfl), ?_, fun k hk => ?_⟩, kx, _, rfl⟩
  · rw [keys_put]
    by_cases z : (s, v) ∈ ks
    · rw [if_pos z, if_pos (mem.mpr z), g3]
    · rw [if_neg z, if_neg (fun y => z (mem.mp y)), g3, List.map_append]; rfl
  · rw [valN_put]
    by_cases e : k = (s, v)
    · subst e
      rw [if_pos rfl, tset_same]
    · have ne : ¬ ckp k = ck s v := fun z => by
        obtain ⟨e1, e2⟩ := ck_inj z
        exact e (Prod.ext e1 e2)
      rw [if_neg ne, tset_ne (fun z => e (Prod.ext z.1 z.2))]
      refine g4 k ?_
      split at hk
      · exact hk
      · exact (List.mem_append.mp hk).resolve_right fun z => e (List.mem_singleton.mp z)
end
/-! ### steps -/
/-- what a step leads to: companies at places -/
def KidsAt (K : PySem.W.Frag) (H : Hp) (x : V) (kids : List CK) : Prop := ∃ (l : Addr) (bs : List Addr), x = .ref l ∧ H l = some (.lst (bs.map V.ref)) ∧ bs.length = kids.length ∧ ∀ (j : Nat) (b : Addr) (k : CK), bs[j]? = some b → kids[j]? = some k → ∃ c : Addr, SqT K H b [.ref c, .int k.2] ∧ SqT K H c (iV k.1)
theorem KidsAt.kx {K : PySem.W.Frag} {H H' : Hp} {F : Addr → Prop} {x : V} {kids : List CK} (h : KidsAt K H x kids) (k : KX F H H') (hF : ∀ l xs, H l = some (.lst xs) → ¬ F l) : KidsAt K H' x kids := by
  obtain ⟨l, bs, e, h1, h2, h3⟩ := h
  exact ⟨l, bs, e, k.oth _ _ h1 (hF _ _ h1) (fun _ z => by cases z), h2, fun j b q e1 e2 => by
    obtain ⟨c, g1, g2⟩ := h3 j b q e1 e2
    exact ⟨c, k.sqT g1, k.sqT g2⟩⟩
def sset (S : List Int → Int → Option (List CK)) (s : List Int) (v : Int) (x : List CK) : List Int → Int → Option (List CK) := fun s' v' => if s' = s ∧ v' = v then some x else S s' v'
/-- steps: of companies at places, all among these -/
def StAt (P : Program) (w : World) (K : PySem.W.Frag) (H : Hp) (d : Addr) (all : List CK) (S : List Int → Int → Option (List CK)) : Prop := ∃ kvs : List NE, H d = some (DN P w d kvs) ∧ KsOk K H kvs ∧ (kvs.map (·.1)).Nodup ∧ (∀ k ∈ kvs.map (·.1), k ∈ all.map ckp) ∧ ∀ s v, match S s v with
  | none => valN kvs (ck s v) = none
  | some kids => ∃ x, valN kvs (ck s v) = some x ∧ KidsAt K H x kids
section
variable {P : Program} {w : World} {K : PySem.W.Frag} {H : Hp} {d : Addr} {all : List CK} {S : List Int → Int → Option (List CK)} {s : List Int} {v : Int} {a b : Addr}
theorem StAt.kx {F : Addr → Prop} {H' : Hp} (h : StAt P w K H d all S) (k : KX F H H') (hd : ¬ F d) (hF : ∀ l xs, H l = some (.lst xs) → ¬ F l) : StAt P w K H' d all S := by
  obtain ⟨kvs, h1, h2, h3, h4, h5⟩ := h
  refine ⟨kvs, k.oth _ _ h1 hd (fun _ z => by cases z), ksOk_kx h2 k, h3, h4, fun s v => ?_⟩
  have := h5 s v
  cases e : S s v with
  | none => rw [e] at this; exact this
  | some kids =>
    rw [e] at this
    obtain ⟨x, g1, g2⟩ := this
    exact ⟨x, g1, g2.kx k hF⟩
theorem StAt.k0 {H' : Hp} (h : StAt P w K H d all S) (k : K0 H H') : StAt P w K H' d all S := h.kx (k.kx (F := fun _ => False)) id fun _ _ _ => id
theorem StAt.get (h : StAt P w K H d all S) {kids : List CK} (hs : S s v = some kids) (h1 : SqT K H b [.ref a, .int v]) (h2 : SqT K H a (iV s)) : ∃ x, DGetN P w K H d (.ref b) (some x) ∧ KidsAt K H x kids := by
  obtain ⟨kvs, g1, g2, _, _, g5⟩ := h
  have := g5 s v
  rw [hs] at this
  obtain ⟨x, e, hk⟩ := this
  exact ⟨x, ⟨kvs, ck s v, b, .inl g1, g2, rfl, ck_key h1 h2, ck_depth s v, e.symm⟩, hk⟩
theorem StAt.put (h : StAt P w K H d all S) (hl : all.length ≤ 5000) (hk : (s, v) ∈ all) (h1 : SqT K H b [.ref a, .int v]) (h2 : SqT K H a (iV s)) {x : V} {kids : List CK} (hx : KidsAt K H x kids) : ∃ H', DPutN P w K H d (.ref b) x H' ∧ StAt P w K H' d all (sset S s v kids) ∧ (∀ F : Addr → Prop, F d → KX F H H') ∧ ∃ o, H' = upd H d o := by
  obtain ⟨kvs, g1, g2, g3, g4, g5⟩ := h
  have kx : ∀ F : Addr → Prop, F d → KX F H (upd H d (DN P w d (putN kvs (ck s v) b x))) := fun F hF => KX.dn g1 hF
  have hlen : kvs.length ≤ all.length := by
    have := sub_lenG g3 g4
    rw [List.length_map, List.length_map] at this
    exact this
  have lF : ∀ l xs, H l = some (.lst xs) → ¬ (l = d) := fun l xs e z => by rw [z, g1] at e; cases e
  refine ⟨_, ⟨kvs, ck s v, b, g1, g2, rfl, ck_key h1 h2, ck_depth s v, by rw [sizeLine_eq]; omega, rfl⟩, ⟨_, upd_same, ksOk_kx (g2.put (ck_key h1 h2) (ck_depth s v)) (kx (fun b => b = d) rfl), ?_, fun k hk' => ?_, fun s' v' => ?_⟩, kx, _, rfl⟩
  · rw [keys_put]
    split
    · exact g3
    · rename_i hn
      exact List.nodup_append.mpr ⟨g3, List.pairwise_singleton .., fun x hx y hy z => hn (by rw [← List.mem_singleton.mp hy, ← z]; exact hx)⟩
  · rw [keys_put] at hk'
    split at hk'
    · exact g4 k hk'
    · rcases List.mem_append.mp hk' with z | z
      · exact g4 k z
      · rw [List.mem_singleton.mp z]; exact List.mem_map.mpr ⟨_, hk, rfl⟩
  · rw [valN_put]
    by_cases e : s' = s ∧ v' = v
    · obtain ⟨rfl, rfl⟩ := e
      rw [if_pos rfl]
      show match (if s' = s' ∧ v' = v' then some kids else S s' v') with | none => _ | some kids => _
      rw [if_pos ⟨rfl, rfl⟩]
      exact ⟨x, rfl, hx.kx (kx (fun b => b = d) rfl) lF⟩
    · have ne : ¬ ck s' v' = ck s v := fun z => e (ck_inj z)
      rw [if_neg ne]
      show match (if s' = s ∧ v' = v then some kids else S s' v') with | none => _ | some kids => _
      rw [if_neg e]
      have := g5 s' v'
      cases e2 : S s' v' with
      | none => rw [e2] at this; exact this
      | some kk =>
        rw [e2] at this
        obtain ⟨y, q1, q2⟩ := this
        exact ⟨y, q1, q2.kx (kx (fun b => b = d) rfl) lF⟩
end
end HK

set_option Elab.async false
set_option linter.all false
set_option maxRecDepth 100000
set_option maxHeartbeats 4000000
namespace HK
open PySem PySem.Spec PyProof.Rows L2 GAl GxR
open Evl (pss_cut)
/-- a number that somebody lacks -/
def Lck (kps wps : KpL) (v : Int) : Prop := ∃ p ms, (p, ms) ∈ wps ∧ v ∈ ms ∧ ∀ ns, (p, ns) ∈ kps → v ∉ ns
theorem rd_lock {H : Hp} {b c : Addr} {od : Obj} {u o : List (Key × V)} (hb : H b = some (.dK u)) (h : Rd H c (.dK o)) : Rd (upd H b (.frz od (.dK u))) c (.dK o) := by
  by_cases e : c = b
  · subst e
    rcases h with h | ⟨o', h⟩
    · rw [hb] at h
      cases h
      exact .inr ⟨od, upd_same⟩
    · rw [hb] at h
      cases h
  · rcases h with h | ⟨o', h⟩
    · exact .inl (by rw [upd_ne e]; exact h)
    · exact .inr ⟨o', by rw [upd_ne e]; exact h⟩
theorem upd_swapM {U : Hp} {b c : Addr} {x y : HO} (n : b ≠ c) : upd (upd U b x) c y = upd (upd U c y) b x := by
  funext d
  by_cases e : d = b
  · rw [e, upd_ne n, upd_same, upd_same]
  · by_cases e2 : d = c
    · rw [e2, upd_same, upd_ne (Ne.symm n), upd_same]
    · rw [upd_ne e2, upd_ne e, upd_ne e, upd_ne e2]
/-- the same, read while some of it stands locked -/
def LkR (H : Hp) (d : Addr) (kps : KpL) : Prop := ∃ kvs, Rd H d (.dK kvs) ∧ kvs.length = kps.length ∧ ∀ (i : Nat) (p : Int) (ms : List Int), kps[i]? = some (p, ms) → ∃ b : Addr, kvs[i]? = some (.inl p, .ref b) ∧ Rd H b (.dK (trueL ms))
theorem LkAt.rd {H : Hp} {d : Addr} {kps : KpL} (h : LkAt H d kps) : LkR H d kps := by
  obtain ⟨kvs, a, b, c⟩ := h
  exact ⟨kvs, .inl a, b, fun i p ms e => by
    obtain ⟨x, x1, x2⟩ := c i p ms e
    exact ⟨x, x1, .inl x2⟩⟩
theorem LkR.lock {H : Hp} {d b : Addr} {kps : KpL} {od : Obj} {u : List (Key × V)} (h : LkR H d kps) (hb : H b = some (.dK u)) : LkR (upd H b (.frz od (.dK u))) d kps := by
  obtain ⟨kvs, a, l, c⟩ := h
  exact ⟨kvs, rd_lock hb a, l, fun i p ms e => by
    obtain ⟨x, x1, x2⟩ := c i p ms e
    exact ⟨x, x1, rd_lock hb x2⟩⟩
theorem LkR.k0 {H H' : Hp} {d : Addr} {kps : KpL} (h : LkR H d kps) (k : K0 H H') : LkR H' d kps := by
  obtain ⟨kvs, a, l, c⟩ := h
  exact ⟨kvs, k.rd a, l, fun i p ms e => by
    obtain ⟨x, x1, x2⟩ := c i p ms e
    exact ⟨x, x1, k.rd x2⟩⟩
/-- a place's numbers are looked up -/
theorem LkR.get {H : Hp} {d : Addr} {kps : KpL} {n : Int} (h : LkR H d kps) (hO : KpOk n kps) {p : Int} (hp : p ∈ kps.map (·.1)) : ∃ (ms : List Int) (b : Addr), (p, ms) ∈ kps ∧ DGet H d (.int p) (some (.ref b)) ∧ Rd H b (.dK (trueL ms)) := by
  obtain ⟨kvs, a, l, c⟩ := h
  obtain ⟨⟨p', ms⟩, hm, rfl⟩ := List.mem_map.mp hp
  obtain ⟨i, hi, e⟩ := List.mem_iff_getElem.mp hm
  obtain ⟨b, e1, e2⟩ := c i p' ms (by rw [List.getElem?_eq_getElem hi, e])
  refine ⟨ms, b, hm, .inl ⟨kvs, .inl p', a, rfl, ?_⟩, e2⟩
  have nd : (kvs.map (·.1)).Nodup := by
    have e0 : kvs.map (·.1) = (kps.map (·.1)).map Sum.inl := by
      refine List.ext_getElem? fun i => ?_
      rw [List.getElem?_map, List.getElem?_map, List.getElem?_map]
      cases e : kps[i]? with
      | none =>
        have := List.getElem?_eq_none_iff.mp e
        rw [List.getElem?_eq_none_iff.mpr (show kvs.length ≤ i by rw [l]; exact this)]
        rfl
      | some p =>
        obtain ⟨b, e1, _⟩ := c i p.1 p.2 e
        rw [e1]; rfl
    rw [e0]
    exact List.pairwise_map.mpr (hO.nodup.imp fun a z => a (Sum.inl.inj z))
  exact (valV_mem (p := ((.inl p' : Key), V.ref b)) nd (List.mem_of_getElem? e1)).symm
theorem KpOk.same {n : Int} {kps : KpL} (h : KpOk n kps) {p : Int} {a b : List Int} (ha : (p, a) ∈ kps) (hb : (p, b) ∈ kps) : a = b := by
  have key : ∀ {l : KpL}, (l.map (·.1)).Nodup → (p, a) ∈ l → (p, b) ∈ l → a = b := by
    intro l
    induction l with
    | nil => intro _ h; cases h
    | cons x l ih =>
      intro nd h1 h2
      have nd := List.nodup_cons.mp nd
      rcases List.mem_cons.mp h1 with e1 | h1
      · rcases List.mem_cons.mp h2 with e2 | h2
        · rw [← e1] at e2
          cases e2; rfl
        · exact absurd (List.mem_map.mpr ⟨_, h2, by rw [← e1]⟩) nd.1
      · rcases List.mem_cons.mp h2 with e2 | h2
        · exact absurd (List.mem_map.mpr ⟨_, h1, by rw [← e2]⟩) nd.1
        · exact ih nd.2 h1 h2
  exact key h.nodup ha hb
theorem trueL_len (ms : List Int) : (trueL ms).length = ms.length := List.length_map _
theorem dget_true {H : Hp} {b : Addr} {ms : List Int} (h : Rd H b (.dK (trueL ms))) (v : Int) : DGet H b (.int v) (valV (trueL ms) (.inl v)) := .inl ⟨_, .inl v, h, rfl, rfl⟩
/-- the set at D holds just what X says -/
def SetI (w : World) (H : Hp) (D : Addr) (X : Int → Prop) : Prop := ∃ (S : Int → Bool) (n : Nat) (l : List Int), H D = some (SetO w D S n) ∧ (∀ v, S v = true ↔ X v) ∧ l.Nodup ∧ l.length = n ∧ ∀ v ∈ l, X v
theorem SetI.congr {w : World} {H : Hp} {D : Addr} {X Y : Int → Prop} (h : SetI w H D X) (e : ∀ v, X v ↔ Y v) : SetI w H D Y := by
  obtain ⟨S, n, l, a, b, c, d, f⟩ := h
  exact ⟨S, n, l, a, fun v => (b v).trans (e v), c, d, fun v hv => (e v).mp (f v hv)⟩
theorem add_mem {S : Int → Bool} {n : Nat} {l : List Int} {X : Int → Prop} (b : ∀ v, S v = true ↔ X v) (nd : l.Nodup) (hl : l.length = n) (f : ∀ v ∈ l, X v) (k : Int) : ∃ l' : List Int, l'.Nodup ∧ l'.length = (if S k = true then n else n + 1) ∧ ∀ v ∈ l', X v ∨ v = k := by
  by_cases hS : S k = true
  · rw [if_pos hS]
    exact ⟨l, nd, hl, fun v hv => .inl (f v hv)⟩
  · rw [if_neg hS]
    refine ⟨k :: l, List.nodup_cons.mpr ⟨fun hm => hS ((b k).mpr (f k hm)), nd⟩, by rw [List.length_cons, hl], fun v hv => ?_⟩
    rcases List.mem_cons.mp hv with e | hv
    · exact .inr e
    · exact .inl (f v hv)
theorem SetI.bound {w : World} {H : Hp} {D : Addr} {X : Int → Prop} {S : Int → Bool} {n : Nat} {l M : List Int} (nd : l.Nodup) (hl : l.length = n) (f : ∀ v ∈ l, X v) (hM : ∀ v, X v → v ∈ M) : n ≤ M.length := by
  rw [← hl]
  exact sub_lenG nd fun v hv => hM v (f v hv)
section
variable {P : Program} {w : World} {K : PySem.W.Frag} {mg : Str → Option Value} {base : Heap}
def spLacked (P : Program) (w : World) : Sp := fun vs H Q _ => ∃ (d e : Addr) (kps wps : KpL) (n : Int) (M : List Int), vs = [.ref d, .ref e] ∧ LkAt H d kps ∧ LkAt H e wps ∧ KpOk n kps ∧ KpOk n wps ∧ (∀ p ∈ wps, p.1 ∈ kps.map (·.1)) ∧ M.length < 64 ∧ (∀ p ∈ wps, ∀ v ∈ p.2, v ∈ M) ∧
  ∀ (q : Addr) (ns : List Int) (H' : Hp), K0 H H' → H' q = some (.lst (ns.map V.int)) → ns.Pairwise (· < ·) → (∀ v, v ∈ ns ↔ Lck kps wps v) → Q (.ref q) H'
theorem ok_lacked {f : Addr} {fd : FuncData} (F : Fun K "lacked_numbers" "lacked_numbers" sLacked f fd) (m_sorted : mg "sorted" = none) : FnOk P w K mg base CX0 1 f fd ["kept", "wants"] (spLacked P w) := by
  refine F.ok scLacked (fun vs H Q E h => ?_) (fun cdv A outer s H vs Q E hr h => ?_)
  · obtain ⟨d, e, kps, wps, n, M, rfl, _⟩ := h
    rfl
  · obtain ⟨d, e, kps, wps, n, M, rfl, hd, he, hO, hW, hsub, hM, hin, q⟩ := h
    have hu := hu_of hr
    refine ⟨_, (pss_one (ps_ret (pe_callB (cr_sortedSet rfl) (by rfl) m_sorted boot_sorted (pa_cons (pe_lock (HkC.pe_sc2 (own := [("place", 2), ("number", 3)]) (g := (gName 2)) (tt := tYes) (wi1 := (iKeys (tDGet (tVar 1) (tVar 2)))) (g1 := (gName 3)) (tt1 := (tB (tDNotIn (tVar 3) (tDGet (tVar 0) (tVar 2))))) (te := (tVar 3)) (vs1 := [3]) rfl scLacked.nd (pi_keys (pv 1)) (blkOk_by (N := N_scLacked) (sc := defScope sLacked) (by decide +kernel)) (by decide) (fun _ _ _ _ _ => (pg_name (i := 2) scLacked.nd rfl (.inl rfl))) (fun _ _ _ _ _ => pts_nil) (fun _ _ _ _ _ => (pi_keys (pe_dget hu (pv 1) (pv 2) (fun _ _ => rfl)))) (fun _ _ _ _ _ => (pg_name (i := 3) scLacked.nd rfl (.inl rfl))) (fun _ _ _ _ _ => (pts_one (pt_cmp (pc_dnotin hu (pv 3) (pe_dget hu (pv 0) (pv 2) (fun _ _ => rfl)))))) (fun _ _ _ _ _ => (pv 3)))) pa_nil)))), ?_⟩
    obtain ⟨kvw, hwd, hwl⟩ := id he
    have hLd := hd.rd
    refine ⟨e, _, hwd, trivial, fun oe => ⟨_, rfl, e, oe, rfl, .inl ⟨kvw, upd_same, fun D nD => ?_⟩⟩⟩
    have hLw : LkR (upd H e (.frz oe (.dK kvw))) e wps := he.rd.lock hwd
    have hLk : LkR (upd H e (.frz oe (.dK kvw))) d kps := hLd.lock hwd
    have hel : (upd H e (.frz oe (.dK kvw))) e = some (.frz oe (.dK kvw)) := upd_same
    generalize hHL : upd H e (.frz oe (.dK kvw)) = HL at nD hLw hLk hel ⊢
    have inM : ∀ i v, (∃ p ms, (p, ms) ∈ wps.take i ∧ v ∈ ms ∧ ∀ ns, (p, ns) ∈ kps → v ∉ ns) → v ∈ M := fun i v ⟨p, ms, h1, h2, _⟩ => hin _ (List.mem_of_mem_take h1) v h2
    refine HkC.walk_any walk_keys (fun i G => K0 HL G ∧ SetI w G D fun v => ∃ p ms, (p, ms) ∈ wps.take i ∧ v ∈ ms ∧ ∀ ns, (p, ns) ∈ kps → v ∉ ns)
      ⟨K0.new nD, _, 0, [], upd_same, fun v => ⟨fun z => absurd z Bool.false_ne_true, fun ⟨p, ms, h, _⟩ => by (rw [List.take_zero] at h; cases h)⟩, List.nodup_nil, rfl, fun v hv => by cases hv⟩ (fun i G _ h => h.1.oth e _ hel (fun _ z => by cases z)) (fun i x G G' hi h y => ?_) (fun G h => ?_)
    · obtain ⟨k, hS⟩ := h
      obtain ⟨rfl, kk, vv, hkv, rfl⟩ := y
      obtain ⟨p, ms, b, e1, rfl, rfl, hb0⟩ := hwl.at_ hkv
      have hmm := List.mem_of_getElem? e1
      have hp := hsub _ hmm
      have hbe : b ≠ e := fun z => by
        rw [z, hwd] at hb0
        have hm := List.mem_of_getElem? hkv
        rw [HO.dK.inj (Option.some.inj hb0)] at hm
        obtain ⟨u, _, eu⟩ := List.mem_map.mp hm
        cases eu
      have hbL : HL b = some (.dK (trueL ms)) := by rw [← hHL, upd_ne hbe]; exact hb0
      have hbG := k.oth b _ hbL (fun _ z => by cases z)
      have hwG := hLw.k0 k
      have hbD : b ≠ D := fun z => by rw [← z, hbL] at nD; cases nD
      have hkG := hLk.k0 k
      have heG := k.oth e _ hel (fun _ z => by cases z)
      have wval : some (V.ref b) = valV kvw (.inl p) := (valV_mem (p := ((.inl p : Key), V.ref b)) (hwl.nd hW.nodup) (List.mem_of_getElem? hkv)).symm
      refine ⟨rfl, tyes ⟨b, _, hbG, trivial, fun ob => ⟨_, rfl, _, rfl, e, _, rfl, .inl ⟨kvw, .inl p, .inr ⟨oe, by rw [upd_ne (Ne.symm hbe)]; exact heG⟩, rfl, wval⟩, b, ob, rfl, .inl ⟨trueL ms, upd_same, ?_⟩⟩⟩⟩
      refine HkC.walk_any walk_keys (fun j G2 => ∃ U, G2 = upd U b (.frz ob (.dK (trueL ms))) ∧ U b = some (.dK (trueL ms)) ∧ K0 HL U ∧ SetI w U D fun v => (∃ p ms, (p, ms) ∈ wps.take i ∧ v ∈ ms ∧ ∀ ns, (p, ns) ∈ kps → v ∉ ns) ∨ (v ∈ ms.take j ∧ ∀ ns, (p, ns) ∈ kps → v ∉ ns))
        ⟨_, rfl, hbG, k, hS.congr fun v => ⟨.inl, fun z => z.elim id fun ⟨z, _⟩ => by (rw [List.take_zero] at z; cases z)⟩⟩ (fun j G2 _ h => by obtain ⟨U, rfl, _⟩ := h; exact upd_same) (fun j x G2 G3 hj h y => ?_) (fun G2 h => ?_)
      · obtain ⟨U, rfl, hUb, kU, hSU⟩ := h
        obtain ⟨rfl, kk, vv, hkv2, rfl⟩ := y
        unfold trueL at hkv2
        rw [List.getElem?_map] at hkv2
        obtain ⟨m, hm, em⟩ := Option.map_eq_some_iff.mp hkv2
        cases em
        obtain ⟨ns, b2, hns, dg, hb2⟩ := (((hLk.k0 kU).lock (od := ob) hUb)).get hO hp
        refine ⟨rfl, ?_⟩
        refine ⟨_, rfl, _, rfl, _, rfl, d, _, rfl, dg, b2, _, rfl, dget_true hb2 m, _, rfl, ?_⟩
        rw [trueL_in]
        have htk : ms.take (j + 1) = ms.take j ++ [m] := by rw [List.take_add_one, hm]; rfl
        by_cases hmn : m ∈ ns
        · rw [decide_eq_true hmn]
          refine iteF ⟨U, rfl, hUb, kU, hSU.congr fun v => ?_⟩
          rw [htk]
          refine ⟨fun z => z.imp id fun ⟨z1, z2⟩ => ⟨List.mem_append_left _ z1, z2⟩, fun z => z.imp id fun ⟨z1, z2⟩ => ⟨?_, z2⟩⟩
          rcases List.mem_append.mp z1 with z1 | z1
          · exact z1
          · rw [List.mem_singleton.mp z1] at z2
            exact absurd hmn (z2 ns hns)
        · rw [decide_eq_false hmn]
          obtain ⟨S, cnt, l, hD, hSx, nd, hl, hf⟩ := hSU
          have hcnt : cnt ≤ M.length := SetI.bound (w := w) (H := U) (D := D) (S := S) nd hl hf fun v hv => by
            rcases hv with hv | ⟨hv, _⟩
            · exact inM _ v hv
            · exact hin _ hmm v (List.mem_of_mem_take hv)
          refine iteT ⟨_, rfl, m, S, cnt, rfl, by rw [upd_ne (Ne.symm hbD)]; exact hD, Nat.lt_of_le_of_lt (m := 65) (by omega) (by decide), upd U D (SetO w D (fun j => S j || decide (j = m)) (if S m = true then cnt else cnt + 1)), upd_swapM hbD, by rw [upd_ne hbD]; exact hUb, kU.mut nD, ?_⟩
          obtain ⟨l', nd', hl', hf'⟩ := add_mem hSx nd hl hf m
          refine SetI.congr ⟨_, _, l', upd_same, fun v => ?_, nd', hl', hf'⟩ fun v => ?_
          · rw [Bool.or_eq_true, hSx, decide_eq_true_iff]
          · rw [htk]
            constructor
            · rintro ((z | ⟨z1, z2⟩) | rfl)
              · exact .inl z
              · exact .inr ⟨List.mem_append_left _ z1, z2⟩
              · exact .inr ⟨List.mem_append_right _ (List.mem_singleton.mpr rfl), fun ns2 h2 => by rw [hO.same h2 hns]; exact hmn⟩
            · rintro (z | ⟨z1, z2⟩)
              · exact .inl (.inl z)
              · rcases List.mem_append.mp z1 with z1 | z1
                · exact .inl (.inr ⟨z1, z2⟩)
                · exact .inr (List.mem_singleton.mp z1)
      · obtain ⟨U, rfl, hUb, kU, hSU⟩ := h
        refine ⟨upd_same, ?_⟩
        rw [upd_upd, upd_back hUb]
        refine ⟨kU, hSU.congr fun v => ?_⟩
        rw [trueL_len, List.take_length, List.take_add_one, e1]
        constructor
        · rintro (⟨p1, ms1, z1, z2⟩ | ⟨z1, z2⟩)
          · exact ⟨p1, ms1, List.mem_append_left _ z1, z2⟩
          · exact ⟨p, ms, List.mem_append_right _ (List.mem_singleton.mpr rfl), z1, z2⟩
        · rintro ⟨p1, ms1, z1, z2, z3⟩
          rcases List.mem_append.mp z1 with z1 | z1
          · exact .inl ⟨p1, ms1, z1, z2, z3⟩
          · have := List.mem_singleton.mp z1
            cases this
            exact .inr ⟨z2, z3⟩
    · obtain ⟨k, S, n, l, hD, hS, nd, hl, hf⟩ := h
      have hn : n ≤ M.length := SetI.bound (w := w) (H := G) (D := D) (S := S) nd hl hf fun v hv => inM _ v hv
      have heG := k.oth e _ hel (fun _ z => by cases z)
      subst hHL
      have nde : D ≠ e := fun z => by rw [z, heG] at hD; cases hD
      refine ⟨heG, D, S, n, rfl, by rw [upd_ne nde]; exact hD, by omega, fun ns p2 up hmem hln np2 => ?_⟩
      have k9 := K0.lock hwd (fun _ z => by cases z) k
      refine q p2 ns _ (k9.trans (K0.new np2)) upd_same up fun v => ?_
      rw [hmem, hS, hwl.1, List.take_length]
      exact Iff.rfl
end
end HK

set_option Elab.async false
set_option linter.all false
set_option maxRecDepth 100000
set_option maxHeartbeats 2000000
namespace HK
open PySem PySem.Spec PyProof.Rows L2 GAl GxR
theorem call_lenR {X : Cx} : CallR X (.builtin "len") (fun xs H Q => ∃ a kvs, xs = [V.ref a] ∧ Rd H a (.dK kvs) ∧ Q (.int kvs.length) H) := by
  intro pins s σ H xs us Q I r ⟨a, kvs, e, ha, q⟩
  subst e
  obtain ⟨u, rfl, ru⟩ := vals1 r
  cases ru
  exact d_len I ha fun t s' I' => ⟨.int kvs.length, H, I', ⟨t, rfl⟩, q⟩
end HK

set_option Elab.async false
set_option linter.all false
set_option maxRecDepth 100000
set_option maxHeartbeats 4000000
namespace HK
open PySem PySem.Spec PyProof.Rows L2 GAl GxR
open Evl (pss_cut)
abbrev sNeedFall : Stmt := topS 43
abbrev N_scNeedFall : List Str := ["net", "kept", "wants", "place"]
theorem scNeedFall : FnScope N_scNeedFall ["net", "kept", "wants"] (defScope sNeedFall) := ⟨rfl, rfl, rfl, by decide +kernel, rfl, by decide +kernel, by decide +kernel⟩
abbrev sKeepersL : Stmt := sKeepers
theorem scKeepersL : FnScope N_scKeepers ["kept", "number"] (defScope sKeepers) := scKeepers
/-- those that want a number and don't keep it -/
def lackL (kps wps : KpL) (m : Int) : List Int := (wps.filter fun p => decide (m ∈ p.2) && decide (∀ q ∈ kps, q.1 = p.1 → m ∉ q.2)).map (·.1)
theorem lack_mem {kps wps : KpL} {m v : Int} : v ∈ lackL kps wps m ↔ ∃ ms, (v, ms) ∈ wps ∧ m ∈ ms ∧ ∀ ns, (v, ns) ∈ kps → m ∉ ns := by
  unfold lackL
  rw [List.mem_map]
  constructor
  · rintro ⟨⟨p, ms⟩, hp, rfl⟩
    obtain ⟨h1, h2⟩ := List.mem_filter.mp hp
    rw [Bool.and_eq_true, decide_eq_true_iff, decide_eq_true_iff] at h2
    exact ⟨ms, h1, h2.1, fun ns hn => h2.2 _ hn rfl⟩
  · rintro ⟨ms, h1, h2, h3⟩
    refine ⟨(v, ms), List.mem_filter.mpr ⟨h1, ?_⟩, rfl⟩
    rw [Bool.and_eq_true, decide_eq_true_iff, decide_eq_true_iff]
    exact ⟨h2, fun q hq e => h3 q.2 (by have e : q.1 = v := e; rw [← e]; exact hq)⟩
theorem keep_mem {kps : KpL} {m v : Int} : v ∈ keepK kps m ↔ ∃ ms, (v, ms) ∈ kps ∧ m ∈ ms := by
  unfold keepK
  rw [List.mem_map]
  constructor
  · rintro ⟨⟨p, ms⟩, hp, rfl⟩
    obtain ⟨h1, h2⟩ := List.mem_filter.mp hp
    exact ⟨ms, h1, of_decide_eq_true h2⟩
  · rintro ⟨ms, h1, h2⟩
    exact ⟨(v, ms), List.mem_filter.mpr ⟨h1, decide_eq_true h2⟩, rfl⟩
theorem lack_succ {kps wps : KpL} {m : Int} {i : Nat} {p : Int} {ms ns : List Int} {n : Int} (hO : KpOk n kps) (e : wps[i]? = some (p, ms)) (hn : (p, ns) ∈ kps) : lackL kps (wps.take (i + 1)) m = lackL kps (wps.take i) m ++ (if m ∈ ms ∧ m ∉ ns then [p] else []) := by
  have hq : (∀ q ∈ kps, q.1 = p → m ∉ q.2) ↔ m ∉ ns := ⟨fun z => z _ hn rfl, fun z q hq e => by
    have : (p, q.2) ∈ kps := by rw [← e]; exact hq
    rw [hO.same this hn]
    exact z⟩
  unfold lackL
  rw [List.take_add_one, e, List.filter_append, List.map_append]
  congr 1
  show (List.filter _ [(p, ms)]).map _ = _
  by_cases h : m ∈ ms ∧ m ∉ ns
  · rw [if_pos h, List.filter_cons_of_pos (by rw [Bool.and_eq_true, decide_eq_true_iff, decide_eq_true_iff]; exact ⟨h.1, hq.mpr h.2⟩)]
    rfl
  · rw [if_neg h, List.filter_cons_of_neg (by rw [Bool.and_eq_true, decide_eq_true_iff, decide_eq_true_iff]; exact fun z => h ⟨z.1, hq.mp z.2⟩)]
    rfl
theorem lack_len (kps wps : KpL) (m : Int) : (lackL kps wps m).length ≤ wps.length := by
  unfold lackL
  rw [List.length_map]
  exact List.length_filter_le ..
theorem lack_areP {n : Int} {kps wps : KpL} (h : KpOk n wps) (m : Int) : AreP n (lackL kps wps m) := by
  refine ⟨fun v hv => ?_, List.Pairwise.sublist (List.filter_sublist.map _) h.up⟩
  obtain ⟨ms, h1, _⟩ := lack_mem.mp hv
  exact h.inn _ h1
theorem keep_areP {n : Int} {kps : KpL} (h : KpOk n kps) (m : Int) : AreP n (keepK kps m) := by
  refine ⟨fun v hv => ?_, List.Pairwise.sublist (List.filter_sublist.map _) h.up⟩
  obtain ⟨ms, h1, _⟩ := keep_mem.mp hv
  exact h.inn _ h1
section
variable {P : Program} {w : World} {K : PySem.W.Frag} {mg : Str → Option Value} {base : Heap}
def spKeepersL (K : PySem.W.Frag) (Pk : Addr) : Sp := fun vs H Q _ => ∃ (d : Addr) (kps : KpL) (n m : Int), vs = [.ref d, .int m] ∧ LkAt H d kps ∧ KpOk n kps ∧ n ≤ 12 ∧ TabG H Pk ∧ ∀ (q : Addr) (H' : Hp), K0 H H' → SqT K H' q ((keepK kps m).map V.int) → Q (.ref q) H'
theorem ok_keepersL {f c Pk : Addr} {fd : FuncData} (F : FunC K "keepers_of" "keepers_of" sKeepers f fd c) (TB : TabB base mg c Pk)
    (m_tuple : mg "tuple" = none) (m_sorted : mg "sorted" = none) : FnOk P w K mg base CX0 2 f fd ["kept", "number"] (spKeepersL K Pk) := by
  refine F.ok scKeepers (fun vs H Q E h => ?_) (fun A outer s H vs Q E hr h => ?_)
  · obtain ⟨d, kps, n, m, rfl, _⟩ := h
    rfl
  · obtain ⟨d, kps, n, m, rfl, hL, hO, hn, tk, q⟩ := h
    have hu := hu_of hr
    refine ⟨_, (pss_one (ps_ret (pe_tupG (own := [("place", 2)]) (k := 0) (g := (gName 2)) (tt := (tB (tDIn (tVar 1) (tDGet (tVar 0) (tVar 2))))) (te := (tVar 2)) (hr.mono (by decide)) (by rfl) m_tuple rfl scKeepersL.nd TB rfl (gsc_by (N := N_scKeepersL) (sc := defScope sKeepersL) (by decide +kernel)) (pi_list (pe_callB (call_sortedDI rfl) (by rfl) m_sorted boot_sorted (pa_cons (pv 0) pa_nil))) (fun A' hr' _ _ _ _ _ _ => (pg_name (i := 2) scKeepersL.nd rfl (.inl rfl))) (fun A' hr' _ _ _ _ _ _ => (pts_one (pt_cmp (pc_din (hu_of hr') (pv 1) (pe_dget (hu_of hr') (pv 0) (pv 2) (fun _ _ => rfl)))))) (fun A' hr' _ _ _ _ _ _ => (pv 2))))), ?_⟩
    obtain ⟨kvs, hd, hk⟩ := id hL
    have hkl := hO.len hn
    refine ⟨_, rfl, d, kvs, kps.map (·.1), rfl, .inl hd, hk.keysI, by rw [List.length_map]; omega, fun ys sp perm up nsp => ?_⟩
    obtain rfl := sorted_keys hO perm up
    have ks := K0.new nsp (o := .lst ((kps.map (·.1)).map V.int))
    have hS : upd H sp (.lst ((kps.map (·.1)).map V.int)) sp = some (.lst ((kps.map (·.1)).map V.int)) := upd_same
    generalize upd H sp (.lst ((kps.map (·.1)).map V.int)) = H1 at ks hS ⊢
    refine ⟨sp, rfl, ⟨_, .inl (.inl hS)⟩, ks.tab _ tk, fun H2 hT2 => ?_⟩
    have k2 : K0 H H2 := ks.trans (K0.tbd (ks.tab _ tk) hT2)
    have hS2 : H2 sp = some (.lst ((kps.map (·.1)).map V.int)) := (K0.tbd (ks.tab _ tk) hT2).oth sp _ hS (fun _ z => by cases z)
    refine ⟨fun i r γ H5 => i + r = kps.length ∧ K0 H2 H5 ∧ γ = (keepK (kps.take i) m).map V.int, ⟨kps.length, by omega, K0.refl _, rfl⟩, fun i r γ H5 hW => ?_⟩
    obtain ⟨em, k5, eγ⟩ := hW
    have hS5 : SqL K H5 sp ((kps.map (·.1)).map V.int) := .inl (.inl (k5.oth sp _ hS2 (fun _ z => by cases z)))
    by_cases hi : i < kps.length
    · have e0 : kps[i]? = some (kps[i].1, kps[i].2) := List.getElem?_eq_getElem hi
      refine .inr ⟨⟨_, _, hS5, by rw [List.getElem?_map, List.getElem?_map, e0]; rfl⟩, fun γ' H' => K0 H2 H' ∧ γ' = (keepK (kps.take (i + 1)) m).map V.int, fun γ' H' hN => ⟨r - 1, by omega, by omega, hN⟩, fun z H' hy => ?_⟩
      obtain ⟨rfl, fx⟩ := hy
      have ez := fx _ hS5
      rw [List.getElem?_map, List.getElem?_map, e0] at ez
      cases ez
      have k6 := k2.trans k5
      obtain ⟨ms, b, hm, dg, hb⟩ := (hL.k0 k6).rd.get hO (p := kps[i].1) (List.mem_map.mpr ⟨_, List.getElem_mem hi, rfl⟩)
      have ems : ms = kps[i].2 := hO.same hm (List.getElem_mem hi)
      subst ems
      refine ⟨rfl, _, rfl, _, rfl, _, rfl, d, _, rfl, dg, b, _, rfl, dget_true hb m, _, rfl, ?_⟩
      rw [trueL_in, keep_succ e0, eγ]
      by_cases hmm : m ∈ kps[i].2
      · rw [decide_eq_true hmm, if_pos hmm]
        refine iteT ⟨_, rfl, ?_, k5, ?_⟩
        · rw [List.length_map]
          have h1 := keep_len (kps.take i) m
          have h2 := List.length_take_le' i kps
          omega
        · rw [List.map_append]; rfl
      · rw [decide_eq_false hmm, if_neg hmm, List.append_nil]
        exact iteF ⟨k5, rfl⟩
    · rw [List.take_of_length_le (by omega)] at eγ
      refine .inl ⟨⟨_, hS5, by rw [List.length_map, List.length_map]; omega⟩, ?_, fun q1 nq => ?_⟩
      · rw [eγ, List.length_map]
        have h1 := keep_len kps m
        omega
      · refine q q1 _ ((k2.trans k5).trans (K0.new nq)) (.inl (.inl ?_))
        rw [upd_same, eγ]
def spLackers (K : PySem.W.Frag) (Pl : Addr) : Sp := fun vs H Q _ => ∃ (d e : Addr) (kps wps : KpL) (n m : Int), vs = [.ref d, .ref e, .int m] ∧ LkAt H d kps ∧ LkAt H e wps ∧ KpOk n kps ∧ KpOk n wps ∧ (∀ p ∈ wps, p.1 ∈ kps.map (·.1)) ∧ n ≤ 12 ∧ TabG H Pl ∧ ∀ (q : Addr) (H' : Hp), K0 H H' → SqT K H' q ((lackL kps wps m).map V.int) → Q (.ref q) H'
theorem ok_lackers {f c Pl : Addr} {fd : FuncData} (F : FunC K "lackers_of" "lackers_of" sLackers f fd c) (TB : TabB base mg c Pl)
    (m_tuple : mg "tuple" = none) (m_sorted : mg "sorted" = none) : FnOk P w K mg base CX0 2 f fd ["kept", "wants", "number"] (spLackers K Pl) := by
  refine F.ok scLackers (fun vs H Q E h => ?_) (fun A outer s H vs Q E hr h => ?_)
  · obtain ⟨d, e, kps, wps, n, m, rfl, _⟩ := h
    rfl
  · obtain ⟨d, e, kps, wps, n, m, rfl, hL, hLw, hO, hW, hsub, hn, tk, q⟩ := h
    have hu := hu_of hr
    refine ⟨_, (pss_one (ps_ret (pe_tupG (own := [("place", 3)]) (k := 0) (g := (gName 3)) (tt := (tAnd (tB (tDIn (tVar 2) (tDGet (tVar 1) (tVar 3)))) (tB (tDNotIn (tVar 2) (tDGet (tVar 0) (tVar 3)))))) (te := (tVar 3)) (hr.mono (by decide)) (by rfl) m_tuple rfl scLackers.nd TB rfl (gsc_by (N := N_scLackers) (sc := defScope sLackers) (by decide +kernel)) (pi_list (pe_callB (call_sortedDI rfl) (by rfl) m_sorted boot_sorted (pa_cons (pv 1) pa_nil))) (fun A' hr' _ _ _ _ _ _ => (pg_name (i := 3) scLackers.nd rfl (.inl rfl))) (fun A' hr' _ _ _ _ _ _ => (pts_one (PW.pt (pw_and (pt_cmp (pc_din (hu_of hr') (pv 2) (pe_dget (hu_of hr') (pv 1) (pv 3) (fun _ _ => rfl)))) (pw_and1 (pt_cmp (pc_dnotin (hu_of hr') (pv 2) (pe_dget (hu_of hr') (pv 0) (pv 3) (fun _ _ => rfl))))))))) (fun A' hr' _ _ _ _ _ _ => (pv 3))))), ?_⟩
    obtain ⟨kvs, hd, hk⟩ := id hLw
    have hkl := hW.len hn
    refine ⟨_, rfl, e, kvs, wps.map (·.1), rfl, .inl hd, hk.keysI, by rw [List.length_map]; omega, fun ys sp perm up nsp => ?_⟩
    obtain rfl := sorted_keys hW perm up
    have ks := K0.new nsp (o := .lst ((wps.map (·.1)).map V.int))
    have hS : upd H sp (.lst ((wps.map (·.1)).map V.int)) sp = some (.lst ((wps.map (·.1)).map V.int)) := upd_same
    generalize upd H sp (.lst ((wps.map (·.1)).map V.int)) = H1 at ks hS ⊢
    refine ⟨sp, rfl, ⟨_, .inl (.inl hS)⟩, ks.tab _ tk, fun H2 hT2 => ?_⟩
    have k2 : K0 H H2 := ks.trans (K0.tbd (ks.tab _ tk) hT2)
    have hS2 : H2 sp = some (.lst ((wps.map (·.1)).map V.int)) := (K0.tbd (ks.tab _ tk) hT2).oth sp _ hS (fun _ z => by cases z)
    refine ⟨fun i r γ H5 => i + r = wps.length ∧ K0 H2 H5 ∧ γ = (lackL kps (wps.take i) m).map V.int, ⟨wps.length, by omega, K0.refl _, rfl⟩, fun i r γ H5 hW5 => ?_⟩
    obtain ⟨em, k5, eγ⟩ := hW5
    have hS5 : SqL K H5 sp ((wps.map (·.1)).map V.int) := .inl (.inl (k5.oth sp _ hS2 (fun _ z => by cases z)))
    by_cases hi : i < wps.length
    · have e0 : wps[i]? = some (wps[i].1, wps[i].2) := List.getElem?_eq_getElem hi
      refine .inr ⟨⟨_, _, hS5, by rw [List.getElem?_map, List.getElem?_map, e0]; rfl⟩, fun γ' H' => K0 H2 H' ∧ γ' = (lackL kps (wps.take (i + 1)) m).map V.int, fun γ' H' hN => ⟨r - 1, by omega, by omega, hN⟩, fun z H' hy => ?_⟩
      obtain ⟨rfl, fx⟩ := hy
      have ez := fx _ hS5
      rw [List.getElem?_map, List.getElem?_map, e0] at ez
      cases ez
      have k6 := k2.trans k5
      obtain ⟨ms, b, hm, dg, hb⟩ := (hLw.k0 k6).rd.get hW (p := wps[i].1) (List.mem_map.mpr ⟨_, List.getElem_mem hi, rfl⟩)
      have ems : ms = wps[i].2 := hW.same hm (List.getElem_mem hi)
      subst ems
      obtain ⟨ns, b2, hm2, dg2, hb2⟩ := (hL.k0 k6).rd.get hO (p := wps[i].1) (hsub _ (List.getElem_mem hi))
      refine ⟨rfl, ?_⟩
      rw [lack_succ hO e0 hm2, eγ]
      have len1 : (lackL kps (wps.take i) m).length ≤ 12 := by
        have h1 := lack_len kps (wps.take i) m
        have h2 := List.length_take_le' i wps
        omega
      refine ⟨_, rfl, _, rfl, _, rfl, e, _, rfl, dg, b, _, rfl, dget_true hb m, _, rfl, ?_⟩
      rw [trueL_in]
      by_cases hmm : m ∈ wps[i].2
      · rw [decide_eq_true hmm]
        refine iteT ⟨_, rfl, _, rfl, _, rfl, d, _, rfl, dg2, b2, _, rfl, dget_true hb2 m, _, rfl, ?_⟩
        rw [trueL_in]
        by_cases hmn : m ∈ ns
        · rw [decide_eq_true hmn, if_neg (fun z => z.2 hmn), List.append_nil]
          exact iteF ⟨k5, rfl⟩
        · rw [decide_eq_false hmn, if_pos ⟨hmm, hmn⟩]
          refine iteT ⟨_, rfl, ?_, k5, ?_⟩
          · rw [List.length_map]; omega
          · rw [List.map_append]; rfl
      · rw [decide_eq_false hmm, if_neg (fun z => hmm z.1), List.append_nil]
        exact iteF (iteF ⟨k5, rfl⟩)
    · rw [List.take_of_length_le (by omega)] at eγ
      refine .inl ⟨⟨_, hS5, by rw [List.length_map, List.length_map]; omega⟩, ?_, fun q1 nq => ?_⟩
      · rw [eγ, List.length_map]
        have h1 := lack_len kps wps m
        omega
      · refine q q1 _ ((k2.trans k5).trans (K0.new nq)) (.inl (.inl ?_))
        rw [upd_same, eγ]
def spNeedFall (K : PySem.W.Frag) (Pn Pr Pu Ph Ps Pf : Addr) : Sp := fun vs H Q _ => ∃ (a d e : Addr) (n : Int) (rs : List R4) (kvs kvw : List (Key × V)) (kps wps : KpL), vs = [.ref a, .ref d, .ref e] ∧ NetAt K H a n rs ∧ Good n rs ∧ rs.length ≤ 156 ∧ n < 12 ∧ H d = some (.dK kvs) ∧ KVs K H kvs kps ∧ KpOk n kps ∧ H e = some (.dK kvw) ∧ KVs K H kvw wps ∧ KpOk n wps ∧ (∀ p ∈ wps, p.1 ∈ kps.map (·.1)) ∧ wps.length ≤ 6 ∧ TbL H [Pn, Pr, Pu, Ph, Ps, Pf] ∧ ∀ H', K0 H H' → Q .non H'
theorem ok_needfall {f c Pn Pr Pu Ph Ps Pf : Addr} {fd : FuncData} {t6 : Tok} {f_needstanding f_hasnumbers f_needroom : Addr} {fd_needstanding fd_hasnumbers fd_needroom : FuncData} (F : FunC K "need_fall" "need_fall" sNeedFall f fd c) (TB : TabB base mg c Pf) (k_needstanding : PySem.W.keepIn K (.ref f_needstanding) = true) (b_needstanding : Binds K fd_needstanding ["net", "kept"] []) (g_needstanding : mg "need_standing" = some (.ref f_needstanding)) (G_needstanding : FnOk P w K mg base CX0 7 f_needstanding fd_needstanding ["net", "kept"] (spNeedS K Pn Pr Pu Ph Ps))
    (k_hasnumbers : PySem.W.keepIn K (.ref f_hasnumbers) = true) (b_hasnumbers : Binds K fd_hasnumbers ["thing"] []) (g_hasnumbers : mg "has_numbers" = some (.ref f_hasnumbers)) (G_hasnumbers : FnOk P w K mg base CX0 5 f_hasnumbers fd_hasnumbers ["thing"] (spHasN K Pr Pu Ph))
    (k_needroom : PySem.W.keepIn K (.ref f_needroom) = true) (b_needroom : Binds K fd_needroom ["net"] []) (g_needroom : mg "need_room" = some (.ref f_needroom)) (G_needroom : FnOk P w K mg base CX0 1 f_needroom fd_needroom ["net"] (spNeedRoom K))
    (m_all : mg "all" = none) (m_len : mg "len" = none) (c_MOST_HEARERS : mg "MOST_HEARERS" = some (.int 6 t6)) : FnOk P w K mg base CX0 8 f fd ["net", "kept", "wants"] (spNeedFall K Pn Pr Pu Ph Ps Pf) := by
  refine F.ok scNeedFall (fun vs H Q E h => ?_) (fun A outer s H vs Q E hr h => ?_)
  · obtain ⟨a, d, e, n, rs, kvs, kvw, kps, wps, rfl, _⟩ := h
    rfl
  · obtain ⟨a, d, e, n, rs, kvs, kvw, kps, wps, rfl, hN, G, hl, hn, hd, hK, hO, he, hKw, hW, hsub, hw6, tb, q⟩ := h
    have hu := hu_of hr
    refine ⟨_, (pss_cons (ps_expr (pe_call G_needstanding (hr.mono (by decide)) (by rfl) g_needstanding k_needstanding b_needstanding .nil pass0 (pa_cons (pv 0) (pa_cons (pv 1) pa_nil))))
      (pss_cons (ps_if (PW.pt (pw_or (pt_not (pt_val (pe_call G_hasnumbers (hr.mono (by decide)) (by rfl) g_hasnumbers k_hasnumbers b_hasnumbers .nil pass0 (pa_cons (pv 2) pa_nil)))) (pw_or1 (pt_not (pt_val (pe_lock (pe_allG (own := [("place", 3)]) (k := 3) (g := (gName 3)) (tt := tYes) (te := (tDIn (tVar 3) (tVar 1))) (hr.mono (by decide)) (by rfl) m_all rfl scNeedFall.nd TB rfl (gsc_by (N := N_scNeedFall) (sc := defScope sNeedFall) (by decide +kernel)) (pi_keys (pv 2)) (fun A' hr' _ _ _ _ _ _ => (pg_name (i := 3) scNeedFall.nd rfl (.inl rfl))) (fun A' hr' _ _ _ _ _ _ => pts_nil) (fun A' hr' _ _ _ _ _ _ => (pe_cmp (pc_din (hu_of hr') (pv 3) (pv 1))))))))))) pss_never pss_nil)
      (pss_cons (ps_if (pt_cmpR op_gt (pe_callB call_lenR (by rfl) m_len PySem.boot_len (pa_cons (pv 2) pa_nil)) (pe_glob (v := .int 6) (by rfl) c_MOST_HEARERS ⟨_, rfl⟩) (nomark _)) pss_never pss_nil)
      (pss_one (ps_expr (pe_call G_needroom (hr.mono (by decide)) (by rfl) g_needroom k_needroom b_needroom .nil pass0 (pa_cons (pv 0) pa_nil))))))), ?_⟩
    have t (p : Addr) (hp : p ∈ [Pn, Pr, Pu, Ph, Ps, Pf]) := tb p hp
    refine ⟨_, rfl, _, rfl, a, d, n, rs, kvs, kps, rfl, hN, G, hl, hd, hK, hO, t Pn (by simp), t Pr (by simp), t Pu (by simp), t Ph (by simp), t Ps (by simp), fun H1 k1 => ?_⟩
    have he1 := k1.oth e _ he (fun _ z => by cases z)
    refine ⟨_, rfl, e, kvw, wps, n, rfl, he1, hKw.k0 k1, hW, k1.tab _ (t Pr (by simp)), k1.tab _ (t Pu (by simp)), k1.tab _ (t Ph (by simp)), fun H2 k2 => ⟨_, rfl, iteF ?_⟩⟩
    have k12 := k1.trans k2
    have he2 := k12.oth e _ he (fun _ z => by cases z)
    have tf := k12.tab _ (t Pf (by simp))
    refine ⟨e, _, he2, trivial, fun od => ⟨_, rfl, e, od, rfl, .inl ⟨kvw, upd_same, tabG_lock he2 (fun _ z => by cases z) tf, fun H3 hT3 => ?_⟩⟩⟩
    have k3 : K0 (upd H2 e (.frz od (.dK kvw))) H3 := K0.tbd (tabG_lock he2 (fun _ z => by cases z) tf) hT3
    refine ⟨fun i m H4 => i + m = kvw.length ∧ K0 (upd H2 e (.frz od (.dK kvw))) H4, ⟨kvw.length, by omega, k3⟩, fun i m H4 hW4 => ?_⟩
    obtain ⟨em, k4⟩ := hW4
    have he4 : H4 e = some (.frz od (.dK kvw)) := k4.oth e _ upd_same (fun _ z => by cases z)
    by_cases hi : i < kvw.length
    · refine .inr ⟨⟨he4, hi⟩, fun H' => K0 (upd H2 e (.frz od (.dK kvw))) H', fun H' hN => ⟨m - 1, by omega, by omega, hN⟩, fun x H' hy => ?_⟩
      obtain ⟨rfl, k, v, hkv, rfl⟩ := hy
      obtain ⟨j, ms, qq, e1, e2, hq⟩ := (hKw.k0 k12).at_ hkv
      cases e2
      have hjm := hsub _ (List.mem_of_getElem? e1)
      have hd2 := k12.oth d _ hd (fun _ z => by cases z)
      have rd4 : Rd H' d (.dK kvs) := k4.rd (rd_lock he2 (.inl hd2))
      refine ⟨rfl, tyes ⟨_, rfl, _, rfl, d, _, rfl, .inl ⟨kvs, .inl j, rd4, rfl, rfl⟩, _, rfl, ?_⟩⟩
      rw [hK.isS hO.nodup, decide_eq_true hjm]
      exact iteT k4
    · have k9 := k12.trans (K0.lock he2 (fun _ z => by cases z) k4)
      refine .inl ⟨⟨he4, by omega⟩, he4, _, rfl, iteF ?_⟩
      have he9 := k9.oth e _ he (fun _ z => by cases z)
      refine ⟨_, rfl, e, _, rfl, .inl he9, _, _, rfl, rfl, _, rfl, ?_⟩
      rw [decide_eq_false (show ¬ (6 : Int) < (kvw.length : Nat) from by rw [hKw.1]; omega)]
      exact iteF ⟨_, rfl, a, n, rs, rfl, hN.k0 k9, hn, q _ k9⟩
end
end HK

set_option Elab.async false
set_option linter.all false
set_option maxRecDepth 100000
set_option maxHeartbeats 4000000
namespace HK
open PySem PySem.Spec PyProof.Rows L2 GAl GxR
open Evl (pss_cut)
abbrev sACell : Stmt := topS 52
abbrev N_scACell : List Str := ["script", "k"]
theorem scACell : FnScope N_scACell ["script", "k"] (defScope sACell) := ⟨rfl, rfl, rfl, by decide +kernel, rfl, by decide +kernel, by decide +kernel⟩
abbrev sATape : Stmt := topS 53
abbrev N_scATape : List Str := ["script", "k", "cell", "p", "number", "last", "turn"]
theorem scATape : FnScope N_scATape ["script", "k"] (defScope sATape) := ⟨rfl, rfl, rfl, by decide +kernel, rfl, by decide +kernel, by decide +kernel⟩
abbrev sADigit : Stmt := topS 54
abbrev N_scADigit : List Str := ["tape", "many", "found"]
theorem scADigit : FnScope N_scADigit ["tape", "many"] (defScope sADigit) := ⟨rfl, rfl, rfl, by decide +kernel, rfl, by decide +kernel, by decide +kernel⟩
/-- the tape of one number, of any size and sign -/
def TpA (H : Hp) (t : Addr) : Prop := ∃ v : Int, H t = some (.lst [.int v])
theorem TpA.k0 {H H' : Hp} {t : Addr} (h : TpA H t) (k : K0 H H') : TpA H' t := by
  obtain ⟨v, e⟩ := h
  exact ⟨v, k.oth t _ e (fun _ z => by cases z)⟩
theorem TpA.ne {H : Hp} {t b : Addr} (h : TpA H t) (n : H b = none) : b ≠ t := fun z => by
  obtain ⟨_, e⟩ := h
  rw [z, e] at n; cases n
theorem TpA.mut {H : Hp} {t b : Addr} {o : HO} (h : TpA H t) (n : b ≠ t) : TpA (upd H b o) t := by
  obtain ⟨v, e⟩ := h
  exact ⟨v, by rw [upd_ne n.symm]; exact e⟩
section
variable {P : Program} {w : World} {K : PySem.W.Frag} {mg : Str → Option Value} {base : Heap}
def spACell (K : PySem.W.Frag) : Sp := fun vs H Q _ => ∃ (a : Addr) (ns : List Int) (k : Int), vs = [.ref a, .int k] ∧ SqL K H a (ns.map V.int) ∧ 0 ≤ k ∧ ∀ c : Int, Q (.int c) H
theorem ok_acell {f : Addr} {fd : FuncData} (F : Fun K "_law_acell" "_law_acell" sACell f fd) (m_len : mg "len" = none) : FnOk P w K mg base CX0 1 f fd ["script", "k"] (spACell K) := by
  refine F.ok scACell (fun vs H Q E h => ?_) (fun cdv A outer s H vs Q E hr h => ?_)
  · obtain ⟨a, ns, k, rfl, _⟩ := h
    rfl
  · obtain ⟨a, ns, k, rfl, hS, hk, q⟩ := h
    have hu := hu_of hr
    refine ⟨_, (pss_cons (ps_if (pt_cmpR op_lt (pv 1) (pe_callB call_len_seq (by rfl) m_len PySem.boot_len (pa_cons (pv 0) pa_nil)) (nomark _)) (pss_one (ps_ret (pe_ix ix_list (pv 0) (pv 1) (fun _ _ => rfl)))) pss_nil)
      (pss_one (ps_ret pe_int))), ?_⟩
    refine ⟨_, rfl, _, rfl, a, _, rfl, .inl hS, _, _, rfl, rfl, _, rfl, ite2 (fun e => ?_) (fun e => q 0)⟩
    have hlt : k < ((ns.map V.int).length : Int) := of_decide_eq_true e
    rw [List.length_map] at hlt
    obtain ⟨j, rfl⟩ := Int.eq_ofNat_of_zero_le hk
    have hj : j < ns.length := by omega
    exact ⟨_, rfl, _, rfl, a, _, _, .int ns[j], rfl, rfl, hS, atI_nat (by rw [List.getElem?_map, List.getElem?_eq_getElem hj]; rfl), q _⟩
def spATape (K : PySem.W.Frag) : Sp := fun vs H Q _ => ∃ (a : Addr) (ns : List Int) (k : Int), vs = [.ref a, .int k] ∧ SqL K H a (ns.map V.int) ∧ 0 ≤ k ∧ ∀ (t : Addr) (H' : Hp), H t = none → K0 H H' → TpA H' t → Q (.ref t) H'
theorem ok_atape {f : Addr} {fd : FuncData} {f_acell : Addr} {fd_acell : FuncData} (F : Fun K "_law_atape" "_law_atape" sATape f fd) (k_acell : PySem.W.keepIn K (.ref f_acell) = true) (b_acell : Binds K fd_acell ["script", "k"] []) (g_acell : mg "_law_acell" = some (.ref f_acell)) (G_acell : FnOk P w K mg base CX0 1 f_acell fd_acell ["script", "k"] (spACell K)) (m_range : mg "range" = none) : FnOk P w K mg base CX0 2 f fd ["script", "k"] (spATape K) := by
  refine F.ok scATape (fun vs H Q E h => ?_) (fun cdv A outer s H vs Q E hr h => ?_)
  · obtain ⟨a, ns, k, rfl, _⟩ := h
    rfl
  · obtain ⟨a, ns, k, rfl, hS, hk, q⟩ := h
    have hu := hu_of hr
    refine ⟨_, (pss_cons (ps_set (i := 2) scATape.nd rfl (.inl rfl) (pe_call G_acell (hr.mono (by decide)) (by rfl) g_acell k_acell b_acell .nil pass0 (pa_cons (pv 0) (pa_cons (pv 1) pa_nil))))
      (pss_cons (ps_if (pt_cmpR op_eq (pe_op op_mod (pv 2) pe_int) pe_int (nomark _)) (pss_one (ps_ret (pe_lst (pa_cons (pe_op op_fdivW (pv 2) pe_int) pa_nil)))) pss_nil)
      (pss_cons (ps_set (i := 3) scATape.nd rfl (.inl rfl) pe_int)
      (pss_cons (ps_set (i := 4) scATape.nd rfl (.inl rfl) pe_int)
      (pss_cons (ps_set (i := 5) scATape.nd rfl (.inl rfl) (pe_op op_mod (pe_op op_add (pe_op op_add (pe_op op_mul (pe_op op_mod (pv 2) (pv 3)) pe_int) (pe_op op_mul pe_int (pv 1))) pe_int) (pv 3)))
      (pss_cons (ps_for PassesOwn.never rfl (pi_range1 (by rfl) m_range (pa_cons pe_int pa_nil)) (pg_name (i := 6) scATape.nd rfl (.inl rfl))
      (pss_cons (ps_set (i := 4) scATape.nd rfl (.inl rfl) (pe_op op_add (pe_op op_mul (pv 4) (pv 3)) (pv 5)))
      (pss_one (ps_set (i := 5) scATape.nd rfl (.inl rfl) (pe_op op_mod (pe_op op_add (pe_op op_add (pe_op op_mul (pv 5) (pv 5)) (pe_op op_mul pe_int (pv 1))) (pv 6)) (pv 3))))))
      (pss_one (ps_ret (pe_lst (pa_cons (pv 4) pa_nil)))))))))), ?_⟩
    refine ⟨_, rfl, _, rfl, a, ns, k, rfl, hS, hk, fun c => ?_⟩
    refine ⟨_, rfl, c, 2, rfl, rfl, (show (0 : Int) < 2 by decide), rfl, _, rfl, ite2 (fun e => ?_) (fun e => ?_)⟩
    · exact ⟨_, rfl, c, 2, rfl, rfl, wide_div (b := 5) (by decide) (by decide) (by decide) (by decide), by show 1 ≤ sizeLine; decide, fun t nt => q t _ nt (K0.new nt) ⟨_, upd_same⟩⟩
    refine ⟨_, rfl, _, rfl, c, _, rfl, rfl, (show (0 : Int) < 2305843009213693951 by decide), _, 48271, rfl, rfl, mulR (by decide) (by decide), _, rfl, 69621, k, rfl, rfl, mulL (by decide) (by decide), _, _, rfl, rfl, _, 11, rfl, rfl, _, rfl, _, _, rfl, rfl, (show (0 : Int) < 2305843009213693951 by decide), ?_⟩
    refine ⟨9, rfl, by decide, by decide, for_range (lo := 0) (n := 9) (fun i σ' H' => ∃ (nm ls : Int) (y6 : Option V), σ' = [some (.ref a), some (.int k), some (.int c), some (.int 2305843009213693951), some (.int nm), some (.int ls), y6] ∧ H' = H ∧ 0 ≤ ls ∧ ls < 2305843009213693951)
      ⟨0, _, none, rfl, rfl, Int.emod_nonneg _ (by decide), Int.emod_lt_of_pos _ (by decide)⟩ (fun i σ' H' hi h => ?_) (fun σ' H' h => ?_)⟩
    · obtain ⟨nm, ls, y6, rfl, rfl, h1, h2⟩ := h
      exact ⟨_, rfl, _, rfl, nm, _, rfl, rfl, mulR (by decide) (by decide), _, rfl, _, _, rfl, rfl, _, rfl, _, rfl, ls, ls, rfl, rfl, mulL (by omega) (by omega), _, rfl, 40692, k, rfl, rfl, mulL (by decide) (by decide), _, _, rfl, rfl, _, rfl, _, _, rfl, rfl, _, rfl, _, _, rfl, rfl, (show (0 : Int) < 2305843009213693951 by decide),
        _, _, _, rfl, rfl, Int.emod_nonneg _ (by decide), Int.emod_lt_of_pos _ (by decide)⟩
    · obtain ⟨nm, ls, y6, rfl, rfl, h1, h2⟩ := h
      exact ⟨_, rfl, by show 1 ≤ sizeLine; decide, fun t nt => q t _ nt (K0.new nt) ⟨_, upd_same⟩⟩
def spADigit : Sp := fun vs H Q _ => ∃ (t : Addr) (many : Int), vs = [.ref t, .int many] ∧ TpA H t ∧ 0 < many ∧ many ≤ 1000000 ∧ ∀ (d : Int) (H' : Hp), 0 ≤ d → d < many → Kt t H H' → TpA H' t → Q (.int d) H'
theorem ok_adigit {f : Addr} {fd : FuncData} (F : Fun K "_law_adigit" "_law_adigit" sADigit f fd) : FnOk P w K mg base CX0 1 f fd ["tape", "many"] spADigit := by
  refine F.ok scADigit (fun vs H Q E h => ?_) (fun cdv A outer s H vs Q E hr h => ?_)
  · obtain ⟨t, many, rfl, _⟩ := h
    rfl
  · obtain ⟨t, many, rfl, ⟨v, ht⟩, hm, hm2, q⟩ := h
    have hu := hu_of hr
    refine ⟨_, (pss_cons (ps_set (i := 2) scADigit.nd rfl (.inl rfl) (pe_op op_mod (pe_ix ix_list (pv 0) pe_int (fun _ _ => rfl)) (pv 1)))
      (pss_cons (ps_asg (pe_op op_fdivW (pe_ix ix_list (pv 0) pe_int (fun _ _ => rfl)) (pv 1)) (pg_sub (pv 0) pe_int set_list))
      (pss_one (ps_ret (pv 2))))), ?_⟩
    refine ⟨.ref t, rfl, t, _, 0, .int v, rfl, rfl, .inl (.inl ht), atI_nat (j := 0) rfl, .int many, rfl, v, many, rfl, rfl, hm, ?_⟩
    refine ⟨.ref t, rfl, t, _, 0, .int v, rfl, rfl, .inl (.inl ht), atI_nat (j := 0) rfl, .int many, rfl, v, many, rfl, rfl, wide_div (b := 70) hm (by omega) (by decide) (by decide), .ref t, rfl, t, _, 0, 0, rfl, rfl, ht, rfl, ?_⟩
    exact ⟨_, rfl, q _ _ (Int.emod_nonneg _ (by omega)) (Int.emod_lt_of_pos _ hm) (Kt.set ht) ⟨_, upd_same⟩⟩
end
end HK

set_option Elab.async false
set_option linter.all false
set_option maxRecDepth 100000
set_option maxHeartbeats 4000000
namespace HK
open PySem PySem.Spec PyProof.Rows L2 GAl GxR
open Evl (pss_cut)
abbrev sANet : Stmt := topS 55
abbrev N_scANet : List Str := ["tape", "most", "n", "often", "wide", "roads", "i", "j", "cost", "late"]
theorem scANet : FnScope N_scANet ["tape", "most"] (defScope sANet) := ⟨rfl, rfl, rfl, by decide +kernel, rfl, by decide +kernel, by decide +kernel⟩
theorem pick6 {d : Int} (h0 : 0 ≤ d) (h1 : d < 6) : ∃ y : Int, atI [V.int 0, .int 1, .int 2, .int 3, .int 5, .int 8] d = some (.int y) ∧ 0 ≤ y ∧ y ≤ 8 := by
  obtain ⟨k, rfl⟩ := Int.eq_ofNat_of_zero_le h0
  match k, h1 with
  | 0, _ => exact ⟨0, atI_nat rfl, by omega, by omega⟩
  | 1, _ => exact ⟨1, atI_nat rfl, by omega, by omega⟩
  | 2, _ => exact ⟨2, atI_nat rfl, by omega, by omega⟩
  | 3, _ => exact ⟨3, atI_nat rfl, by omega, by omega⟩
  | 4, _ => exact ⟨5, atI_nat rfl, by omega, by omega⟩
  | 5, _ => exact ⟨8, atI_nat rfl, by omega, by omega⟩
  | k + 6, h => exact absurd h (by omega)
section
variable {P : Program} {w : World} {K : PySem.W.Frag} {mg : Str → Option Value} {base : Heap}
def spANet (K : PySem.W.Frag) : Sp := fun vs H Q _ => ∃ (t : Addr) (most : Int), vs = [.ref t, .int most] ∧ TpA H t ∧ 1 ≤ most ∧ most ≤ 12 ∧
  ∀ (a : Addr) (n : Int) (rs : List R4) (H' : Hp), Kt t H H' → TpA H' t → NetAt K H' a n rs → n ≤ most → Good n rs → rs.length ≤ 156 → Q (.ref a) H'
/-- between the turns -/
structure NA (K : PySem.W.Frag) (H : Hp) (t ra : Addr) (n : Int) (i j : Nat) (H3 : Hp) : Prop where
  kt : Kt t H H3
  tp : TpA H3 t
  ex : ∃ xs rs, H3 ra = some (.lst xs) ∧ Roads K H3 xs rs ∧ Good n rs ∧ (∀ r ∈ rs, r.s < i ∨ (r.s = i ∧ r.e < j)) ∧ rs.length ≤ 12 * i + j
theorem ok_anet {f : Addr} {fd : FuncData} {f_adigit : Addr} {fd_adigit : FuncData} (F : Fun K "_law_anet" "_law_anet" sANet f fd) (k_adigit : PySem.W.keepIn K (.ref f_adigit) = true) (b_adigit : Binds K fd_adigit ["tape", "many"] []) (g_adigit : mg "_law_adigit" = some (.ref f_adigit)) (G_adigit : FnOk P w K mg base CX0 1 f_adigit fd_adigit ["tape", "many"] (spADigit)) (m_range : mg "range" = none) (m_tuple : mg "tuple" = none) : FnOk P w K mg base CX0 2 f fd ["tape", "most"] (spANet K) := by
  refine F.ok scANet (fun vs H Q E h => ?_) (fun cdv A outer s H vs Q E hr h => ?_)
  · obtain ⟨t, most, rfl, _⟩ := h
    rfl
  · obtain ⟨t, most, rfl, htp, hm1, hm2, q⟩ := h
    have hu := hu_of hr
    refine ⟨_, (pss_cons (ps_set (i := 2) scANet.nd rfl (.inl rfl) (pe_op op_add pe_int (pe_call G_adigit (hr.mono (by decide)) (by rfl) g_adigit k_adigit b_adigit .nil pass0 (pa_cons (pv 0) (pa_cons (pv 1) pa_nil)))))
      (pss_cons (ps_set (i := 3) scANet.nd rfl (.inl rfl) (pe_op op_add pe_int (pe_call G_adigit (hr.mono (by decide)) (by rfl) g_adigit k_adigit b_adigit .nil pass0 (pa_cons (pv 0) (pa_cons pe_int pa_nil)))))
      (pss_cons (ps_set (i := 4) scANet.nd rfl (.inl rfl) (pe_call G_adigit (hr.mono (by decide)) (by rfl) g_adigit k_adigit b_adigit .nil pass0 (pa_cons (pv 0) (pa_cons pe_int pa_nil))))
      (pss_cons (ps_set (i := 5) scANet.nd rfl (.inl rfl) (pe_lst pa_nil))
      (pss_cons (ps_for PassesOwn.never rfl (pi_range1 (by rfl) m_range (pa_cons (pv 2) pa_nil)) (pg_name (i := 6) scANet.nd rfl (.inl rfl))
      (pss_one (ps_for PassesOwn.never rfl (pi_range1 (by rfl) m_range (pa_cons (pv 2) pa_nil)) (pg_name (i := 7) scANet.nd rfl (.inl rfl))
      (pss_one (ps_if (PW.pt (pw_and (pt_cmpR op_ne (pv 6) (pv 7) (nomark _)) (pw_and1 (pt_cmpR op_lt (pe_call G_adigit (hr.mono (by decide)) (by rfl) g_adigit k_adigit b_adigit .nil pass0 (pa_cons (pv 0) (pa_cons pe_int pa_nil))) (pv 3) (nomark _))))) (pss_cons (ps_set (i := 8) scANet.nd rfl (.inl rfl) (pe_ix ix_list (pe_lst (pa_cons pe_int (pa_cons pe_int (pa_cons pe_int (pa_cons pe_int (pa_cons pe_int (pa_cons pe_int pa_nil))))))) (pe_call G_adigit (hr.mono (by decide)) (by rfl) g_adigit k_adigit b_adigit .nil pass0 (pa_cons (pv 0) (pa_cons pe_int pa_nil))) (fun _ _ => rfl)))
      (pss_cons (ps_set (i := 9) scANet.nd rfl (.inl rfl) (pe_op op_add pe_int (pe_call G_adigit (hr.mono (by decide)) (by rfl) g_adigit k_adigit b_adigit .nil pass0 (pa_cons (pv 0) (pa_cons pe_int pa_nil)))))
      (pss_cut (ps_if (pt_cmpR op_eq (pv 4) pe_int (nomark _)) (pss_cons (ps_set (i := 8) scANet.nd rfl (.inl rfl) (pe_op op_sub pe_int (pe_op op_mul pe_int (pv 8))))
      (pss_one (ps_set (i := 9) scANet.nd rfl (.inl rfl) (pe_op op_sub pe_int (pe_op op_mul pe_int (pe_op op_sub (pv 9) pe_int)))))) pss_nil)
      (pss_one (ps_expr (pe_bm PySem.F.plainAttrs_list PySem.F.slot_list_append PySem.F.type_list_append mt_append (pv 5) (pa_cons (pe_tup (pa_cons (pv 6) (pa_cons (pv 7) (pa_cons (pv 8) (pa_cons (pv 9) pa_nil))))) pa_nil))))))) pss_nil)))))
      (pss_one (ps_ret (pe_tup (pa_cons (pv 2) (pa_cons (pe_callTy call_tuple_fz (by rfl) m_tuple (by decide +kernel) (pa_cons (pv 5) pa_nil)) pa_nil)))))))))), ?_⟩
    -- n, often, wide
    refine ⟨.ref t, rfl, .int most, rfl, t, most, rfl, htp, by omega, by omega, fun d1 H1 hd1 hd1' k1 tp1 => ⟨1, d1, rfl, rfl, ?_⟩⟩
    refine ⟨.ref t, rfl, t, 4, rfl, tp1, by omega, by omega, fun d2 H2 hd2 hd2' k2 tp2 => ⟨1, d2, rfl, rfl, ?_⟩⟩
    refine ⟨.ref t, rfl, t, 5, rfl, tp2, by omega, by omega, fun dw H2' hdw hdw' kw tp2' => ?_⟩
    -- roads = []
    refine ⟨Nat.zero_le _, fun ra nra => ?_⟩
    have k12 : Kt t H H2' := (k1.trans k2).trans kw
    have nHra : H ra = none := k12.dom _ nra
    have hn1 : 1 ≤ 1 + d1 := by omega
    have hn2 : 1 + d1 ≤ 12 := by omega
    have hra : ra ≠ t := tp2'.ne nra
    have stepI : ∀ {H3 H4 : Hp} {i j : Nat}, NA K H t ra (1 + d1) i j H3 → Kt t H3 H4 → TpA H4 t → NA K H t ra (1 + d1) i j H4 := fun {H3 H4 i j} h k tp => by
      obtain ⟨xs, rs, e1, e2, e3⟩ := h.ex
      exact ⟨h.kt.trans k, tp, xs, rs, k.oth ra _ e1 hra (fun _ z => by cases z), k.roads e2, e3⟩
    have step0 : ∀ {H3 H4 : Hp} {i j : Nat}, NA K H t ra (1 + d1) i j H3 → K0 H3 H4 → NA K H t ra (1 + d1) i j H4 := fun {H3 H4 i j} h k => stepI h k.kt (h.tp.k0 k)
    refine ⟨.int (1 + d1), rfl, 1 + d1, rfl, by omega, by omega, for_range (lo := 0) (n := (1 + d1).toNat) (fun i σ' H' => ∃ y6 y7 y8 y9, σ' = [some (.ref t), some (.int most), some (.int (1 + d1)), some (.int (1 + d2)), some (.int dw), some (.ref ra), y6, y7, y8, y9] ∧ NA K H t ra (1 + d1) i 0 H')
      ⟨none, none, none, none, rfl, ?_⟩ (fun i σ' H' hi h => ?_) (fun σ' H' h => ?_)⟩
    · exact ⟨k12.mut nHra, tp2'.k0 (K0.new nra), [], [], upd_same, .nil, ⟨hn1, hn2, fun r hr => (by cases hr), .nil⟩, fun r hr => (by cases hr), by simp⟩
    · obtain ⟨y6, y7, y8, y9, rfl, hI⟩ := h
      refine ⟨.int (1 + d1), rfl, 1 + d1, rfl, by omega, by omega, for_range (lo := 0) (n := (1 + d1).toNat) (fun j σ' H' => ∃ y7 y8 y9, σ' = [some (.ref t), some (.int most), some (.int (1 + d1)), some (.int (1 + d2)), some (.int dw), some (.ref ra), some (.int (0 + (i : Int))), y7, y8, y9] ∧ NA K H t ra (1 + d1) i j H')
        ⟨y7, y8, y9, rfl, hI⟩ (fun j σ' H' hj h => ?_) (fun σ' H' h => ?_)⟩
      · obtain ⟨y7, y8, y9, rfl, hI⟩ := h
        have next : ∀ {H4 : Hp}, NA K H t ra (1 + d1) i j H4 → NA K H t ra (1 + d1) i (j + 1) H4 := fun {H4} h => by
          obtain ⟨xs, rs, e1, e2, e3, e4, e5⟩ := h.ex
          exact ⟨h.kt, h.tp, xs, rs, e1, e2, e3, fun r hr => by
            rcases e4 r hr with z | ⟨z, z2⟩
            · exact .inl z
            · exact .inr ⟨z, by omega⟩, by omega⟩
        refine ⟨_, rfl, _, rfl, rfl, _, rfl, ite2 (fun e => ?_) (fun e => iteF ⟨_, y8, y9, rfl, next hI⟩)⟩
        have hij : (i : Int) ≠ j := by
          have e : (!decide (V.int (0 + (i : Int)) = V.int (0 + (j : Int)))) = true := e
          simp only [Bool.not_eq_true', decide_eq_false_iff_not] at e
          intro z
          exact e (by rw [z])
        refine ⟨.ref t, rfl, t, 6, rfl, hI.tp, by omega, by omega, fun d3 H3 hd3 hd3' k3 tp3 => ⟨_, rfl, d3, _, rfl, rfl, _, rfl, ite2 (fun e2 => ?_) (fun e2 => ⟨_, y8, y9, rfl, next (stepI hI k3 tp3)⟩)⟩⟩
        have I3 := stepI hI k3 tp3
        -- cost
        refine ⟨by show 6 ≤ sizeLine; decide, fun pl npl => ?_⟩
        have I4 := step0 I3 (K0.new (o := .lst [.int 0, .int 1, .int 2, .int 3, .int 5, .int 8]) npl)
        have npt := tp3.ne npl
        refine ⟨.ref t, rfl, t, 6, rfl, I4.tp, by omega, by omega, fun d5 H5 hd5 hd5' k5 tp5 => ?_⟩
        have I5 := stepI I4 k5 tp5
        obtain ⟨pay, hpay, p0, p1⟩ := pick6 hd5 hd5'
        refine ⟨pl, _, d5, .int pay, rfl, rfl, .inl (.inl (k5.oth pl _ upd_same npt (fun _ z => by cases z))), hpay, ?_⟩
        -- late
        refine ⟨.ref t, rfl, t, 4, rfl, tp5, by omega, by omega, fun d7 H7 hd7 hd7' k7 tp7 => ⟨1, d7, rfl, rfl, ?_⟩⟩
        have I7 := stepI I5 k7 tp7
        clear k3 tp3 k5 tp5 k7 tp7 hpay I3 I4 I5 npl npt
        refine ⟨fun σ' H4 => ∃ pay late : Int, σ' = [some (.ref t), some (.int most), some (.int (1 + d1)), some (.int (1 + d2)), some (.int dw), some (.ref ra), some (.int (0 + (i : Int))), some (.int (0 + (j : Int))), some (.int pay), some (.int late)] ∧ H4 = H7 ∧ 0 ≤ pay ∧ pay ≤ 1000 ∧ 1 ≤ late ∧ late ≤ 1000, ?_, ?_⟩
        · refine ⟨_, rfl, rfl, _, rfl, ite2 (fun e => ?_) (fun e => ⟨pay, 1 + d7, rfl, rfl, by omega, by omega, by omega, by omega⟩)⟩
          exact ⟨_, rfl, 20, pay, rfl, rfl, mulL (by decide) (by decide), 1000, _, rfl, rfl, _, rfl, _, 1, rfl, rfl, 300, _, rfl, rfl, mulL (by decide) (by decide), 1000, _, rfl, rfl, _, _, rfl, rfl, by omega, by omega, by omega, by omega⟩
        rintro σ' H4 ⟨pay, late, rfl, rfl, p0, p1, l0, l1⟩
        -- roads.append((i, j, cost, late))
        obtain ⟨xs, rs, e1, e2', e3, e4, e5⟩ := I7.ex
        refine ⟨.ref ra, rfl, .inl ⟨rfl, _, .inl (.inl e1)⟩, _, rfl, _, rfl, _, rfl, _, rfl, by show 4 ≤ sizeLine; decide, fun tp ntp => ?_⟩
        have kT : K0 H4 (upd H4 tp (.tup [.int (0 + (i : Int)), .int (0 + (j : Int)), .int pay, .int late])) := K0.new ntp
        have e1' := kT.oth ra _ e1 (fun _ z => by cases z)
        have hlen : xs.length ≤ 200 := by
          rw [e2'.len]
          omega
        refine ⟨ra, _, _, rfl, rfl, e1', Nat.lt_of_le_of_lt hlen (by decide), _, _, _, rfl, ?_⟩
        have kA := (I7.kt.trans kT.kt).mut (o := .lst (xs ++ [.ref tp])) nHra
        refine ⟨kA, (I7.tp.k0 kT).mut hra, xs ++ [.ref tp], rs ++ [⟨0 + (i : Int), 0 + (j : Int), pay, late⟩], upd_same, ?_, ⟨hn1, hn2, fun r hr => ?_, ?_⟩, fun r hr => ?_, ?_⟩
        · exact Roads.snoc (r := ⟨0 + (i : Int), 0 + (j : Int), pay, late⟩) ((Kt.set e1').roads (kT.kt (t := t) |>.roads e2')) ((Kt.set e1').sqT (.inl (.inl upd_same)))
        · rcases List.mem_append.mp hr with z | z
          · exact e3.ok r z
          · have z := List.mem_singleton.mp z
            subst z
            exact ⟨by show 0 ≤ 0 + (i : Int); omega, by show 0 + (i : Int) < 1 + d1; omega, by show 0 ≤ 0 + (j : Int); omega, by show 0 + (j : Int) < 1 + d1; omega, by show 0 + (i : Int) ≠ 0 + (j : Int); omega, p0, p1, l0, l1⟩
        · rw [List.pairwise_append]
          refine ⟨e3.up, List.pairwise_singleton _ _, fun a ha b hb => ?_⟩
          have z := List.mem_singleton.mp hb
          subst z
          rcases e4 a ha with z | ⟨z, z2⟩
          · exact .inl (by show a.s < 0 + (i : Int); omega)
          · exact .inr ⟨by show a.s = 0 + (i : Int); omega, by show a.e < 0 + (j : Int); omega⟩
        · rcases List.mem_append.mp hr with z | z
          · rcases e4 r z with z | ⟨z, z2⟩
            · exact .inl z
            · exact .inr ⟨z, by omega⟩
          · have z := List.mem_singleton.mp z
            subst z
            exact .inr ⟨by show 0 + (i : Int) = i; omega, by show 0 + (j : Int) < _; omega⟩
        · rw [List.length_append, List.length_singleton]; omega
      · obtain ⟨y7, y8, y9, rfl, hI⟩ := h
        obtain ⟨xs, rs, e1, e2, e3, e4, e5⟩ := hI.ex
        refine ⟨_, _, _, _, rfl, hI.kt, hI.tp, xs, rs, e1, e2, e3, fun r hr => ?_, by omega⟩
        have hro := e3.ok r hr
        rcases e4 r hr with z | ⟨z, z2⟩
        · exact .inl (by omega)
        · exact .inl (by omega)
    · obtain ⟨y6, y7, y8, y9, rfl, hI⟩ := h
      obtain ⟨xs, rs, e1, e2, e3, e4, e5⟩ := hI.ex
      refine ⟨_, rfl, .ref ra, rfl, ra, xs, rfl, .inl (.inl e1), fun tl ob ntl hoc hod => ?_⟩
      have kT : K0 H' (upd H' tl (.frz ob (.tup xs))) := K0.new ntl
      refine ⟨by show 2 ≤ sizeLine; decide, fun tn ntn => ?_⟩
      have kN : K0 (upd H' tl (.frz ob (.tup xs))) (upd (upd H' tl (.frz ob (.tup xs))) tn (.tup [.int (1 + d1), .ref tl])) := K0.new ntn
      have kk := kT.trans kN
      refine q tn (1 + d1) rs _ (hI.kt.trans kk.kt) (hI.tp.k0 kk) ⟨tl, xs, (), .inl (.inl upd_same), kN.sqT (.inl (.inr ⟨ob, upd_same⟩)), trivial, trivial, kk.kt (t := t) |>.roads e2⟩ (by omega) e3 (by omega)
end
end HK

set_option Elab.async false
set_option linter.all false
set_option maxRecDepth 100000
set_option maxHeartbeats 4000000
namespace HK
open PySem PySem.Spec PyProof.Rows L2 GAl GxR
open Evl (pss_cut)
abbrev sSendNet : Stmt := topS 41
abbrev N_scSendNet : List Str := ["net", "kept", "number", "many", "roads", "standing", "start", "end", "cost", "late", "place"]
theorem scSendNet : FnScope N_scSendNet ["net", "kept", "number"] (defScope sSendNet) := ⟨rfl, rfl, rfl, by decide +kernel, rfl, by decide +kernel, by decide +kernel⟩
def stands (kps : KpL) (r : R4) : Bool := decide (r.s ∈ kps.map (·.1)) && decide (r.e ∈ kps.map (·.1))
def sendR (n : Int) (rs : List R4) (kps : KpL) (m : Int) : List R4 := rs.filter (stands kps) ++ (keepK kps m).map fun p => ⟨n, p, 0, 1⟩
theorem dpAll_app {K : PySem.W.Frag} {H : Hp} : ∀ {xs ys : List V} {ds es : List PyData}, DpAll K H xs ds → DpAll K H ys es → DpAll K H (xs ++ ys) (ds ++ es)
  | _, _, _, _, .nil, h => h
  | _, _, _, _, .cons a b, h => .cons a (dpAll_app b h)
theorem roads_app {K : PySem.W.Frag} {H : Hp} {xs ys : List V} {rs ts : List R4} (h : Roads K H xs rs) (g : Roads K H ys ts) : Roads K H (xs ++ ys) (rs ++ ts) := by
  unfold Roads
  rw [List.map_append]
  exact dpAll_app h g
theorem filtS_take {kps : KpL} {rs : List R4} {j : Nat} {t : R4} (e : rs[j]? = some t) : (rs.take (j + 1)).filter (stands kps) = (rs.take j).filter (stands kps) ++ (if stands kps t = true then [t] else []) := by
  rw [List.take_add_one, e, List.filter_append]
  congr 1
  by_cases h : stands kps t = true
  · rw [if_pos h]
    exact List.filter_cons_of_pos h
  · rw [if_neg h]
    exact List.filter_cons_of_neg h
theorem filtS_len (kps : KpL) (rs : List R4) (j : Nat) : ((rs.take j).filter (stands kps)).length ≤ rs.length := by
  have h1 := List.length_filter_le (stands kps) (rs.take j)
  have h2 := List.length_take_le' j rs
  omega
section
variable {P : Program} {w : World} {K : PySem.W.Frag} {mg : Str → Option Value} {base : Heap}
def spSendNet (K : PySem.W.Frag) (Pn Pr Pu Ph Ps Pk : Addr) : Sp := fun vs H Q _ => ∃ (a d : Addr) (n : Int) (rs : List R4) (kvs : List (Key × V)) (kps : KpL) (m : Int), vs = [.ref a, .ref d, .int m] ∧ NetAt K H a n rs ∧ Good n rs ∧ rs.length ≤ 156 ∧ n < 12 ∧ H d = some (.dK kvs) ∧ KVs K H kvs kps ∧ KpOk n kps ∧ TabG H Pn ∧ TabG H Pr ∧ TabG H Pu ∧ TabG H Ph ∧ TabG H Ps ∧ TabG H Pk ∧ ∀ (q : Addr) (H' : Hp), K0 H H' → NetAt K H' q (n + 1) (sendR n rs kps m) → Q (.ref q) H'
theorem ok_sendnet {f Pn Pr Pu Ph Ps Pk : Addr} {fd : FuncData} {f_needstanding f_needroom f_keepers : Addr} {fd_needstanding fd_needroom fd_keepers : FuncData} (F : Fun K "send_net" "send_net" sSendNet f fd) (k_needstanding : PySem.W.keepIn K (.ref f_needstanding) = true) (b_needstanding : Binds K fd_needstanding ["net", "kept"] []) (g_needstanding : mg "need_standing" = some (.ref f_needstanding)) (G_needstanding : FnOk P w K mg base CX0 7 f_needstanding fd_needstanding ["net", "kept"] (spNeedS K Pn Pr Pu Ph Ps))
    (k_needroom : PySem.W.keepIn K (.ref f_needroom) = true) (b_needroom : Binds K fd_needroom ["net"] []) (g_needroom : mg "need_room" = some (.ref f_needroom)) (G_needroom : FnOk P w K mg base CX0 1 f_needroom fd_needroom ["net"] (spNeedRoom K))
    (k_keepers : PySem.W.keepIn K (.ref f_keepers) = true) (b_keepers : Binds K fd_keepers ["kept", "number"] []) (g_keepers : mg "keepers_of" = some (.ref f_keepers)) (G_keepers : FnOk P w K mg base CX0 2 f_keepers fd_keepers ["kept", "number"] (spKeepers K Pk)) (m_tuple : mg "tuple" = none) : FnOk P w K mg base CX0 8 f fd ["net", "kept", "number"] (spSendNet K Pn Pr Pu Ph Ps Pk) := by
  refine F.ok scSendNet (fun vs H Q E h => ?_) (fun cdv A outer s H vs Q E hr h => ?_)
  · obtain ⟨a, d, n, rs, kvs, kps, m, rfl, _⟩ := h
    rfl
  · obtain ⟨a, d, n, rs, kvs, kps, m, rfl, hN, G, hl, hn, hd, hK, hO, tn, tr, tu, th, ts, tk, q⟩ := h
    have hu := hu_of hr
    refine ⟨_, (pss_cons (ps_expr (pe_call G_needstanding (hr.mono (by decide)) (by rfl) g_needstanding k_needstanding b_needstanding .nil pass0 (pa_cons (pv 0) (pa_cons (pv 1) pa_nil))))
      (pss_cons (ps_expr (pe_call G_needroom (hr.mono (by decide)) (by rfl) g_needroom k_needroom b_needroom .nil pass0 (pa_cons (pv 0) pa_nil)))
      (pss_cut (ps_asg (pv 0) (pg_tup rfl (pgs_cons (pg_name (i := 3) scSendNet.nd rfl (.inr rfl)) (pgs_cons (pg_name (i := 4) scSendNet.nd rfl (.inl rfl)) pgs_nil))))
      (pss_cut (ps_setLc (i := 5) (own := [("start", 6), ("end", 7), ("cost", 8), ("late", 9)]) (g := (gTup K 4 (gCons (gName 6) (gCons (gName 7) (gCons (gName 8) (gCons (gName 9) gNil)))))) (tt := (tAnd (tB (tDIn (tVar 6) (tVar 1))) (tB (tDIn (tVar 7) (tVar 1))))) (te := (tTup (tCons (tVar 6) (tCons (tVar 7) (tCons (tVar 8) (tCons (tVar 9) tNil)))))) rfl scSendNet.nd rfl rfl (sw_true rfl rfl rfl rfl) (pi_tup (pv 4)) (blkOk_by (N := N_scSendNet) (sc := defScope sSendNet) (by decide +kernel)) (fun _ _ _ _ _ => (pg_tup rfl (pgs_cons (pg_name (i := 6) scSendNet.nd rfl (.inl rfl)) (pgs_cons (pg_name (i := 7) scSendNet.nd rfl (.inl rfl)) (pgs_cons (pg_name (i := 8) scSendNet.nd rfl (.inl rfl)) (pgs_cons (pg_name (i := 9) scSendNet.nd rfl (.inl rfl)) pgs_nil)))))) (fun _ _ _ _ _ => (pts_one (PW.pt (pw_and (pt_cmp (pc_din hu (pv 6) (pv 1))) (pw_and1 (pt_cmp (pc_din hu (pv 7) (pv 1)))))))) (fun _ _ _ _ _ => (pe_tup (pa_cons (pv 6) (pa_cons (pv 7) (pa_cons (pv 8) (pa_cons (pv 9) pa_nil)))))))
      (pss_one (ps_ret (pe_tup (pa_cons (pe_op op_add (pv 3) pe_int) (pa_cons (pe_callTy call_tuple_fz (by rfl) m_tuple (by decide +kernel) (pa_cons (pe_op op_cat (pv 5) (pe_lc (own := [("place", 10)]) (g := (gName 10)) (tt := tYes) (te := (tTup (tCons (tVar 3) (tCons (tVar 10) (tCons (tC (.int 0)) (tCons (tC (.int 1)) tNil)))))) rfl scSendNet.nd (pi_tup (pe_call G_keepers (hr.mono (by decide)) (by rfl) g_keepers k_keepers b_keepers .nil pass0 (pa_cons (pv 1) (pa_cons (pv 2) pa_nil)))) (blkOk_by (N := N_scSendNet) (sc := defScope sSendNet) (by decide +kernel)) (fun _ _ _ _ _ => (pg_name (i := 10) scSendNet.nd rfl (.inl rfl))) (fun _ _ _ _ _ => pts_nil) (fun _ _ _ _ _ => (pe_tup (pa_cons (pv 3) (pa_cons (pv 10) (pa_cons pe_int (pa_cons pe_int pa_nil)))))))) pa_nil)) pa_nil))))))))), ?_⟩
    refine ⟨_, rfl, _, rfl, a, d, n, rs, kvs, kps, rfl, hN, G, hl, hd, hK, hO, tn, tr, tu, th, ts, fun H1 k1 => ?_⟩
    have hN1 := hN.k0 k1
    refine ⟨_, rfl, a, n, rs, rfl, hN1, hn, ?_⟩
    have hd1 : H1 d = some (.dK kvs) := k1.oth d _ hd (fun _ z => by cases z)
    have hK1 := hK.k0 k1
    obtain ⟨r, xs, o, h1, h2, _, _, h3⟩ := id hN1
    have hrl : xs.length = rs.length := h3.len
    have hkl := hO.len (by omega)
    refine ⟨fun σ' H' => σ' = [some (.ref a), some (.ref d), some (.int m), some (.int n), some (.ref r), none, none, none, none, none, none] ∧ H' = H1, ?_, ?_⟩
    · exact ⟨_, rfl, a, _, rfl, h1, rfl, _, _, rfl, _, _, rfl, rfl, rfl, rfl⟩
    rintro σ' H' ⟨rfl, rfl⟩
    refine ⟨fun σ' H2 => ∃ D ys, σ' = [some (.ref a), some (.ref d), some (.int m), some (.int n), some (.ref r), some (.ref D), none, none, none, none, none] ∧ K0 H' H2 ∧ H2 D = some (.lst ys) ∧ Roads K H2 ys (rs.filter (stands kps)), ?_, ?_⟩
    rotate_left
    · rintro σ' H2 ⟨D, ys, rfl, k, hD, hR⟩
      have k12 := k1.trans k
      have hd2 := k12.oth d _ hd (fun _ z => by cases z)
      refine ⟨_, rfl, n, 1, rfl, rfl, _, rfl, _, rfl, _, rfl, d, kvs, kps, n, m, rfl, hd2, hK.k0 k12, hO, by omega, k12.tab _ tk, fun qk H3 k3 hqk => ⟨qk, rfl, ⟨_, hqk⟩, fun D2 nD2 => ?_⟩⟩
      have hD3 := k3.oth D _ hD (fun _ z => by cases z)
      have hR3 := k3.dpAll _ _ hR
      refine lc_tup (xs := (keepK kps m).map V.int) (fun j H4 => K0 H3 H4 ∧ ∃ zs, H4 D2 = some (.lst zs) ∧ Roads K H4 zs (((keepK kps m).take j).map fun p => ⟨n, p, 0, 1⟩)) ⟨K0.new nD2, [], upd_same, .nil⟩ (fun j H4 hj h => h.1.sqT hqk) (fun j x H4 hx h => ?_) (fun H4 h => ?_)
      · obtain ⟨k4, zs, hz, hZ⟩ := h
        rw [List.getElem?_map] at hx
        obtain ⟨p, hp, rfl⟩ := Option.map_eq_some_iff.mp hx
        refine ⟨rfl, tyes ⟨_, rfl, _, rfl, by show 4 ≤ sizeLine; decide, fun tp ntp => ?_⟩⟩
        have kT : K0 H4 (upd H4 tp (.tup [.int n, .int p, .int 0, .int 1])) := K0.new ntp
        have hz2 := kT.oth D2 _ hz (fun _ z => by cases z)
        refine ⟨zs, hz2, ?_, (k4.trans kT).mut nD2, zs ++ [.ref tp], upd_same, ?_⟩
        · have h1 := hZ.len
          rw [List.length_map] at h1
          have h2 := keep_len kps m
          have h3 := List.length_take_le' j (keepK kps m)
          rw [sizeLine_eq]; omega
        · rw [List.take_add_one, hp, List.map_append]
          exact (Kt.set hz2).roads (Roads.snoc (r := ⟨n, p, 0, 1⟩) (kT.dpAll _ _ hZ) (.inl (.inl upd_same)))
      · obtain ⟨k4, zs, hz, hZ⟩ := h
        rw [List.length_map, List.take_of_length_le (Nat.le_refl _)] at hZ
        have hD4 := k4.oth D _ hD3 (fun _ z => by cases z)
        have hR4 := k4.dpAll _ _ hR3
        have l1 := hR.len
        have l1b := filtS_len kps rs rs.length
        rw [List.take_length] at l1b
        have l2 := hZ.len
        rw [List.length_map] at l2
        have l3 := keep_len kps m
        refine ⟨D, D2, ys, zs, rfl, rfl, hD4, hz, by rw [sizeLine_eq]; omega, fun pc npc => ?_⟩
        have kc := K0.new npc (o := .lst (ys ++ zs))
        have hA := kc.dpAll _ _ (roads_app hR4 hZ)
        have hpc : upd H4 pc (.lst (ys ++ zs)) pc = some (.lst (ys ++ zs)) := upd_same
        generalize upd H4 pc (.lst (ys ++ zs)) = H5 at kc hA hpc ⊢
        refine ⟨pc, _, rfl, .inl (.inl hpc), fun l ob nl _ _ => ⟨by show 2 ≤ sizeLine; decide, fun q0 nq0 => ?_⟩⟩
        have kl := K0.new nl (o := .frz ob (.tup (ys ++ zs)))
        have hl2 : SqT K (upd H5 l (.frz ob (.tup (ys ++ zs)))) l (ys ++ zs) := .inl (.inr ⟨ob, upd_same⟩)
        have hA2 := kl.dpAll _ _ hA
        generalize upd H5 l (.frz ob (.tup (ys ++ zs))) = H6 at kl hl2 hA2 nq0
        have kq := K0.new nq0 (o := .tup [.int (n + 1), .ref l])
        exact q q0 _ (((((k12.trans k3).trans k4).trans kc).trans kl).trans kq) ⟨l, _, (), .inl (.inl upd_same), kq.sqT hl2, trivial, trivial, kq.dpAll _ _ hA2⟩
    refine ⟨_, rfl, r, rfl, ⟨xs, h2⟩, fun D nD => ?_⟩
    refine lc_tup (xs := xs) (fun j H2 => K0 H' H2 ∧ ∃ ys, H2 D = some (.lst ys) ∧ Roads K H2 ys ((rs.take j).filter (stands kps))) ⟨K0.new nD, [], upd_same, .nil⟩ (fun j H2 hj h => h.1.sqT h2) (fun j x H2 hx h => ?_) (fun H2 h => ?_)
    · obtain ⟨k, ys, hD, hR⟩ := h
      obtain ⟨t, q1, hrd, rfl, hs0⟩ := road_at h3 hx
      have hs := k.sqT hs0
      have hd2 := k.oth d _ hd1 (fun _ z => by cases z)
      have hys : ys.length ≤ 156 := by
        have h1 := hR.len
        have h2 := filtS_len kps rs j
        omega
      have ft := filtS_take (kps := kps) hrd
      refine ⟨q1, _, rfl, hs, rfl, _, _, rfl, _, _, rfl, _, _, rfl, _, _, rfl, rfl, rfl, ?_⟩
      refine ⟨_, rfl, _, rfl, d, _, rfl, .inl ⟨kvs, .inl t.s, .inl hd2, rfl, rfl⟩, _, rfl, ?_⟩
      rw [hK1.isS hO.nodup]
      by_cases hsk : t.s ∈ kps.map (·.1)
      · rw [decide_eq_true hsk]
        refine iteT ⟨_, rfl, _, rfl, d, _, rfl, .inl ⟨kvs, .inl t.e, .inl hd2, rfl, rfl⟩, _, rfl, ?_⟩
        rw [hK1.isS hO.nodup]
        by_cases hek : t.e ∈ kps.map (·.1)
        · rw [decide_eq_true hek]
          refine iteT ⟨_, rfl, _, rfl, _, rfl, _, rfl, by show 4 ≤ sizeLine; decide, fun tp ntp => ?_⟩
          have kT : K0 H2 (upd H2 tp (.tup [.int t.s, .int t.e, .int t.c, .int t.l])) := K0.new ntp
          have hD2 := kT.oth D _ hD (fun _ z => by cases z)
          refine ⟨ys, hD2, Nat.lt_of_le_of_lt (m := 5000) (by omega) (by decide), (k.trans kT).mut nD, ys ++ [.ref tp], upd_same, ?_⟩
          have hst : stands kps t = true := by unfold stands; rw [decide_eq_true hsk, decide_eq_true hek]; rfl
          rw [ft, if_pos hst]
          exact (Kt.set hD2).roads (Roads.snoc (r := t) (kT.dpAll _ _ hR) (.inl (.inl upd_same)))
        · rw [decide_eq_false hek]
          have hst : ¬ stands kps t = true := by unfold stands; rw [decide_eq_false hek, Bool.and_false]; exact Bool.false_ne_true
          exact iteF ⟨k, ys, hD, by rw [ft, if_neg hst, List.append_nil]; exact hR⟩
      · rw [decide_eq_false hsk]
        have hst : ¬ stands kps t = true := by unfold stands; rw [decide_eq_false hsk, Bool.false_and]; exact Bool.false_ne_true
        exact iteF (iteF ⟨k, ys, hD, by rw [ft, if_neg hst, List.append_nil]; exact hR⟩)
    · obtain ⟨k, ys, hD, hR⟩ := h
      rw [List.take_of_length_le (by omega)] at hR
      exact ⟨D, ys, rfl, k, hD, hR⟩
def spASend (K : PySem.W.Frag) : Sp := fun vs H Q _ => ∃ (a d : Addr) (n : Int) (rs : List R4) (kvs : List (Key × V)) (kps : KpL) (m : Int), vs = [.ref a, .ref d, .int m] ∧ NetAt K H a n rs ∧ rs.length ≤ 156 ∧ n < 12 ∧ H d = some (.dK kvs) ∧ KVs K H kvs kps ∧ KpOk n kps ∧ ∀ (q : Addr) (H' : Hp), K0 H H' → NetAt K H' q (n + 1) (sendR n rs kps m) → Q (.ref q) H'
end
end HK

set_option Elab.async false
set_option linter.all false
set_option maxRecDepth 100000
set_option maxHeartbeats 4000000
namespace HK
open PySem PySem.Spec PyProof.Rows L2 GAl GxR HkN
/-! ### a row of a table while it is lessened -/
abbrev TF := List Int → Int → Option Int
abbrev SF := List Int → Int → Option (List CK)
/-- what a step is while its row is lessened -/
def StP (rs : List R4) (T : TF) (rank : Int → Nat) (s : List Int) (v : Int) (kids : List CK) : Prop :=
  (kids = [] ∧ s = [v]) ∨ (∃ r ∈ rs, r.s = v ∧ kids = [(s, r.e)] ∧ ∃ x y, T s v = some x ∧ T s r.e = some y ∧ y + r.c ≤ x ∧ (y < x ∨ rank r.e < rank v)) ∨
  (∃ a b, (a, b) ∈ partsF s ∧ kids = [(a, v), (b, v)] ∧ ∃ x y, T a v = some x ∧ T b v = some y ∧ T s v = some (x + y))
structure RowP (rs : List R4) (n : Int) (T : TF) (S : SF) (rank : Int → Nat) (s : List Int) : Prop where
  nn : ∀ v x, 0 ≤ v → v < n → T s v = some x → 0 ≤ x
  so : ∀ v, 0 ≤ v → v < n → (T s v).isSome = (S s v).isSome
  home : ∀ v, s = [v] → T s v = some 0
  st : ∀ v kids, 0 ≤ v → v < n → S s v = some kids → StP rs T rank s v kids
theorem ltO_some {x : Int} {o : Option Int} (h : ltO (some x) o = true) : ∀ y, o = some y → x < y := fun y e => by
  subst e
  exact of_decide_eq_true h
theorem ltO_mono {z o : Option Int} {x : Int} (h : ltO z o = false) (hl : ltO (some x) o = true) : ltO z (some x) = false := by
  cases z with
  | none => rfl
  | some z =>
    cases o with
    | none => cases h
    | some y =>
      have h1 : ¬ z < y := of_decide_eq_false h
      have h2 : x < y := of_decide_eq_true hl
      exact decide_eq_false (by omega)
theorem ltO_refl (o : Option Int) : ltO o o = false := by
  cases o with
  | none => rfl
  | some x => exact decide_eq_false (Int.lt_irrefl x)
theorem sset_same {S : SF} {s : List Int} {v : Int} {x : List CK} : sset S s v x s v = some x := if_pos ⟨rfl, rfl⟩
theorem sset_ne {S : SF} {s s' : List Int} {v v' : Int} {x : List CK} (h : ¬ (s' = s ∧ v' = v)) : sset S s v x s' v' = S s' v' := if_neg h
section
variable {rs : List R4} {n : Int} {T : TF} {S : SF} {rank : Int → Nat} {s : List Int}
theorem partsF_one {v : Int} : partsF [v] = [] := rfl
/-- lessened along a road -/
theorem RowP.road (h : RowP rs n T S rank s) (hg : Good n rs) {r : R4} (hr : r ∈ rs) {y : Int} (hy : T s r.e = some y) (hl : ltO (some (y + r.c)) (T s r.s) = true) :
    ∃ rank', RowP rs n (tset T s r.s (some (y + r.c))) (sset S s r.s [(s, r.e)]) rank' s := by
  have ok := hg.ok r hr
  have y0 := h.nn r.e y ok.e0 ok.e1 hy
  have hnh : ∀ v, s = [v] → v ≠ r.s := fun v e z => by
    have := h.home v e
    rw [z] at this
    rw [this] at hl
    have := of_decide_eq_true hl
    have := ok.c0
    omega
  have ne : r.e ≠ r.s := fun z => ok.ne z.symm
  refine ⟨fun u => if u = r.s then rank r.e + 1 else rank u, fun v x v0 vn e => ?_, fun v v0 vn => ?_, fun v e => ?_, fun v kids v0 vn e => ?_⟩
  · by_cases hv : v = r.s
    · subst hv
      rw [tset_same] at e
      cases e
      have := ok.c0
      omega
    · rw [tset_ne (fun z => hv z.2)] at e
      exact h.nn v x v0 vn e
  · by_cases hv : v = r.s
    · subst hv
      rw [tset_same, sset_same]; rfl
    · rw [tset_ne (fun z => hv z.2), sset_ne (fun z => hv z.2)]
      exact h.so v v0 vn
  · rw [tset_ne (fun z => hnh v e z.2)]
    exact h.home v e
  · by_cases hv : v = r.s
    · subst hv
      rw [sset_same] at e
      cases e
      refine .inr (.inl ⟨r, hr, rfl, rfl, y + r.c, y, tset_same, by rw [tset_ne (fun z => ne z.2)]; exact hy, Int.le_refl _, .inr ?_⟩)
      show (if r.e = r.s then rank r.e + 1 else rank r.e) < (if r.s = r.s then rank r.e + 1 else rank r.s)
      rw [if_neg ne, if_pos rfl]
      omega
    · rw [sset_ne (fun z => hv z.2)] at e
      rcases h.st v kids v0 vn e with h1 | ⟨q, hq, e1, e2, x, z, g1, g2, g3, g4⟩ | ⟨a, b, hp, e1, x, z, g1, g2, g3⟩
      · exact .inl h1
      · refine .inr (.inl ⟨q, hq, e1, e2, x, ?_⟩)
        by_cases hu : q.e = r.s
        · have hlt := ltO_some hl z (by rw [← hu]; exact g2)
          refine ⟨y + r.c, by rw [tset_ne (fun w => hv w.2)]; exact g1, by rw [hu]; exact tset_same, by omega, .inl ?_⟩
          have := (hg.ok q hq).c0
          omega
        · refine ⟨z, by rw [tset_ne (fun w => hv w.2)]; exact g1, by rw [tset_ne (fun w => hu w.2)]; exact g2, g3, ?_⟩
          show z < x ∨ (if q.e = r.s then rank r.e + 1 else rank q.e) < (if v = r.s then rank r.e + 1 else rank v)
          rw [if_neg hu, if_neg hv]
          exact g4
      · refine .inr (.inr ⟨a, b, hp, e1, x, z, ?_, ?_, by rw [tset_ne (fun w => hv w.2)]; exact g3⟩)
        · rw [tset_ne (fun w => hv w.2)]; exact g1
        · rw [tset_ne (fun w => hv w.2)]; exact g2
/-- lessened by two parts -/
theorem RowP.join (h : RowP rs n T S rank s) (hg : Good n rs) (hs : s.Nodup) {a b : List Int} (hp : (a, b) ∈ partsF s) {p x y : Int} (hx : T a p = some x) (hy : T b p = some y) (x0 : 0 ≤ x) (y0 : 0 ≤ y) (hl : ltO (some (x + y)) (T s p) = true) :
    RowP rs n (tset T s p (some (x + y))) (sset S s p [(a, p), (b, p)]) rank s := by
  obtain ⟨_, _, _, _, na, nb⟩ := partsF_mem hs hp
  have hnh : ∀ v, s ≠ [v] := fun v e => by rw [e, partsF_one] at hp; cases hp
  refine ⟨fun v z v0 vn e => ?_, fun v v0 vn => ?_, fun v e => absurd e (hnh v), fun v kids v0 vn e => ?_⟩
  · by_cases hv : v = p
    · subst hv
      rw [tset_same] at e
      cases e
      omega
    · rw [tset_ne (fun z => hv z.2)] at e
      exact h.nn v z v0 vn e
  · by_cases hv : v = p
    · subst hv
      rw [tset_same, sset_same]; rfl
    · rw [tset_ne (fun z => hv z.2), sset_ne (fun z => hv z.2)]
      exact h.so v v0 vn
  · by_cases hv : v = p
    · subst hv
      rw [sset_same] at e
      cases e
      exact .inr (.inr ⟨a, b, hp, rfl, x, y, by rw [tset_ne (fun z => na z.1)]; exact hx, by rw [tset_ne (fun z => nb z.1)]; exact hy, tset_same⟩)
    · rw [sset_ne (fun z => hv z.2)] at e
      rcases h.st v kids v0 vn e with h1 | ⟨q, hq, e1, e2, u, z, g1, g2, g3, g4⟩ | ⟨a', b', hp', e1, u, z, g1, g2, g3⟩
      · exact .inl h1
      · refine .inr (.inl ⟨q, hq, e1, e2, u, ?_⟩)
        by_cases hu : q.e = p
        · have hlt := ltO_some hl z (by rw [← hu]; exact g2)
          refine ⟨x + y, by rw [tset_ne (fun w => hv w.2)]; exact g1, by rw [hu]; exact tset_same, by omega, .inl ?_⟩
          have := (hg.ok q hq).c0
          omega
        · exact ⟨z, by rw [tset_ne (fun w => hv w.2)]; exact g1, by rw [tset_ne (fun w => hu w.2)]; exact g2, g3, g4⟩
      · refine .inr (.inr ⟨a', b', hp', e1, u, z, ?_, ?_, by rw [tset_ne (fun w => hv w.2)]; exact g3⟩)
        · rw [tset_ne (fun w => hv w.2)]; exact g1
        · rw [tset_ne (fun w => hv w.2)]; exact g2
end
/-- a row that is done -/
structure RowOK (rs : List R4) (n : Int) (T : TF) (S : SF) (s : List Int) : Prop where
  nn : ∀ v x, 0 ≤ v → v < n → T s v = some x → 0 ≤ x
  so : ∀ v, 0 ≤ v → v < n → (T s v).isSome = (S s v).isSome
  home : ∀ v, s = [v] → T s v = some 0
  road : ∀ r ∈ rs, ltO (addO (T s r.e) (some r.c)) (T s r.s) = false
  join : ∀ a b, (a, b) ∈ partsF s → ∀ v, 0 ≤ v → v < n → ltO (addO (T a v) (T b v)) (T s v) = false
  st : ∃ rank : Int → Nat, ∀ v kids, 0 ≤ v → v < n → S s v = some kids →
    (kids = [] ∧ s = [v]) ∨ (∃ r ∈ rs, r.s = v ∧ kids = [(s, r.e)] ∧ ∃ y, T s v = some (y + r.c) ∧ T s r.e = some y ∧ (0 < r.c ∨ rank r.e < rank v)) ∨
    (∃ a b, (a, b) ∈ partsF s ∧ kids = [(a, v), (b, v)] ∧ ∃ x y, T a v = some x ∧ T b v = some y ∧ T s v = some (x + y))
theorem RowP.done {rs : List R4} {n : Int} {T : TF} {S : SF} {rank : Int → Nat} {s : List Int} (h : RowP rs n T S rank s) (hr : ∀ r ∈ rs, ltO (addO (T s r.e) (some r.c)) (T s r.s) = false)
    (hj : ∀ a b, (a, b) ∈ partsF s → ∀ v, 0 ≤ v → v < n → ltO (addO (T a v) (T b v)) (T s v) = false) : RowOK rs n T S s := by
  refine ⟨h.nn, h.so, h.home, hr, hj, rank, fun v kids v0 vn e => ?_⟩
  rcases h.st v kids v0 vn e with h1 | ⟨q, hq, e1, e2, u, z, g1, g2, g3, g4⟩ | h3
  · exact .inl h1
  · have := hr q hq
    rw [g2, e1, g1] at this
    have := of_decide_eq_false this
    have eu : u = z + q.c := by omega
    subst eu
    refine .inr (.inl ⟨q, hq, e1, e2, z, g1, g2, ?_⟩)
    rcases g4 with g4 | g4
    · exact .inl (by omega)
    · exact .inr g4
  · exact .inr (.inr h3)
/-- rows that don't change stay done -/
theorem RowOK.keep {rs : List R4} {n : Int} {T T' : TF} {S S' : SF} {s : List Int} (h : RowOK rs n T S s) (e0 : T' s = T s) (eS : S' s = S s) (ep : ∀ a b, (a, b) ∈ partsF s → T' a = T a ∧ T' b = T b) : RowOK rs n T' S' s := by
  obtain ⟨h1, h2, h3, h4, h5, rank, h6⟩ := h
  refine ⟨by rw [e0]; exact h1, by rw [e0, eS]; exact h2, by rw [e0]; exact h3, by rw [e0]; exact h4, fun a b hp => by rw [(ep a b hp).1, (ep a b hp).2, e0]; exact h5 a b hp, rank, fun v kids v0 vn e => ?_⟩
  rw [eS] at e
  rcases h6 v kids v0 vn e with g | ⟨r, g1, g2, g3, y, g4⟩ | ⟨a, b, g1, g2, x, y, g3⟩
  · exact .inl g
  · exact .inr (.inl ⟨r, g1, g2, g3, y, by rw [e0]; exact g4⟩)
  · exact .inr (.inr ⟨a, b, g1, g2, x, y, by rw [(ep a b g1).1, (ep a b g1).2, e0]; exact g3⟩)
end HK

set_option Elab.async false
set_option linter.all false
set_option maxRecDepth 100000
set_option maxHeartbeats 8000000
namespace HK
open PySem PySem.Spec PyProof.Rows L2 GAl GxR HkN
open Evl (pss_cut)
/-! ### a row is lessened -/
abbrev sJoin : Stmt := topS 35
abbrev N_scJoin : List Str := ["net", "table", "steps", "some", "one", "other", "place", "number"]
theorem scJoin : FnScope N_scJoin ["net", "table", "steps", "some"] (defScope sJoin) := ⟨rfl, rfl, rfl, by decide +kernel, rfl, by decide +kernel, by decide +kernel⟩
abbrev FW (dt ds : Addr) : Addr → Prop := fun b => b = dt ∨ b = ds
structure WK (P : Program) (w : World) (K : PySem.W.Frag) (H : Hp) (dt ds : Addr) (ks all : List CK) (T : TF) (S : SF) : Prop where
  t : TbAt P w K H dt ks T
  s : StAt P w K H ds all S
  ne : dt ≠ ds
section
variable {P : Program} {w : World} {K : PySem.W.Frag} {H : Hp} {dt ds : Addr} {ks all : List CK} {T : TF} {S : SF} {s : List Int} {v : Int} {a b : Addr}
theorem WK.lst (h : WK P w K H dt ds ks all T S) : ∀ l xs, H l = some (.lst xs) → ¬ FW dt ds l := fun l xs e z => by
  rcases z with rfl | rfl
  · obtain ⟨kvs, h1, _⟩ := h.t
    rw [h1] at e; cases e
  · obtain ⟨kvs, h1, _⟩ := h.s
    rw [h1] at e; cases e
theorem WK.k0 (h : WK P w K H dt ds ks all T S) {H' : Hp} (k : K0 H H') : WK P w K H' dt ds ks all T S := ⟨h.t.k0 k, h.s.k0 k, h.ne⟩
theorem WK.get (h : WK P w K H dt ds ks all T S) (hk : (s, v) ∈ ks) (h1 : SqT K H b [.ref a, .int v]) (h2 : SqT K H a (iV s)) : DGetN P w K H dt (.ref b) (some (nV (T s v))) := h.t.get hk h1 h2
theorem WK.putT (h : WK P w K H dt ds ks all T S) (hl : ks.length ≤ 5000) (h1 : SqT K H b [.ref a, .int v]) (h2 : SqT K H a (iV s)) (x : Option Int) : ∃ H', DPutN P w K H dt (.ref b) (nV x) H' ∧ WK P w K H' dt ds (if (s, v) ∈ ks then ks else ks ++ [(s, v)]) all (tset T s v x) S ∧ KX (FW dt ds) H H' := by
  obtain ⟨H', d1, d2, d3, _⟩ := h.t.put hl h1 h2 x
  have kx := d3 (fun c => c = dt) rfl
  exact ⟨H', d1, ⟨d2, h.s.kx kx (fun z => h.ne z.symm) fun l xs e z => h.lst l xs e (.inl z), h.ne⟩, d3 _ (.inl rfl)⟩
theorem WK.putS (h : WK P w K H dt ds ks all T S) (hl : all.length ≤ 5000) (hk : (s, v) ∈ all) (h1 : SqT K H b [.ref a, .int v]) (h2 : SqT K H a (iV s)) {x : V} {kids : List CK} (hx : KidsAt K H x kids) : ∃ H', DPutN P w K H ds (.ref b) x H' ∧ WK P w K H' dt ds ks all T (sset S s v kids) ∧ KX (FW dt ds) H H' := by
  obtain ⟨H', d1, d2, d3, _⟩ := h.s.put hl hk h1 h2 hx
  have kx := d3 (fun c => c = ds) rfl
  exact ⟨H', d1, ⟨h.t.kx kx h.ne, d2, h.ne⟩, d3 _ (.inr rfl)⟩
end
theorem KX.netAt {K : PySem.W.Frag} {F : Addr → Prop} {H H' : Hp} {a : Addr} {n : Int} {rs : List R4} (k : KX F H H') (h : NetAt K H a n rs) : NetAt K H' a n rs := by
  obtain ⟨r, xs, o, h1, h2, hc, hd, h3⟩ := h
  refine ⟨r, xs, o, k.sqT h1, k.sqT h2, hc, hd, ?_⟩
  clear h1 h2
  unfold Roads at h3 ⊢
  induction rs generalizing xs with
  | nil => cases h3; exact .nil
  | cons r rs ih =>
    cases h3 with
    | cons a b =>
      refine .cons ?_ (ih _ b)
      obtain ⟨q, rfl, h⟩ := dp_r4 (r := r) a
      exact r4_dp (r := r) (k.sqT h)
theorem KX.prows {K : PySem.W.Frag} {F : Addr → Prop} {H H' : Hp} {ps : List Addr} {qs : List (List Int × List Int)} (k : KX F H H') (h : PRows K H ps qs) : PRows K H' ps qs := h.mono fun _ _ => k.sqT
/-- rows other than s are as they were -/
def Oth (s : List Int) (T T' : TF) (S S' : SF) : Prop := ∀ s', s' ≠ s → T' s' = T s' ∧ S' s' = S s'
theorem Oth.refl (s : List Int) (T : TF) (S : SF) : Oth s T T S S := fun _ _ => ⟨rfl, rfl⟩
theorem Oth.set {s : List Int} {T T' : TF} {S S' : SF} (h : Oth s T T' S S') {v : Int} {x : Option Int} {k : List CK} : Oth s T (tset T' s v x) S (sset S' s v k) := fun s' e => by
  obtain ⟨h1, h2⟩ := h s' e
  refine ⟨?_, ?_⟩
  · rw [← h1]; funext u; exact tset_ne fun z => e z.1
  · rw [← h2]; funext u; exact sset_ne fun z => e z.1
/-- the keys of a row -/
def RowK (ks : List CK) (n : Int) (s : List Int) : Prop := ∀ v, 0 ≤ v → v < n → (s, v) ∈ ks
section
variable {P : Program} {w : World} {K : PySem.W.Frag} {mg : Str → Option Value} {base : Heap}
theorem few_szG {k : Nat} (h : k ≤ 1000) : k ≤ sizeLine := Nat.le_trans h (by decide)
def spJoin (P : Program) (w : World) (K : PySem.W.Frag) (Pp : Addr) : Sp := fun vs H Q _ => ∃ (a p dt ds : Addr) (n : Int) (rs : List R4) (s : List Int) (ks all : List CK) (T : TF) (S : SF) (rank : Int → Nat), vs = [.ref a, .ref dt, .ref ds, .ref p] ∧ NetAt K H a n rs ∧ Good n rs ∧ SqT K H p (iV s) ∧ s.Nodup ∧ s.length ≤ 12 ∧ TabG H Pp ∧
  WK P w K H dt ds ks all T S ∧ ks.length ≤ 5000 ∧ all.length ≤ 5000 ∧ RowK ks n s ∧ RowK all n s ∧ (∀ a b, (a, b) ∈ partsF s → (RowK ks n a ∧ RowK ks n b) ∧ ∀ v x, 0 ≤ v → v < n → (T a v = some x → 0 ≤ x) ∧ (T b v = some x → 0 ≤ x)) ∧ RowP rs n T S rank s ∧
  ∀ (H' : Hp) (T' : TF) (S' : SF), KX (FW dt ds) H H' → WK P w K H' dt ds ks all T' S' → Oth s T T' S S' → RowP rs n T' S' rank s → (∀ a b, (a, b) ∈ partsF s → ∀ v, 0 ≤ v → v < n → ltO (addO (T' a v) (T' b v)) (T' s v) = false) → Q .non H'
theorem ok_join {f Pp : Addr} {fd : FuncData} {f_parts f_together f_isless : Addr} {fd_parts fd_together fd_isless : FuncData} (F : Fun K "join_parts" "join_parts" sJoin f fd) (k_parts : PySem.W.keepIn K (.ref f_parts) = true) (b_parts : Binds K fd_parts ["some"] []) (g_parts : mg "partings" = some (.ref f_parts)) (G_parts : FnOk P w K mg base CX0 2 f_parts fd_parts ["some"] (spParts K Pp))
    (k_together : PySem.W.keepIn K (.ref f_together) = true) (b_together : Binds K fd_together ["one", "other"] []) (g_together : mg "together" = some (.ref f_together)) (G_together : FnOk P w K mg base CX0 1 f_together fd_together ["one", "other"] (spTogether))
    (k_isless : PySem.W.keepIn K (.ref f_isless) = true) (b_isless : Binds K fd_isless ["one", "other"] []) (g_isless : mg "is_less" = some (.ref f_isless)) (G_isless : FnOk P w K mg base CX0 1 f_isless fd_isless ["one", "other"] (spIsLess)) (m_range : mg "range" = none) : FnOk P w K mg base CX0 3 f fd ["net", "table", "steps", "some"] (spJoin P w K Pp) := by
  refine F.ok scJoin (fun vs H Q E h => ?_) (fun cdv A outer st H vs Q E hr h => ?_)
  · obtain ⟨a, p, dt, ds, n, rs, s, ks, all, T, S, rank, rfl, _⟩ := h
    rfl
  · obtain ⟨a, p, dt, ds, n, rs, s, ks, all, T, S, rank, rfl, hN, hg, hp, hs, hsl, tp, hW, hk5, ha5, hks, hal, hpt, hrow, q⟩ := h
    have hu := hu_of hr
    refine ⟨_, (pss_one (ps_for PassesOwn.never rfl (pi_list (pe_call G_parts (hr.mono (by decide)) (by rfl) g_parts k_parts b_parts .nil pass0 (pa_cons (pv 3) pa_nil))) (pg_tup rfl (pgs_cons (pg_name (i := 4) scJoin.nd rfl (.inl rfl)) (pgs_cons (pg_name (i := 5) scJoin.nd rfl (.inl rfl)) pgs_nil)))
      (pss_one (ps_for PassesOwn.never rfl (pi_range1 (by rfl) m_range (pa_cons (pe_ix ix_tup (pv 0) pe_int (fun _ _ => rfl)) pa_nil)) (pg_name (i := 6) scJoin.nd rfl (.inl rfl))
      (pss_cut (ps_set (i := 7) scJoin.nd rfl (.inl rfl) (pe_call G_together (hr.mono (by decide)) (by rfl) g_together k_together b_together .nil pass0 (pa_cons (HkN.pe_dgetN (HkN.room_u9 hr) (pv 1) (pe_tup (pa_cons (pv 4) (pa_cons (pv 6) pa_nil))) (fun _ _ => rfl)) (pa_cons (HkN.pe_dgetN (HkN.room_u9 hr) (pv 1) (pe_tup (pa_cons (pv 5) (pa_cons (pv 6) pa_nil))) (fun _ _ => rfl)) pa_nil))))
      (pss_one (ps_if (pt_val (pe_call G_isless (hr.mono (by decide)) (by rfl) g_isless k_isless b_isless .nil pass0 (pa_cons (pv 7) (pa_cons (HkN.pe_dgetN (HkN.room_u9 hr) (pv 1) (pe_tup (pa_cons (pv 3) (pa_cons (pv 6) pa_nil))) (fun _ _ => rfl)) pa_nil)))) (pss_cons (HkN.ps_dputN (HkN.room_u9 hr) (pv 1) (pe_tup (pa_cons (pv 3) (pa_cons (pv 6) pa_nil))) (pv 7) rfl)
      (pss_one (HkN.ps_dputN (HkN.room_u9 hr) (pv 2) (pe_tup (pa_cons (pv 3) (pa_cons (pv 6) pa_nil))) (pe_lst (pa_cons (pe_tup (pa_cons (pv 4) (pa_cons (pv 6) pa_nil))) (pa_cons (pe_tup (pa_cons (pv 5) (pa_cons (pv 6) pa_nil))) pa_nil))) rfl))) pss_nil))))))), ?_⟩
    refine ⟨_, rfl, p, s, rfl, hp, hsl, tp, fun L ps H1 k1 nL hL hP => ?_⟩
    have kx1 : KX (FW dt ds) H H1 := k1.kx
    have hW1 := hW.k0 k1
    have hfew : (partsF s).length ≤ 4096 := by
      unfold partsF
      rw [List.length_map]
      have h1 := compsN_len (s.drop 1)
      have h2 : (s.drop 1).length ≤ 12 := by rw [List.length_drop]; omega
      have := Nat.pow_le_pow_right (n := 2) (by decide) h2
      have e : (2 : Nat) ^ 12 = 4096 := by decide
      omega
    refine ⟨L, rfl, ⟨_, .inl (.inl hL)⟩, for_list (K := K) (a := L) (xs := ps.map V.ref) (fun j σ' G => ∃ (y4 y5 y6 y7 : Option V) (T' : TF) (S' : SF), σ' = [some (.ref a), some (.ref dt), some (.ref ds), some (.ref p), y4, y5, y6, y7] ∧ KX (FW dt ds) H1 G ∧ WK P w K G dt ds ks all T' S' ∧ Oth s T T' S S' ∧ RowP rs n T' S' rank s ∧ (∀ q ∈ (partsF s).take j, ∀ v, 0 ≤ v → v < n → ltO (addO (T' q.1 v) (T' q.2 v)) (T' s v) = false))
      ⟨none, none, none, none, T, S, rfl, KX.refl _ _, hW1, Oth.refl _ _ _, hrow, fun q hq => by rw [List.take_zero] at hq; cases hq⟩ (fun j σ' G _ h => ?_) (fun j z σ' G hz h => ?_) (fun σ' G h => ?_)⟩
    · obtain ⟨_, _, _, _, T', S', _, kx, _⟩ := h
      exact .inl (.inl (kx.oth _ _ hL (hW1.lst _ _ hL) (fun _ z => by cases z)))
    · obtain ⟨y4, y5, y6, y7, T', S', rfl, kx, hW', hO, hR', hJ⟩ := h
      rw [List.getElem?_map] at hz
      obtain ⟨pr, hpr, rfl⟩ := Option.map_eq_some_iff.mp hz
      have hj := (List.getElem?_eq_some_iff.mp hpr).1
      obtain ⟨⟨one, oth⟩, hqq⟩ : ∃ qq, (partsF s)[j]? = some qq := ⟨_, List.getElem?_eq_getElem (by rw [← hP.1]; exact hj)⟩
      obtain ⟨qa, qb, s1, s2, s3⟩ := hP.2 j pr _ hpr hqq
      have hmem := List.mem_of_getElem? hqq
      obtain ⟨_, _, _, _, na, nb⟩ := partsF_mem hs hmem
      obtain ⟨⟨ka, kb⟩, hnn⟩ := hpt one oth hmem
      refine ⟨pr, _, rfl, kx.sqT s1, rfl, _, _, rfl, _, _, rfl, rfl, ?_⟩
      have hN' := (kx1.trans kx).netAt hN
      obtain ⟨ra, xs, o, hn1, hn2, hc, hd, hrd⟩ := id hN'
      obtain ⟨nn, rfl⟩ := Int.eq_ofNat_of_zero_le (show 0 ≤ n by have := hg.n1; omega)
      refine ⟨_, rfl, a, _, 0, .int (nn : Int), rfl, rfl, hn1, atI_nat (j := 0) rfl, _, rfl, ?_⟩
      have n12 : (nn : Int) ≤ 12 := hg.n2
      refine ⟨by omega, by omega, for_range (lo := 0) (n := nn) (fun i σ' G' => ∃ (y6 y7 : Option V) (T2 : TF) (S2 : SF), σ' = [some (.ref a), some (.ref dt), some (.ref ds), some (.ref p), some (.ref qa), some (.ref qb), y6, y7] ∧ KX (FW dt ds) H1 G' ∧ WK P w K G' dt ds ks all T2 S2 ∧ Oth s T T2 S S2 ∧ RowP rs nn T2 S2 rank s ∧ (∀ q ∈ (partsF s).take j, ∀ v, 0 ≤ v → v < (nn : Int) → ltO (addO (T2 q.1 v) (T2 q.2 v)) (T2 s v) = false) ∧ (∀ v : Int, 0 ≤ v → v < i → ltO (addO (T2 one v) (T2 oth v)) (T2 s v) = false))
        ⟨y6, y7, T', S', rfl, kx, hW', hO, hR', hJ, fun v v0 v1 => by omega⟩ (fun i σ' G' hi h => ?_) (fun σ' G' h => ?_)⟩
      · obtain ⟨y6, y7, T2, S2, rfl, kx2, hW2, hO2, hR2, hJ2, hI2⟩ := h
        rw [Int.zero_add (i : Int)]
        have i0 : (0 : Int) ≤ (i : Int) := Int.natCast_nonneg i
        have i1 : (i : Int) < (nn : Int) := Int.ofNat_lt.mpr hi
        have eone : T2 one = T one := (hO2 one na).1
        have eoth : T2 oth = T oth := (hO2 oth nb).1
        -- the sum
        refine ⟨fun σ' G3 => σ' = [some (.ref a), some (.ref dt), some (.ref ds), some (.ref p), some (.ref qa), some (.ref qb), some (.int (i : Int)), some (nV (addO (T2 one i) (T2 oth i)))] ∧ K0 G' G3, ?_, ?_⟩
        · refine ⟨_, rfl, _, rfl, _, rfl, few_szG (show 2 ≤ 1000 by decide), fun b1 m1 => ?_⟩
          have g1 := K0.new m1 (o := .tup [.ref qa, .int (i : Int)])
          have c1 : SqT K (upd G' b1 (.tup [.ref qa, .int (i : Int)])) b1 [.ref qa, .int (i : Int)] := .inl (.inl upd_same)
          generalize upd G' b1 (.tup [.ref qa, .int (i : Int)]) = J1 at g1 c1 ⊢
          refine ⟨dt, _, rfl, (hW2.k0 g1).get (ka i i0 i1) c1 (g1.sqT (kx2.sqT s2)), ?_⟩
          refine ⟨_, rfl, _, rfl, _, rfl, few_szG (show 2 ≤ 1000 by decide), fun b2 m2 => ?_⟩
          have g2 := K0.new m2 (o := .tup [.ref qb, .int (i : Int)])
          have c2 : SqT K (upd J1 b2 (.tup [.ref qb, .int (i : Int)])) b2 [.ref qb, .int (i : Int)] := .inl (.inl upd_same)
          generalize upd J1 b2 (.tup [.ref qb, .int (i : Int)]) = J2 at g2 c2 ⊢
          have g12 := g1.trans g2
          exact ⟨dt, _, rfl, (hW2.k0 g12).get (kb i i0 i1) c2 (g12.sqT (kx2.sqT s3)), _, _, rfl, rfl, g12⟩
        rintro σ' G3 ⟨rfl, k3⟩
        have hW3 := hW2.k0 k3
        have hp3 := k3.sqT (kx2.sqT (kx1.sqT hp))
        refine ⟨_, rfl, _, rfl, _, rfl, _, rfl, few_szG (show 2 ≤ 1000 by decide), fun b3 m3 => ?_⟩
        have g3 := K0.new m3 (o := .tup [.ref p, .int (i : Int)])
        have c3 : SqT K (upd G3 b3 (.tup [.ref p, .int (i : Int)])) b3 [.ref p, .int (i : Int)] := .inl (.inl upd_same)
        generalize upd G3 b3 (.tup [.ref p, .int (i : Int)]) = J3 at g3 c3 ⊢
        have hW4 := hW3.k0 g3
        refine ⟨dt, _, rfl, hW4.get (hks i i0 i1) c3 (g3.sqT hp3), _, _, rfl, _, rfl, ?_⟩
        have kxJ := kx2.trans ((k3.trans g3).kx)
        cases hb : ltO (addO (T2 one i) (T2 oth i)) (T2 s i) with
        | false =>
          refine iteF ⟨_, _, T2, S2, rfl, kxJ, hW4, hO2, hR2, hJ2, fun v v0 v1 => ?_⟩
          by_cases e : v = i
          · subst e; exact hb
          · exact hI2 v v0 (by omega)
        | true =>
          refine iteT ?_
          obtain ⟨x, ex⟩ : ∃ x, T2 one i = some x := by
            cases e : T2 one i with
            | some x => exact ⟨x, rfl⟩
            | none => rw [e] at hb; cases hb
          obtain ⟨y, ey⟩ : ∃ y, T2 oth i = some y := by
            cases e : T2 oth i with
            | some x => exact ⟨x, rfl⟩
            | none => rw [e, ex] at hb; cases hb
          have esum : addO (T2 one i) (T2 oth i) = some (x + y) := by rw [ex, ey]; rfl
          rw [esum] at hb ⊢
          have x0 := ((hnn i x i0 i1).1 (by rw [← eone]; exact ex))
          have y0 := ((hnn i y i0 i1).2 (by rw [← eoth]; exact ey))
          -- the number is written
          refine ⟨_, rfl, _, rfl, _, rfl, _, rfl, few_szG (show 2 ≤ 1000 by decide), fun b4 m4 => ?_⟩
          have g4 := K0.new m4 (o := .tup [.ref p, .int (i : Int)])
          have c4 : SqT K (upd J3 b4 (.tup [.ref p, .int (i : Int)])) b4 [.ref p, .int (i : Int)] := .inl (.inl upd_same)
          generalize upd J3 b4 (.tup [.ref p, .int (i : Int)]) = J4 at g4 c4 ⊢
          have hp4 := (g3.trans g4).sqT hp3
          obtain ⟨J5, dp, hW5, kx5⟩ := (hW4.k0 g4).putT hk5 c4 hp4 (some (x + y))
          rw [if_pos (hks i i0 i1)] at hW5
          refine ⟨dt, J5, rfl, dp, ?_⟩
          -- and how it comes about
          have sA := kx5.sqT ((k3.trans (g3.trans g4)).sqT (kx2.sqT s2))
          have sB := kx5.sqT ((k3.trans (g3.trans g4)).sqT (kx2.sqT s3))
          refine ⟨_, rfl, _, rfl, few_szG (show 2 ≤ 1000 by decide), fun b5 m5 => ⟨_, rfl, _, rfl, few_szG (show 2 ≤ 1000 by decide), fun b6 m6 => ⟨few_szG (show 2 ≤ 1000 by decide), fun l ml => ?_⟩⟩⟩
          have g5 := K0.new m5 (o := .tup [.ref qa, .int (i : Int)])
          have c5 : SqT K (upd J5 b5 (.tup [.ref qa, .int (i : Int)])) b5 [.ref qa, .int (i : Int)] := .inl (.inl upd_same)
          generalize upd J5 b5 (.tup [.ref qa, .int (i : Int)]) = J6 at g5 c5 m6 ml ⊢
          have g6 := K0.new m6 (o := .tup [.ref qb, .int (i : Int)])
          have c6 : SqT K (upd J6 b6 (.tup [.ref qb, .int (i : Int)])) b6 [.ref qb, .int (i : Int)] := .inl (.inl upd_same)
          generalize upd J6 b6 (.tup [.ref qb, .int (i : Int)]) = J7 at g6 c6 ml ⊢
          have g7 := K0.new ml (o := .lst [.ref b5, .ref b6])
          have c7 : (upd J7 l (.lst [.ref b5, .ref b6])) l = some (.lst (([b5, b6] : List Addr).map V.ref)) := upd_same
          generalize upd J7 l (.lst [.ref b5, .ref b6]) = J8 at g7 c7 ⊢
          have g58 := g5.trans (g6.trans g7)
          have hkids : KidsAt K J8 (.ref l) [(one, (i : Int)), (oth, (i : Int))] := ⟨l, [b5, b6], rfl, c7, rfl, fun u b k e1 e2 => by
            cases u with
            | zero => cases e1; cases e2; exact ⟨qa, (g6.trans g7).sqT c5, g58.sqT sA⟩
            | succ u => cases u with
              | zero => cases e1; cases e2; exact ⟨qb, g7.sqT c6, g58.sqT sB⟩
              | succ u => cases e1⟩
          refine ⟨_, rfl, _, rfl, _, rfl, few_szG (show 2 ≤ 1000 by decide), fun b9 m9 => ?_⟩
          have g9 := K0.new m9 (o := .tup [.ref p, .int (i : Int)])
          have c9 : SqT K (upd J8 b9 (.tup [.ref p, .int (i : Int)])) b9 [.ref p, .int (i : Int)] := .inl (.inl upd_same)
          generalize upd J8 b9 (.tup [.ref p, .int (i : Int)]) = J9 at g9 c9 ⊢
          have hW9 := hW5.k0 (g58.trans g9)
          obtain ⟨J10, dp2, hW10, kx10⟩ := hW9.putS ha5 (hal i i0 i1) c9 ((g58.trans g9).sqT (kx5.sqT hp4)) (hkids.kx (g9.kx (F := fun _ => False)) fun _ _ _ => id)
          refine ⟨ds, J10, rfl, dp2, ?_⟩
          have hR10 := hR2.join hg hs hmem ex ey x0 y0 hb
          have ne1 : tset T2 s i (some (x + y)) one = T2 one := by
            funext u; exact tset_ne fun z => na z.1
          have ne2 : tset T2 s i (some (x + y)) oth = T2 oth := by
            funext u; exact tset_ne fun z => nb z.1
          have mono : ∀ (z : Option Int) (v : Int), ltO z (T2 s v) = false → ltO z (tset T2 s i (some (x + y)) s v) = false := fun z v hz => by
            by_cases e : v = i
            · subst e
              rw [tset_same]
              exact ltO_mono hz hb
            · rw [tset_ne (fun w => e w.2)]; exact hz
          refine ⟨_, _, _, _, rfl, kxJ.trans (g4.kx.trans (kx5.trans ((g58.trans g9).kx.trans kx10))), hW10, hO2.set, hR10, fun q hq v v0 v1 => ?_, fun v v0 v1 => ?_⟩
          · obtain ⟨_, _, _, _, na', nb'⟩ := partsF_mem hs (List.mem_of_mem_take hq)
            have e1 : tset T2 s i (some (x + y)) q.1 = T2 q.1 := by funext u; exact tset_ne fun z => na' z.1
            have e2 : tset T2 s i (some (x + y)) q.2 = T2 q.2 := by funext u; exact tset_ne fun z => nb' z.1
            rw [e1, e2]
            exact mono _ v (hJ2 q hq v v0 v1)
          · rw [ne1, ne2]
            by_cases e : v = i
            · subst e
              rw [tset_same, esum]
              exact ltO_refl _
            · exact mono _ v (hI2 v v0 (by omega))
      · obtain ⟨y6, y7, T2, S2, rfl, kx2, hW2, hO2, hR2, hJ2, hI2⟩ := h
        refine ⟨_, _, _, _, T2, S2, rfl, kx2, hW2, hO2, hR2, fun q hq v v0 v1 => ?_⟩
        rw [List.take_add_one, (show (partsF s)[j]? = some (one, oth) from hqq)] at hq
        rcases List.mem_append.mp hq with hq | hq
        · exact hJ2 q hq v v0 v1
        · have : q = (one, oth) := by simpa using hq
          rw [this]
          exact hI2 v v0 v1
    · obtain ⟨y4, y5, y6, y7, T', S', rfl, kx, hW', hO, hR', hJ⟩ := h
      rw [List.length_map, hP.1, List.take_length] at hJ
      exact q G T' S' (kx1.trans kx) hW' hO hR' fun a b hp => hJ (a, b) hp
end
end HK

set_option Elab.async false
set_option linter.all false
set_option maxRecDepth 100000
set_option maxHeartbeats 8000000
namespace HK
open PySem PySem.Spec PyProof.Rows L2 GAl GxR HkN
open Evl (pss_cut)
/-! ### along the roads -/
abbrev sFollow : Stmt := topS 36
abbrev N_scFollow : List Str := ["net", "table", "steps", "some", "lessened", "start", "end", "cost", "late", "number"]
theorem scFollow : FnScope N_scFollow ["net", "table", "steps", "some"] (defScope sFollow) := ⟨rfl, rfl, rfl, by decide +kernel, rfl, by decide +kernel, by decide +kernel⟩
def sumF (f : Nat → Nat) (n : Nat) : Nat := ((List.range n).map f).sum
theorem sumF_succ (f : Nat → Nat) (n : Nat) : sumF f (n + 1) = sumF f n + f n := by
  unfold sumF
  rw [List.range_succ, List.map_append, List.sum_append]
  simp
theorem sumF_congr {f g : Nat → Nat} : ∀ {n : Nat}, (∀ j, j < n → f j = g j) → sumF f n = sumF g n
  | 0, _ => rfl
  | n + 1, h => by rw [sumF_succ, sumF_succ, sumF_congr fun j hj => h j (by omega), h n (by omega)]
theorem sumF_mem {f : Nat → Nat} : ∀ {n i : Nat}, i < n → f i ≤ sumF f n
  | n + 1, i, h => by
    rw [sumF_succ]
    by_cases e : i = n
    · subst e; omega
    · have := sumF_mem (f := f) (n := n) (i := i) (by omega)
      omega
theorem sumF_at {f g : Nat → Nat} : ∀ {n i : Nat}, i < n → (∀ j, j < n → j ≠ i → f j = g j) → sumF f n + g i = sumF g n + f i
  | n + 1, i, h, hj => by
    rw [sumF_succ, sumF_succ]
    by_cases e : i = n
    · subst e
      rw [sumF_congr fun j hj' => hj j (by omega) (by omega)]
      omega
    · have := sumF_at (f := f) (g := g) (n := n) (i := i) (by omega) fun j h1 h2 => hj j (by omega) h2
      have := hj n (by omega) (fun z => e z.symm)
      omega
/-- how many have a number; the sum of the numbers, none counting as B -/
def cntN (T : TF) (s : List Int) (nn : Nat) : Nat := sumF (fun i => if (T s (i : Int)).isSome = true then 1 else 0) nn
def phiN (B : Nat) (T : TF) (s : List Int) (nn : Nat) : Nat := sumF (fun i => match T s (i : Int) with
  | none => B
  | some x => x.toNat) nn
theorem cntN_le (T : TF) (s : List Int) : ∀ nn : Nat, cntN T s nn ≤ nn
  | 0 => Nat.le_refl _
  | n + 1 => by
    unfold cntN
    rw [sumF_succ]
    have : cntN T s n ≤ n := cntN_le T s n
    unfold cntN at this
    split <;> omega
/-- the numbers are no greater than M and 1000 for each that is there -/
def CapN (M : Nat) (T : TF) (s : List Int) (nn : Nat) : Prop := ∀ (i : Nat) (x : Int), i < nn → T s i = some x → 0 ≤ x ∧ x ≤ M + 1000 * cntN T s nn
theorem cap_some (T : TF) (s : List Int) (nn : Nat) (h : ∀ (i : Nat) (x : Int), i < nn → T s i = some x → 0 ≤ x) : ∃ M, CapN M T s nn := by
  refine ⟨phiN 0 T s nn, fun i x hi e => ⟨h i x hi e, ?_⟩⟩
  have := sumF_mem (f := fun i => match T s (i : Int) with
    | none => 0
    | some x => x.toNat) hi
  have e2 : (match T s (i : Int) with
    | none => 0
    | some x => x.toNat) = x.toNat := by rw [e]
  rw [e2] at this
  have h0 := h i x hi e
  unfold phiN
  omega
theorem cap_step {M : Nat} {T : TF} {s : List Int} {nn : Nat} (h : CapN M T s nn) {i j : Nat} (hi : i < nn) (hj : j < nn) {y c : Int} (hy : T s j = some y) (c0 : 0 ≤ c) (c1 : c ≤ 1000) (hl : ltO (some (y + c)) (T s i) = true) :
    CapN M (tset T s i (some (y + c))) s nn ∧ phiN (M + 1000 * nn + 1000 + 1) (tset T s i (some (y + c))) s nn < phiN (M + 1000 * nn + 1000 + 1) T s nn := by
  have hyb := h j y hj hy
  have cl := cntN_le T s nn
  have oth : ∀ k : Nat, k ≠ i → tset T s i (some (y + c)) s k = T s k := fun k hk => tset_ne fun z => hk (Int.ofNat.inj z.2)
  have e1 := sumF_at (f := fun k => if (tset T s i (some (y + c)) s (k : Int)).isSome = true then 1 else 0) (g := fun k => if (T s (k : Int)).isSome = true then 1 else 0) hi fun k _ hk => by
    show (if (tset T s i (some (y + c)) s (k : Int)).isSome = true then 1 else 0) = if (T s (k : Int)).isSome = true then 1 else 0
    rw [oth k hk]
  have e1' : cntN (tset T s i (some (y + c))) s nn + (if (T s (i : Int)).isSome = true then 1 else 0) = cntN T s nn + 1 := by
    have h1 : (if (tset T s i (some (y + c)) s (i : Int)).isSome = true then 1 else 0) = 1 := by rw [tset_same]; rfl
    refine Eq.trans e1 ?_
    show _ + (if (tset T s i (some (y + c)) s (i : Int)).isSome = true then 1 else 0) = _
    rw [h1]
    rfl
  have e2 := sumF_at (f := fun k => match tset T s i (some (y + c)) s (k : Int) with
    | none => M + 1000 * nn + 1000 + 1
    | some x => x.toNat) (g := fun k => match T s (k : Int) with
    | none => M + 1000 * nn + 1000 + 1
    | some x => x.toNat) hi fun k _ hk => by
    show (match tset T s i (some (y + c)) s (k : Int) with
    | none => M + 1000 * nn + 1000 + 1
    | some x => x.toNat) = match T s (k : Int) with
    | none => M + 1000 * nn + 1000 + 1
    | some x => x.toNat
    rw [oth k hk]
  have e2' : phiN (M + 1000 * nn + 1000 + 1) (tset T s i (some (y + c))) s nn + (match T s (i : Int) with
    | none => M + 1000 * nn + 1000 + 1
    | some x => x.toNat) = phiN (M + 1000 * nn + 1000 + 1) T s nn + (y + c).toNat := by
    have : (match tset T s i (some (y + c)) s (i : Int) with
      | none => M + 1000 * nn + 1000 + 1
      | some x => x.toNat) = (y + c).toNat := by rw [tset_same]
    refine Eq.trans e2 ?_
    show _ + (match tset T s i (some (y + c)) s (i : Int) with
      | none => M + 1000 * nn + 1000 + 1
      | some x => x.toNat) = _
    rw [this]
    rfl
  constructor
  · intro k x hk e
    by_cases z : k = i
    · subst z
      rw [tset_same] at e
      cases e
      refine ⟨by omega, ?_⟩
      cases ei : T s (k : Int) with
      | none =>
        rw [ei] at e1'
        have : cntN (tset T s k (some (y + c))) s nn = cntN T s nn + 1 := e1'
        rw [this]
        omega
      | some x0 =>
        rw [ei] at e1'
        have : cntN (tset T s k (some (y + c))) s nn + 1 = cntN T s nn + 1 := e1'
        have := ltO_some hl x0 ei
        have := h k x0 hk ei
        omega
    · rw [oth k z] at e
      have := h k x hk e
      refine ⟨this.1, ?_⟩
      have : cntN T s nn ≤ cntN (tset T s i (some (y + c))) s nn := by
        revert e1'
        split <;> omega
      omega
  · cases ei : T s (i : Int) with
    | none =>
      rw [ei] at e2'
      have e2' : phiN (M + 1000 * nn + 1000 + 1) (tset T s i (some (y + c))) s nn + (M + 1000 * nn + 1000 + 1) = phiN (M + 1000 * nn + 1000 + 1) T s nn + (y + c).toNat := e2'
      omega
    | some x0 =>
      rw [ei] at e2'
      have e2' : phiN (M + 1000 * nn + 1000 + 1) (tset T s i (some (y + c))) s nn + x0.toNat = phiN (M + 1000 * nn + 1000 + 1) T s nn + (y + c).toNat := e2'
      have h1 := ltO_some hl x0 ei
      omega
section
variable {P : Program} {w : World} {K : PySem.W.Frag} {mg : Str → Option Value} {base : Heap}
def spFollow (P : Program) (w : World) (K : PySem.W.Frag) : Sp := fun vs H Q _ => ∃ (a p dt ds : Addr) (n : Int) (rs : List R4) (s : List Int) (ks all : List CK) (T : TF) (S : SF) (rank : Int → Nat), vs = [.ref a, .ref dt, .ref ds, .ref p] ∧ NetAt K H a n rs ∧ Good n rs ∧ SqT K H p (iV s) ∧
  WK P w K H dt ds ks all T S ∧ ks.length ≤ 5000 ∧ all.length ≤ 5000 ∧ RowK ks n s ∧ RowK all n s ∧ RowP rs n T S rank s ∧
  ∀ (H' : Hp) (T' : TF) (S' : SF) (rank' : Int → Nat), KX (FW dt ds) H H' → WK P w K H' dt ds ks all T' S' → Oth s T T' S S' → RowP rs n T' S' rank' s → (∀ z v, ltO z (T s v) = false → ltO z (T' s v) = false) → (∀ r ∈ rs, ltO (addO (T' s r.e) (some r.c)) (T' s r.s) = false) → Q .non H'
theorem ok_follow {f : Addr} {fd : FuncData} {f_together f_isless : Addr} {fd_together fd_isless : FuncData} (F : Fun K "follow_roads" "follow_roads" sFollow f fd) (k_together : PySem.W.keepIn K (.ref f_together) = true) (b_together : Binds K fd_together ["one", "other"] []) (g_together : mg "together" = some (.ref f_together)) (G_together : FnOk P w K mg base CX0 1 f_together fd_together ["one", "other"] (spTogether))
    (k_isless : PySem.W.keepIn K (.ref f_isless) = true) (b_isless : Binds K fd_isless ["one", "other"] []) (g_isless : mg "is_less" = some (.ref f_isless)) (G_isless : FnOk P w K mg base CX0 1 f_isless fd_isless ["one", "other"] (spIsLess)) : FnOk P w K mg base CX0 2 f fd ["net", "table", "steps", "some"] (spFollow P w K) := by
  refine F.ok scFollow (fun vs H Q E h => ?_) (fun cdv A outer st H vs Q E hr h => ?_)
  · obtain ⟨a, p, dt, ds, n, rs, s, ks, all, T, S, rank, rfl, _⟩ := h
    rfl
  · obtain ⟨a, p, dt, ds, n, rs, s, ks, all, T, S, rank, rfl, hN, hg, hp, hW, hk5, ha5, hks, hal, hrow, q⟩ := h
    have hu := hu_of hr
    refine ⟨_, (pss_cons (ps_set (i := 4) scFollow.nd rfl (.inl rfl) pe_bl)
      (pss_one (ps_while PassesOwn.never (pt_val (pv 4))
      (pss_cons (ps_set (i := 4) scFollow.nd rfl (.inl rfl) pe_bl)
      (pss_one (ps_for PassesOwn.never rfl (pi_tup (pe_ix ix_tup (pv 0) pe_int (fun _ _ => rfl))) (pg_tup rfl (pgs_cons (pg_name (i := 5) scFollow.nd rfl (.inl rfl)) (pgs_cons (pg_name (i := 6) scFollow.nd rfl (.inl rfl)) (pgs_cons (pg_name (i := 7) scFollow.nd rfl (.inl rfl)) (pgs_cons (pg_name (i := 8) scFollow.nd rfl (.inl rfl)) pgs_nil)))))
      (pss_cut (ps_set (i := 9) scFollow.nd rfl (.inl rfl) (pe_call G_together (hr.mono (by decide)) (by rfl) g_together k_together b_together .nil pass0 (pa_cons (HkN.pe_dgetN (HkN.room_u9 hr) (pv 1) (pe_tup (pa_cons (pv 3) (pa_cons (pv 6) pa_nil))) (fun _ _ => rfl)) (pa_cons (pv 7) pa_nil))))
      (pss_one (ps_if (pt_val (pe_call G_isless (hr.mono (by decide)) (by rfl) g_isless k_isless b_isless .nil pass0 (pa_cons (pv 9) (pa_cons (HkN.pe_dgetN (HkN.room_u9 hr) (pv 1) (pe_tup (pa_cons (pv 3) (pa_cons (pv 5) pa_nil))) (fun _ _ => rfl)) pa_nil)))) (pss_cons (HkN.ps_dputN (HkN.room_u9 hr) (pv 1) (pe_tup (pa_cons (pv 3) (pa_cons (pv 5) pa_nil))) (pv 9) rfl)
      (pss_cons (HkN.ps_dputN (HkN.room_u9 hr) (pv 2) (pe_tup (pa_cons (pv 3) (pa_cons (pv 5) pa_nil))) (pe_lst (pa_cons (pe_tup (pa_cons (pv 3) (pa_cons (pv 6) pa_nil))) pa_nil)) rfl)
      (pss_one (ps_set (i := 4) scFollow.nd rfl (.inl rfl) pe_bl)))) pss_nil))))))))), ?_⟩
    obtain ⟨nn, rfl⟩ := Int.eq_ofNat_of_zero_le (show 0 ≤ n by have := hg.n1; omega)
    obtain ⟨M, hM⟩ := cap_some T s nn fun i x hi e => hrow.nn i x (Int.natCast_nonneg i) (Int.ofNat_lt.mpr hi) e
    obtain ⟨ra, xs, o, hn1, hn2, hc, hd, hrd⟩ := id hN
    refine ⟨fun m σ' G => ∃ (b : Bool) (y5 y6 y7 y8 y9 : Option V) (T2 : TF) (S2 : SF) (rank2 : Int → Nat), σ' = [some (.ref a), some (.ref dt), some (.ref ds), some (.ref p), some (.bl b), y5, y6, y7, y8, y9] ∧ KX (FW dt ds) H G ∧ WK P w K G dt ds ks all T2 S2 ∧ Oth s T T2 S S2 ∧ RowP rs nn T2 S2 rank2 s ∧ CapN M T2 s nn ∧ (∀ z v, ltO z (T s v) = false → ltO z (T2 s v) = false) ∧ (b = false → ∀ r ∈ rs, ltO (addO (T2 s r.e) (some r.c)) (T2 s r.s) = false) ∧ m = 2 * phiN (M + 1000 * nn + 1000 + 1) T2 s nn + (if b = true then 1 else 0),
      ⟨_, true, none, none, none, none, none, T, S, rank, rfl, KX.refl _ _, hW, Oth.refl _ _ _, hrow, hM, (fun _ _ h => h), (fun z => by cases z), rfl⟩, ?_⟩
    rintro m σ' G ⟨b, y5, y6, y7, y8, y9, T2, S2, rank2, rfl, kx, hW2, hO2, hR2, hC2, hm2, hb2, em⟩
    refine ⟨_, rfl, b, rfl, ?_⟩
    cases b with
    | false =>
      refine iteF ?_
      exact q G T2 S2 rank2 kx hW2 hO2 hR2 hm2 (hb2 rfl)
    | true =>
      refine iteT ?_
      refine ⟨fun σ' G' => ∃ (b : Bool) (y5 y6 y7 y8 y9 : Option V) (T2 : TF) (S2 : SF) (rank2 : Int → Nat), σ' = [some (.ref a), some (.ref dt), some (.ref ds), some (.ref p), some (.bl b), y5, y6, y7, y8, y9] ∧ KX (FW dt ds) H G' ∧ WK P w K G' dt ds ks all T2 S2 ∧ Oth s T T2 S S2 ∧ RowP rs nn T2 S2 rank2 s ∧ CapN M T2 s nn ∧ (∀ z v, ltO z (T s v) = false → ltO z (T2 s v) = false) ∧ (b = false → ∀ r ∈ rs, ltO (addO (T2 s r.e) (some r.c)) (T2 s r.s) = false) ∧ 2 * phiN (M + 1000 * nn + 1000 + 1) T2 s nn + (if b = true then 1 else 0) < m,
        fun σ' G' ⟨b, y5, y6, y7, y8, y9, T3, S3, rank3, h1, h2, h3, h4, h5, h6, h7, h8, h9⟩ => ⟨_, h9, b, y5, y6, y7, y8, y9, T3, S3, rank3, h1, h2, h3, h4, h5, h6, h7, h8, rfl⟩, ?_⟩
      have hxs := kx.sqT hn2
      refine ⟨_, rfl, a, _, 1, .ref ra, rfl, rfl, kx.sqT hn1, atI_nat (j := 1) rfl, ra, rfl, ⟨_, hxs⟩, for_tup (K := K) (a := ra) (xs := xs) (fun j σ' G' => ∃ (b : Bool) (y5 y6 y7 y8 y9 : Option V) (T3 : TF) (S3 : SF) (rank3 : Int → Nat), σ' = [some (.ref a), some (.ref dt), some (.ref ds), some (.ref p), some (.bl b), y5, y6, y7, y8, y9] ∧ KX (FW dt ds) H G' ∧ WK P w K G' dt ds ks all T3 S3 ∧ Oth s T T3 S S3 ∧ RowP rs nn T3 S3 rank3 s ∧ CapN M T3 s nn ∧ (∀ z v, ltO z (T s v) = false → ltO z (T3 s v) = false) ∧ (b = false → T3 = T2 ∧ ∀ r ∈ rs.take j, ltO (addO (T3 s r.e) (some r.c)) (T3 s r.s) = false) ∧ (b = true → phiN (M + 1000 * nn + 1000 + 1) T3 s nn < phiN (M + 1000 * nn + 1000 + 1) T2 s nn))
        ⟨false, y5, y6, y7, y8, y9, T2, S2, rank2, rfl, kx, hW2, hO2, hR2, hC2, hm2, (fun _ => ⟨rfl, fun r hr => by rw [List.take_zero] at hr; cases hr⟩), fun z => by cases z⟩ (fun j σ' G' _ h => ?_) (fun j x σ' G' hx h => ?_) (fun σ' G' h => ?_)⟩
      · obtain ⟨_, _, _, _, _, _, _, _, _, _, k3, _⟩ := h
        exact k3.sqT hn2
      · obtain ⟨b, y5, y6, y7, y8, y9, T3, S3, rank3, rfl, kx3, hW3, hO3, hR3, hC3, hm3, hb3, hb4⟩ := h
        obtain ⟨d, e1, e2⟩ := dpAll_get hrd hx
        obtain ⟨t, rfl, hrd2⟩ : ∃ t : R4, d = t.d ∧ rs[j]? = some t := by
          rw [List.getElem?_map] at e1
          cases e3 : rs[j]? with
          | none => rw [e3] at e1; cases e1
          | some t => rw [e3] at e1; cases e1; exact ⟨t, rfl, rfl⟩
        obtain ⟨q1, rfl, hs⟩ := dp_r4 e2
        have htm := List.mem_of_getElem? hrd2
        have ok := hg.ok t htm
        refine ⟨q1, _, rfl, kx3.sqT hs, rfl, _, _, rfl, _, _, rfl, _, _, rfl, _, _, rfl, rfl, ?_⟩
        have hp3 := kx3.sqT hp
        -- the sum
        refine ⟨fun σ' G3 => σ' = [some (.ref a), some (.ref dt), some (.ref ds), some (.ref p), some (.bl b), some (.int t.s), some (.int t.e), some (.int t.c), some (.int t.l), some (nV (addO (T3 s t.e) (some t.c)))] ∧ K0 G' G3, ?_, ?_⟩
        · refine ⟨_, rfl, _, rfl, _, rfl, few_szG (show 2 ≤ 1000 by decide), fun b1 m1 => ?_⟩
          have g1 := K0.new m1 (o := .tup [.ref p, .int t.e])
          have c1 : SqT K (upd G' b1 (.tup [.ref p, .int t.e])) b1 [.ref p, .int t.e] := .inl (.inl upd_same)
          exact ⟨dt, _, rfl, (hW3.k0 g1).get (hks t.e ok.e0 ok.e1) c1 (g1.sqT hp3), _, rfl, T3 s t.e, some t.c, rfl, rfl, g1⟩
        rintro σ' G3 ⟨rfl, k3⟩
        have hW4 := hW3.k0 k3
        have hp4 := k3.sqT hp3
        refine ⟨_, rfl, _, rfl, _, rfl, _, rfl, few_szG (show 2 ≤ 1000 by decide), fun b3 m3 => ?_⟩
        have g3 := K0.new m3 (o := .tup [.ref p, .int t.s])
        have c3 : SqT K (upd G3 b3 (.tup [.ref p, .int t.s])) b3 [.ref p, .int t.s] := .inl (.inl upd_same)
        generalize upd G3 b3 (.tup [.ref p, .int t.s]) = J3 at g3 c3 ⊢
        have hW5 := hW4.k0 g3
        refine ⟨dt, _, rfl, hW5.get (hks t.s ok.s0 ok.s1) c3 (g3.sqT hp4), _, _, rfl, _, rfl, ?_⟩
        have kxJ := kx3.trans ((k3.trans g3).kx)
        cases hb : ltO (addO (T3 s t.e) (some t.c)) (T3 s t.s) with
        | false =>
          refine iteF ⟨b, _, _, _, _, _, T3, S3, rank3, rfl, kxJ, hW5, hO3, hR3, hC3, hm3, fun z => ⟨(hb3 z).1, fun r hr => ?_⟩, hb4⟩
          rw [List.take_add_one, hrd2] at hr
          rcases List.mem_append.mp hr with hr | hr
          · exact (hb3 z).2 r hr
          · have : r = t := by simpa using hr
            rw [this]; exact hb
        | true =>
          refine iteT ?_
          obtain ⟨y, ey⟩ : ∃ y, T3 s t.e = some y := by
            cases e : T3 s t.e with
            | some x => exact ⟨x, rfl⟩
            | none => rw [e] at hb; cases hb
          have esum : addO (T3 s t.e) (some t.c) = some (y + t.c) := by rw [ey]; rfl
          rw [esum] at hb ⊢
          refine ⟨_, rfl, _, rfl, _, rfl, _, rfl, few_szG (show 2 ≤ 1000 by decide), fun b4 m4 => ?_⟩
          have g4 := K0.new m4 (o := .tup [.ref p, .int t.s])
          have c4 : SqT K (upd J3 b4 (.tup [.ref p, .int t.s])) b4 [.ref p, .int t.s] := .inl (.inl upd_same)
          generalize upd J3 b4 (.tup [.ref p, .int t.s]) = J4 at g4 c4 ⊢
          have hp5 := (g3.trans g4).sqT hp4
          obtain ⟨J5, dp, hW6, kx5⟩ := (hW5.k0 g4).putT hk5 c4 hp5 (some (y + t.c))
          rw [if_pos (hks t.s ok.s0 ok.s1)] at hW6
          refine ⟨dt, J5, rfl, dp, ?_⟩
          have hp6 := kx5.sqT hp5
          refine ⟨_, rfl, _, rfl, few_szG (show 2 ≤ 1000 by decide), fun b5 m5 => ⟨few_szG (show 1 ≤ 1000 by decide), fun l ml => ?_⟩⟩
          have g5 := K0.new m5 (o := .tup [.ref p, .int t.e])
          have c5 : SqT K (upd J5 b5 (.tup [.ref p, .int t.e])) b5 [.ref p, .int t.e] := .inl (.inl upd_same)
          generalize upd J5 b5 (.tup [.ref p, .int t.e]) = J6 at g5 c5 ml ⊢
          have g7 := K0.new ml (o := .lst [.ref b5])
          have c7 : (upd J6 l (.lst [.ref b5])) l = some (.lst (([b5] : List Addr).map V.ref)) := upd_same
          generalize upd J6 l (.lst [.ref b5]) = J8 at g7 c7 ⊢
          have g58 := g5.trans g7
          have hkids : KidsAt K J8 (.ref l) [(s, t.e)] := ⟨l, [b5], rfl, c7, rfl, fun u b k e1 e2 => by
            cases u with
            | zero => cases e1; cases e2; exact ⟨p, g7.sqT c5, g58.sqT hp6⟩
            | succ u => cases e1⟩
          refine ⟨_, rfl, _, rfl, _, rfl, few_szG (show 2 ≤ 1000 by decide), fun b9 m9 => ?_⟩
          have g9 := K0.new m9 (o := .tup [.ref p, .int t.s])
          have c9 : SqT K (upd J8 b9 (.tup [.ref p, .int t.s])) b9 [.ref p, .int t.s] := .inl (.inl upd_same)
          generalize upd J8 b9 (.tup [.ref p, .int t.s]) = J9 at g9 c9 ⊢
          obtain ⟨J10, dp2, hW10, kx10⟩ := (hW6.k0 (g58.trans g9)).putS ha5 (hal t.s ok.s0 ok.s1) c9 ((g58.trans g9).sqT hp6) (hkids.kx (g9.kx (F := fun _ => False)) fun _ _ _ => id)
          refine ⟨ds, J10, rfl, dp2, ?_⟩
          obtain ⟨rank4, hR10⟩ := hR3.road hg htm ey hb
          obtain ⟨si, esi⟩ := Int.eq_ofNat_of_zero_le ok.s0
          obtain ⟨ei, eei⟩ := Int.eq_ofNat_of_zero_le ok.e0
          have h1 := ok.s1
          have h2 := ok.e1
          rw [esi] at h1 hb
          rw [eei] at h2 ey
          have cs := cap_step hC3 (i := si) (j := ei) (by omega) (by omega) ey ok.c0 ok.c1 hb
          rw [← esi] at cs hb
          refine ⟨true, _, _, _, _, _, _, _, rank4, rfl, kxJ.trans (g4.kx.trans (kx5.trans ((g58.trans g9).kx.trans kx10))), hW10, hO3.set, hR10, cs.1, fun z v hz => ?_, (fun z => by cases z), fun _ => ?_⟩
          · have hz3 := hm3 z v hz
            by_cases e : v = t.s
            · subst e
              rw [tset_same]
              exact ltO_mono hz3 hb
            · rw [tset_ne (fun w => e w.2)]; exact hz3
          · cases b with
            | false => rw [← (hb3 rfl).1]; exact cs.2
            | true => exact Nat.lt_trans cs.2 (hb4 rfl)
      · obtain ⟨b, y5, y6, y7, y8, y9, T3, S3, rank3, rfl, kx3, hW3, hO3, hR3, hC3, hm3, hb3, hb4⟩ := h
        refine ⟨b, y5, y6, y7, y8, y9, T3, S3, rank3, rfl, kx3, hW3, hO3, hR3, hC3, hm3, fun z r hr => ?_, ?_⟩
        · refine (hb3 z).2 r ?_
          rw [hrd.len, List.take_length]; exact hr
        · cases b with
          | false => rw [(hb3 rfl).1, em]; simp
          | true => have := hb4 rfl; rw [em]; simp only [if_true]; omega
end
end HK

set_option Elab.async false
set_option linter.all false
set_option maxRecDepth 100000
set_option maxHeartbeats 4000000
namespace HK
open PySem PySem.Spec PyProof.Rows L2 GAl GxR
/-! ### trees as partial functions -/
def stp (g : IF) (v : Int) : Int := (g v).getD v
def clm (g : IF) : Nat → Int → Int
  | 0, v => v
  | n + 1, v => stp g (clm g n v)
theorem stp_none {g : IF} {v : Int} (h : g v = none) : stp g v = v := by unfold stp; rw [h]; rfl
theorem stp_some {g : IF} {v x : Int} (h : g v = some x) : stp g v = x := by unfold stp; rw [h]; rfl
theorem clm_fix {g : IF} {v : Int} {i : Nat} (h : g (clm g i v) = none) : ∀ k, clm g (i + k) v = clm g i v
  | 0 => rfl
  | k + 1 => by
    show stp g (clm g (i + k) v) = _
    rw [clm_fix h k, stp_none h]
theorem clm_root {g : IF} {v root : Int} {i : Nat} (hr : g root = none) (h : clm g i v = root) (k : Nat) : clm g (i + k) v = root := by
  rw [clm_fix (by rw [h]; exact hr), h]
theorem DI.keys {kvs : List (Key × V)} {f : IF} (h : DI kvs f) : ∃ ks : List Int, ks.Nodup ∧ ks.length = kvs.length ∧ (∀ i, i ∈ ks ↔ (f i).isSome = true) ∧ kvs.map (·.1) = ks.map Sum.inl := by
  have aux : ∀ {l : List (Key × V)}, (∀ p ∈ l, ∃ i x : Int, p = (Sum.inl i, V.int x)) → ∃ ks : List Int, l.map (·.1) = ks.map Sum.inl := fun {l} => by
    induction l with
    | nil => exact fun _ => ⟨[], rfl⟩
    | cons p r ih =>
      intro hl
      obtain ⟨ks, e⟩ := ih fun q hq => hl q (List.mem_cons_of_mem _ hq)
      obtain ⟨i, x, rfl⟩ := hl p (List.mem_cons_self ..)
      exact ⟨i :: ks, by rw [List.map_cons, List.map_cons, e]⟩
  obtain ⟨ks, e⟩ := aux h.ks
  have nd := h.nd
  rw [e] at nd
  refine ⟨ks, (List.pairwise_map.mp nd).imp fun hne z => hne (by rw [z]), ?_, fun i => ?_, e⟩
  · have := congrArg List.length e
    rw [List.length_map, List.length_map] at this
    exact this.symm
  · rw [← h.mem i, e, List.mem_map]
    exact ⟨fun z => ⟨i, z, rfl⟩, fun ⟨j, hj, ej⟩ => by cases ej; exact hj⟩
/-- a way to the root takes no more steps than there are keys -/
theorem clm_len {kvs : List (Key × V)} {g : IF} {root v : Int} {m : Nat} (hD : DI kvs g) (hr : g root = none) (h : clm g m v = root) : clm g kvs.length v = root := by
  obtain ⟨ks, nk, lk, mk, _⟩ := hD.keys
  refine Decidable.byContradiction fun hn => ?_
  have absb : ∀ i, i ≤ kvs.length → clm g i v ≠ root := fun i hi z => hn (by
    have := clm_root hr z (kvs.length - i)
    rwa [show i + (kvs.length - i) = kvs.length by omega] at this)
  have lt : kvs.length < m := by
    refine Nat.lt_of_not_le fun z => absb m z h
  have dom : ∀ i, i ≤ kvs.length → (g (clm g i v)).isSome = true := fun i hi => by
    cases e : g (clm g i v) with
    | some x => rfl
    | none =>
      have := clm_fix e (m - i)
      rw [show i + (m - i) = m by omega, h] at this
      exact absurd this.symm (absb i hi)
  by_cases hd : ∀ i j, i < j → j ≤ kvs.length → clm g i v ≠ clm g j v
  · have nl : ((List.range (kvs.length + 1)).map fun i => clm g i v).Nodup := List.pairwise_map.mpr
      (List.Pairwise.imp_of_mem (fun {a b} _ hb lt => hd a b lt (by have := List.mem_range.mp hb; omega)) List.pairwise_lt_range)
    have := sub_len nl nk fun x hx => by
      obtain ⟨i, hi, rfl⟩ := List.mem_map.mp hx
      exact (mk _).mpr (dom i (by have := List.mem_range.mp hi; omega))
    rw [List.length_map, List.length_range] at this
    omega
  · obtain ⟨i, z⟩ := Classical.not_forall.mp hd
    obtain ⟨j, z⟩ := Classical.not_forall.mp z
    obtain ⟨hij, z⟩ := Classical.not_imp.mp z
    obtain ⟨hj, z⟩ := Classical.not_imp.mp z
    have e := Decidable.not_not.mp z
    have per : ∀ t, ∃ s, s ≤ kvs.length ∧ i ≤ s ∧ s < j ∧ clm g (i + t) v = clm g s v := fun t => by
      induction t with
      | zero => exact ⟨i, by omega, Nat.le_refl _, hij, rfl⟩
      | succ t ih =>
        obtain ⟨s, h1, h2, h3, h4⟩ := ih
        have e5 : clm g (i + (t + 1)) v = clm g (s + 1) v := by
          show stp g (clm g (i + t) v) = stp g (clm g s v)
          rw [h4]
        by_cases hs : s + 1 < j
        · exact ⟨s + 1, by omega, by omega, hs, e5⟩
        · exact ⟨i, by omega, Nat.le_refl _, hij, by rw [e5, show s + 1 = j by omega, e]⟩
    obtain ⟨s, h1, _, _, h4⟩ := per (m - i)
    rw [show i + (m - i) = m by omega, h] at h4
    exact absb s h1 h4.symm
/-- going ahead one stays in the tree -/
theorem clm_in {g : IF} {root v : Int} {m : Nat} (hr : g root = none) (h : clm g m v = root) (k : Nat) : clm g k v = root ∨ ∃ x, g (clm g k v) = some x := by
  by_cases hk : clm g k v = root
  · exact .inl hk
  · refine .inr ?_
    cases e : g (clm g k v) with
    | some x => exact ⟨x, rfl⟩
    | none =>
      refine absurd ?_ hk
      by_cases hm : m ≤ k
      · have := clm_root hr h (k - m)
        rwa [show m + (k - m) = k by omega] at this
      · have := clm_fix e (m - k)
        rw [show k + (m - k) = m by omega, h] at this
        exact this.symm
/-! ### the road of a pair -/
def road (rs : List R4) (a b : Int) : Option R4 := rs.find? fun r => decide (r.s = a ∧ r.e = b)
theorem road_some {rs : List R4} {a b : Int} {r : R4} (h : road rs a b = some r) : r ∈ rs ∧ r.s = a ∧ r.e = b := by
  have h2 := List.find?_some h
  exact ⟨List.mem_of_find?_eq_some h, of_decide_eq_true h2⟩
theorem road_none {rs : List R4} {a b : Int} (h : road rs a b = none) : ∀ r ∈ rs, ¬ (r.s = a ∧ r.e = b) := fun r hr z => by
  have := List.find?_eq_none.mp h r hr
  exact this (decide_eq_true z)
theorem lt_uniq {rs : List R4} (up : rs.Pairwise R4.lt) {i j : Nat} {r t : R4} (hi : rs[i]? = some r) (hj : rs[j]? = some t) (e : r.s = t.s ∧ r.e = t.e) : i = j := by
  obtain ⟨li, rfl⟩ := List.getElem?_eq_some_iff.mp hi
  obtain ⟨lj, rfl⟩ := List.getElem?_eq_some_iff.mp hj
  refine Decidable.byContradiction fun ne => ?_
  rcases Nat.lt_or_gt_of_ne ne with l | l
  · have : rs[i].s < rs[j].s ∨ (rs[i].s = rs[j].s ∧ rs[i].e < rs[j].e) := List.pairwise_iff_getElem.mp up i j li lj l
    omega
  · have : rs[j].s < rs[i].s ∨ (rs[j].s = rs[i].s ∧ rs[j].e < rs[i].e) := List.pairwise_iff_getElem.mp up j i lj li l
    omega
theorem road_of {rs : List R4} (up : rs.Pairwise R4.lt) {r : R4} (h : r ∈ rs) : road rs r.s r.e = some r := by
  cases e : road rs r.s r.e with
  | none => exact absurd ⟨rfl, rfl⟩ (road_none e r h)
  | some t =>
    obtain ⟨ht, hs⟩ := road_some e
    obtain ⟨i, hi⟩ := List.getElem?_of_mem ht
    obtain ⟨j, hj⟩ := List.getElem?_of_mem h
    have := lt_uniq up hi hj hs
    subst this
    rw [hi] at hj
    exact hj
theorem road_snoc {rs : List R4} {t : R4} (a b : Int) : road (rs ++ [t]) a b = (road rs a b).or (if t.s = a ∧ t.e = b then some t else none) := by
  unfold road
  rw [List.find?_append]
  congr 1
  by_cases h : t.s = a ∧ t.e = b
  · rw [if_pos h]
    simp [h]
  · rw [if_neg h]
    simp only [List.find?_cons, decide_eq_false h, List.find?_nil]
/-- what a dict makes a tree -/
def TreeP (rs : List R4) (root : Int) (g : IF) (m : Nat) : Prop := g root = none ∧ (∀ v x, g v = some x → (road rs x v).isSome = true) ∧ ∀ v x, g v = some x → clm g m v = root
/-- a dict from pairs to what a road has -/
def TabP (sel : R4 → Int) (rs : List R4) (kvs : List (List Key × V)) : Prop := kvs.length ≤ rs.length ∧ ∀ a b : Int, valV kvs [Sum.inl a, Sum.inl b] = (road rs a b).map fun r => V.int (sel r)
theorem TabP.put {sel : R4 → Int} {rs : List R4} {t : R4} {kvs : List (List Key × V)} (up : (rs ++ [t]).Pairwise R4.lt) (h : TabP sel rs kvs) : TabP sel (rs ++ [t]) (putK kvs [Sum.inl t.s, Sum.inl t.e] (.int (sel t))) := by
  refine ⟨?_, fun a b => ?_⟩
  · have := length_putK kvs [Sum.inl t.s, Sum.inl t.e] (V.int (sel t))
    have := h.1
    rw [List.length_append, List.length_singleton]
    omega
  · rw [valV_put, road_snoc]
    by_cases e : t.s = a ∧ t.e = b
    · obtain ⟨rfl, rfl⟩ := e
      have hno : road rs t.s t.e = none := by
        cases e : road rs t.s t.e with
        | none => rfl
        | some r =>
          obtain ⟨hr, hs⟩ := road_some e
          obtain ⟨i, hi⟩ := List.getElem?_of_mem hr
          have hlt : i < rs.length := (List.getElem?_eq_some_iff.mp hi).1
          have := lt_uniq up (i := i) (j := rs.length) (by rw [List.getElem?_append_left hlt]; exact hi) (by rw [List.getElem?_append_right (Nat.le_refl _)]; simp) hs
          omega
      rw [if_pos rfl, hno, if_pos ⟨rfl, rfl⟩]
      rfl
    · rw [if_neg (fun z => e (by simp at z; exact ⟨z.1.symm, z.2.symm⟩)), if_neg e, h.2]
      cases road rs a b <;> rfl
end HK

set_option Elab.async false
set_option linter.all false
set_option maxRecDepth 100000
set_option maxHeartbeats 2000000
/-! A comprehension that makes a dict, keys of either kind: what is put is told by DPut. The rule for ints and texts as keys is the library's pe_dc; its loop (compLoop_anyD) and its block (block_start) serve here too. -/
namespace DTu
open PySem PySem.Spec PyProof.Rows L2
section
variable {X : Cx} {pins : List (Addr × Obj)} {σ : L2.St} {H H' : Hp} {s : Shared} {a : Addr} {y v : V} {u r : Value} {E : Value → Shared → Prop} {Q : Unit → Shared → Prop}
/-- one pair is put -/
theorem dset (hu : X.A.units < cLine) (I : Inv X pins σ H s) (g : DPut H a y v H') (ry : RelV y u) (rv : RelV v r) (h : ∀ s', Inv X pins σ H' s' → Q () s') : wpAny (model X.prog X.w) X.A (dictSet a u r) Q E s := by
  rcases g with ⟨kvs, k, e, rfl, l, rfl⟩ | ⟨kvs, k, b, e, rfl, eb, l, rfl⟩
  · exact d_dictSet I e l ry rv h
  · have := length_putK kvs k v
    cases (show u = Value.ref b from ry)
    obtain ⟨z, nm, xs, rel, dd⟩ := dt_of I.hok e
    refine wpAny_dictSet_heap (hsz := (by rw [← Paired.length rel]; exact z)) (knd := tupleKind (mixKind X.prog X.w)) hu (key_of I.hok eb) dd fun h2 ⟨q, es, ep, c1, c2, c3, c4, _, c5⟩ sb => h _ ?_
    exact d_write I (by rw [e]; trivial) sb ⟨q, c1⟩ ⟨by omega, nm, _, (rel.put k eb rv).keeps fun c ys ec => (upd_ne (ne_of ec e (fun z => nomatch z))).trans ec, q, es, ep, c1, c2, c3, c4, c5⟩
end
section
variable {X : Cx}
/-- {k: v for target in iter if ..} with tuples as keys -/
def tDcT (wi : TI) (g : TG) (tt : TT) (tk tv : TE) (vs : List Nat) : TE := fun σ H Q => wi σ H fun J H1 => ∀ D, H1 D = none → ∃ W : Nat → Nat → Hp → Prop, (∃ m, W 0 m (upd H1 D (.dT []))) ∧ ∀ i m H, W i m H →
  (J.stop i H ∧ Q (.ref D) H) ∨ (J.go i H ∧ ∃ Nx : Hp → Prop, (∀ H', Nx H' → ∃ m', m' < m ∧ W (i + 1) m' H') ∧ ∀ x H', J.yld i H x H' → g x (wipe σ vs) H' fun σ2 H2 => wipe σ2 vs = wipe σ vs ∧ tt σ2 H2 fun b H3 =>
    if b = true then tk σ2 H3 fun y H4 => tv σ2 H4 fun z H5 => ∃ H6, DPut H5 D y z H6 ∧ Nx H6 else Nx H3)
theorem pe_dcT {kx vx tg iter : Expr} {ifs : List Expr} {scope : Scope} {own : List (Str × Nat)} {pos : Pos} {wi : TI} {g : TG} {tt : TT} {tk tv : TE} (hu : X.A.units < cLine) (calm : X.calm = true) (nd : X.N.Nodup) (hi : PI X tg iter wi) (ok : BlkOk X.N X.env.scope scope own)
    (hg : ∀ s H C cl fp, PG (X.blk s H scope (compEnvC scope cl C X.env) fp) tg g) (ht : ∀ s H C cl fp, PTs (X.blk s H scope (compEnvC scope cl C X.env) fp) ifs tt)
    (hk : ∀ s H C cl fp, PE (X.blk s H scope (compEnvC scope cl C X.env) fp) kx tk) (he : ∀ s H C cl fp, PE (X.blk s H scope (compEnvC scope cl C X.env) fp) vx tv)
    (hf : ∀ x, foldedSetIterable iter X.env x = pure x := by intro _; rfl) : PE X (.DictComp kx vx [⟨tg, iter, ifs, 0⟩] scope pos) (tDcT wi g tt tk tv (own.map (·.2))) := by
  refine ⟨fun pins s σ H Q I h => ?_⟩
  rw [arm_eval_DictComp]
  refine wpAny_comprehension_free rfl hf (closure_ok fun y hy e => (ok.free y hy e).elim (fun k => I.ok.has _ (.inl k)) (fun k => I.ok.has _ (.inr k))) ok.kind (fun y hy e => by rw [ok.uniq y hy, e]) ?_
  refine thn (hi.run pins s σ H _ I h) fun _ _ hx => thn hx fun _ s2 ⟨it, fp, tn, J, H2, e, I2, T, st2, f2, q⟩ => ?_
  subst e
  refine wpAny_newObj_type (newEnv_comp ?_)
  -- the new dict stands at D
  generalize hD : s2.heap.objs.size = D
  obtain ⟨W, ⟨m0, w0⟩, turn⟩ := q D (I2.hok.fresh (Nat.le_of_eq hD))
  obtain ⟨s3, hs3⟩ : ∃ s3 : Shared, s3 = { s2 with heap := s2.heap.push { cls := .type "dict", data := .dict #[] } } := ⟨_, rfl⟩
  have up : ∀ b o, s2.heap.get? b = some o → s3.heap.get? b = some o := fun b o e => by rw [hs3]; exact Heap.get?_push_of_some _ e
  have I3 : Inv X pins σ (upd H2 D (.dT [])) s3 := by
    subst hs3 hD
    exact I2.laid (t' := s2.toks) (fun _ _ e => Heap.get?_push_of_some _ e) (Nat.le_refl _) (dt_empty s2.heap I2.big)
  have f3 : ∀ b ∈ fp, FpOk X pins (upd H2 D (.dT [])) b ∧ b < s3.heap.objs.size := fun b hb => by
    obtain ⟨o, eo, _⟩ := T.obj _ _ st2 b hb
    have lt := Heap.lt_size eo
    exact ⟨⟨(upd_ne (by rw [← hD]; exact Nat.ne_of_lt lt)).trans (f2 b hb).1, (f2 b hb).2⟩, Heap.lt_size (up b o eo)⟩
  have I4 := block_start I3 ok nd f3
  rw [← hs3]
  -- the block's letters
  generalize hC : s3.heap.objs.size = C at I4 ⊢
  generalize hcl : cellsFrom (C + 1) scope.names (cloFrom X.env.cells scope.names []) = cl at I4 ⊢
  generalize hH3 : upd H2 D (.dT []) = H3 at I3 I4 f3 w0
  have G := hg s3 H3 C cl fp
  have Te := ht s3 H3 C cl fp
  have Ke := hk s3 H3 C cl fp
  have Ve := he s3 H3 C cl fp
  show codeAny _ _ (.compStart (.DictComp kx vx [⟨tg, iter, ifs, 0⟩] scope pos) 0 (.ref it) (.ref D) (compEnvC scope cl C X.env)) _ _
  obtain ⟨s4, hs4⟩ : ∃ s4 : Shared, s4 = { s3 with heap := pushCells (s3.heap.push { cls := .type "dict", data := .dict #[] }) scope.names } := ⟨_, rfl⟩
  rw [← hs4] at I4
  have st4 : tn 0 s4.heap := T.keep _ _ _ st2 fun b _ o e => by rw [hs4]; exact pushCells_keeps _ _ _ _ (Heap.get?_push_of_some _ (up b o e))
  have fpB : ∀ {σ' : L2.St} {H' : Hp} {s' : Shared}, Inv (X.blk s3 H3 scope (compEnvC scope cl C X.env) fp) [] σ' H' s' → (∀ b ∈ fp, H' b = none) → ∀ b ∈ fp, FpOk (X.blk s3 H3 scope (compEnvC scope cl C X.env) fp) [] H' b :=
    fun I' n b hb => ⟨n b hb, (I'.ok.exf b hb).1, I'.ok.exfs b hb, .inl hb, (I'.ok.exf b hb).2, fun p hp => by cases (show p ∈ ([] : List (Addr × Obj)) from hp)⟩
  have loop : codeAny (model X.prog X.w) X.A (.compLoop (.DictComp kx vx [⟨tg, iter, ifs, 0⟩] scope pos) 0 (.ref it) (.ref D) (compEnvC scope cl C X.env)) (compPost (model X.prog X.w) X.A X.xe none (fun u s' => ∃ y H', Inv X pins σ H' s' ∧ RelV y u ∧ Q y H') (.ref D) C) s4 := by
    refine compLoop_anyD (fun n s' => ∃ i H', Inv (X.blk s3 H3 scope (compEnvC scope cl C X.env) fp) [] (wipe σ (own.map (·.2))) H' s' ∧ tn i s'.heap ∧ (∀ b ∈ fp, H' b = none) ∧ W i n H') ?_ m0 ⟨0, H3, I4, st4, fun b hb => (f3 b hb).1.1, w0⟩
    rintro n s5 ⟨i, H5, I5, st5, n5, w5⟩
    rcases turn i n H5 w5 with ⟨stop, qq⟩ | ⟨go, Nx, hNx, step⟩
    · refine thnF (T.done (X.blk s3 H3 scope (compEnvC scope cl C X.env) fp) rfl rfl rfl calm i [] s5 _ H5 (fun _ _ => False) I5 (fpB I5 n5) st5 stop) fun r s6 ⟨hr, I6⟩ => ?_
      subst hr
      have I7 : Inv X pins σ H5 s6 := I3.call' (ch := fp) I6.os I6.base I6.hok I6.bare fun b hb => ⟨(f3 b hb).1.2.2.2.1, (f3 b hb).1.2.1, (f3 b hb).1.2.2.2.2.1, (f3 b hb).1.2.2.2.2.2⟩
      obtain ⟨m, hn, _⟩ := I6.loc
      have hfree : H5 C = none := I6.free
      have F := I3.fpOk (Nat.le_of_eq hC) hfree
      exact ⟨m, hn, fun h2 sb => ⟨.ref D, H5, I7.turned (t' := s6.toks) (fun b o hb e => (sb.2 b hb).trans e) F.1 F.2.1 F.2.2.2.1 F.2.2.2.2.1 F.2.2.2.2.2, rfl, qq⟩⟩
    · refine thnF (T.item (X.blk s3 H3 scope (compEnvC scope cl C X.env) fp) rfl rfl rfl calm i [] s5 _ H5 (fun _ _ => False) I5 (fpB I5 n5) st5 go) fun r s6 ⟨uv, hr, h6⟩ => ?_
      subst hr
      refine thnF h6 fun _ s7 ⟨x, H7, I7, r7, y7, st7, n7⟩ => ?_
      refine thnF (G.run _ s7 _ H7 x uv _ (I7.pinned (fpB I7 n7) (T.obj _ _ st7)) r7 (step x H7 y7)) fun _ s8 ⟨σ8, H8, I8, w8, q8⟩ => ?_
      refine thnF (Te.run _ s8 σ8 H8 _ I8 q8) fun b s9 ⟨H9, I9, q9⟩ => ?_
      have fin : ∀ {s' : Shared} {H' : Hp}, Inv (X.blk s3 H3 scope (compEnvC scope cl C X.env) fp) ([] ++ pinsAt fp s7.heap) σ8 H' s' → Nx H' → ∃ m, m < n ∧ ∃ i H', Inv (X.blk s3 H3 scope (compEnvC scope cl C X.env) fp) [] (wipe σ (own.map (·.2))) H' s' ∧ tn i s'.heap ∧ (∀ b ∈ fp, H' b = none) ∧ W i m H' := fun {s' H'} I' nx => by
        obtain ⟨m', lt, w'⟩ := hNx H' nx
        have pn : ∀ b ∈ fp, ∀ o, s7.heap.get? b = some o → s'.heap.get? b = some o ∧ H' b = none := fun b hb o e => by
          have z := I'.pin (b, o) (List.mem_append_right _ (List.mem_append_right _ (mem_pinsAt hb e)))
          exact ⟨z.1, z.2.1⟩
        refine ⟨m', lt, i + 1, H', (I'.unpinned (pins := [])).weak (by rw [← w8, wipe_length]) (fun j v e => (wipe_some (by rw [w8]; exact e)).1), T.keep _ _ _ st7 fun b hb o e => (pn b hb o e).1, fun b hb => ?_, w'⟩
        obtain ⟨o, e, _⟩ := T.obj _ _ st7 b hb
        exact (pn b hb o e).2
      cases b with
      | false => exact fin I9 q9
      | true =>
        refine thnF (Ke.run _ s9 σ8 H9 _ I9 q9) fun kv s10 ⟨yk, H10, I10, r10, q10⟩ => ?_
        refine thnF (Ve.run _ s10 σ8 H10 _ I10 q10) fun vv s11 ⟨yv, H11, I11, r11, H12, put, nx⟩ => ?_
        exact dset (X := X.blk s3 H3 scope (compEnvC scope cl C X.env) fp) hu I11 put r10 r11 fun s12 I12 => fin I12 nx
  rw [hs4] at st4 loop
  exact codeAny_compStart_dict loop (T.self X.A 0 _ _ _ st4 loop)
end
end DTu

set_option Elab.async false
set_option linter.all false
set_option maxRecDepth 100000
set_option maxHeartbeats 4000000
namespace HK
open PySem PySem.Spec PyProof.Rows L2 GAl GxR DTu
open Evl (pss_cut)
section
variable {P : Program} {w : World} {K : PySem.W.Frag} {mg : Str → Option Value} {base : Heap}
theorem NetAt.mut {H H' : Hp} {a p : Addr} {n : Int} {rs : List R4} {o : HO} (h : NetAt K H a n rs) (k : K0 H H') (np : H p = none) : NetAt K (upd H' p o) a n rs := h.k0 (k.mut np)
/-- the tables of roads -/
def spTab (sel : R4 → Int) (K : PySem.W.Frag) : Sp := fun vs H Q _ => ∃ (a : Addr) (n : Int) (rs : List R4), vs = [.ref a] ∧ NetAt K H a n rs ∧ Good n rs ∧ rs.length ≤ 156 ∧
  ∀ (D : Addr) (kvs : List (List Key × V)) (H' : Hp), K0 H H' → H D = none → H' D = some (.dT kvs) → TabP sel rs kvs → Q (.ref D) H'
/-- does a way lead to the root? -/
def spLeads (K : PySem.W.Frag) : Sp := fun vs H Q _ => ∃ (root : Int) (p : Addr) (kvs : List (Key × V)) (g : IF) (v : Int), vs = [.int root, .ref p, .int v] ∧ Rd H p (.dK kvs) ∧ DI kvs g ∧ kvs.length ≤ 5000 ∧ Q (.bl (decide (clm g kvs.length v = root))) H
end
end HK

set_option Elab.async false
set_option linter.all false
set_option maxRecDepth 100000
set_option maxHeartbeats 4000000
namespace HK
open PySem PySem.Spec PyProof.Rows L2 GAl GxR DTu
open Evl (pss_cut)
section
variable {P : Program} {w : World} {K : PySem.W.Frag} {mg : Str → Option Value} {base : Heap}
def spGrows (K : PySem.W.Frag) (Pp Pg : Addr) : Sp := fun vs H Q _ => ∃ (a : Addr) (n : Int) (rs : List R4) (root : Int) (p : Addr) (kvs : List (Key × V)) (g : IF), vs = [.ref a, .int root, .ref p] ∧ NetAt K H a n rs ∧ Good n rs ∧ rs.length ≤ 156 ∧
  H p = some (.dK kvs) ∧ DI kvs g ∧ kvs.length ≤ 5000 ∧ TabG H Pp ∧ TabG H Pg ∧ ∀ (H' : Hp) (b : Bool), K0 H H' → (b = true ↔ TreeP rs root g kvs.length) → Q (.bl b) H'
end
end HK


set_option Elab.async false
set_option linter.all false
set_option maxRecDepth 100000
set_option maxHeartbeats 4000000
namespace HK
open PySem PySem.Spec PyProof.Rows L2 GAl GxR
open Evl (pss_cut)
abbrev sNeedH : Stmt := topS 21
abbrev N_scNeedH : List Str := ["net", "hearers"]
theorem scNeedH : FnScope N_scNeedH ["net", "hearers"] (defScope sNeedH) := ⟨rfl, rfl, rfl, by decide +kernel, rfl, by decide +kernel, by decide +kernel⟩
section
variable {P : Program} {w : World} {K : PySem.W.Frag} {mg : Str → Option Value} {base : Heap}
def spNeedH (K : PySem.W.Frag) (Pr Pa : Addr) : Sp := fun vs H Q _ => ∃ (a : Addr) (n : Int) (rs : List R4) (p : Addr) (ns : List Int), vs = [.ref a, .ref p] ∧ NetAt K H a n rs ∧ SqT K H p (ns.map V.int) ∧ AreP n ns ∧ TabG H Pr ∧ TabG H Pa ∧ ∀ (H' : Hp), K0 H H' → Q .non H'
theorem ok_needh {f Pr Pa : Addr} {fd : FuncData} {f_areplaces : Addr} {fd_areplaces : FuncData} (F : Fun K "need_hearers" "need_hearers" sNeedH f fd)
    (k_areplaces : PySem.W.keepIn K (.ref f_areplaces) = true) (b_areplaces : Binds K fd_areplaces ["net", "thing"] []) (g_areplaces : mg "are_places" = some (.ref f_areplaces)) (G_areplaces : FnOk P w K mg base CX0 5 f_areplaces fd_areplaces ["net", "thing"] (spAreP K Pr Pa)) : FnOk P w K mg base CX0 6 f fd ["net", "hearers"] (spNeedH K Pr Pa) := by
  refine F.ok scNeedH (fun vs H Q E h => ?_) (fun cdv A outer s H vs Q E hr h => ?_)
  · obtain ⟨a, n, rs, p, ns, rfl, _⟩ := h
    rfl
  · obtain ⟨a, n, rs, p, ns, rfl, hN, hS, hA, tr, ta, q⟩ := h
    refine ⟨_, (pss_one (ps_if (pt_not (pt_val (pe_call G_areplaces (hr.mono (by decide)) (by rfl) g_areplaces k_areplaces b_areplaces .nil pass0 (pa_cons (pv 0) (pa_cons (pv 1) pa_nil))))) pss_never pss_nil)), ?_⟩
    refine ⟨_, rfl, _, rfl, a, n, rs, p, ns, rfl, hN, hS, tr, ta, fun H' b k hb => ?_⟩
    have : b = true := hb.mpr hA
    subst this
    exact ⟨_, rfl, iteF (q H' k)⟩
end
end HK

set_option Elab.async false
set_option linter.all false
set_option maxRecDepth 100000
set_option maxHeartbeats 4000000
namespace HK
open PySem PySem.Spec PyProof.Rows L2 GAl GxR
open Evl (pss_cut)
/-! ### trim trees -/
def ServP (root : Int) (g : IF) (l : List Int) : Prop := ∀ v ∈ l, v = root ∨ (g v).isSome = true
def TrimP (rs : List R4) (root : Int) (g : IF) (m : Nat) (l : List Int) : Prop := TreeP rs root g m ∧ ServP root g l ∧ ∀ v x, g v = some x → v ∈ l ∨ ∃ u, g u = some v
theorem DI.vals {kvs : List (Key × V)} {f : IF} (h : DI kvs f) : ∃ xs : List Int, kvs.map (·.2) = xs.map V.int ∧ ∀ x, x ∈ xs ↔ ∃ v, f v = some x := by
  have aux : ∀ {l : List (Key × V)}, (∀ p ∈ l, ∃ i x : Int, p = (Sum.inl i, V.int x)) → ∃ xs : List Int, l.map (·.2) = xs.map V.int := fun {l} => by
    induction l with
    | nil => exact fun _ => ⟨[], rfl⟩
    | cons p r ih =>
      intro hl
      obtain ⟨xs, e⟩ := ih fun q hq => hl q (List.mem_cons_of_mem _ hq)
      obtain ⟨i, x, rfl⟩ := hl p (List.mem_cons_self ..)
      exact ⟨x :: xs, by rw [List.map_cons, List.map_cons, e]⟩
  obtain ⟨xs, e⟩ := aux h.ks
  refine ⟨xs, e, fun x => ⟨fun hx => ?_, fun ⟨v, ev⟩ => ?_⟩⟩
  · have : V.int x ∈ kvs.map (·.2) := by rw [e]; exact List.mem_map.mpr ⟨x, hx, rfl⟩
    obtain ⟨p, hp, ep⟩ := List.mem_map.mp this
    obtain ⟨i, y, rfl, e2⟩ := h.at_ hp
    cases ep
    exact ⟨i, e2⟩
  · have := (h.mem v).mpr (by rw [ev]; rfl)
    obtain ⟨p, hp, ep⟩ := List.mem_map.mp this
    obtain ⟨i, y, rfl, e2⟩ := h.at_ hp
    cases ep
    rw [ev] at e2
    cases e2
    have : V.int x ∈ kvs.map (·.2) := List.mem_map.mpr ⟨_, hp, rfl⟩
    rw [e] at this
    obtain ⟨y, hy, ey⟩ := List.mem_map.mp this
    cases ey
    exact hy
theorem flat_ints' (L : List Int) : (L.map V.int).all flatV = true := by
  rw [List.all_map, List.all_eq_true]
  exact fun _ _ => rfl
theorem inV_iff' (i : Int) (L : List Int) : inV (.int i) (L.map V.int) = decide (i ∈ L) := by
  rw [Bool.eq_iff_iff, decide_eq_true_iff]
  constructor
  · intro h
    unfold inV at h
    rw [List.any_map, List.any_eq_true] at h
    obtain ⟨j, hj, e⟩ := h
    have : j = i := by simpa [eqV] using e
    rw [← this]; exact hj
  · exact fun h => inV_mem h
section
variable {P : Program} {w : World} {K : PySem.W.Frag} {mg : Str → Option Value} {base : Heap}
def spServes (K : PySem.W.Frag) (Ps : Addr) : Sp := fun vs H Q _ => ∃ (root : Int) (p : Addr) (ns : List Int) (d : Addr) (kvs : List (Key × V)) (g : IF), vs = [.int root, .ref p, .ref d] ∧ SqT K H p (ns.map V.int) ∧ H d = some (.dK kvs) ∧ DI kvs g ∧ TabG H Ps ∧ ∀ (H' : Hp) (b : Bool), K0 H H' → (b = true ↔ ServP root g ns) → Q (.bl b) H'
end
end HK

set_option Elab.async false
set_option linter.all false
set_option maxRecDepth 100000
set_option maxHeartbeats 2000000
namespace GAl
open PySem PySem.Spec PyProof.Rows L2 GxR
open Sem (wp)
/-! ### sum of a generator expression of whole numbers -/
abbrev sumObj (T : Int) (t : Tok) (c : Nat) : Obj := { cls := .type "list", dict := none, data := .seq #[.int T t] c, slots := #[] }
def RepSum : Obj → Int → Prop := fun o T => ∃ t c, o = sumObj T t c
def stpSum : Int → V → Hp → (Int → Prop) → Prop := fun T y _ N => ∃ k, y = .int k ∧ N (T + k)
theorem stpSum_mono : ∀ γ y H (p q : Int → Prop), (∀ γ', p γ' → q γ') → stpSum γ y H p → stpSum γ y H q := fun _ _ _ _ _ h ⟨k, e, n⟩ => ⟨k, e, h _ n⟩
theorem repSum_uniq {o : Obj} {T T' : Int} (h : RepSum o T) (h' : RepSum o T') : T = T' := by
  obtain ⟨t, c, rfl⟩ := h
  obtain ⟨t', c', e⟩ := h'
  simp only [sumObj, Obj.mk.injEq, true_and] at e
  have e := e.1
  simp at e
  exact e.1.1
section
variable {X XG : Cx} {A : Around} {a S : Addr} {oa : Obj} {g : Nat} {σw : L2.St} {Qd : Int → Hp → Prop} {R : Result → Shared → Prop}
theorem sum_loop (hh : A.handled = none) (hroom : A.depth < recursionLimit) (hpn : XG.pn = []) (hSy : S ∈ XG.ex ∨ XG.s_0.heap.objs.size ≤ S)
    (hfin : ∀ s' ps σ' H' T t, Inv XG ps σ' H' s' → Qd T H' → R (.ok (.ret (.int T t))) s') :
    ∀ (n : Nat) (s : Shared) (st : Int) (T : Int) (oS : Obj), (st = 0 ∨ st = 2) → s.heap.get? a = some oa → s.heap.get? S = some oS → RepSum oS T → a ≠ S →
      GSt (model X.prog X.w) A.in1.in1 (REndS XG a oa S RepSum σw Qd) (YOutS XG a oa S RepSum stpSum) a g n s → codeAny (model X.prog X.w) A (.builtin "sum.loop" ⟨[.ref a, .ref S, rawInt st, rawInt 0], []⟩) R s := by
  intro n
  induction n with
  | zero =>
    intro s st T oS hst2 hoa hS hRep haS ⟨hg, hl, gs, hgs, hgo⟩
    obtain ⟨tA, c, eS⟩ := hRep
    have hS2 := hS
    rw [eS] at hS2
    refine codeAny_builtin F.entry_sum_loop ?_
    rw [Around.under_plainId F.plain_sum_loop _]
    show wpAny _ A.in1 (seqItems? (.ref S) >>= _) _ _ s
    refine wpAny_bind (wpAny_seqItems hS2 rfl ?_)
    show wpAny _ A.in1 (tryCatch (pyNext (.ref a)) _ >>= _) _ _ s
    refine wpAny_bind (wpAny_tryCatch (next_sz (A := A.in1) hh hl hroom hg hgs hgo (fun v s₁ gs' hsz hb hv => ?_) (fun s₁ hsz hp h' hk => ?_)))
    · obtain ⟨γ, oS', y, H4, σ4, e1, e2, I4, r, k, rfl, nn⟩ := hv
      have e1 : s.heap.get? S = some oS' := e1
      rw [hS] at e1; cases e1
      have eγ : γ = T := repSum_uniq e2 ⟨tA, c, eS⟩
      subst eγ
      obtain ⟨t, rfl⟩ := r
      have hS' : s₁.heap.get? S = some (sumObj γ tA c) := by rw [← eS]; exact (I4.pin (S, oS) (by rw [hpn]; simp)).1
      have ha : s₁.heap.get? a = some oa := (I4.pin (a, oa) (by rw [hpn]; simp)).1
      obtain ⟨x, hx⟩ := gens_some hgs hsz rfl
      have fin : ∀ (h2 : Heap) (tk : Nat) (st' : Int), (st' = 0 ∨ st' = 2) → (∀ b o, b ≠ S → s₁.heap.get? b = some o → h2.get? b = some o) → (∃ t' c', h2.get? S = some (sumObj (γ + k) t' c')) →
          codeAny (model X.prog X.w) A (.builtin "sum.loop" ⟨[.ref a, .ref S, rawInt st', rawInt 0], []⟩) R { s₁.setGen g gs' with heap := h2, toks := tk } := fun h2 tk st' hst' hk ⟨t', c', hS3⟩ => by
        exact False.elim (nn { s₁.setGen g gs' with heap := h2, toks := tk } _ rfl (bare_set I4.bare hb) hk hS3 ⟨t', c', rfl⟩ (fun v z => by cases z))
      rcases hst2 with rfl | rfl
      · show wpAny _ A.in1 (if (_ : Bool) = true then (mkInt (γ + k) >>= _) else _) _ _ _
        split
        · refine wpAny_bind (wpAny_mkInt ?_)
          show wpAny _ A.in1 (updateSeq S (fun _ => #[.int (γ + k) s₁.toks]) >>= _) _ _ _
          refine wpAny_bind (wpAny_updateSeq hS' rfl (wpAny_pure ⟨plainId_quiet F.plain_sum_loop _, fin _ _ 0 (.inl rfl) (fun b o hb e => ?_) ⟨_, _, Heap.get?_update_self _ hS' rfl⟩⟩))
          exact (Heap.get?_update_other _ _ (Ne.symm hb)).trans e
        · refine wpAny_bind (wpAny_rule ?_)
          refine wpAny_bind (wpAny_attempt (wpAny_holding (wpAny_add_int ?_)))
          show wpAny _ A.in1 (updateSeq S (fun _ => #[.int (γ + k) s₁.toks]) >>= _) _ _ _
          refine wpAny_bind (wpAny_updateSeq hS' rfl ?_)
          have hS₂ := Heap.get?_update_self (Obj.mapSeq fun _ => #[Value.int (γ + k) s₁.toks]) hS' rfl
          refine wpAny_bind (wpAny_letGo ?_)
          refine wpAny_bind (wpAny_updateSeq hS₂ rfl (wpAny_pure ⟨plainId_quiet F.plain_sum_loop _, fin _ _ 2 (.inr rfl) (fun b o hb e => ?_) ⟨_, _, Heap.get?_update_self _ hS₂ rfl⟩⟩))
          exact (Heap.get?_update_other _ _ (Ne.symm hb)).trans ((Heap.get?_update_other _ _ (Ne.symm hb)).trans e)
      · show wpAny _ A.in1 ((holding [Value.int k t] (binaryOp .Add (.int γ tA) (.int k t))).attempt >>= _) _ _ _
        refine wpAny_bind (wpAny_attempt (wpAny_holding (wpAny_add_int ?_)))
        show wpAny _ A.in1 (updateSeq S (fun _ => #[.int (γ + k) s₁.toks]) >>= _) _ _ _
        refine wpAny_bind (wpAny_updateSeq hS' rfl ?_)
        have hS₂ := Heap.get?_update_self (Obj.mapSeq fun _ => #[Value.int (γ + k) s₁.toks]) hS' rfl
        refine wpAny_bind (wpAny_letGo ?_)
        refine wpAny_bind (wpAny_updateSeq hS₂ rfl (wpAny_pure ⟨plainId_quiet F.plain_sum_loop _, fin _ _ 2 (.inr rfl) (fun b o hb e => ?_) ⟨_, _, Heap.get?_update_self _ hS₂ rfl⟩⟩))
        exact (Heap.get?_update_other _ _ (Ne.symm hb)).trans ((Heap.get?_update_other _ _ (Ne.symm hb)).trans e)
    · obtain ⟨γ, oS', H4, e1, e2, I4, q⟩ := hp
      have e1 : s.heap.get? S = some oS' := e1
      rw [hS] at e1; cases e1
      have eγ : γ = T := repSum_uniq e2 ⟨tA, c, eS⟩
      subst eγ
      exact wpAny_pure (hfin _ _ σw H4 _ _ (Inv.kall I4 rfl (bare_set I4.bare rfl) hk) q)
  | succ n ih =>
    intro s st T oS hst2 hoa hS hRep haS ⟨hg, hl, gs, hgs, hgo⟩
    obtain ⟨tA, c, eS⟩ := hRep
    have hS2 := hS
    rw [eS] at hS2
    refine codeAny_builtin F.entry_sum_loop ?_
    rw [Around.under_plainId F.plain_sum_loop _]
    show wpAny _ A.in1 (seqItems? (.ref S) >>= _) _ _ s
    refine wpAny_bind (wpAny_seqItems hS2 rfl ?_)
    show wpAny _ A.in1 (tryCatch (pyNext (.ref a)) _ >>= _) _ _ s
    refine wpAny_bind (wpAny_tryCatch (next_sz (A := A.in1) hh hl hroom hg hgs hgo (fun v s₁ gs' hsz hb hv => ?_) (fun s₁ hsz hp h' hk => ?_)))
    · obtain ⟨γ, oS', y, H4, σ4, e1, e2, I4, r, k, rfl, nn⟩ := hv
      have e1 : s.heap.get? S = some oS' := e1
      rw [hS] at e1; cases e1
      have eγ : γ = T := repSum_uniq e2 ⟨tA, c, eS⟩
      subst eγ
      obtain ⟨t, rfl⟩ := r
      have hS' : s₁.heap.get? S = some (sumObj γ tA c) := by rw [← eS]; exact (I4.pin (S, oS) (by rw [hpn]; simp)).1
      have ha : s₁.heap.get? a = some oa := (I4.pin (a, oa) (by rw [hpn]; simp)).1
      obtain ⟨x, hx⟩ := gens_some hgs hsz rfl
      have fin : ∀ (h2 : Heap) (tk : Nat) (st' : Int), (st' = 0 ∨ st' = 2) → (∀ b o, b ≠ S → s₁.heap.get? b = some o → h2.get? b = some o) → (∃ t' c', h2.get? S = some (sumObj (γ + k) t' c')) →
          codeAny (model X.prog X.w) A (.builtin "sum.loop" ⟨[.ref a, .ref S, rawInt st', rawInt 0], []⟩) R { s₁.setGen g gs' with heap := h2, toks := tk } := fun h2 tk st' hst' hk ⟨t', c', hS3⟩ => by
        refine ih _ st' (γ + k) _ hst' (hk a oa haS ha) hS3 ⟨t', c', rfl⟩ haS ⟨isgen_of hg hoa (hk a oa haS ha), ?_, gs', setGen_self hx, ?_⟩
        · exact (Inv.kallS (ps := [(a, oa)]) (s'' := { s₁.setGen g gs' with heap := h2, toks := tk }) I4 hSy (by rw [hpn]; intro p hp; have := List.mem_singleton.mp hp; subst this; exact haS) rfl (bare_set I4.bare hb) hk hS3 (fun v z => by cases z)).nolimit
        · exact nn (Shared.setGen { s₁.setGen g gs' with heap := h2, toks := tk } g .running) _ rfl (bare_set (bare_set I4.bare hb) rfl) hk hS3 ⟨t', c', rfl⟩ (fun v z => by cases z)
      rcases hst2 with rfl | rfl
      · show wpAny _ A.in1 (if (_ : Bool) = true then (mkInt (γ + k) >>= _) else _) _ _ _
        split
        · refine wpAny_bind (wpAny_mkInt ?_)
          show wpAny _ A.in1 (updateSeq S (fun _ => #[.int (γ + k) s₁.toks]) >>= _) _ _ _
          refine wpAny_bind (wpAny_updateSeq hS' rfl (wpAny_pure ⟨plainId_quiet F.plain_sum_loop _, fin _ _ 0 (.inl rfl) (fun b o hb e => ?_) ⟨_, _, Heap.get?_update_self _ hS' rfl⟩⟩))
          exact (Heap.get?_update_other _ _ (Ne.symm hb)).trans e
        · refine wpAny_bind (wpAny_rule ?_)
          refine wpAny_bind (wpAny_attempt (wpAny_holding (wpAny_add_int ?_)))
          show wpAny _ A.in1 (updateSeq S (fun _ => #[.int (γ + k) s₁.toks]) >>= _) _ _ _
          refine wpAny_bind (wpAny_updateSeq hS' rfl ?_)
          have hS₂ := Heap.get?_update_self (Obj.mapSeq fun _ => #[Value.int (γ + k) s₁.toks]) hS' rfl
          refine wpAny_bind (wpAny_letGo ?_)
          refine wpAny_bind (wpAny_updateSeq hS₂ rfl (wpAny_pure ⟨plainId_quiet F.plain_sum_loop _, fin _ _ 2 (.inr rfl) (fun b o hb e => ?_) ⟨_, _, Heap.get?_update_self _ hS₂ rfl⟩⟩))
          exact (Heap.get?_update_other _ _ (Ne.symm hb)).trans ((Heap.get?_update_other _ _ (Ne.symm hb)).trans e)
      · show wpAny _ A.in1 ((holding [Value.int k t] (binaryOp .Add (.int γ tA) (.int k t))).attempt >>= _) _ _ _
        refine wpAny_bind (wpAny_attempt (wpAny_holding (wpAny_add_int ?_)))
        show wpAny _ A.in1 (updateSeq S (fun _ => #[.int (γ + k) s₁.toks]) >>= _) _ _ _
        refine wpAny_bind (wpAny_updateSeq hS' rfl ?_)
        have hS₂ := Heap.get?_update_self (Obj.mapSeq fun _ => #[Value.int (γ + k) s₁.toks]) hS' rfl
        refine wpAny_bind (wpAny_letGo ?_)
        refine wpAny_bind (wpAny_updateSeq hS₂ rfl (wpAny_pure ⟨plainId_quiet F.plain_sum_loop _, fin _ _ 2 (.inr rfl) (fun b o hb e => ?_) ⟨_, _, Heap.get?_update_self _ hS₂ rfl⟩⟩))
        exact (Heap.get?_update_other _ _ (Ne.symm hb)).trans ((Heap.get?_update_other _ _ (Ne.symm hb)).trans e)
    · obtain ⟨γ, oS', H4, e1, e2, I4, q⟩ := hp
      have e1 : s.heap.get? S = some oS' := e1
      rw [hS] at e1; cases e1
      have eγ : γ = T := repSum_uniq e2 ⟨tA, c, eS⟩
      subst eγ
      exact wpAny_pure (hfin _ _ σw H4 _ _ (Inv.kall I4 rfl (bare_set I4.bare rfl) hk) q)

def tSumG (P : Addr) (wi : TI) (g : TG) (tt : TT) (te : TE) (vs : List Nat) : TE := fun σ H Q => tGenS P wi g tt te vs stpSum (0 : Int) (fun T H' => Q (.int T) H') σ H
theorem pe_sumG {c P : Addr} {elt tg iter : Expr} {ifs : List Expr} {p pos gpos : Pos} {scope : Scope} {own : List (Str × Nat)} {wi : TI} {g : TG} {tt : TT} {te : TE} {k : Nat}
    (hr : Room (k + 1) X.A) (hgl : Gl X "sum") (hm : X.mg "sum" = none) (hc : X.calm = true) (hN : X.N.Nodup) (TB : TabB X.base X.mg c P) (hcode : X.env.code = .ref c) (S : GSc X.N X.env.scope scope own) (hi : PI X tg iter wi)
    (hg : ∀ (A' : Around), Room k A' → ∀ (s : Shared) (H : Hp) (cl : List (Str × Addr)) (C : Addr) (code : Value) (fp : List Addr), PG (gcx X A' s H (genEnv scope cl C code builtinsNs X.env) fp) tg g)
    (ht : ∀ (A' : Around), Room k A' → ∀ (s : Shared) (H : Hp) (cl : List (Str × Addr)) (C : Addr) (code : Value) (fp : List Addr), PTs (gcx X A' s H (genEnv scope cl C code builtinsNs X.env) fp) ifs tt)
    (he : ∀ (A' : Around), Room k A' → ∀ (s : Shared) (H : Hp) (cl : List (Str × Addr)) (C : Addr) (code : Value) (fp : List Addr), PE (gcx X A' s H (genEnv scope cl C code builtinsNs X.env) fp) elt te)
    (hs : ∀ v, genFold iter X.env v = pure v := by intro _; rfl)
    (hst : starEach [.GeneratorExp elt [⟨tg, iter, ifs, 0⟩] scope gpos] X.env = (false, eval (.GeneratorExp elt [⟨tg, iter, ifs, 0⟩] scope gpos) X.env) :: starEach [] X.env := by rfl)
    (hb : bootBuiltins "sum" = some (.builtin "sum") := by decide +kernel) :
    PE X (.Call (.Name "sum" p) [.GeneratorExp elt [⟨tg, iter, ifs, 0⟩] scope gpos] [] pos) (tSumG P wi g tt te (own.map (·.2))) := by
  refine ⟨fun pins s σ H Q I h => ?_⟩
  refine wpAny_Call_Name_kw (ld_blt I hgl hm hb ?_)
  refine PyProof.Rows.callWith_builtin1 ?_ hst (by rfl)
  rw [hst]
  show wpAny _ _ (spliced ((false, eval (.GeneratorExp elt [⟨tg, iter, ifs, 0⟩] scope gpos) X.env) :: backTo pos (starEach [] X.env))) _ _ s
  refine Calls.spliced_cons (gen_makeS (Rep := RepSum) hr hc hN TB hcode S hi hg ht he stpSum_mono hs I h fun XG a oa gn n σw s5 gs eP eW epn ha hG hgs hnl hb5 go hy back => ?_)
  refine Calls.spliced_nil ?_
  refine call_function_tree F.kind_sum F.plain_sum F.entry_sum (F.args_sum1 _) ?_
  unfold Builtin.«sum»
  simp only [List.length_cons, List.length_nil]
  rw [if_neg (by decide)]
  refine wpAny_bind (wpAny_of_eq (show Builtin.Builtins.bindParams "sum" ["start"] 0 { } = pure [none] from rfl) ?_)
  refine wpAny_bind (wpAny_pyIter_gen hG ?_)
  refine wpAny_bind (wpAny_mkInt ?_)
  refine wpAny_bind (wpAny_pure ?_)
  simp only [List.forIn_cons, List.forIn_nil]
  refine wpAny_bind (wpAny_bind (wpAny_bind (wpAny_isInstance (T := "int") (b := false) (typeIs_int _ _ _) PySem.sub_int_str ?_)))
  simp only [Bool.false_eq_true, if_false]
  refine wpAny_pure (wpAny_bind (wpAny_bind (wpAny_isInstance (T := "int") (b := false) (typeIs_int _ _ _) PySem.sub_int_bytes ?_)))
  simp only [Bool.false_eq_true, if_false]
  refine wpAny_pure (wpAny_bind (wpAny_bind (wpAny_isInstance (T := "int") (b := false) (typeIs_int _ _ _) PySem.sub_int_bytearray ?_)))
  simp only [Bool.false_eq_true, if_false]
  refine wpAny_pure (wpAny_pure ?_)
  refine wpAny_bind (wpAny_newObj_type ?_)
  have hS : (s5.heap.push (sumObj 0 s5.toks 0)).get? s5.heap.objs.size = some (sumObj 0 s5.toks 0) := Heap.get?_push_size _ rfl
  have keep : ∀ b o, s5.heap.get? b = some o → (s5.heap.push (sumObj 0 s5.toks 0)).get? b = some o := fun b o e => Heap.get?_push_of_some _ e
  refine wpAny_pure ⟨plainId_quiet F.plain_sum_loop _, sum_loop (X := X) (XG := XG) (oa := oa) (g := gn) (σw := σw) (Qd := fun T H' => Q (.int T) H') hr.hd (by have := hr.dp; omega) epn (.inr (hy _ (Nat.le_refl _))) (fun s' ps σ' H' T t I' q => ?_) n _ 0 0 _ (.inl rfl) (keep _ _ ha) hS ⟨_, _, rfl⟩ (Nat.ne_of_lt (Heap.lt_size ha)) ⟨isgen_of hG ha (keep _ _ ha), hnl.keeps keep, gs, hgs, ?_⟩⟩
  · exact ⟨.int T, H', back s' _ σ' H' I', ⟨t, rfl⟩, q⟩
  · exact go _ (Shared.setGen _ gn .running) _ (Nat.le_refl _) rfl (bare_set hb5 rfl) keep hS ⟨_, _, rfl⟩ (fun v z => by cases z)
end
end GAl

set_option Elab.async false
set_option linter.all false
set_option maxRecDepth 100000
set_option maxHeartbeats 4000000
namespace HK
open PySem PySem.Spec PyProof.Rows L2 GAl GxR DTu
section
variable {P : Program} {w : World} {K : PySem.W.Frag} {mg : Str → Option Value} {base : Heap}
def spNeedTree (K : PySem.W.Frag) (Pp Pg : Addr) : Sp := fun vs H Q _ => ∃ (a : Addr) (n : Int) (rs : List R4) (root : Int) (p : Addr) (kvs : List (Key × V)) (g : IF), vs = [.ref a, .int root, .ref p] ∧ NetAt K H a n rs ∧ Good n rs ∧ rs.length ≤ 156 ∧
  H p = some (.dK kvs) ∧ DI kvs g ∧ kvs.length ≤ 5000 ∧ TreeP rs root g kvs.length ∧ TabG H Pp ∧ TabG H Pg ∧ ∀ (H' : Hp), K0 H H' → Q .non H'
end
end HK

set_option Elab.async false
set_option linter.all false
set_option maxRecDepth 100000
set_option maxHeartbeats 4000000
namespace HK
open PySem PySem.Spec PyProof.Rows L2 GAl GxR
open Evl (pss_cut)
abbrev sTrimmed : Stmt := topS 22
abbrev N_scTrimmed : List Str := ["hearers", "ahead", "kept", "place", "at"]
theorem scTrimmed : FnScope N_scTrimmed ["hearers", "ahead"] (defScope sTrimmed) := ⟨rfl, rfl, rfl, by decide +kernel, rfl, by decide +kernel, by decide +kernel⟩
/-! ### the part of a dict that lies on the ways of some -/
open Classical in
noncomputable def resF (S : Int → Prop) (g : IF) : IF := fun v => if S v then g v else none
theorem resF_put {S : Int → Prop} {g : IF} {v x : Int} (e : g v = some x) : HK.put (resF S g) v x = resF (fun u => S u ∨ u = v) g := by
  funext u
  unfold HK.put resF
  by_cases h : u = v
  · subst h
    rw [if_pos rfl, if_pos (Or.inr rfl), e]
  · rw [if_neg h]
    by_cases hs : S u
    · rw [if_pos hs, if_pos (Or.inl hs)]
    · rw [if_neg hs, if_neg (fun z => z.elim hs h)]
theorem resF_congr {S T : Int → Prop} {g : IF} (h : ∀ v x, g v = some x → (S v ↔ T v)) : resF S g = resF T g := by
  funext v
  unfold resF
  by_cases hs : S v
  · rw [if_pos hs]
    by_cases ht : T v
    · rw [if_pos ht]
    · rw [if_neg ht]
      cases e : g v with
      | none => rfl
      | some x => exact absurd ((h v x e).mp hs) ht
  · rw [if_neg hs]
    by_cases ht : T v
    · rw [if_pos ht]
      cases e : g v with
      | none => rfl
      | some x => exact absurd ((h v x e).mpr ht) hs
    · rw [if_neg ht]
theorem resF_none {S : Int → Prop} {g : IF} {v : Int} (h : g v = none) : resF S g v = none := by
  unfold resF
  rw [h]
  simp
theorem resF_some {S : Int → Prop} {g : IF} {v x : Int} : resF S g v = some x ↔ S v ∧ g v = some x := by
  unfold resF
  by_cases h : S v <;> simp [h]
def OnW (g : IF) (l : List Int) (u : Int) : Prop := ∃ h ∈ l, ∃ j, u = clm g j h
noncomputable def keptF (g : IF) (l : List Int) : IF := resF (OnW g l) g
theorem kept_nil {g : IF} : keptF g [] = fun _ => none := by
  funext v
  cases e : keptF g [] v with
  | none => rfl
  | some x =>
    obtain ⟨⟨h, hh, _⟩, _⟩ := resF_some.mp e
    cases hh
theorem clm_kept {g : IF} {l : List Int} {v : Int} (h : OnW g l v) : ∀ k, clm (keptF g l) k v = clm g k v ∧ OnW g l (clm g k v)
  | 0 => ⟨rfl, h⟩
  | k + 1 => by
    obtain ⟨ih, w⟩ := clm_kept h k
    have e : keptF g l (clm g k v) = g (clm g k v) := by
      unfold keptF resF
      simp [w]
    refine ⟨?_, ?_⟩
    · show stp (keptF g l) (clm (keptF g l) k v) = stp g (clm g k v)
      rw [ih]
      unfold stp
      rw [e]
    · obtain ⟨a, ha, j, ej⟩ := w
      exact ⟨a, ha, j + 1, by show stp g (clm g k v) = stp g (clm g j a); rw [ej]⟩
theorem onW_self {g : IF} {l : List Int} {h : Int} (hh : h ∈ l) : OnW g l h := ⟨h, hh, 0, rfl⟩
theorem onW_kept {g : IF} {l : List Int} {v : Int} : OnW (keptF g l) l v ↔ OnW g l v := by
  constructor
  · rintro ⟨h, hh, j, rfl⟩
    rw [(clm_kept (onW_self hh) j).1]
    exact (clm_kept (onW_self hh) j).2
  · rintro ⟨h, hh, j, rfl⟩
    exact ⟨h, hh, j, ((clm_kept (onW_self hh) j).1).symm⟩
theorem kept_kept {g : IF} {l : List Int} : keptF (keptF g l) l = keptF g l := by
  funext v
  cases e : keptF g l v with
  | none => exact resF_none e
  | some x => exact resF_some.mpr ⟨onW_kept.mpr (resF_some.mp e).1, e⟩
theorem DI.le {ls kvs : List (Key × V)} {f g : IF} (h : DI ls f) (h' : DI kvs g) (hs : ∀ v x, f v = some x → (g v).isSome = true) : ls.length ≤ kvs.length := by
  obtain ⟨ks, n1, l1, m1, _⟩ := h.keys
  obtain ⟨ks', n2, l2, m2, _⟩ := h'.keys
  rw [← l1, ← l2]
  refine sub_len n1 n2 fun x hx => (m2 x).mpr ?_
  obtain ⟨y, e⟩ := Option.isSome_iff_exists.mp ((m1 x).mp hx)
  exact hs x y e
/-- what is kept is a trim tree -/
theorem kept_trim {rs : List R4} {root : Int} {kvs ls : List (Key × V)} {g : IF} {l : List Int} (hD : DI kvs g) (hL : DI ls (keptF g l)) (hT : TreeP rs root g kvs.length) (hS : ServP root g l) : TrimP rs root (keptF g l) ls.length l := by
  obtain ⟨hr, hroads, hup⟩ := hT
  refine ⟨⟨resF_none hr, fun v x e => hroads v x (resF_some.mp e).2, fun v x e => ?_⟩, fun v hv => ?_, fun v x e => ?_⟩
  · obtain ⟨w, eg⟩ := resF_some.mp e
    have := hup v x eg
    refine clm_len hL (resF_none hr) (m := kvs.length) ?_
    rw [(clm_kept w _).1]
    exact this
  · rcases hS v hv with h | h
    · exact .inl h
    · obtain ⟨x, ex⟩ := Option.isSome_iff_exists.mp h
      exact .inr (by rw [show keptF g l v = some x from resF_some.mpr ⟨onW_self hv, ex⟩]; rfl)
  · obtain ⟨⟨h, hh, j, ej⟩, eg⟩ := resF_some.mp e
    subst ej
    clear e eg
    induction j with
    | zero => exact .inl hh
    | succ j ih =>
      cases eg : g (clm g j h) with
      | none =>
        rw [show clm g (j + 1) h = clm g j h from stp_none eg]
        exact ih
      | some y =>
        refine .inr ⟨clm g j h, ?_⟩
        rw [show clm g (j + 1) h = y from stp_some eg]
        exact resF_some.mpr ⟨⟨h, hh, j, rfl⟩, eg⟩
/-- each hearer's way ends -/
theorem serv_end {rs : List R4} {root : Int} {g : IF} {m : Nat} {l : List Int} (hT : TreeP rs root g m) (hS : ServP root g l) : ∀ h ∈ l, clm g m h = root := fun h hh => by
  rcases hS h hh with e | e
  · rw [e]
    have := clm_root (v := root) (i := 0) hT.1 rfl m
    rwa [Nat.zero_add] at this
  · obtain ⟨x, ex⟩ := Option.isSome_iff_exists.mp e
    exact hT.2.2 h x ex
section
variable {P : Program} {w : World} {K : PySem.W.Frag} {mg : Str → Option Value} {base : Heap}
def spTrimmed (K : PySem.W.Frag) : Sp := fun vs H Q _ => ∃ (p : Addr) (ns : List Int) (d : Addr) (kvs : List (Key × V)) (g : IF) (root : Int), vs = [.ref p, .ref d] ∧ SqT K H p (ns.map V.int) ∧ H d = some (.dK kvs) ∧ DI kvs g ∧ kvs.length ≤ 5000 ∧ g root = none ∧ (∀ h ∈ ns, clm g kvs.length h = root) ∧
  ∀ (q : Addr) (ls : List (Key × V)) (H' : Hp), K0 H H' → H q = none → H' q = some (.dK ls) → DI ls (keptF g ns) → ls.length ≤ kvs.length → Q (.ref q) H'
theorem ok_trimmed {f : Addr} {fd : FuncData} (F : Fun K "trimmed" "trimmed" sTrimmed f fd) : FnOk P w K mg base CX0 1 f fd ["hearers", "ahead"] (spTrimmed K) := by
  refine F.ok scTrimmed (fun vs H Q E h => ?_) (fun cdv A outer s H vs Q E hr h => ?_)
  · obtain ⟨p, ns, d, kvs, g, root, rfl, _⟩ := h
    rfl
  · obtain ⟨p, ns, d, kvs, g, root, rfl, hS, hd, hD, hkl, hroot, hend, q⟩ := h
    have hu := hu_of hr
    refine ⟨_, (pss_cons (ps_set (i := 2) scTrimmed.nd rfl (.inl rfl) pe_dnewK)
      (pss_cons (ps_for PassesOwn.never rfl (pi_tup (pv 0)) (pg_name (i := 3) scTrimmed.nd rfl (.inl rfl))
      (pss_cons (ps_set (i := 4) scTrimmed.nd rfl (.inl rfl) (pv 3))
      (pss_one (ps_while PassesOwn.never (pt_cmp (pc_din hu (pv 4) (pv 1)))
      (pss_cons (ps_dput hu (pv 2) (pv 4) (pe_dget hu (pv 1) (pv 4) (fun _ _ => rfl)) rfl)
      (pss_one (ps_set (i := 4) scTrimmed.nd rfl (.inl rfl) (pe_dget hu (pv 1) (pv 4) (fun _ _ => rfl)))))))))
      (pss_one (ps_ret (pv 2))))), ?_⟩
    refine fun t nt => ?_
    have k1 : K0 H (upd H t (.dK [])) := K0.new nt
    have d0 : DI [] (resF (fun _ => False) g) := ⟨List.nodup_nil, fun p hp => (by cases hp), fun i => by unfold resF; simp; rfl⟩
    have inc : ∀ {S : Int → Prop} {ls : List (Key × V)}, DI ls (resF S g) → ls.length ≤ kvs.length := fun {S ls} h => h.le hD fun v x e => by rw [(resF_some.mp e).2]; rfl
    refine ⟨_, rfl, p, rfl, ⟨_, k1.sqT hS⟩, for_tup (xs := ns.map V.int) (fun i σ' H' => ∃ y3 y4, σ' = [some (.ref p), some (.ref d), some (.ref t), y3, y4] ∧ K0 H H' ∧ ∃ ls, H' t = some (.dK ls) ∧ DI ls (resF (OnW g (ns.take i)) g))
      ⟨none, none, rfl, k1, [], upd_same, by rw [resF_congr (T := fun _ => False)]; exact d0; intro v x _; rw [List.take_zero]; exact ⟨fun ⟨h, hh, _⟩ => by (cases hh), fun z => z.elim⟩⟩ (fun i σ' H' _ h => ?_) (fun i x σ' H' hx h => ?_) (fun σ' H' h => ?_)⟩
    · obtain ⟨_, _, _, k, _⟩ := h
      exact k.sqT hS
    · obtain ⟨y3, y4, rfl, k2, ls, hls, hDI⟩ := h
      rw [List.getElem?_map] at hx
      cases ev : ns[i]? with
      | none => rw [ev] at hx; cases hx
      | some v =>
      rw [ev] at hx
      cases hx
      have hv := hend v (List.mem_of_getElem? ev)
      refine ⟨_, rfl, ?_⟩
      refine ⟨fun m σ' H' => ∃ k, σ' = [some (.ref p), some (.ref d), some (.ref t), some (.int v), some (.int (clm g k v))] ∧ K0 H H' ∧ k + m = kvs.length + 1 ∧ ∃ ls, H' t = some (.dK ls) ∧ DI ls (resF (fun u => OnW g (ns.take i) u ∨ ∃ j, j < k ∧ u = clm g j v) g), ⟨kvs.length + 1, 0, rfl, k2, by omega, ls, hls, by
        rw [resF_congr (T := OnW g (ns.take i))]
        · exact hDI
        · intro u x _
          exact ⟨fun z => z.elim id (fun ⟨j, hj, _⟩ => absurd hj (Nat.not_lt_zero _)), .inl⟩⟩, ?_⟩
      rintro m σ' H2 ⟨k, rfl, k3, em, ls, hls, hDI⟩
      have hd3 := k3.oth d _ hd (fun _ z => by cases z)
      have dg := dgetR (.inl hd3) hD (clm g k v)
      refine ⟨_, rfl, _, rfl, d, _, rfl, dg, _, rfl, ?_⟩
      cases eg : g (clm g k v) with
      | none =>
        refine ⟨_, _, rfl, k3, ls, hls, ?_⟩
        rw [resF_congr (T := fun u => OnW g (ns.take i) u ∨ ∃ j, j < k ∧ u = clm g j v)]
        · exact hDI
        · intro u x eu
          rw [List.take_add_one, ev]
          constructor
          · rintro ⟨h, hh, j, rfl⟩
            rcases List.mem_append.mp hh with hh | hh
            · exact .inl ⟨h, hh, j, rfl⟩
            · have := List.mem_singleton.mp hh
              subst this
              refine .inr ⟨j, Nat.lt_of_not_le fun hle => ?_, rfl⟩
              have := clm_fix eg (j - k)
              rw [show k + (j - k) = j by omega] at this
              rw [this, eg] at eu
              cases eu
          · rintro (⟨h, hh, j, rfl⟩ | ⟨j, _, rfl⟩)
            · exact ⟨h, List.mem_append_left _ hh, j, rfl⟩
            · exact ⟨v, List.mem_append_right _ (List.mem_singleton.mpr rfl), j, rfl⟩
      | some y =>
        rw [eg] at dg
        have hk : k < kvs.length := by
          refine Nat.lt_of_not_le fun hle => ?_
          have := clm_root hroot hv (k - kvs.length)
          rw [show kvs.length + (k - kvs.length) = k by omega] at this
          rw [this, hroot] at eg
          cases eg
        refine ⟨fun σ' H' => ∃ k', k' = k + 1 ∧ σ' = [some (.ref p), some (.ref d), some (.ref t), some (.int v), some (.int (clm g k' v))] ∧ K0 H H' ∧ ∃ ls, H' t = some (.dK ls) ∧ DI ls (resF (fun u => OnW g (ns.take i) u ∨ ∃ j, j < k' ∧ u = clm g j v) g), fun σ' H' ⟨k', e1, e2, e3, e4⟩ => ⟨m - 1, by omega, k', e2, e3, by omega, e4⟩, ?_⟩
        refine ⟨_, rfl, _, rfl, d, _, rfl, dg, _, rfl, _, rfl, t, _, rfl, DPut.k (k := Sum.inl (clm g k v)) hls (Nat.lt_of_le_of_lt (m := 5000) (Nat.le_trans (inc hDI) hkl) (by decide)), ?_⟩
        have k4 := k3.mut (p := t) (o := .dK (putK ls (Sum.inl (clm g k v)) (.int y))) nt
        have htd : d ≠ t := fun z => by rw [z, nt] at hd; cases hd
        have dg2 := dgetR (.inl (show upd H2 t (.dK (putK ls (Sum.inl (clm g k v)) (.int y))) d = some (.dK kvs) by rw [upd_ne htd]; exact hd3)) hD (clm g k v)
        rw [eg] at dg2
        refine ⟨_, rfl, _, rfl, d, _, rfl, dg2, k + 1, rfl, by rw [show clm g (k + 1) v = y from stp_some eg]; rfl, k4, _, upd_same, ?_⟩
        have := hDI.put (clm g k v) y
        rw [resF_put eg] at this
        rw [resF_congr (T := fun u => (OnW g (ns.take i) u ∨ ∃ j, j < k ∧ u = clm g j v) ∨ u = clm g k v)]
        · exact this
        · intro u x _
          constructor
          · rintro (h | ⟨j, hj, e⟩)
            · exact .inl (.inl h)
            · by_cases hjk : j = k
              · subst hjk; exact .inr e
              · exact .inl (.inr ⟨j, by omega, e⟩)
          · rintro ((h | ⟨j, hj, e⟩) | e)
            · exact .inl h
            · exact .inr ⟨j, by omega, e⟩
            · exact .inr ⟨k, by omega, e⟩
    · obtain ⟨y3, y4, rfl, k2, ls, hls, hDI⟩ := h
      rw [List.length_map, List.take_of_length_le (Nat.le_refl _)] at hDI
      exact ⟨_, rfl, q t ls _ k2 nt hls hDI (inc hDI)⟩
def spCut (K : PySem.W.Frag) (Pn Pr Pa Pp Pg Ps : Addr) : Sp := fun vs H Q _ => ∃ (a : Addr) (n : Int) (rs : List R4) (root : Int) (p : Addr) (ns : List Int) (d : Addr) (kvs : List (Key × V)) (g : IF), vs = [.ref a, .int root, .ref p, .ref d] ∧ NetAt K H a n rs ∧ Good n rs ∧ rs.length ≤ 156 ∧ 0 ≤ root ∧ root < n ∧
  SqT K H p (ns.map V.int) ∧ AreP n ns ∧ H d = some (.dK kvs) ∧ DI kvs g ∧ kvs.length ≤ 5000 ∧ TreeP rs root g kvs.length ∧ ServP root g ns ∧ TbL H [Pn, Pr, Pa, Pp, Pg, Ps] ∧
  ∀ (q : Addr) (ls : List (Key × V)) (H' : Hp), K0 H H' → H q = none → H' q = some (.dK ls) → DI ls (keptF g ns) → ls.length ≤ kvs.length → Q (.ref q) H'
end
end HK

set_option Elab.async false
set_option linter.all false
set_option maxRecDepth 100000
set_option maxHeartbeats 4000000
namespace HK
open PySem PySem.Spec PyProof.Rows L2 GAl GxR HkN
/-! ### the price of a tree, and no tree is cheaper than the table tells -/
def prG (g : IF) : List R4 → Int
  | [] => 0
  | r :: rs => (if g r.e = some r.s then r.c else 0) + prG g rs
theorem prG_append (g : IF) : ∀ (a b : List R4), prG g (a ++ b) = prG g a + prG g b
  | [], b => by
    show prG g b = 0 + prG g b
    omega
  | r :: a, b => by
    show _ + prG g (a ++ b) = (_ + prG g a) + prG g b
    rw [prG_append g a b]
    omega
theorem prG_congr {g g' : IF} : ∀ {rs : List R4}, (∀ r ∈ rs, (g r.e = some r.s ↔ g' r.e = some r.s)) → prG g rs = prG g' rs
  | [], _ => rfl
  | r :: rs, h => by
    show (if g r.e = some r.s then r.c else 0) + prG g rs = (if g' r.e = some r.s then r.c else 0) + prG g' rs
    rw [prG_congr fun q hq => h q (List.mem_cons_of_mem _ hq)]
    congr 1
    have := h r (List.mem_cons_self ..)
    by_cases e : g r.e = some r.s
    · rw [if_pos e, if_pos (this.mp e)]
    · rw [if_neg e, if_neg fun z => e (this.mpr z)]
theorem prG_mono {g g' : IF} : ∀ {rs : List R4}, (∀ r ∈ rs, 0 ≤ r.c) → (∀ v x, g v = some x → g' v = some x) → prG g rs ≤ prG g' rs
  | [], _, _ => Int.le_refl _
  | r :: rs, h, hg => by
    have ih := prG_mono (rs := rs) (fun q hq => h q (List.mem_cons_of_mem _ hq)) hg
    have := h r (List.mem_cons_self ..)
    show (if g r.e = some r.s then r.c else 0) + prG g rs ≤ (if g' r.e = some r.s then r.c else 0) + prG g' rs
    by_cases e : g r.e = some r.s
    · rw [if_pos e, if_pos (hg _ _ e)]; omega
    · rw [if_neg e]; split <;> omega
theorem prG_none (rs : List R4) : prG (fun _ => none) rs = 0 := by
  induction rs with
  | nil => rfl
  | cons r rs ih =>
    show (if (none : Option Int) = some r.s then r.c else 0) + prG _ rs = 0
    rw [ih, if_neg (by intro z; cases z)]
    rfl
theorem prG_put {g : IF} {r : R4} : ∀ {rs : List R4}, rs.Pairwise R4.lt → r ∈ rs → g r.e = none → prG (put g r.e r.s) rs = prG g rs + r.c
  | q :: rs, up, hr, hn => by
    have up := List.pairwise_cons.mp up
    have pe : put g r.e r.s r.e = some r.s := if_pos rfl
    have pn : ∀ v, v ≠ r.e → put g r.e r.s v = g v := fun v h => if_neg h
    show (if put g r.e r.s q.e = some q.s then q.c else 0) + prG (put g r.e r.s) rs = (if g q.e = some q.s then q.c else 0) + prG g rs + r.c
    rcases List.mem_cons.mp hr with e | hr
    · subst e
      have : prG (put g r.e r.s) rs = prG g rs := prG_congr fun t ht => by
        have := up.1 t ht
        by_cases e : t.e = r.e
        · rw [e, pe, hn]
          have ns : ¬ r.s = t.s := fun z => by
            rcases this with h | h <;> omega
          exact ⟨fun z => absurd (Option.some.inj z) ns, fun z => by cases z⟩
        · rw [pn _ e]
      rw [this, if_pos pe, hn, if_neg (by intro z; cases z)]
      omega
    · rw [prG_put up.2 hr hn]
      have hlt := up.1 r hr
      by_cases e : q.e = r.e
      · rw [e, pe, hn]
        have ns : ¬ r.s = q.s := fun z => by
          rcases hlt with h | h <;> omega
        rw [if_neg fun z => ns (Option.some.inj z), if_neg (by intro z; cases z)]
        omega
      · rw [pn _ e]
        omega
/-! what lists of roads cost -/
def sumC (D : List R4) : Nat := (D.map fun r => r.c.toNat).sum
theorem prG_sumC {g : IF} : ∀ {rs : List R4}, (∀ r ∈ rs, 0 ≤ r.c) → prG g rs = (sumC (rs.filter fun r => decide (g r.e = some r.s)) : Nat)
  | [], _ => rfl
  | r :: rs, h => by
    have ih := prG_sumC (g := g) (rs := rs) fun q hq => h q (List.mem_cons_of_mem _ hq)
    have := h r (List.mem_cons_self ..)
    show (if g r.e = some r.s then r.c else 0) + prG g rs = _
    rw [List.filter_cons, ih]
    by_cases e : g r.e = some r.s
    · rw [if_pos e, if_pos (decide_eq_true e)]
      unfold sumC
      rw [List.map_cons, List.sum_cons]
      omega
    · rw [if_neg e, if_neg (by rw [decide_eq_false e]; exact Bool.false_ne_true)]
      omega
theorem sumC_pick {r : R4} : ∀ {D : List R4}, r ∈ D → ∃ D', sumC D = r.c.toNat + sumC D' ∧ D.length = D'.length + 1 ∧ (∀ q ∈ D', q ∈ D) ∧ ∀ q ∈ D, q = r ∨ q ∈ D'
  | a :: D, h => by
    rcases List.mem_cons.mp h with e | h
    · subst e
      refine ⟨D, ?_, rfl, fun q hq => List.mem_cons_of_mem _ hq, fun q hq => List.mem_cons.mp hq⟩
      unfold sumC
      rw [List.map_cons, List.sum_cons]
    · obtain ⟨D', h1, h2, h3, h4⟩ := sumC_pick h
      refine ⟨a :: D', ?_, by rw [List.length_cons, List.length_cons, h2], fun q hq => ?_, fun q hq => ?_⟩
      · unfold sumC at h1 ⊢
        rw [List.map_cons, List.sum_cons, List.map_cons, List.sum_cons, h1]
        omega
      · rcases List.mem_cons.mp hq with e | hq
        · rw [e]; exact List.mem_cons_self ..
        · exact List.mem_cons_of_mem _ (h3 q hq)
      · rcases List.mem_cons.mp hq with e | hq
        · exact .inr (by rw [e]; exact List.mem_cons_self ..)
        · exact (h4 q hq).imp id fun z => List.mem_cons_of_mem _ z
theorem max_of {α : Type} (f : α → Nat) : ∀ {D : List α}, D ≠ [] → ∃ r ∈ D, ∀ q ∈ D, f q ≤ f r
  | [a], _ => ⟨a, List.mem_cons_self .., fun q hq => by rw [List.mem_singleton.mp hq]; exact Nat.le_refl _⟩
  | a :: b :: D, _ => by
    obtain ⟨r, hr, h⟩ := max_of f (D := b :: D) (fun z => by cases z)
    by_cases e : f a ≤ f r
    · refine ⟨r, List.mem_cons_of_mem _ hr, fun q hq => ?_⟩
      rcases List.mem_cons.mp hq with e' | hq
      · rw [e']; exact e
      · exact h q hq
    · refine ⟨a, List.mem_cons_self .., fun q hq => ?_⟩
      rcases List.mem_cons.mp hq with e' | hq
      · rw [e']; exact Nat.le_refl _
      · have := h q hq; omega
/-! how far below the root -/
theorem sumF_front (f : Nat → Nat) : ∀ n : Nat, sumF f (n + 1) = f 0 + sumF (fun j => f (j + 1)) n
  | 0 => by rw [sumF_succ]; show 0 + f 0 = f 0 + 0; omega
  | n + 1 => by rw [sumF_succ, sumF_front f n, sumF_succ]; omega
theorem clm_front {g : IF} {v x : Int} (h : g v = some x) : ∀ j : Nat, clm g (j + 1) v = clm g j x
  | 0 => stp_some h
  | j + 1 => by
    show stp g (clm g (j + 1) v) = stp g (clm g j x)
    rw [clm_front h j]
def depT (root : Int) (g : IF) (m : Nat) (v : Int) : Nat := sumF (fun j => if clm g j v = root then 0 else 1) (m + 1)
theorem dep_lt {root : Int} {g : IF} {m : Nat} {v x : Int} (hr : g root = none) (h : g v = some x) (hm : clm g m v = root) : depT root g m x < depT root g m v := by
  have hv : ¬ v = root := fun z => by rw [z, hr] at h; cases h
  have hx : clm g m x = root := by
    have := clm_root hr hm 1
    rw [clm_front h] at this
    exact this
  unfold depT
  rw [sumF_succ, sumF_front _ m, if_pos hx]
  have e : sumF (fun j => if clm g (j + 1) v = root then 0 else 1) m = sumF (fun j => if clm g j x = root then 0 else 1) m := sumF_congr fun j _ => by rw [clm_front h]
  rw [e]
  show _ < (if v = root then 0 else 1) + _
  rw [if_neg hv]
  omega
theorem sumF_zero : ∀ n : Nat, sumF (fun _ => 0) n = 0
  | 0 => rfl
  | n + 1 => by rw [sumF_succ, sumF_zero n]
/-! no tree is cheaper -/
theorem ltO_le {z : Int} {o : Option Int} (h : ltO (some z) o = false) : ∃ y, o = some y ∧ y ≤ z := by
  cases o with
  | none => cases h
  | some y => exact ⟨y, rfl, by have : ¬ z < y := of_decide_eq_false h; omega⟩
def LowP (hs : List Int) (T : TF) (nn : Nat) (f : Nat → Nat) (pos : Int → Int) : Prop := ∀ p : Nat, p < nn → (hs.filter fun h => decide (pos h = p)) ≠ [] → ∃ y, T (hs.filter fun h => decide (pos h = p)) p = some y ∧ y ≤ f p
theorem low_step {rs : List R4} {nn : Nat} {T : TF} {S : SF} {hs : List Int} {f : Nat → Nat} {pos : Int → Int} (hg : Good nn rs) (hnd : hs.Nodup) (hRow : ∀ s ∈ compsN hs, RowOK rs nn T S s) (hL : LowP hs T nn f pos) {r : R4} (hr : r ∈ rs) :
    ∃ f', LowP hs T nn f' (fun h => if pos h = r.e then r.s else pos h) ∧ sumF f' nn = sumF f nn + r.c.toNat := by
  have ok := hg.ok r hr
  obtain ⟨v, hv⟩ := Int.eq_ofNat_of_zero_le ok.e0
  obtain ⟨x, hx⟩ := Int.eq_ofNat_of_zero_le ok.s0
  have vn : v < nn := by have := ok.e1; omega
  have xn : x < nn := by have := ok.s1; omega
  have nxv : x ≠ v := fun z => ok.ne (by rw [hv, hx, z])
  refine ⟨fun k => if k = v then 0 else if k = x then f x + f v + r.c.toNat else f k, fun p hp hne => ?_, ?_⟩
  · by_cases e : p = v
    · refine absurd ?_ hne
      refine List.filter_eq_nil_iff.mpr fun h hh z => ?_
      have z : (if pos h = r.e then r.s else pos h) = (p : Int) := of_decide_eq_true z
      by_cases e2 : pos h = r.e
      · rw [if_pos e2] at z; omega
      · rw [if_neg e2] at z; omega
    by_cases e2 : p = x
    · subst e2
      have eqs : (hs.filter fun h => decide ((if pos h = r.e then r.s else pos h) = (p : Int))) = hs.filter fun h => decide (pos h = p) || decide (pos h = v) := List.filter_congr fun h hh => by
        rw [Bool.eq_iff_iff, decide_eq_true_iff, Bool.or_eq_true, decide_eq_true_iff, decide_eq_true_iff]
        by_cases e2 : pos h = r.e
        · rw [if_pos e2]
          exact ⟨fun _ => .inr (by omega), fun _ => hx⟩
        · rw [if_neg e2]
          exact ⟨.inl, fun z => z.resolve_right (by omega)⟩
      have eqs : (hs.filter fun h => decide ((fun h => if pos h = r.e then r.s else pos h) h = (p : Int))) = hs.filter fun h => decide (pos h = p) || decide (pos h = v) := eqs
      rw [eqs] at hne ⊢
      show ∃ y, _ ∧ y ≤ (((if p = v then 0 else if p = p then f p + f v + r.c.toNat else f p) : Nat) : Int)
      rw [if_neg e, if_pos rfl]
      have sA : (hs.filter fun h => decide (pos h = p) || decide (pos h = v)).filter (fun h => decide (pos h = p)) = hs.filter fun h => decide (pos h = p) := by
        rw [List.filter_filter]
        refine List.filter_congr fun h hh => ?_
        cases decide (pos h = (p : Int)) <;> rfl
      have sB : (hs.filter fun h => decide (pos h = p) || decide (pos h = v)).filter (fun h => !decide (pos h = p)) = hs.filter fun h => decide (pos h = v) := by
        rw [List.filter_filter]
        refine List.filter_congr fun h hh => ?_
        by_cases e3 : pos h = (p : Int)
        · rw [decide_eq_true e3, decide_eq_false (show ¬ pos h = (v : Int) from by omega)]; rfl
        · rw [decide_eq_false e3]
          cases decide (pos h = (v : Int)) <;> rfl
      have hsm : ∀ {q : Int → Bool}, hs.filter q ≠ [] → hs.filter q ∈ compsN hs := fun {q} h => compsN_mem.mpr ⟨List.filter_sublist, h⟩
      have hs0 := hsm hne
      have nds : (hs.filter fun h => decide (pos h = p) || decide (pos h = v)).Nodup := List.Nodup.sublist List.filter_sublist hnd
      have c0 := ok.c0
      by_cases hB : (hs.filter fun h => decide (pos h = v)) = []
      · have : (hs.filter fun h => decide (pos h = p) || decide (pos h = v)) = hs.filter fun h => decide (pos h = p) := List.filter_congr fun h hh => by
          have := List.filter_eq_nil_iff.mp hB h hh
          cases e3 : decide (pos h = (v : Int)) with
          | true => exact absurd e3 this
          | false => cases decide (pos h = (p : Int)) <;> rfl
        rw [this] at hne ⊢
        obtain ⟨y, h1, h2⟩ := hL p hp hne
        exact ⟨y, h1, by omega⟩
      obtain ⟨y, h1, h2⟩ := hL v vn hB
      have hroad := (hRow _ (hsm hB)).road r hr
      rw [hv, hx, h1] at hroad
      obtain ⟨y1, h3, h4⟩ := ltO_le (z := y + r.c) hroad
      by_cases hA : (hs.filter fun h => decide (pos h = p)) = []
      · have : (hs.filter fun h => decide (pos h = p) || decide (pos h = v)) = hs.filter fun h => decide (pos h = v) := List.filter_congr fun h hh => by
          have := List.filter_eq_nil_iff.mp hA h hh
          cases e3 : decide (pos h = (p : Int)) with
          | true => exact absurd e3 this
          | false => rfl
        rw [this]
        exact ⟨y1, h3, by omega⟩
      obtain ⟨y2, h5, h6⟩ := hL p hp hA
      have hparts := partsF_all (g := fun h => decide (pos h = p)) nds (by rw [sA]; exact hA) (by rw [sB]; exact hB)
      rw [sA, sB] at hparts
      have hjoin : ltO (some (y2 + y1)) (T (hs.filter fun h => decide (pos h = p) || decide (pos h = v)) p) = false := by
        rcases hparts with h | h
        · have := (hRow _ hs0).join _ _ h p (Int.natCast_nonneg p) (by omega)
          rw [h5, h3] at this
          exact this
        · have := (hRow _ hs0).join _ _ h p (Int.natCast_nonneg p) (by omega)
          rw [h5, h3] at this
          have this : ltO (some (y1 + y2)) _ = false := this
          rw [Int.add_comm]; exact this
      obtain ⟨y3, h7, h8⟩ := ltO_le hjoin
      exact ⟨y3, h7, by omega⟩
    · have eqs : (hs.filter fun h => decide ((fun h => if pos h = r.e then r.s else pos h) h = (p : Int))) = hs.filter fun h => decide (pos h = p) := List.filter_congr fun h hh => by
        rw [Bool.eq_iff_iff, decide_eq_true_iff, decide_eq_true_iff]
        show (if pos h = r.e then r.s else pos h) = (p : Int) ↔ _
        by_cases e3 : pos h = r.e
        · rw [if_pos e3]
          exact ⟨fun z => by omega, fun z => by omega⟩
        · rw [if_neg e3]
      rw [eqs] at hne ⊢
      obtain ⟨y, h1, h2⟩ := hL p hp hne
      refine ⟨y, h1, ?_⟩
      show y ≤ (((if p = v then 0 else if p = x then f x + f v + r.c.toNat else f p) : Nat) : Int)
      rw [if_neg e, if_neg e2]
      exact h2
  · have e1 := sumF_at (f := fun k => if k = v then 0 else f k) (g := f) vn fun j _ hj => if_neg hj
    have e2 := sumF_at (f := fun k => if k = v then 0 else if k = x then f x + f v + r.c.toNat else f k) (g := fun k => if k = v then 0 else f k) xn fun j _ hj => by
      show (if j = v then 0 else if j = x then f x + f v + r.c.toNat else f j) = if j = v then 0 else f j
      rw [if_neg hj]
    have e1 : sumF (fun k => if k = v then 0 else f k) nn + f v = sumF f nn + if v = v then 0 else f v := e1
    have e2 : sumF (fun k => if k = v then 0 else if k = x then f x + f v + r.c.toNat else f k) nn + (if x = v then 0 else f x) = sumF (fun k => if k = v then 0 else f k) nn + (if x = v then 0 else if x = x then f x + f v + r.c.toNat else f x) := e2
    rw [if_pos rfl] at e1
    rw [if_neg nxv, if_neg nxv, if_pos rfl] at e2
    omega
theorem low_go {rs : List R4} {nn : Nat} {T : TF} {S : SF} {hs : List Int} {root : Int} {dep : Int → Nat} (hg : Good nn rs) (hnd : hs.Nodup) (hne : hs ≠ []) (hRow : ∀ s ∈ compsN hs, RowOK rs nn T S s) (r0 : 0 ≤ root) (r1 : root < nn) :
    ∀ (k : Nat) (D : List R4) (f : Nat → Nat) (pos : Int → Int), D.length = k → (∀ r ∈ D, r ∈ rs ∧ dep r.s < dep r.e) → (∀ r ∈ D, r.s = root ∨ ∃ q ∈ D, q.e = r.s) → (∀ h ∈ hs, pos h = root ∨ ∃ q ∈ D, q.e = pos h) → LowP hs T nn f pos → ∃ y, T hs root = some y ∧ y ≤ (sumF f nn + sumC D : Nat) := by
  intro k
  induction k with
  | zero =>
    intro D f pos hl hD hup hpos hL
    have : D = [] := List.length_eq_zero_iff.mp hl
    subst this
    obtain ⟨p, hp⟩ := Int.eq_ofNat_of_zero_le r0
    have e : (hs.filter fun h => decide (pos h = (p : Int))) = hs := List.filter_eq_self.mpr fun h hh => by
      rcases hpos h hh with z | ⟨q, hq, _⟩
      · exact decide_eq_true (z.trans hp)
      · cases hq
    have := hL p (by omega) (by rw [e]; exact hne)
    rw [e, ← hp] at this
    obtain ⟨y, h1, h2⟩ := this
    have := sumF_mem (f := f) (n := nn) (i := p) (by omega)
    exact ⟨y, h1, by omega⟩
  | succ k ih =>
    intro D f pos hl hD hup hpos hL
    obtain ⟨r, hr, hmax⟩ := max_of (fun r : R4 => dep r.e) (D := D) (fun z => by rw [z] at hl; cases hl)
    obtain ⟨D', h1, h2, h3, h4⟩ := sumC_pick hr
    obtain ⟨f', hL', hf⟩ := low_step hg hnd hRow hL (hD r hr).1
    have hdr := (hD r hr).2
    have keep : ∀ u : Int, (u = root ∨ ∃ q ∈ D, q.e = u) → (dep u < dep r.e ∨ u ≠ r.e) → (u = root ∨ ∃ q ∈ D', q.e = u) := fun u hu hne => by
      rcases hu with z | ⟨q, hq, z⟩
      · exact .inl z
      · rcases h4 q hq with z2 | z2
        · subst z2
          rcases hne with h | h
          · rw [z] at h; omega
          · exact absurd z.symm h
        · exact .inr ⟨q, z2, z⟩
    have a1 : ∀ q ∈ D', q.s = root ∨ ∃ t ∈ D', t.e = q.s := fun q hq => keep _ (hup q (h3 q hq)) (.inl (by
      have := hmax q (h3 q hq)
      have := (hD q (h3 q hq)).2
      omega))
    have a2 : ∀ h ∈ hs, (fun h => if pos h = r.e then r.s else pos h) h = root ∨ ∃ q ∈ D', q.e = (fun h => if pos h = r.e then r.s else pos h) h := fun h hh => by
      show (if pos h = r.e then r.s else pos h) = root ∨ ∃ q ∈ D', q.e = if pos h = r.e then r.s else pos h
      by_cases e : pos h = r.e
      · rw [if_pos e]
        exact keep _ (hup r hr) (.inl hdr)
      · rw [if_neg e]
        exact keep _ (hpos h hh) (.inr e)
    obtain ⟨y, g1, g2⟩ := ih D' f' _ (by omega) (fun q hq => hD q (h3 q hq)) a1 a2 hL'
    exact ⟨y, g1, by omega⟩
/-- no tree that serves is cheaper than the table tells -/
theorem low_bound {rs : List R4} {nn : Nat} {T : TF} {S : SF} {hs : List Int} {root : Int} {g : IF} {m : Nat} (hg : Good nn rs) (hT : TreeP rs root g m) (hS : ServP root g hs) (hnd : hs.Nodup) (hne : hs ≠ []) (hin : ∀ h ∈ hs, 0 ≤ h ∧ h < (nn : Int)) (hRow : ∀ s ∈ compsN hs, RowOK rs nn T S s) (r0 : 0 ≤ root) (r1 : root < nn) :
    ∃ y, T hs root = some y ∧ y ≤ prG g rs := by
  obtain ⟨hr, hroads, hup⟩ := hT
  have key : ∀ v x, g v = some x → ∃ q ∈ rs.filter (fun r => decide (g r.e = some r.s)), q.e = v := fun v x e => by
    obtain ⟨q, hq⟩ := Option.isSome_iff_exists.mp (hroads v x e)
    obtain ⟨q1, q2, q3⟩ := road_some hq
    exact ⟨q, List.mem_filter.mpr ⟨q1, decide_eq_true (by rw [q2, q3]; exact e)⟩, q3⟩
  have b1 : ∀ r ∈ rs.filter (fun r => decide (g r.e = some r.s)), r ∈ rs ∧ depT root g m r.s < depT root g m r.e := fun r hr' => by
    have := List.mem_filter.mp hr'
    have e := of_decide_eq_true this.2
    exact ⟨this.1, dep_lt hr e (hup _ _ e)⟩
  have b2 : ∀ r ∈ rs.filter (fun r => decide (g r.e = some r.s)), r.s = root ∨ ∃ q ∈ rs.filter (fun r => decide (g r.e = some r.s)), q.e = r.s := fun r hr' => by
    have := List.mem_filter.mp hr'
    have e := of_decide_eq_true this.2
    by_cases z : r.s = root
    · exact .inl z
    · right
      have c1 := clm_root hr (hup _ _ e) 1
      rw [clm_front e] at c1
      rcases clm_in hr c1 0 with h | ⟨x, h⟩
      · exact absurd h z
      · exact key _ x h
  have b3 : ∀ h ∈ hs, id h = root ∨ ∃ q ∈ rs.filter (fun r => decide (g r.e = some r.s)), q.e = id h := fun h hh => by
    rcases hS h hh with z | z
    · exact .inl z
    · obtain ⟨x, z⟩ := Option.isSome_iff_exists.mp z
      exact .inr (key _ x z)
  have b4 : LowP hs T nn (fun _ => 0) id := fun p hp hne' => by
    have : (hs.filter fun h => decide (id h = (p : Int))) = [(p : Int)] := by
      obtain ⟨x, hx⟩ := List.exists_mem_of_ne_nil _ hne'
      obtain ⟨hx1, hx2⟩ := List.mem_filter.mp hx
      have hx2 : x = (p : Int) := of_decide_eq_true hx2
      subst hx2
      have := filter_sub hnd (List.singleton_sublist.mpr hx1)
      refine Eq.trans (List.filter_congr fun y hy => ?_) this
      rw [Bool.eq_iff_iff, decide_eq_true_iff, decide_eq_true_iff, List.mem_singleton]
      exact Iff.rfl
    rw [this] at hne' ⊢
    have hm : [(p : Int)] ∈ compsN hs := compsN_mem.mpr ⟨by rw [← this]; exact List.filter_sublist, hne'⟩
    exact ⟨0, (hRow _ hm).home _ rfl, Int.le_refl _⟩
  obtain ⟨y, h1, h2⟩ := low_go hg hnd hne hRow r0 r1 _ _ _ _ rfl b1 b2 b3 b4
  refine ⟨y, h1, ?_⟩
  rw [prG_sumC fun r hr => (hg.ok r hr).c0]
  have := sumF_zero nn
  omega
end HK

set_option Elab.async false
set_option linter.all false
set_option maxRecDepth 100000
set_option maxHeartbeats 4000000
namespace HK
open PySem PySem.Spec PyProof.Rows L2 GAl GxR HkN
/-! ### a tree along the steps -/
theorem filter_len {α : Type} (q : α → Bool) : ∀ l : List α, (l.filter q).length + (l.filter fun x => !q x).length = l.length
  | [] => rfl
  | x :: l => by
    have ih := filter_len q l
    rw [List.filter_cons, List.filter_cons]
    cases q x <;> simp only [Bool.not_true, Bool.not_false, if_true, if_false, Bool.false_eq_true, List.length_cons] <;> omega
theorem partsF_un {s a b : List Int} (hs : s.Nodup) (h : (a, b) ∈ partsF s) : (∀ x ∈ s, x ∈ a ∨ x ∈ b) ∧ a.length + b.length = s.length := by
  unfold partsF at h
  obtain ⟨o, ho, e⟩ := List.mem_map.mp h
  cases e
  obtain ⟨hsub, hne⟩ := compsN_mem.mp ho
  cases s with
  | nil => exact absurd (List.sublist_nil.mp hsub) hne
  | cons x t =>
    have hn := List.nodup_cons.mp hs
    have hsub : List.Sublist b t := hsub
    have fs := filter_sub hn.2 hsub
    have fl := filter_len (fun y => decide (y ∈ b)) t
    rw [fs] at fl
    show (∀ y ∈ x :: t, y ∈ x :: otherF t b ∨ y ∈ b) ∧ (otherF t b).length + 1 + b.length = t.length + 1
    unfold otherF
    refine ⟨fun y hy => ?_, by omega⟩
    rcases List.mem_cons.mp hy with e | hy
    · exact .inl (by rw [e]; exact List.mem_cons_self ..)
    · by_cases hb : y ∈ b
      · exact .inr hb
      · exact .inl (List.mem_cons_of_mem _ (List.mem_filter.mpr ⟨hy, by rw [decide_eq_false hb]; rfl⟩))
inductive UnfP (S : SF) : CK → Nat → Prop where
  | leaf {k : CK} : S k.1 k.2 = some [] → UnfP S k 1
  | one {k l : CK} {n : Nat} : S k.1 k.2 = some [l] → UnfP S l n → UnfP S k (n + 1)
  | two {k l q : CK} {n m : Nat} : S k.1 k.2 = some [l, q] → UnfP S l n → UnfP S q m → UnfP S k (n + m + 1)
def UnfL (S : SF) : List CK → Nat → Prop
  | [], _ => True
  | k :: W, m => ∃ a b, UnfP S k a ∧ UnfL S W b ∧ a + b ≤ m
theorem UnfL.mono {S : SF} : ∀ {W : List CK} {a b : Nat}, UnfL S W a → a ≤ b → UnfL S W b
  | [], _, _, _, _ => trivial
  | _ :: _, _, _, ⟨x, y, h1, h2, h3⟩, h => ⟨x, y, h1, h2, Nat.le_trans h3 h⟩
theorem UnfL.app {S : SF} : ∀ {A B : List CK} {m : Nat}, UnfL S (A ++ B) m ↔ ∃ a b, UnfL S A a ∧ UnfL S B b ∧ a + b ≤ m
  | [], B, m => ⟨fun h => ⟨0, m, trivial, h, by omega⟩, fun ⟨a, b, _, h, h2⟩ => UnfL.mono (W := B) h (by omega)⟩
  | k :: A, B, m => by
    constructor
    · rintro ⟨x, y, h1, h2, h3⟩
      obtain ⟨a, b, g1, g2, g3⟩ := UnfL.app.mp h2
      exact ⟨x + a, b, ⟨x, a, h1, g1, Nat.le_refl _⟩, g2, by omega⟩
    · rintro ⟨a, b, ⟨x, y, h1, h2, h3⟩, g2, g3⟩
      exact ⟨x, y + b, h1, UnfL.app.mpr ⟨y, b, h2, g2, Nat.le_refl _⟩, by omega⟩
theorem UnfP.inv {S : SF} {k : CK} {n : Nat} (h : UnfP S k n) : ∃ kids m, S k.1 k.2 = some kids ∧ UnfL S kids m ∧ m < n := by
  cases h with
  | leaf e => exact ⟨[], 0, e, trivial, Nat.lt_succ_self _⟩
  | one e h => exact ⟨[_], _, e, ⟨_, 0, h, trivial, Nat.le_refl _⟩, by omega⟩
  | two e h h2 => exact ⟨[_, _], _, e, ⟨_, _, h, ⟨_, 0, h2, trivial, Nat.le_refl _⟩, Nat.le_refl _⟩, by omega⟩
/-- each company's steps end -/
theorem unf_all {rs : List R4} {n : Int} {T : TF} {S : SF} {hs : List Int} (hg : Good n rs) (hnd : hs.Nodup) (hRow : ∀ s ∈ compsN hs, RowOK rs n T S s) : ∀ (N : Nat) (s : List Int), s.length ≤ N → s ∈ compsN hs → ∀ (v x : Int), 0 ≤ v → v < n → T s v = some x → ∃ u, UnfP S (s, v) u := by
  intro N
  induction N with
  | zero =>
    intro s hl hs
    exact absurd (List.length_eq_zero_iff.mp (Nat.le_zero.mp hl)) (compsN_mem.mp hs).2
  | succ N ihN =>
    intro s hl hm0
    have hr := hRow s hm0
    obtain ⟨rank, hst⟩ := hr.st
    have snd : s.Nodup := List.Nodup.sublist (compsN_mem.mp hm0).1 hnd
    have key : ∀ (X R : Nat) (v x : Int), 0 ≤ v → v < n → T s v = some x → x.toNat = X → rank v = R → ∃ u, UnfP S (s, v) u := by
      intro X
      induction X using Nat.strongRecOn with
      | ind X ihX =>
      intro R
      induction R using Nat.strongRecOn with
      | ind R ihR =>
      intro v x v0 v1 hx eX eR
      have := hr.so v v0 v1
      rw [hx] at this
      obtain ⟨kids, hk⟩ := Option.isSome_iff_exists.mp this.symm
      rcases hst v kids v0 v1 hk with ⟨e, _⟩ | ⟨r, hrm, e1, e2, y, e3, e4, e5⟩ | ⟨a, b, hab, e1, y, z, e2, e3, e4⟩
      · subst e
        exact ⟨1, .leaf hk⟩
      · subst e2
        have ok := hg.ok r hrm
        rw [e3] at hx
        cases hx
        have y0 := hr.nn _ _ ok.e0 ok.e1 e4
        have c0 := ok.c0
        have : ∃ u, UnfP S (s, r.e) u := by
          by_cases hlt : y.toNat < X
          · exact ihX _ hlt _ _ _ ok.e0 ok.e1 e4 rfl rfl
          · rcases e5 with h | h
            · omega
            · exact ihR _ (by omega) _ _ ok.e0 ok.e1 e4 (by omega) rfl
        obtain ⟨u, hu⟩ := this
        exact ⟨_, .one hk hu⟩
      · subst e1
        obtain ⟨a0, b0, as, bs, ane, bne⟩ := partsF_mem snd hab
        have hlt : ∀ c : List Int, c.Sublist s → c ≠ s → c.length ≤ N := fun c h1 h2 => by
          have := h1.length_le
          have : c.length ≠ s.length := fun z => h2 (h1.eq_of_length z)
          omega
        have hcm : ∀ c : List Int, c.Sublist s → c ≠ [] → c ∈ compsN hs := fun c h1 h2 => compsN_mem.mpr ⟨h1.trans (compsN_mem.mp hm0).1, h2⟩
        obtain ⟨u, hu⟩ := ihN a (hlt a as ane) (hcm a as a0) v y v0 v1 e2
        obtain ⟨u2, hu2⟩ := ihN b (hlt b bs bne) (hcm b bs b0) v z v0 v1 e3
        exact ⟨_, .two hk hu hu2⟩
    exact fun v x v0 v1 hx => key _ _ v x v0 v1 hx rfl rfl
/-! what is ahead -/
structure AlP (rs : List R4) (root : Int) (g : IF) : Prop where
  r : g root = none
  rd : ∀ v x, g v = some x → (road rs x v).isSome = true
  up : ∀ v x, g v = some x → ∃ m, clm g m v = root
theorem put_same {g : IF} {v x : Int} : put g v x v = some x := if_pos rfl
theorem put_ne {g : IF} {v x u : Int} (h : u ≠ v) : put g v x u = g u := if_neg h
theorem AlP.put {rs : List R4} {root : Int} {g : IF} (h : AlP rs root g) {r : R4} (up : rs.Pairwise R4.lt) (hr : r ∈ rs) (hp : r.s = root ∨ (g r.s).isSome = true) (hn : g r.e = none) (he : r.e ≠ root) : AlP rs root (put g r.e r.s) := by
  have same : ∀ v m, clm g m v = root → ∀ k, clm (HK.put g r.e r.s) k v = clm g k v := fun v m hm k => by
    have hin := clm_in h.r hm
    induction k with
    | zero => rfl
    | succ k ih =>
      show stp _ (clm _ k v) = stp g (clm g k v)
      rw [ih]
      have ne : clm g k v ≠ r.e := fun z => by
        rcases hin k with e | ⟨x, e⟩
        · exact he (z.symm.trans e)
        · rw [z, hn] at e; cases e
      unfold stp
      rw [put_ne ne]
  refine ⟨by rw [put_ne fun z => he z.symm]; exact h.r, fun v x e => ?_, fun v x e => ?_⟩
  · by_cases hv : v = r.e
    · subst hv
      rw [put_same] at e
      cases e
      rw [road_of up hr]; rfl
    · rw [put_ne hv] at e; exact h.rd v x e
  · by_cases hv : v = r.e
    · subst hv
      have : ∃ m, clm g m r.s = root := by
        rcases hp with e | e
        · exact ⟨0, e⟩
        · obtain ⟨y, e⟩ := Option.isSome_iff_exists.mp e
          exact h.up _ y e
      obtain ⟨m, hm⟩ := this
      exact ⟨m + 1, by rw [clm_front put_same, same _ m hm]; exact hm⟩
    · rw [put_ne hv] at e
      obtain ⟨m, hm⟩ := h.up v x e
      exact ⟨m, by rw [same _ m hm]; exact hm⟩
theorem AlP.tree {rs : List R4} {root : Int} {g : IF} {kvs : List (Key × V)} (h : AlP rs root g) (hD : DI kvs g) : TreeP rs root g kvs.length := ⟨h.r, h.rd, fun v x e => by
  obtain ⟨m, hm⟩ := h.up v x e
  exact clm_len hD h.r hm⟩
def sumW (f : CK → Int) : List CK → Int
  | [] => 0
  | k :: W => f k + sumW f W
theorem sumW_app (f : CK → Int) : ∀ a b : List CK, sumW f (a ++ b) = sumW f a + sumW f b
  | [], b => by
    show sumW f b = 0 + sumW f b
    omega
  | k :: a, b => by
    show f k + sumW f (a ++ b) = f k + sumW f a + sumW f b
    rw [sumW_app f a b]; omega
def tW (T : TF) (k : CK) : Int := (T k.1 k.2).getD 0
def lW (k : CK) : Int := (k.1.length : Nat)
def gst (root p : Int) (g : IF) (e : Int) : IF := if e ≠ root ∧ g e = none then put g e p else g
structure AlI (rs : List R4) (n : Int) (T : TF) (S : SF) (hs : List Int) (root t0 : Int) (g : IF) (W : List CK) (m : Nat) : Prop where
  al : AlP rs root g
  wt : ∀ k ∈ W, k.1 ∈ compsN hs ∧ 0 ≤ k.2 ∧ k.2 < n ∧ (k.2 = root ∨ (g k.2).isSome = true) ∧ (T k.1 k.2).isSome = true
  srv : ∀ h ∈ hs, h = root ∨ (g h).isSome = true ∨ ∃ k ∈ W, h ∈ k.1
  cost : prG g rs + sumW (tW T) W ≤ t0
  len : sumW lW W ≤ hs.length
  ms : UnfL S W m
theorem AlI.few {rs : List R4} {n : Int} {T : TF} {S : SF} {hs : List Int} {root t0 : Int} {g : IF} {W : List CK} {m : Nat} (h : AlI rs n T S hs root t0 g W m) : W.length ≤ hs.length := by
  have aux : ∀ W : List CK, (∀ k ∈ W, k.1 ≠ []) → (W.length : Int) ≤ sumW lW W := fun W => by
    induction W with
    | nil => exact fun _ => Int.le_refl _
    | cons k W ih =>
      intro h
      have h1 := ih fun q hq => h q (List.mem_cons_of_mem _ hq)
      have h2 := List.length_pos_iff.mpr (h k (List.mem_cons_self ..))
      show ((W.length + 1 : Nat) : Int) ≤ ((k.1.length : Nat) : Int) + sumW lW W
      omega
  have := aux W fun k hk => (compsN_mem.mp (h.wt k hk).1).2
  have := h.len
  omega
theorem AlI.step {rs : List R4} {n : Int} {T : TF} {S : SF} {hs : List Int} {root t0 : Int} {g : IF} {W : List CK} {k : CK} {m : Nat} (hg : Good n rs) (hnd : hs.Nodup) (hRow : ∀ s ∈ compsN hs, RowOK rs n T S s) (I : AlI rs n T S hs root t0 g (W ++ [k]) m) :
    ∃ kids m', S k.1 k.2 = some kids ∧ kids.length ≤ 2 ∧ m' < m ∧ AlI rs n T S hs root t0 (kids.foldl (fun g l => gst root k.2 g l.2) g) (W ++ kids) m' := by
  obtain ⟨s, p⟩ := k
  obtain ⟨hsm, p0, p1, hp, hT⟩ := I.wt (s, p) (List.mem_append_right _ (List.mem_singleton.mpr rfl))
  obtain ⟨t, hT⟩ := Option.isSome_iff_exists.mp hT
  have hT : T s p = some t := hT
  have hr := hRow s hsm
  have snd : s.Nodup := List.Nodup.sublist (compsN_mem.mp hsm).1 hnd
  obtain ⟨a, b, ha, ⟨b1, b2, hb, _, hb2⟩, hab⟩ := UnfL.app.mp I.ms
  obtain ⟨kids, mk, hk, hmk, hlt⟩ := hb.inv
  have hms : UnfL S (W ++ kids) (a + mk) := UnfL.app.mpr ⟨a, mk, ha, hmk, Nat.le_refl _⟩
  have hcost := I.cost
  have hlen := I.len
  rw [sumW_app] at hcost hlen
  have e1 : sumW (tW T) [(s, p)] = t := by
    show (T s p).getD 0 + 0 = t
    rw [hT]
    show t + 0 = t
    omega
  have e2 : sumW lW [(s, p)] = (s.length : Nat) := by
    show ((s.length : Nat) : Int) + 0 = _
    omega
  rw [e1] at hcost
  rw [e2] at hlen
  have wt0 : ∀ q ∈ W, q.1 ∈ compsN hs ∧ 0 ≤ q.2 ∧ q.2 < n ∧ (q.2 = root ∨ (g q.2).isSome = true) ∧ (T q.1 q.2).isSome = true := fun q hq => I.wt q (List.mem_append_left _ hq)
  have same : gst root p g p = g := if_neg fun z => by
    rcases hp with e | e
    · exact z.1 e
    · rw [show g p = none from z.2] at e; cases e
  have t0' := hr.nn _ _ p0 p1 hT
  have hk : S s p = some kids := hk
  obtain ⟨rank, hst⟩ := hr.st
  rcases hst p kids p0 p1 hk with ⟨e, es⟩ | ⟨r, hrm, er, e, y, e3, e4, _⟩ | ⟨c, d, hcd, e, x, y, e3, e4, e5⟩
  · subst e
    refine ⟨[], a + mk, hk, by decide, by omega, I.al, ?_, fun h hh => ?_, ?_, ?_, hms⟩
    · rw [List.append_nil]; exact wt0
    · rcases I.srv h hh with z | z | ⟨q, hq, z⟩
      · exact .inl z
      · exact .inr (.inl z)
      · rcases List.mem_append.mp hq with hq | hq
        · exact .inr (.inr ⟨q, List.mem_append_left _ hq, z⟩)
        · rw [List.mem_singleton.mp hq] at z
          have z : h ∈ s := z
          rw [es] at z
          rw [List.mem_singleton.mp z]
          rcases hp with e | e
          · exact .inl e
          · exact .inr (.inl e)
    · rw [List.append_nil]
      show prG g rs + _ ≤ _
      omega
    · rw [List.append_nil]; omega
  · subst e
    have ok := hg.ok r hrm
    rw [hT] at e3
    cases e3
    have c0 := ok.c0
    have e1' : sumW (tW T) [(s, r.e)] = y := by
      show (T s r.e).getD 0 + 0 = y
      rw [e4]
      show y + 0 = y
      omega
    have e2' : sumW lW [(s, r.e)] = (s.length : Nat) := by
      show ((s.length : Nat) : Int) + 0 = _
      omega
    have main : ∀ g' : IF, AlP rs root g' → (∀ v, (g v).isSome = true → (g' v).isSome = true) → (r.e = root ∨ (g' r.e).isSome = true) → prG g' rs ≤ prG g rs + r.c → AlI rs n T S hs root t0 g' (W ++ [(s, r.e)]) (a + mk) := fun g' h1 h2 h3 h4 => by
      refine ⟨h1, fun q hq => ?_, fun h hh => ?_, ?_, ?_, hms⟩
      · rcases List.mem_append.mp hq with hq | hq
        · obtain ⟨w1, w2, w3, w4, w5⟩ := wt0 q hq
          exact ⟨w1, w2, w3, w4.imp id (h2 _), w5⟩
        · rw [List.mem_singleton.mp hq]
          exact ⟨hsm, ok.e0, ok.e1, h3, by show (T s r.e).isSome = true; rw [e4]; rfl⟩
      · rcases I.srv h hh with z | z | ⟨q, hq, z⟩
        · exact .inl z
        · exact .inr (.inl (h2 _ z))
        · rcases List.mem_append.mp hq with hq | hq
          · exact .inr (.inr ⟨q, List.mem_append_left _ hq, z⟩)
          · rw [List.mem_singleton.mp hq] at z
            exact .inr (.inr ⟨(s, r.e), List.mem_append_right _ (List.mem_singleton.mpr rfl), z⟩)
      · rw [sumW_app, e1']; omega
      · rw [sumW_app, e2']; omega
    refine ⟨[(s, r.e)], a + mk, hk, by show 1 ≤ 2; decide, by omega, ?_⟩
    show AlI rs n T S hs root t0 (gst root p g r.e) _ _
    unfold gst
    by_cases hc : r.e ≠ root ∧ g r.e = none
    · rw [if_pos hc]
      rw [← er]
      refine main _ (I.al.put hg.up hrm (by rw [er]; exact hp) hc.2 hc.1) (fun v hv => ?_) (.inr (by rw [put_same]; rfl)) ?_
      · by_cases e : v = r.e
        · rw [e, put_same]; rfl
        · rw [put_ne e]; exact hv
      · rw [prG_put hg.up hrm hc.2]; exact Int.le_refl _
    · rw [if_neg hc]
      refine main g I.al (fun _ h => h) ?_ (by omega)
      by_cases e : r.e = root
      · exact .inl e
      · right
        cases h : g r.e with
        | some x => rfl
        | none => exact absurd ⟨e, h⟩ hc
  · subst e
    rw [hT] at e5
    cases e5
    obtain ⟨c0, d0, cs, ds, _, _⟩ := partsF_mem snd hcd
    obtain ⟨hun, hl⟩ := partsF_un snd hcd
    have hcm : ∀ c : List Int, c.Sublist s → c ≠ [] → c ∈ compsN hs := fun c h1 h2 => compsN_mem.mpr ⟨h1.trans (compsN_mem.mp hsm).1, h2⟩
    have e1' : sumW (tW T) [(c, p), (d, p)] = x + y := by
      show (T c p).getD 0 + ((T d p).getD 0 + 0) = x + y
      rw [e3, e4]
      show x + (y + 0) = x + y
      omega
    have e2' : sumW lW [(c, p), (d, p)] = (s.length : Nat) := by
      show ((c.length : Nat) : Int) + (((d.length : Nat) : Int) + 0) = _
      omega
    refine ⟨[(c, p), (d, p)], a + mk, hk, Nat.le_refl _, by omega, ?_⟩
    show AlI rs n T S hs root t0 (gst root p (gst root p g p) p) _ _
    rw [same, same]
    refine ⟨I.al, fun q hq => ?_, fun h hh => ?_, ?_, ?_, hms⟩
    · rcases List.mem_append.mp hq with hq | hq
      · exact wt0 q hq
      · rcases List.mem_cons.mp hq with e | hq
        · rw [e]; exact ⟨hcm c cs c0, p0, p1, hp, by show (T c p).isSome = true; rw [e3]; rfl⟩
        · rw [List.mem_singleton.mp hq]; exact ⟨hcm d ds d0, p0, p1, hp, by show (T d p).isSome = true; rw [e4]; rfl⟩
    · rcases I.srv h hh with z | z | ⟨q, hq, z⟩
      · exact .inl z
      · exact .inr (.inl z)
      · rcases List.mem_append.mp hq with hq | hq
        · exact .inr (.inr ⟨q, List.mem_append_left _ hq, z⟩)
        · rw [List.mem_singleton.mp hq] at z
          rcases hun h z with z | z
          · exact .inr (.inr ⟨(c, p), List.mem_append_right _ (List.mem_cons_self ..), z⟩)
          · exact .inr (.inr ⟨(d, p), List.mem_append_right _ (List.mem_cons_of_mem _ (List.mem_singleton.mpr rfl)), z⟩)
    · rw [sumW_app, e1']; omega
    · rw [sumW_app, e2']; omega
/-- at first -/
theorem AlI.start {rs : List R4} {n : Int} {T : TF} {S : SF} {hs : List Int} {root t : Int} (hg : Good n rs) (hnd : hs.Nodup) (hne : hs ≠ []) (hRow : ∀ s ∈ compsN hs, RowOK rs n T S s) (r0 : 0 ≤ root) (r1 : root < n) (hT : T hs root = some t) : ∃ m, AlI rs n T S hs root t (fun _ => none) [(hs, root)] m := by
  have hm : hs ∈ compsN hs := compsN_mem.mpr ⟨List.Sublist.refl _, hne⟩
  obtain ⟨u, hu⟩ := unf_all hg hnd hRow _ hs (Nat.le_refl _) hm root t r0 r1 hT
  refine ⟨u, ⟨rfl, (fun v x e => by cases e), fun v x e => by cases e⟩, fun k hk => ?_, fun h hh => .inr (.inr ⟨_, List.mem_singleton.mpr rfl, hh⟩), ?_, ?_, ⟨u, 0, hu, trivial, Nat.le_refl _⟩⟩
  · rw [List.mem_singleton.mp hk]
    exact ⟨hm, r0, r1, .inl rfl, by show (T hs root).isSome = true; rw [hT]; rfl⟩
  · rw [prG_none]
    show 0 + ((T hs root).getD 0 + 0) ≤ t
    rw [hT]
    show 0 + (t + 0) ≤ t
    omega
  · show ((hs.length : Nat) : Int) + 0 ≤ _
    omega
end HK

set_option Elab.async false
set_option linter.all false
set_option maxRecDepth 100000
set_option maxHeartbeats 8000000
namespace HK
open PySem PySem.Spec PyProof.Rows L2 GAl GxR HkN
open Evl (pss_cut)
/-! ### the greatest table -/
abbrev sGreat : Stmt := topS 34
abbrev N_scGreat : List Str := ["net", "hearers", "table", "steps", "some", "place"]
theorem scGreat : FnScope N_scGreat ["net", "hearers"] (defScope sGreat) := ⟨rfl, rfl, rfl, by decide +kernel, rfl, by decide +kernel, by decide +kernel⟩
theorem K0.kx2 {F : Addr → Prop} {H G G' : Hp} (k : K0 H G) (x : KX F G G') (n : ∀ c, F c → H c = none) : K0 H G' :=
  ⟨fun b o e m => x.oth b o (k.oth b o e m) (fun z => by rw [n b z] at e; cases e) m, fun Q hQ => x.tab Q (k.tab Q hQ), fun b e => k.dom b (x.dom b e)⟩
def rowKs (nn : Nat) (s : List Int) : List CK := (List.range nn).map fun (i : Nat) => (s, (i : Int))
def keysOf (nn : Nat) (cs : List (List Int)) : List CK := cs.flatMap (rowKs nn)
theorem rowKs_mem {nn : Nat} {s : List Int} {k : CK} : k ∈ rowKs nn s ↔ k.1 = s ∧ 0 ≤ k.2 ∧ k.2 < nn := by
  unfold rowKs
  rw [List.mem_map]
  constructor
  · rintro ⟨i, hi, rfl⟩
    exact ⟨rfl, Int.natCast_nonneg i, Int.ofNat_lt.mpr (List.mem_range.mp hi)⟩
  · rintro ⟨e, h0, h1⟩
    obtain ⟨i, hi⟩ := Int.eq_ofNat_of_zero_le h0
    refine ⟨i, List.mem_range.mpr (by omega), ?_⟩
    exact Prod.ext e.symm hi.symm
theorem keysOf_mem {nn : Nat} {cs : List (List Int)} {k : CK} : k ∈ keysOf nn cs ↔ k.1 ∈ cs ∧ 0 ≤ k.2 ∧ k.2 < nn := by
  unfold keysOf
  rw [List.mem_flatMap]
  constructor
  · rintro ⟨s, hs, hk⟩
    obtain ⟨e, h⟩ := rowKs_mem.mp hk
    exact ⟨by rw [e]; exact hs, h⟩
  · rintro ⟨h1, h2⟩
    exact ⟨k.1, h1, rowKs_mem.mpr ⟨rfl, h2⟩⟩
theorem keysOf_len {nn : Nat} : ∀ {cs : List (List Int)}, (keysOf nn cs).length = cs.length * nn
  | [] => by simp [keysOf]
  | s :: cs => by
    have ih := keysOf_len (nn := nn) (cs := cs)
    unfold keysOf at ih ⊢
    rw [List.flatMap_cons, List.length_append, ih, List.length_cons, Nat.succ_mul]
    unfold rowKs
    rw [List.length_map, List.length_range]
    omega
theorem keysOf_take {nn : Nat} {cs : List (List Int)} {j : Nat} {s : List Int} (h : cs[j]? = some s) : keysOf nn (cs.take (j + 1)) = keysOf nn (cs.take j) ++ rowKs nn s := by
  unfold keysOf
  rw [List.take_add_one, h, List.flatMap_append]
  simp
theorem cStep_nodup {A : List (List Int)} {p : Int} (h : A.Nodup) (hp : ∀ a ∈ A, p ∉ a) : (cStep A p).Nodup := by
  unfold cStep
  refine List.nodup_append.mpr ⟨h, ?_, fun x hx y hy e => ?_⟩
  · refine List.pairwise_map.mpr (h.imp fun {a b} ne z => ne (List.append_cancel_right z))
  · obtain ⟨a, _, rfl⟩ := List.mem_map.mp hy
    exact hp x hx (by rw [e]; exact List.mem_append_right _ (List.mem_singleton.mpr rfl))
theorem fold_nodup {hs : List Int} : ∀ {A : List (List Int)}, A.Nodup → hs.Nodup → (∀ a ∈ A, ∀ x ∈ a, x ∉ hs) → (hs.foldl cStep A).Nodup := by
  induction hs with
  | nil => exact fun h _ _ => h
  | cons p hs ih =>
    intro A hA hn hx
    have hn := List.nodup_cons.mp hn
    refine ih (cStep_nodup hA fun a ha z => hx a ha p z (List.mem_cons_self ..)) hn.2 fun a ha x hxa => ?_
    unfold cStep at ha
    rcases List.mem_append.mp ha with ha | ha
    · exact fun z => hx a ha x hxa (List.mem_cons_of_mem _ z)
    · obtain ⟨b, hb, rfl⟩ := List.mem_map.mp ha
      rcases List.mem_append.mp hxa with h | h
      · exact fun z => hx b hb x h (List.mem_cons_of_mem _ z)
      · rw [List.mem_singleton.mp h]; exact hn.1
theorem compsN_nodup {hs : List Int} (h : hs.Nodup) : (compsN hs).Nodup := by
  have : (comps hs).Nodup := fold_nodup (List.pairwise_singleton ..) h fun a ha x hx => by
    rw [List.mem_singleton.mp ha] at hx; cases hx
  rw [(comps_hd hs).1] at this
  exact (List.nodup_cons.mp this).2
theorem nodup_take {α : Type} {l : List α} {j : Nat} {x : α} (h : l.Nodup) (hx : l[j]? = some x) : x ∉ l.take j := fun hm => by
  obtain ⟨i, hi, e⟩ := List.mem_iff_getElem.mp hm
  rw [List.length_take] at hi
  rw [List.getElem_take] at e
  have hj := (List.getElem?_eq_some_iff.mp hx)
  obtain ⟨hj1, hj2⟩ := hj
  have := (List.getElem_inj h).mp (e.trans hj2.symm)
  omega
section
variable {P : Program} {w : World} {K : PySem.W.Frag} {mg : Str → Option Value} {base : Heap}
def spGreat (P : Program) (w : World) (K : PySem.W.Frag) (Pp : Addr) : Sp := fun vs H Q _ => ∃ (a p : Addr) (nn : Nat) (rs : List R4) (hs : List Int), vs = [.ref a, .ref p] ∧ NetAt K H a nn rs ∧ Good nn rs ∧ SqT K H p (iV hs) ∧ hs.Nodup ∧ hs.length ≤ 8 ∧ (∀ h ∈ hs, 0 ≤ h ∧ h < (nn : Int)) ∧ TabG H Pp ∧
  ∀ (tp dt ds : Addr) (H' : Hp) (T : TF) (S : SF), K0 H H' → SqT K H' tp [.ref dt, .ref ds] → H dt = none → H ds = none → WK P w K H' dt ds (keysOf nn (compsN hs)) (keysOf nn (compsN hs)) T S → (∀ s ∈ compsN hs, RowOK rs nn T S s) → Q (.ref tp) H'
theorem ok_great {f Pp : Addr} {fd : FuncData} {f_comps f_join f_follow : Addr} {fd_comps fd_join fd_follow : FuncData} (F : Fun K "greatest_table" "greatest_table" sGreat f fd) (k_comps : PySem.W.keepIn K (.ref f_comps) = true) (b_comps : Binds K fd_comps ["hearers"] []) (g_comps : mg "companies" = some (.ref f_comps)) (G_comps : FnOk P w K mg base CX0 1 f_comps fd_comps ["hearers"] (spComps K))
    (k_join : PySem.W.keepIn K (.ref f_join) = true) (b_join : Binds K fd_join ["net", "table", "steps", "some"] []) (g_join : mg "join_parts" = some (.ref f_join)) (G_join : FnOk P w K mg base CX0 3 f_join fd_join ["net", "table", "steps", "some"] (spJoin P w K Pp))
    (k_follow : PySem.W.keepIn K (.ref f_follow) = true) (b_follow : Binds K fd_follow ["net", "table", "steps", "some"] []) (g_follow : mg "follow_roads" = some (.ref f_follow)) (G_follow : FnOk P w K mg base CX0 2 f_follow fd_follow ["net", "table", "steps", "some"] (spFollow P w K)) (m_range : mg "range" = none) (m_len : mg "len" = none) : FnOk P w K mg base CX0 4 f fd ["net", "hearers"] (spGreat P w K Pp) := by
  refine F.ok scGreat (fun vs H Q E h => ?_) (fun cdv A outer st H vs Q E hr h => ?_)
  · obtain ⟨a, p, nn, rs, hs, rfl, _⟩ := h
    rfl
  · obtain ⟨a, p, nn, rs, hs, rfl, hN, hg, hp, hnd, hsl, hin, tp, q⟩ := h
    have hu := hu_of hr
    refine ⟨_, (pss_cons (ps_set (i := 2) scGreat.nd rfl (.inl rfl) HkN.pe_dnewN)
      (pss_cons (ps_set (i := 3) scGreat.nd rfl (.inl rfl) HkN.pe_dnewN)
      (pss_cons (ps_for PassesOwn.never rfl (pi_list (pe_call G_comps (hr.mono (by decide)) (by rfl) g_comps k_comps b_comps .nil pass0 (pa_cons (pv 1) pa_nil))) (pg_name (i := 4) scGreat.nd rfl (.inl rfl))
      (pss_cut (ps_for PassesOwn.never rfl (pi_range1 (by rfl) m_range (pa_cons (pe_ix ix_tup (pv 0) pe_int (fun _ _ => rfl)) pa_nil)) (pg_name (i := 5) scGreat.nd rfl (.inl rfl))
      (pss_one (HkN.ps_dputN (HkN.room_u9 hr) (pv 2) (pe_tup (pa_cons (pv 4) (pa_cons (pv 5) pa_nil))) pe_non rfl)))
      (pss_cut (ps_if (pt_cmpR op_eq (pe_callB call_len_seq (by rfl) m_len PySem.boot_len (pa_cons (pv 4) pa_nil)) pe_int (nomark _)) (pss_cons (HkN.ps_dputN (HkN.room_u9 hr) (pv 2) (pe_tup (pa_cons (pv 4) (pa_cons (pe_ix ix_tup (pv 4) pe_int (fun _ _ => rfl)) pa_nil))) pe_int rfl)
      (pss_one (HkN.ps_dputN (HkN.room_u9 hr) (pv 3) (pe_tup (pa_cons (pv 4) (pa_cons (pe_ix ix_tup (pv 4) pe_int (fun _ _ => rfl)) pa_nil))) (pe_lst pa_nil) rfl))) pss_nil)
      (pss_cons (ps_expr (pe_call G_join (hr.mono (by decide)) (by rfl) g_join k_join b_join .nil pass0 (pa_cons (pv 0) (pa_cons (pv 2) (pa_cons (pv 3) (pa_cons (pv 4) pa_nil))))))
      (pss_one (ps_expr (pe_call G_follow (hr.mono (by decide)) (by rfl) g_follow k_follow b_follow .nil pass0 (pa_cons (pv 0) (pa_cons (pv 2) (pa_cons (pv 3) (pa_cons (pv 4) pa_nil)))))))))))
      (pss_one (ps_ret (pe_tup (pa_cons (pv 2) (pa_cons (pv 3) pa_nil)))))))), ?_⟩
    refine fun dt ndt => ?_
    have k1 := K0.new ndt (o := DN P w dt [])
    refine fun ds nds => ?_
    have k2 := K0.new nds (o := DN P w ds [])
    have k12 := k1.trans k2
    have ne : dt ≠ ds := fun z => by rw [← z, upd_same] at nds; cases nds
    have nds0 : H ds = none := k1.dom _ nds
    have hdt : (upd (upd H dt (DN P w dt [])) ds (DN P w ds [])) dt = some (DN P w dt []) := k2.oth _ _ upd_same (fun _ z => by cases z)
    have hds : (upd (upd H dt (DN P w dt [])) ds (DN P w ds [])) ds = some (DN P w ds []) := upd_same
    clear k1 k2 nds
    have nF : ∀ c, FW dt ds c → H c = none := fun c z => by rcases z with rfl | rfl; exact ndt; exact nds0
    refine ⟨_, rfl, p, hs, rfl, k12.sqT hp, by omega, fun L as H3 k3 nL hL hR => ?_⟩
    have hn0 : (keysOf nn (compsN hs)).length ≤ 5000 := by
      rw [keysOf_len]
      have h1 := compsN_len hs
      have h2 := Nat.pow_le_pow_right (n := 2) (by decide) hsl
      have h3 : (2 : Nat) ^ 8 = 256 := by decide
      have h4 : nn ≤ 12 := by have := hg.n2; omega
      have h5 : (compsN hs).length * nn ≤ 255 * 12 := Nat.mul_le_mul (by omega) h4
      omega
    have hW0 : WK P w K H3 dt ds (keysOf nn ((compsN hs).take 0)) (keysOf nn (compsN hs)) (fun _ _ => none) (fun _ _ => none) := by
      refine WK.k0 ⟨⟨[], hdt, KsOk.nil, rfl, fun k hk => by rw [List.take_zero] at hk; cases hk⟩, ⟨[], hds, KsOk.nil, List.nodup_nil, (fun k hk => by cases hk), fun s v => rfl⟩, ne⟩ k3
    have cnd := compsN_nodup hnd
    have hll : as.length = (compsN hs).length := by rw [hR.1, List.length_map]
    refine ⟨L, rfl, ⟨_, .inl (.inl hL)⟩, for_list (K := K) (a := L) (xs := as.map V.ref) (fun j σ' G => ∃ (y4 y5 : Option V) (T : TF) (S : SF), σ' = [some (.ref a), some (.ref p), some (.ref dt), some (.ref ds), y4, y5] ∧ K0 H G ∧ KX (FW dt ds) H3 G ∧ WK P w K G dt ds (keysOf nn ((compsN hs).take j)) (keysOf nn (compsN hs)) T S ∧ (∀ s ∈ (compsN hs).take j, RowOK rs nn T S s) ∧ (∀ s, s ∉ (compsN hs).take j → ∀ v, S s v = none))
      ⟨none, none, _, _, rfl, k12.trans k3, KX.refl _ _, hW0, (fun s hs => by rw [List.take_zero] at hs; cases hs), fun s _ v => rfl⟩ (fun j σ' G _ h => ?_) (fun j z σ' G hz h => ?_) (fun σ' G h => ?_)⟩
    · obtain ⟨_, _, _, _, _, _, kx, _⟩ := h
      exact .inl (.inl (kx.oth _ _ hL (hW0.lst _ _ hL) (fun _ z => by cases z)))
    · obtain ⟨y4, y5, T, S, rfl, k, kx, hW, hRow, hS⟩ := h
      rw [List.getElem?_map] at hz
      obtain ⟨b, hb, rfl⟩ := Option.map_eq_some_iff.mp hz
      have hj := (List.getElem?_eq_some_iff.mp hb).1
      obtain ⟨s, hcs⟩ : ∃ s, (compsN hs)[j]? = some s := ⟨_, List.getElem?_eq_getElem (by omega)⟩
      have hsb := kx.sqT (hR.2 j b _ hb (by rw [List.getElem?_map, hcs]; rfl))
      have hsm := List.mem_of_getElem? hcs
      obtain ⟨hsub, hs0⟩ := compsN_mem.mp hsm
      have hsnd : s.Nodup := List.Nodup.sublist hsub hnd
      have hslen : s.length ≤ 8 := Nat.le_trans hsub.length_le hsl
      have hnot := nodup_take cnd hcs
      have hkl : (keysOf nn ((compsN hs).take (j + 1))).length ≤ 5000 := by
        rw [keysOf_len] at hn0 ⊢
        refine Nat.le_trans (Nat.mul_le_mul_right nn ?_) hn0
        rw [List.length_take]; omega
      rw [keysOf_take hcs] at hkl
      have hN' := (k.kx (F := fun _ => False)).netAt hN
      obtain ⟨ra, xs, o, hn1, hn2, hc, hd, hrd⟩ := id hN'
      have n12 : (nn : Int) ≤ 12 := hg.n2
      -- no numbers at first
      refine ⟨fun σ' G' => ∃ (y5 : Option V) (T' : TF), σ' = [some (.ref a), some (.ref p), some (.ref dt), some (.ref ds), some (.ref b), y5] ∧ KX (FW dt ds) G G' ∧ WK P w K G' dt ds (keysOf nn ((compsN hs).take j) ++ rowKs nn s) (keysOf nn (compsN hs)) T' S ∧ (∀ v : Int, 0 ≤ v → v < nn → T' s v = none) ∧ ∀ s', s' ≠ s → T' s' = T s', ?_, ?_⟩
      · refine ⟨_, rfl, a, _, 0, .int (nn : Int), rfl, rfl, hn1, atI_nat (j := 0) rfl, _, rfl, by omega, by omega, for_range (lo := 0) (n := nn) (fun i σ' G' => ∃ (y5 : Option V) (T' : TF), σ' = [some (.ref a), some (.ref p), some (.ref dt), some (.ref ds), some (.ref b), y5] ∧ KX (FW dt ds) G G' ∧ WK P w K G' dt ds (keysOf nn ((compsN hs).take j) ++ (List.range i).map fun (u : Nat) => (s, (u : Int))) (keysOf nn (compsN hs)) T' S ∧ (∀ v : Int, 0 ≤ v → v < i → T' s v = none) ∧ ∀ s', s' ≠ s → T' s' = T s')
          ⟨y5, T, rfl, KX.refl _ _, by rw [List.range_zero, List.map_nil, List.append_nil]; exact hW, (fun v v0 v1 => by omega), fun _ _ => rfl⟩ (fun i σ' G' hi h => ?_) (fun σ' G' h => h)⟩
        obtain ⟨y5, T', rfl, kx2, hW2, hT2, hO2⟩ := h
        rw [Int.zero_add (i : Int)]
        refine ⟨_, rfl, _, rfl, _, rfl, few_szG (show 2 ≤ 1000 by decide), fun b1 m1 => ?_⟩
        have g1 := K0.new m1 (o := .tup [.ref b, .int (i : Int)])
        have c1 : SqT K (upd G' b1 (.tup [.ref b, .int (i : Int)])) b1 [.ref b, .int (i : Int)] := .inl (.inl upd_same)
        generalize upd G' b1 (.tup [.ref b, .int (i : Int)]) = J1 at g1 c1 ⊢
        have hll : (keysOf nn ((compsN hs).take j) ++ (List.range i).map fun (u : Nat) => (s, (u : Int))).length ≤ 5000 := by
          rw [List.length_append] at hkl ⊢
          have : (rowKs nn s).length = nn := by unfold rowKs; rw [List.length_map, List.length_range]
          rw [List.length_map, List.length_range]
          omega
        obtain ⟨J2, dp, hW3, kx3⟩ := (hW2.k0 g1).putT hll c1 (g1.sqT (kx2.sqT hsb)) none
        have hnk : (s, (i : Int)) ∉ (keysOf nn ((compsN hs).take j) ++ (List.range i).map fun (u : Nat) => (s, (u : Int))) := fun z => by
          rcases List.mem_append.mp z with z | z
          · exact hnot (keysOf_mem.mp z).1
          · obtain ⟨u, hu', e⟩ := List.mem_map.mp z
            have := List.mem_range.mp hu'
            have := Int.ofNat.inj (Prod.ext_iff.mp e).2
            omega
        rw [if_neg hnk, List.append_assoc] at hW3
        refine ⟨dt, J2, rfl, dp, _, tset T' s (i : Int) none, rfl, kx2.trans (g1.kx.trans kx3), ?_, fun v v0 v1 => ?_, fun s' hs' => ?_⟩
        · rw [List.range_succ, List.map_append]; exact hW3
        · by_cases e : v = i
          · subst e; exact tset_same
          · rw [tset_ne (fun z => e z.2)]; exact hT2 v v0 (by omega)
        · rw [← hO2 s' hs']; funext u; exact tset_ne fun z => hs' z.1
      rintro σ' G1 ⟨y5, T1, rfl, kx1, hW1, hT1, hO1⟩
      rw [← keysOf_take hcs] at hW1 hkl
      have hsb1 := kx1.sqT hsb
      have rk : RowK (keysOf nn ((compsN hs).take (j + 1))) nn s := fun v v0 v1 => by
        rw [keysOf_take hcs]
        exact List.mem_append_right _ (rowKs_mem.mpr ⟨rfl, v0, v1⟩)
      have ra2 : RowK (keysOf nn (compsN hs)) nn s := fun v v0 v1 => keysOf_mem.mpr ⟨hsm, v0, v1⟩
      have hSs := hS s hnot
      -- a hearer at its own place
      refine ⟨fun σ' G' => ∃ (T' : TF) (S' : SF), σ' = [some (.ref a), some (.ref p), some (.ref dt), some (.ref ds), some (.ref b), y5] ∧ KX (FW dt ds) G1 G' ∧ WK P w K G' dt ds (keysOf nn ((compsN hs).take (j + 1))) (keysOf nn (compsN hs)) T' S' ∧ RowP rs nn T' S' (fun _ => 0) s ∧ Oth s T1 T' S S', ?_, ?_⟩
      · refine ⟨_, rfl, b, _, rfl, .inr hsb1, rfl, _, rfl, ?_⟩
        rw [List.length_map]
        by_cases h1 : s.length = 1
        · rw [decide_eq_true (show V.int ((s.length : Nat) : Int) = V.int 1 from by rw [h1]; rfl)]
          obtain ⟨x, rfl⟩ := List.length_eq_one_iff.mp h1
          have hx := hin x (hsub.subset (List.mem_singleton.mpr rfl))
          refine iteT ?_
          refine ⟨_, rfl, _, rfl, _, rfl, b, _, 0, .int x, rfl, rfl, hsb1, atI_nat (j := 0) rfl, few_szG (show 2 ≤ 1000 by decide), fun b1 m1 => ?_⟩
          have g1 := K0.new m1 (o := .tup [.ref b, .int x])
          have c1 : SqT K (upd G1 b1 (.tup [.ref b, .int x])) b1 [.ref b, .int x] := .inl (.inl upd_same)
          generalize upd G1 b1 (.tup [.ref b, .int x]) = J1 at g1 c1 ⊢
          obtain ⟨J2, dp, hW3, kx3⟩ := (hW1.k0 g1).putT hkl c1 (g1.sqT hsb1) (some 0)
          rw [if_pos (rk x hx.1 hx.2)] at hW3
          refine ⟨dt, J2, rfl, dp, ?_⟩
          have kxa := (g1.kx (F := FW dt ds)).trans kx3
          have hsb2 := kxa.sqT hsb1
          refine ⟨Nat.zero_le _, fun l ml => ?_⟩
          have g2 := K0.new ml (o := .lst [])
          have c2 : (upd J2 l (.lst [])) l = some (.lst (([] : List Addr).map V.ref)) := upd_same
          generalize upd J2 l (.lst []) = J3 at g2 c2 ⊢
          have hsb3 := g2.sqT hsb2
          refine ⟨_, rfl, _, rfl, _, rfl, b, _, 0, .int x, rfl, rfl, hsb3, atI_nat (j := 0) rfl, few_szG (show 2 ≤ 1000 by decide), fun b3 m3 => ?_⟩
          have g3 := K0.new m3 (o := .tup [.ref b, .int x])
          have c3 : SqT K (upd J3 b3 (.tup [.ref b, .int x])) b3 [.ref b, .int x] := .inl (.inl upd_same)
          have hkids : KidsAt K J3 (.ref l) [] := ⟨l, [], rfl, c2, rfl, fun u b k e1 e2 => by cases e1⟩
          generalize upd J3 b3 (.tup [.ref b, .int x]) = J4 at g3 c3 ⊢
          obtain ⟨J5, dp2, hW5, kx5⟩ := (hW3.k0 (g2.trans g3)).putS hn0 (ra2 x hx.1 hx.2) c3 (g3.sqT hsb3) (hkids.kx (g3.kx (F := fun _ => False)) fun _ _ _ => id)
          refine ⟨ds, J5, rfl, dp2, _, _, rfl, kxa.trans ((g2.trans g3).kx.trans kx5), hW5, ⟨fun v z v0 v1 e => ?_, fun v v0 v1 => ?_, fun v e => ?_, fun v kids v0 v1 e => ?_⟩, (Oth.refl _ _ _).set⟩
          · by_cases hv : v = x
            · subst hv; rw [tset_same] at e; cases e; omega
            · rw [tset_ne (fun w => hv w.2), hT1 v v0 v1] at e; cases e
          · by_cases hv : v = x
            · subst hv; rw [tset_same, sset_same]; rfl
            · rw [tset_ne (fun w => hv w.2), hT1 v v0 v1, sset_ne (fun w => hv w.2), hSs v]; rfl
          · cases e; exact tset_same
          · by_cases hv : v = x
            · subst hv; rw [sset_same] at e; cases e; exact .inl ⟨rfl, rfl⟩
            · rw [sset_ne (fun w => hv w.2), hSs v] at e; cases e
        · rw [decide_eq_false (show ¬ V.int ((s.length : Nat) : Int) = V.int 1 from fun z => h1 (Int.ofNat.inj (V.int.inj z)))]
          refine iteF ⟨T1, S, rfl, KX.refl _ _, hW1, ⟨fun v z v0 v1 e => ?_, fun v v0 v1 => ?_, fun v e => ?_, fun v kids v0 v1 e => ?_⟩, Oth.refl _ _ _⟩
          · rw [hT1 v v0 v1] at e; cases e
          · rw [hT1 v v0 v1, hSs v]; rfl
          · rw [e] at h1; exact absurd rfl h1
          · rw [hSs v] at e; cases e
      rintro σ' G2 ⟨T2, S2, rfl, kx2, hW2, hP2, hO2⟩
      have kxG := kx1.trans kx2
      have part : ∀ a b : List Int, (a, b) ∈ partsF s → a ∈ (compsN hs).take j ∧ b ∈ (compsN hs).take j := fun a b hab => by
        obtain ⟨h1, h2, h3, h4, h5, h6⟩ := partsF_mem hsnd hab
        exact ⟨compsN_ord hcs h3 h5 h1, compsN_ord hcs h4 h6 h2⟩
      have nes : ∀ a : List Int, a ∈ (compsN hs).take j → a ≠ s := fun a ha z => hnot (by rw [← z]; exact ha)
      have same2 : ∀ a : List Int, a ∈ (compsN hs).take j → T2 a = T a ∧ S2 a = S a := fun a ha => by
        obtain ⟨h1, h2⟩ := hO2 a (nes a ha)
        exact ⟨h1.trans (hO1 a (nes a ha)), h2⟩
      have rkp : ∀ a : List Int, a ∈ (compsN hs).take j → RowK (keysOf nn ((compsN hs).take (j + 1))) nn a := fun a ha v v0 v1 => by
        rw [keysOf_take hcs]
        exact List.mem_append_left _ (keysOf_mem.mpr ⟨ha, v0, v1⟩)
      refine ⟨_, rfl, _, rfl, _, rfl, _, rfl, a, b, dt, ds, (nn : Int), rs, s, _, _, T2, S2, fun _ => 0, rfl, kxG.netAt hN', hg, kxG.sqT hsb, hsnd, by omega, kxG.tab _ (k.tab _ tp), hW2, hkl, hn0, rk, ra2, fun a b hab => ⟨⟨rkp a (part a b hab).1, rkp b (part a b hab).2⟩, fun v x v0 v1 => ⟨fun e => ?_, fun e => ?_⟩⟩, hP2, fun G3 T3 S3 kx3 hW3 hO3 hP3 hJ3 => ?_⟩
      · rw [(same2 a (part a b hab).1).1] at e
        exact (hRow a (part a b hab).1).nn v x v0 v1 e
      · rw [(same2 b (part a b hab).2).1] at e
        exact (hRow b (part a b hab).2).nn v x v0 v1 e
      have kxG3 := kxG.trans kx3
      refine ⟨_, rfl, _, rfl, _, rfl, _, rfl, a, b, dt, ds, (nn : Int), rs, s, _, _, T3, S3, fun _ => 0, rfl, kxG3.netAt hN', hg, kxG3.sqT hsb, hW3, hkl, hn0, rk, ra2, hP3, fun G4 T4 S4 rank4 kx4 hW4 hO4 hP4 hm4 hr4 => ?_⟩
      have kxG4 := kxG3.trans kx4
      have same4 : ∀ a : List Int, a ∈ (compsN hs).take j → T4 a = T a ∧ S4 a = S a := fun a ha => by
        obtain ⟨h1, h2⟩ := hO3 a (nes a ha)
        obtain ⟨h3, h4⟩ := hO4 a (nes a ha)
        exact ⟨(h3.trans h1).trans (same2 a ha).1, (h4.trans h2).trans (same2 a ha).2⟩
      refine ⟨_, _, T4, S4, rfl, k.kx2 kxG4 nF, kx.trans kxG4, hW4, fun s' hs' => ?_, fun s' hs' v => ?_⟩
      · rw [List.take_add_one, hcs] at hs'
        rcases List.mem_append.mp hs' with hs' | hs'
        · refine (hRow s' hs').keep (same4 s' hs').1 (same4 s' hs').2 fun a b hab => ?_
          obtain ⟨i, hi, e⟩ := List.mem_iff_getElem.mp hs'
          rw [List.length_take] at hi
          rw [List.getElem_take] at e
          have hci : (compsN hs)[i]? = some s' := by rw [List.getElem?_eq_getElem (by omega), e]
          have hnd' : s'.Nodup := List.Nodup.sublist (compsN_mem.mp (List.mem_of_getElem? hci)).1 hnd
          obtain ⟨h1, h2, h3, h4, h5, h6⟩ := partsF_mem hnd' hab
          have up : ∀ x, x ∈ (compsN hs).take i → x ∈ (compsN hs).take j := fun x hx => (List.take_subset_take_left _ (by omega)) hx
          exact ⟨(same4 a (up a (compsN_ord hci h3 h5 h1))).1, (same4 b (up b (compsN_ord hci h4 h6 h2))).1⟩
        · have : s' = s := by simpa using hs'
          subst this
          refine hP4.done hr4 fun a b hab v v0 v1 => ?_
          have ea := hO4 a (nes a (part a b hab).1)
          have eb := hO4 b (nes b (part a b hab).2)
          rw [ea.1, eb.1]
          exact hm4 _ v (hJ3 a b hab v v0 v1)
      · have hne : s' ≠ s := fun z => hs' (by rw [z, List.take_add_one, hcs]; exact List.mem_append_right _ (by simp))
        have hnt : s' ∉ (compsN hs).take j := fun z => hs' (by rw [List.take_add_one]; exact List.mem_append_left _ z)
        rw [(hO4 s' hne).2, (hO3 s' hne).2, (hO2 s' hne).2]
        exact hS s' hnt v
    · obtain ⟨y4, y5, T, S, rfl, k, kx, hW, hRow, hS⟩ := h
      rw [List.length_map, hll, List.take_length] at hW hRow
      refine ⟨_, rfl, _, rfl, few_szG (show 2 ≤ 1000 by decide), fun tp' ntp => ?_⟩
      have g := K0.new ntp (o := .tup [.ref dt, .ref ds])
      exact q tp' dt ds _ T S (k.trans g) (.inl (.inl upd_same)) ndt nds0 (hW.k0 g) hRow
end
end HK

set_option Elab.async false
set_option linter.all false
set_option maxRecDepth 100000
set_option maxHeartbeats 4000000
namespace HK
open PySem PySem.Spec PyProof.Rows L2 GAl GxR
theorem valV_drop {κ : Type} [DecidableEq κ] (k j : κ) : ∀ kvs : List (κ × V), valV (dropK kvs k) j = if j = k then none else valV kvs j
  | [] => by split <;> rfl
  | p :: r => by
    by_cases e : p.1 = k
    · rw [dropK_pos e, valV_drop k j r]
      by_cases ej : j = k
      · rw [if_pos ej, if_pos ej]
      · rw [if_neg ej, if_neg ej, valV_neg (fun z => ej (by rw [← z, e]))]
    · rw [dropK_neg e]
      by_cases ep : p.1 = j
      · rw [valV_pos ep, valV_pos ep, if_neg (fun z => e (by rw [ep, z]))]
      · rw [valV_neg ep, valV_neg ep, valV_drop k j r]
def drp (f : IF) (i : Int) : IF := fun j => if j = i then none else f j
theorem DI.drop {kvs : List (Key × V)} {f : IF} (h : DI kvs f) (i : Int) : DI (dropK kvs (Sum.inl i)) (drp f i) := by
  refine ⟨?_, fun p hp => h.ks p (dropK_mem hp), fun j => ?_⟩
  · exact List.Nodup.sublist (List.Sublist.map _ List.filter_sublist) h.nd
  · rw [valV_drop, h.val]
    unfold drp
    by_cases e : j = i
    · subst e; simp
    · simp [e]
theorem ints_of : ∀ {kvs : List (Key × V)}, (∀ p ∈ kvs, ∃ i x : Int, p = (Sum.inl i, V.int x)) → ∃ ks : List Int, kvs.map (·.1) = ks.map Sum.inl
  | [], _ => ⟨[], rfl⟩
  | p :: r, h => by
    obtain ⟨ks, e⟩ := ints_of (kvs := r) (fun q hq => h q (List.mem_cons_of_mem _ hq))
    obtain ⟨i, x, rfl⟩ := h p (List.mem_cons_self ..)
    exact ⟨i :: ks, by rw [List.map_cons, List.map_cons, e]⟩
theorem DI.ints {kvs : List (Key × V)} {f : IF} (h : DI kvs f) : ∃ ks : List Int, kvs.map (·.1) = ks.map Sum.inl ∧ ks.Nodup ∧ ∀ i, i ∈ ks ↔ (f i).isSome = true := by
  obtain ⟨ks, e⟩ := ints_of h.ks
  refine ⟨ks, e, ?_, fun i => ?_⟩
  · have := h.nd
    rw [e] at this
    have this : (ks.map (Sum.inl : Int → Key)).Pairwise (· ≠ ·) := this
    rw [List.pairwise_map] at this
    exact this.imp fun h z => h (by rw [z])
  · rw [← h.mem, e]
    constructor
    · exact fun hi => List.mem_map.mpr ⟨i, hi, rfl⟩
    · intro hi
      obtain ⟨j, hj, z⟩ := List.mem_map.mp hi
      cases z; exact hj
theorem DI.small {kvs : List (Key × V)} {f : IF} (h : DI kvs f) (hr : ∀ v x, f v = some x → 0 ≤ v ∧ v < 12) : kvs.length ≤ 12 := by
  obtain ⟨ks, e, nd, hm⟩ := h.ints
  have hl : kvs.length = ks.length := by
    have := congrArg List.length e
    rwa [List.length_map, List.length_map] at this
  have L : ([0, 1, 2, 3, 4, 5, 6, 7, 8, 9, 10, 11] : List Int).Nodup := by decide
  have pm : (([0, 1, 2, 3, 4, 5, 6, 7, 8, 9, 10, 11] : List Int).filter fun i => (f i).isSome).Perm ks := (List.perm_ext_iff_of_nodup (List.Nodup.sublist List.filter_sublist L) nd).mpr fun i => by
    rw [List.mem_filter, hm i]
    constructor
    · exact fun h => h.2
    · intro hi
      refine ⟨?_, hi⟩
      obtain ⟨x, ex⟩ := Option.isSome_iff_exists.mp hi
      have := hr i x ex
      have : i = 0 ∨ i = 1 ∨ i = 2 ∨ i = 3 ∨ i = 4 ∨ i = 5 ∨ i = 6 ∨ i = 7 ∨ i = 8 ∨ i = 9 ∨ i = 10 ∨ i = 11 := by omega
      rcases this with rfl | rfl | rfl | rfl | rfl | rfl | rfl | rfl | rfl | rfl | rfl | rfl <;> decide
  rw [hl, ← pm.length_eq]
  exact Nat.le_trans (List.length_filter_le _ _) (by decide)
theorem Kt.over {t q : Addr} {H H' H'' : Hp} (k : Kt t H H') (k' : Kt q H' H'') (n : H q = none) : Kt t H H'' := ⟨fun b u e => k'.tup b u (k.tup b u e), fun b o u e => k'.frz b o u (k.frz b o u e), fun b o e m m' => k'.oth b o (k.oth b o e m m') (ne_of_none e n) m', fun P h => k'.tab P (k.tab P h), fun b e => k.dom b (k'.dom b e)⟩
theorem Kt.setD {q : Addr} {X Y : Hp} {ls ms : List (Key × V)} (k : Kt q X Y) (h : Y q = some (.dK ls)) : Kt q X (upd Y q (.dK ms)) := by
  refine ⟨fun b u e => ?_, fun b o u e => ?_, fun b o e m m' => ?_, fun P hP => ?_, fun b e => k.dom b (upd_none e)⟩
  · have e' := k.tup b u e
    rw [upd_ne (ne_of e' h (fun z => by cases z))]; exact e'
  · have e' := k.frz b o u e
    rw [upd_ne (ne_of e' h (fun z => by cases z))]; exact e'
  · rw [upd_ne m]; exact k.oth b o e m m'
  · obtain ⟨ps, e, ht⟩ := k.tab P hP
    exact ⟨ps, by rw [upd_ne (ne_of e h (fun z => by cases z))]; exact e, ht⟩
theorem Kt.lock {q p : Addr} {H H' : Hp} {kvs : List (Key × V)} {od : Obj} (h : H p = some (.dK kvs)) (k : Kt q (upd H p (.frz od (.dK kvs))) H') : Kt q H (upd H' p (.dK kvs)) := by
  refine ⟨fun b u e => ?_, fun b o u e => ?_, fun b o e m m' => ?_, fun P hP => ?_, fun b e => ?_⟩
  · have hb := ne_of e h (fun z => by cases z)
    rw [upd_ne hb]
    exact k.tup b u (by rw [upd_ne hb]; exact e)
  · have hb := ne_of e h (fun z => by cases z)
    rw [upd_ne hb]
    exact k.frz b o u (by rw [upd_ne hb]; exact e)
  · by_cases hb : b = p
    · subst hb
      rw [h] at e
      cases e
      exact upd_same
    · rw [upd_ne hb]
      exact k.oth b o (by rw [upd_ne hb]; exact e) m m'
  · obtain ⟨ps, e, ht⟩ := hP
    have hb := ne_of e h (fun z => by cases z)
    obtain ⟨ps', e', ht'⟩ := k.tab P ⟨ps, by rw [upd_ne hb]; exact e, ht⟩
    exact ⟨ps', by rw [upd_ne hb]; exact e', ht'⟩
  · by_cases hb : b = p
    · rw [hb, upd_same] at e; cases e
    · rw [upd_ne hb] at e
      have := k.dom b e
      rwa [upd_ne hb] at this
theorem pick2 {d : Int} (h0 : 0 ≤ d) (h1 : d < 2) (a b : Int) : ∃ y : Int, atI [V.int a, .int b] d = some (.int y) := by
  obtain ⟨k, rfl⟩ := Int.eq_ofNat_of_zero_le h0
  match k, h1 with
  | 0, _ => exact ⟨a, atI_nat rfl⟩
  | 1, _ => exact ⟨b, atI_nat rfl⟩
  | k + 2, h => exact absurd h (by omega)
theorem pick4 {d : Int} (h0 : 0 ≤ d) (h1 : d < 4) (a b c e : Int) : ∃ y : Int, atI [V.int a, .int b, .int c, .int e] d = some (.int y) := by
  obtain ⟨k, rfl⟩ := Int.eq_ofNat_of_zero_le h0
  match k, h1 with
  | 0, _ => exact ⟨a, atI_nat rfl⟩
  | 1, _ => exact ⟨b, atI_nat rfl⟩
  | 2, _ => exact ⟨c, atI_nat rfl⟩
  | 3, _ => exact ⟨e, atI_nat rfl⟩
  | k + 4, h => exact absurd h (by omega)
section
variable {P : Program} {w : World} {K : PySem.W.Frag} {mg : Str → Option Value} {base : Heap}
/-- between the statements: all but the tape as it was, the tape a tape -/
structure Sf (K : PySem.W.Frag) (H : Hp) (t sc : Addr) (ns : List Int) (H' : Hp) : Prop where
  kt : Kt t H H'
  tp : Tape K H' t sc ns
theorem Sf.k0 {H H' H2 : Hp} {t sc : Addr} {ns : List Int} (h : Sf K H t sc ns H') (k : K0 H' H2) : Sf K H t sc ns H2 := ⟨h.kt.trans k.kt, h.tp.k0 k⟩
theorem Sf.go {H H' H2 : Hp} {t sc : Addr} {ns : List Int} (h : Sf K H t sc ns H') (k : Kt t H' H2) (tp : Tape K H2 t sc ns) : Sf K H t sc ns H2 := ⟨h.kt.trans k, tp⟩
theorem Sf.over {H H' H2 : Hp} {t sc q : Addr} {ns : List Int} (h : Sf K H t sc ns H') (h0 : Tape K H t sc ns) (k : Kt q H' H2) (n : H q = none) : Sf K H t sc ns H2 := by
  have kk := h.kt.over k n
  obtain ⟨⟨p, v, e, r⟩, _⟩ := h.tp
  have ht : t ≠ q := fun z => by
    obtain ⟨_, _, e, _⟩ := h0.v
    rw [z, n] at e; cases e
  exact ⟨kk, ⟨p, v, k.oth t _ e ht (fun _ z => by cases z), r⟩, h0.scr.kt kk⟩
theorem Sf.put {H H' : Hp} {t sc q : Addr} {ns : List Int} {ls ms : List (Key × V)} (h : Sf K H t sc ns H') (h0 : Tape K H t sc ns) (n : H q = none) (hk : H' q = some (.dK ls)) : Sf K H t sc ns (upd H' q (.dK ms)) := h.over h0 ((Kt.refl q H').setD hk) n
theorem or_eq {σ : L2.St} {H : Hp} {Q' : Bool → Hp → Prop} {d c c' : Int} {i : Nat} (h : σ[i]? = some (some (.int d))) (q : Q' (decide (d = c ∨ d = c')) H) : tOr (tTest (tOp rEq (tVar i) (tC (.int c)))) (tTest (tOp rEq (tVar i) (tC (.int c')))) σ H Q' := by
  refine ⟨_, h, rfl, _, rfl, ?_⟩
  by_cases e : d = c
  · rw [decide_eq_true (show V.int d = V.int c by rw [e])]
    rw [decide_eq_true (Or.inl e)] at q
    exact q
  · rw [decide_eq_false (show ¬ V.int d = V.int c from fun z => e (by cases z; rfl))]
    refine ⟨_, h, rfl, _, rfl, ?_⟩
    by_cases e' : d = c'
    · rw [decide_eq_true (Or.inr e')] at q
      rw [decide_eq_true (show V.int d = V.int c' by rw [e'])]
      exact q
    · rw [decide_eq_false (show ¬ (d = c ∨ d = c') from fun z => z.elim e e')] at q
      rw [decide_eq_false (show ¬ V.int d = V.int c' from fun z => e' (by cases z; rfl))]
      exact q
/-- dicts of whole numbers -/
def DsAt (H : Hp) (xs : List V) : Prop := ∀ x ∈ xs, ∃ q ls f, x = .ref q ∧ H q = some (.dK ls) ∧ DI ls f ∧ ls.length ≤ 3000
theorem DsAt.kt {t sc : Addr} {ns : List Int} {H H' : Hp} {xs : List V} (h : DsAt H xs) (tp : Tape K H t sc ns) (k : Kt t H H') : DsAt H' xs := fun x hx => by
  obtain ⟨q, ls, f, e, hq, r⟩ := h x hx
  refine ⟨q, ls, f, e, k.oth q _ hq (fun z => ?_) (fun _ z => by cases z), r⟩
  obtain ⟨_, _, e, _⟩ := tp.v
  rw [← z, hq] at e; cases e
theorem DsAt.k0 {H H' : Hp} {xs : List V} (h : DsAt H xs) (k : K0 H H') : DsAt H' xs := fun x hx => by
  obtain ⟨q, ls, f, e, hq, r⟩ := h x hx
  exact ⟨q, ls, f, e, k.oth q _ hq (fun _ z => by cases z), r⟩
theorem DsAt.lst {H : Hp} {xs ys zs : List V} {l : Addr} (h : DsAt H xs) (hl : H l = some (.lst ys)) : DsAt (upd H l (.lst zs)) xs := fun x hx => by
  obtain ⟨q, ls, f, e, hq, r⟩ := h x hx
  exact ⟨q, ls, f, e, by rw [upd_ne (ne_of hq hl (fun z => by cases z))]; exact hq, r⟩
theorem DsAt.cons {H : Hp} {xs : List V} {q : Addr} {ls : List (Key × V)} {f : IF} (hq : H q = some (.dK ls)) (hD : DI ls f) (hl : ls.length ≤ 3000) (h : DsAt H xs) : DsAt H (.ref q :: xs) := fun x hx => by
  rcases List.mem_cons.mp hx with rfl | hx
  · exact ⟨q, ls, f, rfl, hq, hD, hl⟩
  · exact h x hx
theorem DsAt.snoc {H : Hp} {xs : List V} {q : Addr} {ls : List (Key × V)} {f : IF} (h : DsAt H xs) (hq : H q = some (.dK ls)) (hD : DI ls f) (hl : ls.length ≤ 3000) : DsAt H (xs ++ [.ref q]) := fun x hx => by
  rcases List.mem_append.mp hx with hx | hx
  · exact h x hx
  · exact ⟨q, ls, f, List.mem_singleton.mp hx, hq, hD, hl⟩
theorem Sf.lst {H H' : Hp} {t sc l : Addr} {ns : List Int} {zs : List V} (h : Sf K H t sc ns H') (h0 : Tape K H t sc ns) (n : H l = none) : Sf K H t sc ns (upd H' l (.lst zs)) := ⟨h.kt.mut n, h.tp.mut h0.scr h.kt n (h0.ne n)⟩
end
end HK

set_option Elab.async false
set_option linter.all false
set_option maxRecDepth 100000
set_option maxHeartbeats 8000000
namespace HK
open PySem PySem.Spec PyProof.Rows L2 GAl GxR HkN
open Evl (pss_cut)
/-! ### a tree along the steps, as it is told -/
abbrev sAlong : Stmt := topS 37
abbrev N_scAlong : List Str := ["steps", "hearers", "root", "ahead", "waiting", "some", "start", "part", "end"]
theorem scAlong : FnScope N_scAlong ["steps", "hearers", "root"] (defScope sAlong) := ⟨rfl, rfl, rfl, by decide +kernel, rfl, by decide +kernel, by decide +kernel⟩
theorem kids_snoc {K : PySem.W.Frag} {H : Hp} {bs : List Addr} {W : List CK} {b c : Addr} {k : CK} (h1 : bs.length = W.length) (h : ∀ (j : Nat) (b : Addr) (k : CK), bs[j]? = some b → W[j]? = some k → ∃ c : Addr, SqT K H b [.ref c, .int k.2] ∧ SqT K H c (iV k.1)) (hb : SqT K H b [.ref c, .int k.2]) (hc : SqT K H c (iV k.1)) :
    (bs ++ [b]).length = (W ++ [k]).length ∧ ∀ (j : Nat) (b' : Addr) (k' : CK), (bs ++ [b])[j]? = some b' → (W ++ [k])[j]? = some k' → ∃ c : Addr, SqT K H b' [.ref c, .int k'.2] ∧ SqT K H c (iV k'.1) := by
  refine ⟨by rw [List.length_append, List.length_append, h1]; rfl, fun j b' k' e1 e2 => ?_⟩
  by_cases hj : j < bs.length
  · rw [List.getElem?_append_left hj] at e1
    rw [List.getElem?_append_left (by omega)] at e2
    exact h j b' k' e1 e2
  · rw [List.getElem?_append_right (by omega)] at e1
    rw [List.getElem?_append_right (by omega)] at e2
    rw [h1] at e1
    cases e : j - W.length with
    | zero =>
      rw [e] at e1 e2
      cases e1; cases e2
      exact ⟨c, hb, hc⟩
    | succ i => rw [e] at e1; cases e1
/-- what waits, in the heap -/
abbrev WtAt (K : PySem.W.Frag) (H : Hp) (l : Addr) (bs : List Addr) (W : List CK) : Prop := H l = some (.lst (bs.map V.ref)) ∧ bs.length = W.length ∧ ∀ (j : Nat) (b : Addr) (k : CK), bs[j]? = some b → W[j]? = some k → ∃ c : Addr, SqT K H b [.ref c, .int k.2] ∧ SqT K H c (iV k.1)
section
variable {P : Program} {w : World} {K : PySem.W.Frag} {mg : Str → Option Value} {base : Heap}
def spAlong (P : Program) (w : World) (K : PySem.W.Frag) : Sp := fun vs H Q _ => ∃ (ds p : Addr) (n : Int) (rs : List R4) (hs : List Int) (root t : Int) (all : List CK) (T : TF) (S : SF), vs = [.ref ds, .ref p, .int root] ∧ Good n rs ∧ StAt P w K H ds all S ∧ SqT K H p (iV hs) ∧ hs.Nodup ∧ hs ≠ [] ∧ hs.length ≤ 8 ∧ (∀ s ∈ compsN hs, RowOK rs n T S s) ∧ 0 ≤ root ∧ root < n ∧ T hs root = some t ∧
  ∀ (q : Addr) (kvs : List (Key × V)) (g : IF) (H' : Hp), K0 H H' → H q = none → H' q = some (.dK kvs) → DI kvs g → kvs.length ≤ 12 → AlP rs root g → ServP root g hs → prG g rs ≤ t → Q (.ref q) H'
theorem ok_along {f : Addr} {fd : FuncData} (F : Fun K "tree_along" "tree_along" sAlong f fd) : FnOk P w K mg base CX0 1 f fd ["steps", "hearers", "root"] (spAlong P w K) := by
  refine F.ok scAlong (fun vs H Q E h => ?_) (fun cdv A outer st H vs Q E hr h => ?_)
  · obtain ⟨ds, p, n, rs, hs, root, t, all, T, S, rfl, _⟩ := h
    rfl
  · obtain ⟨ds, p, n, rs, hs, root, t, all, T, S, rfl, hg, hSt, hp, hnd, hne, hsl, hRow, r0, r1, hT, q⟩ := h
    have hu := hu_of hr
    refine ⟨_, (pss_cons (ps_set (i := 3) scAlong.nd rfl (.inl rfl) pe_dnewK)
      (pss_cons (ps_set (i := 4) scAlong.nd rfl (.inl rfl) (pe_lst (pa_cons (pe_tup (pa_cons (pv 1) (pa_cons (pv 2) pa_nil))) pa_nil)))
      (pss_cons (ps_while PassesOwn.never (pt_truth (pv 4) (by intro _; rfl))
      (pss_cons (ps_asg (pe_bm0 PySem.F.plainAttrs_list PySem.F.slot_list_pop PySem.F.type_list_pop mt_pop (pv 4)) (pg_tup rfl (pgs_cons (pg_name (i := 5) scAlong.nd rfl (.inl rfl)) (pgs_cons (pg_name (i := 6) scAlong.nd rfl (.inl rfl)) pgs_nil))))
      (pss_one (ps_for PassesOwn.never rfl (pi_list (HkN.pe_dgetN (HkN.room_u9 hr) (pv 0) (pe_tup (pa_cons (pv 5) (pa_cons (pv 6) pa_nil))) (fun _ _ => rfl))) (pg_tup rfl (pgs_cons (pg_name (i := 7) scAlong.nd rfl (.inl rfl)) (pgs_cons (pg_name (i := 8) scAlong.nd rfl (.inl rfl)) pgs_nil)))
      (pss_cut (ps_if (PW.pt (pw_and (pt_cmpR op_ne (pv 8) (pv 2) (nomark _)) (pw_and1 (pt_cmp (pc_dnotin hu (pv 8) (pv 3)))))) (pss_one (ps_dput hu (pv 3) (pv 8) (pv 6) rfl)) pss_nil)
      (pss_one (ps_expr (pe_bm PySem.F.plainAttrs_list PySem.F.slot_list_append PySem.F.type_list_append mt_append (pv 4) (pa_cons (pe_tup (pa_cons (pv 7) (pa_cons (pv 8) pa_nil))) pa_nil)))))))))
      (pss_one (ps_ret (pv 3)))))), ?_⟩
    refine fun d nd => ?_
    have k1 := K0.new nd (o := .dK [])
    have hd1 : (upd H d (.dK [])) d = some (.dK []) := upd_same
    generalize upd H d (.dK []) = H1 at k1 hd1 ⊢
    refine ⟨_, rfl, _, rfl, few_szG (show 2 ≤ 1000 by decide), fun b1 m1 => ⟨few_szG (show 1 ≤ 1000 by decide), fun l ml => ?_⟩⟩
    have k2 := K0.new m1 (o := .tup [.ref p, .int root])
    have c2 : SqT K (upd H1 b1 (.tup [.ref p, .int root])) b1 [.ref p, .int root] := .inl (.inl upd_same)
    generalize upd H1 b1 (.tup [.ref p, .int root]) = H2 at k2 c2 ml ⊢
    have k3 := K0.new ml (o := .lst [.ref b1])
    have c3 : (upd H2 l (.lst [.ref b1])) l = some (.lst (([b1] : List Addr).map V.ref)) := upd_same
    generalize upd H2 l (.lst [.ref b1]) = H3 at k3 c3 ⊢
    have k13 := k1.trans (k2.trans k3)
    have nl : H l = none := (k1.trans k2).dom _ ml
    have dl : d ≠ l := fun z => by rw [← z, k2.oth _ _ hd1 (fun _ z => by cases z)] at ml; cases ml
    obtain ⟨m0, I0⟩ := AlI.start hg hnd hne hRow r0 r1 hT
    have hd3 := (k2.trans k3).oth _ _ hd1 (fun _ z => by cases z)
    refine ⟨fun m σ' G => ∃ (y5 y6 y7 y8 : Option V) (kvs : List (Key × V)) (g : IF) (bs : List Addr) (W : List CK), σ' = [some (.ref ds), some (.ref p), some (.int root), some (.ref d), some (.ref l), y5, y6, y7, y8] ∧ K0 H G ∧ G d = some (.dK kvs) ∧ DI kvs g ∧ WtAt K G l bs W ∧ AlI rs n T S hs root t g W m,
      ⟨m0, none, none, none, none, [], _, [b1], [(hs, root)], rfl, k13, hd3, ⟨List.nodup_nil, (fun p hp => by cases hp), fun i => rfl⟩, ⟨c3, rfl, fun j b k e1 e2 => ?_⟩, I0⟩, ?_⟩
    · cases j with
      | zero => cases e1; cases e2; exact ⟨p, k3.sqT c2, k13.sqT hp⟩
      | succ j => cases e1
    rintro m σ' G ⟨y5, y6, y7, y8, kvs, g, bs, W, rfl, k, hd, hD, ⟨hl, hbl, hW⟩, I⟩
    have hkl : kvs.length ≤ 12 := hD.small fun v x e => by
      obtain ⟨r, hr2⟩ := Option.isSome_iff_exists.mp (I.al.rd v x e)
      obtain ⟨h1, h2, h3⟩ := road_some hr2
      have := (hg.ok r h1).e0
      have := (hg.ok r h1).e1
      have := hg.n2
      omega
    refine ⟨_, rfl, !(bs.map V.ref).isEmpty, .inl ⟨_, .inl (.inl hl), rfl⟩, ?_⟩
    rcases List.eq_nil_or_concat W with e | ⟨W0, kk, e⟩
    · subst e
      have : bs = [] := List.length_eq_zero_iff.mp hbl
      subst this
      refine ⟨_, rfl, ?_⟩
      refine q d kvs g G k nd hd hD hkl I.al (fun h hh => ?_) ?_
      · rcases I.srv h hh with z | z | ⟨_, hq, _⟩
        · exact .inl z
        · exact .inr z
        · cases hq
      · have := I.cost
        have e : sumW (tW T) [] = 0 := rfl
        omega
    rw [List.concat_eq_append] at e
    subst e
    obtain ⟨bs0, b, eb⟩ : ∃ bs0 b, bs = bs0 ++ [b] := by
      rcases List.eq_nil_or_concat bs with e | ⟨x, y, e⟩
      · rw [e, List.length_append] at hbl; cases hbl
      · exact ⟨x, y, by rw [e, List.concat_eq_append]⟩
    subst eb
    have hb0 : bs0.length = W0.length := by
      rw [List.length_append, List.length_append] at hbl
      exact Nat.add_right_cancel hbl
    rw [show (!((bs0 ++ [b]).map V.ref).isEmpty) = true from by rw [List.map_append]; cases bs0 <;> rfl]
    obtain ⟨kids, m', hk, hk2, hm, I'⟩ := I.step hg hnd hRow
    have few := I.few
    rw [List.length_append, List.length_singleton] at few
    obtain ⟨s, pl⟩ := kk
    obtain ⟨c, hbt, hct⟩ := hW W0.length b (s, pl) (by rw [← hb0, List.getElem?_append_right (Nat.le_refl _), Nat.sub_self]; rfl) (by rw [List.getElem?_append_right (Nat.le_refl _), Nat.sub_self]; rfl)
    refine ⟨fun σ' G' => ∃ (y5 y6 y7 y8 : Option V) (kvs : List (Key × V)) (g : IF) (bs : List Addr) (W : List CK), σ' = [some (.ref ds), some (.ref p), some (.int root), some (.ref d), some (.ref l), y5, y6, y7, y8] ∧ K0 H G' ∧ G' d = some (.dK kvs) ∧ DI kvs g ∧ WtAt K G' l bs W ∧ AlI rs n T S hs root t g W m', fun σ' G' ⟨y5, y6, y7, y8, kvs, g, bs, W, h1, h2, h3, h4, h5, h6⟩ => ⟨m', hm, y5, y6, y7, y8, kvs, g, bs, W, h1, h2, h3, h4, h5, h6⟩, ?_⟩
    have hSt' := hSt
    obtain ⟨nv, gs1, gs2, gs3, gs4, gs5⟩ := hSt'
    have g5 := gs5 s pl
    rw [hk] at g5
    obtain ⟨x, ex, lk, ks, rfl, hlk, hks, hkk⟩ := g5
    have lkl : lk ≠ l := fun z => by rw [z, nl] at hlk; cases hlk
    have lkd : lk ≠ d := fun z => by rw [z, nd] at hlk; cases hlk
    have kp : K0 H (upd G l (.lst (bs0.map V.ref))) := k.mut nl
    have hbt' : SqT K G b [.ref c, .int pl] := hbt
    have hct' : SqT K G c (iV s) := hct
    have up : ∀ {xs : List V} {a : Addr}, SqT K G a xs → SqT K (upd G l (.lst (bs0.map V.ref))) a xs := fun {xs a} h => by
      rcases h with (h | ⟨o, h⟩) | h
      · exact .inl (.inl (by rw [upd_ne (fun z => by rw [z, hl] at h; cases h)]; exact h))
      · exact .inl (.inr ⟨o, by rw [upd_ne (fun z => by rw [z, hl] at h; cases h)]; exact h⟩)
      · exact .inr h
    have hW0 : ∀ (j : Nat) (b : Addr) (k : CK), bs0[j]? = some b → W0[j]? = some k → ∃ c : Addr, SqT K (upd G l (.lst (bs0.map V.ref))) b [.ref c, .int k.2] ∧ SqT K (upd G l (.lst (bs0.map V.ref))) c (iV k.1) := fun j b k e1 e2 => by
      obtain ⟨c, h1, h2⟩ := hW j b k (by rw [List.getElem?_append_left (List.getElem?_eq_some_iff.mp e1).1]; exact e1) (by rw [List.getElem?_append_left (List.getElem?_eq_some_iff.mp e2).1]; exact e2)
      exact ⟨c, up h1, up h2⟩
    refine ⟨_, rfl, .inl ⟨rfl, _, .inl (.inl hl)⟩, l, _, .ref b, rfl, rfl, hl, ?_, ?_⟩
    · rw [List.map_append, List.length_append, List.getElem?_append_right (by show _ ≤ _ + 1 - 1; omega)]
      show [V.ref b][_]? = _
      rw [show (bs0.map V.ref).length + ([b].map V.ref).length - 1 - (bs0.map V.ref).length = 0 from by show _ + 1 - 1 - _ = 0; omega]
      rfl
    rw [show ((bs0 ++ [b]).map V.ref).dropLast = bs0.map V.ref from by rw [List.map_append]; exact List.dropLast_concat]
    have hbt' := up hbt'
    have hct' := up hct'
    have hd' : (upd G l (.lst (bs0.map V.ref))) d = some (.dK kvs) := by rw [upd_ne dl]; exact hd
    have hl' : (upd G l (.lst (bs0.map V.ref))) l = some (.lst (bs0.map V.ref)) := upd_same
    generalize upd G l (.lst (bs0.map V.ref)) = G1 at kp hbt' hct' hW0 hd' hl' ⊢
    refine ⟨b, _, rfl, hbt', rfl, _, _, rfl, _, _, rfl, rfl, ?_⟩
    refine ⟨_, rfl, _, rfl, _, rfl, few_szG (show 2 ≤ 1000 by decide), fun b3 m3 => ?_⟩
    have g3 := K0.new m3 (o := .tup [.ref c, .int pl])
    have c3 : SqT K (upd G1 b3 (.tup [.ref c, .int pl])) b3 [.ref c, .int pl] := .inl (.inl upd_same)
    have hct3 := g3.sqT hct'
    have hd3 := g3.oth _ _ hd' (fun _ z => by cases z)
    have hl3 := g3.oth _ _ hl' (fun _ z => by cases z)
    have hW3 : ∀ (j : Nat) (b : Addr) (k : CK), bs0[j]? = some b → W0[j]? = some k → ∃ c9 : Addr, SqT K (upd G1 b3 (.tup [.ref c, .int pl])) b [.ref c9, .int k.2] ∧ SqT K (upd G1 b3 (.tup [.ref c, .int pl])) c9 (iV k.1) := fun j b k e1 e2 => by
      obtain ⟨c, h1, h2⟩ := hW0 j b k e1 e2
      exact ⟨c, g3.sqT h1, g3.sqT h2⟩
    have kg := kp.trans g3
    generalize upd G1 b3 (.tup [.ref c, .int pl]) = G3 at c3 hct3 hd3 hl3 hW3 kg ⊢
    have dg : DGetN P w K G3 ds (.ref b3) (some (.ref lk)) := ⟨nv, ck s pl, b3, .inl (kg.oth _ _ gs1 (fun _ z => by cases z)), ksOk_kx gs2 (kg.kx (F := fun _ => False)), rfl, ck_key c3 hct3, ck_depth s pl, ex.symm⟩
    refine ⟨ds, _, rfl, dg, _, rfl, ⟨_, .inl (.inl (kg.oth _ _ hlk (fun _ z => by cases z)))⟩, for_list (K := K) (a := lk) (xs := ks.map V.ref) (fun j σ' G' => ∃ (y7 y8 : Option V) (kvs' : List (Key × V)) (bs' : List Addr), σ' = [some (.ref ds), some (.ref p), some (.int root), some (.ref d), some (.ref l), some (.ref c), some (.int pl), y7, y8] ∧ K0 H G' ∧ G' d = some (.dK kvs') ∧ DI kvs' ((kids.take j).foldl (fun g l => gst root pl g l.2) g) ∧ kvs'.length ≤ 12 + j ∧ WtAt K G' l bs' (W0 ++ kids.take j))
      ⟨y7, y8, kvs, bs0, rfl, kg, hd3, hD, hkl, hl3, by rw [List.take_zero, List.append_nil]; exact hb0, by rw [List.take_zero, List.append_nil]; exact hW3⟩ (fun j σ' G' _ h => ?_) (fun j z σ' G' hz h => ?_) (fun σ' G' h => ?_)⟩
    · obtain ⟨_, _, _, _, _, k', _⟩ := h
      exact .inl (.inl (k'.oth _ _ hlk (fun _ z => by cases z)))
    · obtain ⟨y7, y8, kvs', bs', rfl, k', hdG, hDG, hkG, hlG, hbG, hWG⟩ := h
      rw [List.getElem?_map] at hz
      obtain ⟨bj, hbj, rfl⟩ := Option.map_eq_some_iff.mp hz
      have hj := (List.getElem?_eq_some_iff.mp hbj).1
      obtain ⟨kj, hkj⟩ : ∃ kj, kids[j]? = some kj := ⟨_, List.getElem?_eq_getElem (by omega)⟩
      obtain ⟨c2, hs1, hs2⟩ := hkk j bj kj hbj hkj
      refine ⟨bj, _, rfl, k'.sqT hs1, rfl, _, _, rfl, _, _, rfl, rfl, ?_⟩
      have hfold : ((kids.take (j + 1)).foldl (fun g l => gst root pl g l.2) g) = gst root pl ((kids.take j).foldl (fun g l => gst root pl g l.2) g) kj.2 := by
        rw [List.take_add_one, hkj, List.foldl_append]; rfl
      generalize ((kids.take j).foldl (fun g l => gst root pl g l.2) g) = gj at hDG hfold
      refine ⟨fun σ' G5 => ∃ kvs5, σ' = [some (.ref ds), some (.ref p), some (.int root), some (.ref d), some (.ref l), some (.ref c), some (.int pl), some (.ref c2), some (.int kj.2)] ∧ K0 H G5 ∧ G5 d = some (.dK kvs5) ∧ DI kvs5 (gst root pl gj kj.2) ∧ kvs5.length ≤ 12 + (j + 1) ∧ WtAt K G5 l bs' (W0 ++ kids.take j), ?_, ?_⟩
      · refine ⟨_, rfl, _, rfl, rfl, ?_⟩
        unfold gst
        by_cases he : kj.2 = root
        · rw [decide_eq_true (show V.int kj.2 = V.int root from by rw [he])]
          refine ⟨_, rfl, iteF (iteF ⟨kvs', rfl, k', hdG, ?_, by omega, hlG, hbG, hWG⟩)⟩
          rw [if_neg fun z => z.1 he]
          exact hDG
        · rw [decide_eq_false (show ¬ V.int kj.2 = V.int root from fun z => he (V.int.inj z))]
          refine ⟨_, rfl, iteT ?_⟩
          have dg := dgetR (.inl hdG) hDG kj.2
          refine ⟨_, rfl, _, rfl, d, _, rfl, dg, _, rfl, ?_⟩
          cases eg : gj kj.2 with
          | some x =>
            refine iteF ⟨kvs', rfl, k', hdG, ?_, by omega, hlG, hbG, hWG⟩
            rw [if_neg fun z => by cases z.2]
            exact hDG
          | none =>
            refine iteT ?_
            refine ⟨_, rfl, _, rfl, _, rfl, d, _, rfl, DPut.k (k := Sum.inl kj.2) hdG (Nat.lt_of_le_of_lt (m := 5000) (by omega) (by decide)), ?_⟩
            have upS : ∀ {xs : List V} {a : Addr}, SqT K G' a xs → SqT K (upd G' d (.dK (putK kvs' (Sum.inl kj.2) (.int pl)))) a xs := fun {xs a} h => by
              rcases h with (h | ⟨o, h⟩) | h
              · exact .inl (.inl (by rw [upd_ne (fun z => by rw [z, hdG] at h; cases h)]; exact h))
              · exact .inl (.inr ⟨o, by rw [upd_ne (fun z => by rw [z, hdG] at h; cases h)]; exact h⟩)
              · exact .inr h
            refine ⟨_, rfl, k'.mut nd, upd_same, ?_, ?_, by rw [upd_ne fun z => dl z.symm]; exact hlG, hbG, fun j b k e1 e2 => ?_⟩
            · rw [if_pos ⟨he, rfl⟩]
              exact hDG.put _ _
            · have := length_putK kvs' (Sum.inl kj.2) (V.int pl)
              omega
            · obtain ⟨c9, h1, h2⟩ := hWG j b k e1 e2
              exact ⟨c9, upS h1, upS h2⟩
      · rintro σ' G5 ⟨kvs5, rfl, k5, hd5, hD5, hk5, hl5, hb5, hW5⟩
        refine ⟨_, rfl, .inl ⟨rfl, _, .inl (.inl hl5)⟩, _, rfl, _, rfl, few_szG (show 2 ≤ 1000 by decide), fun b6 m6 => ?_⟩
        have g6 := K0.new m6 (o := .tup [.ref c2, .int kj.2])
        have c6 : SqT K (upd G5 b6 (.tup [.ref c2, .int kj.2])) b6 [.ref c2, .int kj.2] := .inl (.inl upd_same)
        have hl6 := g6.oth _ _ hl5 (fun _ z => by cases z)
        have hd6 := g6.oth _ _ hd5 (fun _ z => by cases z)
        have k6 := k5.trans g6
        have hW6 : ∀ (j' : Nat) (b : Addr) (k : CK), bs'[j']? = some b → (W0 ++ kids.take j)[j']? = some k → ∃ c9 : Addr, SqT K (upd G5 b6 (.tup [.ref c2, .int kj.2])) b [.ref c9, .int k.2] ∧ SqT K (upd G5 b6 (.tup [.ref c2, .int kj.2])) c9 (iV k.1) := fun j b k e1 e2 => by
          obtain ⟨c9, h1, h2⟩ := hW5 j b k e1 e2
          exact ⟨c9, g6.sqT h1, g6.sqT h2⟩
        generalize upd G5 b6 (.tup [.ref c2, .int kj.2]) = G6 at c6 hl6 hd6 k6 hW6 ⊢
        obtain ⟨hbn, hWn⟩ := kids_snoc hb5 hW6 c6 (k6.sqT hs2)
        refine ⟨l, _, .ref b6, rfl, rfl, hl6, ?_, ?_⟩
        · rw [List.length_map, hb5, List.length_append, List.length_take, sizeLine_eq]
          omega
        have upS : ∀ {xs : List V} {a : Addr} {o : HO}, SqT K G6 a xs → SqT K (upd G6 l o) a xs := fun {xs a o} h => by
          rcases h with (h | ⟨o, h⟩) | h
          · exact .inl (.inl (by rw [upd_ne (fun z => by rw [z, hl6] at h; cases h)]; exact h))
          · exact .inl (.inr ⟨o, by rw [upd_ne (fun z => by rw [z, hl6] at h; cases h)]; exact h⟩)
          · exact .inr h
        have etake : W0 ++ kids.take j ++ [(kj.1, kj.2)] = W0 ++ kids.take (j + 1) := by
          rw [List.take_add_one, hkj, List.append_assoc]; rfl
        rw [hfold, ← etake]
        refine ⟨_, _, kvs5, bs' ++ [b6], rfl, k6.mut nl, by rw [upd_ne dl]; exact hd6, hD5, hk5, by rw [upd_same, List.map_append]; rfl, hbn, fun j b k e1 e2 => ?_⟩
        obtain ⟨c9, h1, h2⟩ := hWn j b k e1 e2
        exact ⟨c9, upS h1, upS h2⟩
    · obtain ⟨y7, y8, kvs', bs', rfl, k', hdG, hDG, hkG, hlG, hbG, hWG⟩ := h
      have e : kids.take (ks.map V.ref).length = kids := by
        rw [List.length_map, hks]; exact List.take_length
      rw [e] at hDG hbG hWG
      exact ⟨_, _, _, _, kvs', _, bs', _, rfl, k', hdG, hDG, ⟨hlG, hbG, hWG⟩, I'⟩
end
end HK

set_option Elab.async false
set_option linter.all false
set_option maxRecDepth 100000
set_option maxHeartbeats 4000000
namespace HK
/-- the places within so many roads -/
def Rk (rs : List R4) (root : Int) : Nat → Int → Prop
  | 0, v => v = root
  | k + 1, v => Rk rs root k v ∨ ∃ r ∈ rs, r.e = v ∧ Rk rs root k r.s
/-! ### what can be reached -/
theorem rlx_some {src g : IF} {r : R4} {v : Int} : (rlx src g r v).isSome = true ↔ (g v).isSome = true ∨ (r.e = v ∧ (src r.s).isSome = true) := by
  unfold rlx
  cases e : src r.s with
  | none => simp
  | some a =>
    cases e2 : g r.e with
    | none =>
      show (HK.put g r.e (a + r.l) v).isSome = true ↔ _
      unfold HK.put
      by_cases hv : v = r.e
      · simp [hv]
      · rw [if_neg hv]; simp [Ne.symm hv]
    | some b =>
      by_cases hb : a + r.l < b
      · simp only [hb, if_true]
        unfold HK.put
        by_cases hv : v = r.e
        · simp [hv]
        · rw [if_neg hv]; simp [Ne.symm hv]
      · simp only [hb, if_false]
        constructor
        · exact .inl
        · rintro (h | ⟨h, _⟩)
          · exact h
          · subst h; rw [e2]; rfl
theorem rnd_some {f : IF} : ∀ (l : List R4) (g : IF) (v : Int), (rnd (fun _ => f) l g v).isSome = true ↔ (g v).isSome = true ∨ ∃ r ∈ l, r.e = v ∧ (f r.s).isSome = true
  | [], g, v => by simp [rnd]
  | r :: l, g, v => by
    show (rnd (fun _ => f) l (rlx f g r) v).isSome = true ↔ _
    rw [rnd_some l, rlx_some]
    constructor
    · rintro ((h | h) | ⟨r', h1, h2⟩)
      · exact .inl h
      · exact .inr ⟨r, List.mem_cons_self, h⟩
      · exact .inr ⟨r', List.mem_cons_of_mem _ h1, h2⟩
    · rintro (h | ⟨r', h1, h2⟩)
      · exact .inl (.inl h)
      · rcases List.mem_cons.mp h1 with rfl | h1
        · exact .inl (.inr h2)
        · exact .inr ⟨r', h1, h2⟩
theorem iter_Rk {rs : List R4} {root : Int} : ∀ (k : Nat) (v : Int), (iter (fun f => rnd (fun _ => f) rs f) k (ini root) v).isSome = true ↔ Rk rs root k v
  | 0, v => by
    show (ini root v).isSome = true ↔ v = root
    unfold ini HK.put
    by_cases h : v = root <;> simp [h]
  | k + 1, v => by
    show (rnd (fun _ => _) rs _ v).isSome = true ↔ Rk rs root k v ∨ _
    rw [rnd_some, iter_Rk k v]
    constructor
    · rintro (h | ⟨r, h1, h2, h3⟩)
      · exact .inl h
      · exact .inr ⟨r, h1, h2, (iter_Rk k _).mp h3⟩
    · rintro (h | ⟨r, h1, h2, h3⟩)
      · exact .inl h
      · exact .inr ⟨r, h1, h2, (iter_Rk k _).mpr h3⟩
theorem Rk_due {n root : Int} {rs : List R4} (hok : ∀ r ∈ rs, RoadOk n r) (h0 : 0 ≤ root) (h1 : root < n) (v : Int) : Rk rs root n.toNat v ↔ (due n rs root v).isSome = true := by
  rw [← due_by hok h0 h1]
  exact (iter_Rk _ _).symm
theorem Rk_root {rs : List R4} {root : Int} : ∀ k, Rk rs root k root
  | 0 => rfl
  | k + 1 => .inl (Rk_root k)
end HK

set_option Elab.async false
set_option linter.all false
set_option maxRecDepth 100000
set_option maxHeartbeats 4000000
namespace HK
open PySem PySem.Spec PyProof.Rows L2 GAl GxR
abbrev sUnder : Stmt := topS 25
theorem scUnder : FnScope ["numbers", "start", "end", "more"] ["numbers", "start", "end", "more"] (defScope sUnder) := ⟨rfl, rfl, rfl, by decide +kernel, rfl, by decide +kernel, by decide +kernel⟩
def undB (f : IF) (s e m : Int) : Bool := match f s with
  | none => false
  | some x => match f e with
    | none => true
    | some b => decide (x + m < b)
section
variable {P : Program} {w : World} {K : PySem.W.Frag} {mg : Str → Option Value} {base : Heap}
def spUnder (K : PySem.W.Frag) : Sp := fun vs H Q _ => ∃ (p : Addr) (kvs : List (Key × V)) (g : IF) (a b c : Int), vs = [.ref p, .int a, .int b, .int c] ∧ Rd H p (.dK kvs) ∧ DI kvs g ∧ Q (.bl (undB g a b c)) H
theorem ok_under {f : Addr} {fd : FuncData} (F : Fun K "undercuts" "undercuts" sUnder f fd) : FnOk P w K mg base CX0 1 f fd ["numbers", "start", "end", "more"] (spUnder K) := by
  refine F.ok scUnder (fun vs H Q E h => ?_) (fun cdv A outer s H vs Q E hr h => ?_)
  · obtain ⟨p, kvs, g, a, b, c, rfl, _⟩ := h
    rfl
  · obtain ⟨p, kvs, g, a, b, c, rfl, hp, hD, q⟩ := h
    have hu := hu_of hr
    refine ⟨_, pss_one (ps_ret (pe_and (pe_cmp (pc_din hu (pv 1) (pv 0))) (pe_one (pe_or (pe_cmp (pc_dnotin hu (pv 2) (pv 0))) (pe_one (pe_cmpR op_lt (pe_op op_add (pe_dget hu (pv 0) (pv 1) (fun _ _ => rfl)) (pv 3)) (pe_dget hu (pv 0) (pv 2) (fun _ _ => rfl)) (nomark _))))))), ?_⟩
    unfold undB at q
    have ds := dgetR hp hD a
    have de := dgetR hp hD b
    refine ⟨_, rfl, _, rfl, p, _, rfl, ds, _, rfl, ?_⟩
    cases es : g a with
    | none => rw [es] at q; exact iteF q
    | some x =>
      rw [es] at q ds
      refine iteT ⟨_, rfl, _, rfl, p, _, rfl, de, _, rfl, ?_⟩
      cases ee : g b with
      | none => rw [ee] at q; exact iteT q
      | some y =>
        rw [ee] at q de
        exact iteF ⟨_, rfl, _, rfl, p, _, rfl, ds, _, rfl, x, c, rfl, rfl, _, rfl, _, rfl, p, _, rfl, de, x + c, y, rfl, rfl, q⟩
end
end HK

set_option Elab.async false
set_option linter.all false
set_option maxRecDepth 100000
set_option maxHeartbeats 2000000
namespace HK
open PySem PySem.Spec PyProof.Rows L2 GAl GxR
abbrev sEarly : Stmt := topS 24
theorem scEarly : FnScope ["net", "root", "many", "roads", "least", "turn", "start", "end", "cost", "late"] ["net", "root"] (defScope sEarly) := ⟨rfl, rfl, rfl, by decide +kernel, rfl, by decide +kernel, by decide +kernel⟩
section
variable {P : Program} {w : World} {K : PySem.W.Frag} {mg : Str → Option Value} {base : Heap}
def spEarly (K : PySem.W.Frag) (Pn Pr : Addr) : Sp := fun vs H Q _ => ∃ (a : Addr) (n : Int) (rs : List R4) (root : Int), vs = [.ref a, .int root] ∧ NetAt K H a n rs ∧ Good n rs ∧ rs.length ≤ 156 ∧ 0 ≤ root ∧ root < n ∧ TabG H Pn ∧ TabG H Pr ∧
  ∀ (p : Addr) (kvs : List (Key × V)) (H' : Hp), K0 H H' → H p = none → H' p = some (.dK kvs) → DI kvs (due n rs root) → kvs.length ≤ 2000 → Q (.ref p) H'
theorem ok_early {f fN fP fU Pn Pr : Addr} {fd fdN fdP fdU : FuncData} (F : Fun K "earliest" "earliest" sEarly f fd)
    (kN : PySem.W.keepIn K (.ref fN) = true) (bN : Binds K fdN ["net"] []) (gN : mg "need_net" = some (.ref fN)) (GN : FnOk P w K mg base CX0 6 fN fdN ["net"] (spNeedNet K Pn Pr))
    (kP : PySem.W.keepIn K (.ref fP) = true) (bP : Binds K fdP ["net", "place"] []) (gP : mg "need_place" = some (.ref fP)) (GP : FnOk P w K mg base CX0 4 fP fdP ["net", "place"] (spNeedPlace K))
    (kU : PySem.W.keepIn K (.ref fU) = true) (bU : Binds K fdU ["numbers", "start", "end", "more"] []) (gU : mg "undercuts" = some (.ref fU)) (GU : FnOk P w K mg base CX0 1 fU fdU ["numbers", "start", "end", "more"] (spUnder K)) (mr : mg "range" = none) :
    FnOk P w K mg base CX0 7 f fd ["net", "root"] (spEarly K Pn Pr) := by
  refine F.ok scEarly (fun vs H Q E h => ?_) (fun cdv A outer s H vs Q E hr h => ?_)
  · obtain ⟨a, n, rs, v, rfl, _⟩ := h
    rfl
  · obtain ⟨a, n, rs, root, rfl, hN, hG, hl, r0, r1, tn, tr, q⟩ := h
    have hu := hu_of hr
    refine ⟨_, pss_cons (ps_expr (pe_call GN hr (by rfl) gN kN bN .nil pass0 (pa_cons (pv 0) pa_nil)))
      (pss_cons (ps_expr (pe_call GP (hr.mono (by decide)) (by rfl) gP kP bP .nil pass0 (pa_cons (pv 0) (pa_cons (pv 1) pa_nil))))
      (pss_cons (ps_asg (pv 0) (pg_tup rfl (pgs_cons (pg_name (i := 2) scEarly.nd rfl (.inl rfl)) (pgs_cons (pg_name (i := 3) scEarly.nd rfl (.inl rfl)) pgs_nil))))
      (pss_cons (ps_set (i := 4) scEarly.nd rfl (.inl rfl) (pe_disp (pps_cons (pv 1) pe_int pps_nil) rfl rfl (fun z => by cases z) (by decide)))
      (pss_cons (ps_for PassesOwn.never rfl (pi_range1 (by rfl) mr (pa_cons (pv 2) pa_nil)) (pg_name (i := 5) scEarly.nd rfl (.inl rfl))
        (pss_one (ps_for PassesOwn.never rfl (pi_tup (pv 3)) (pg_tup rfl (pgs_cons (pg_name (i := 6) scEarly.nd rfl (.inl rfl)) (pgs_cons (pg_name (i := 7) scEarly.nd rfl (.inl rfl)) (pgs_cons (pg_name (i := 8) scEarly.nd rfl (.inl rfl)) (pgs_cons (pg_name (i := 9) scEarly.nd rfl (.inl rfl)) pgs_nil)))))
          (pss_one (ps_if (pt_val (pe_call GU (hr.mono (by decide)) (by rfl) gU kU bU .nil pass0 (pa_cons (pv 4) (pa_cons (pv 6) (pa_cons (pv 7) (pa_cons (pv 9) pa_nil))))))
            (pss_one (ps_dput hu (pv 4) (pv 7) (pe_op op_add (pe_dget hu (pv 4) (pv 6) (fun _ _ => rfl)) (pv 9)) rfl)) pss_nil)))))
      (pss_one (ps_ret (pv 4))))))), ?_⟩
    refine ⟨_, rfl, a, n, rs, rfl, hN, hG, hl, tn, tr, fun H1 k1 => ?_⟩
    have hN1 := hN.k0 k1
    refine ⟨_, rfl, _, rfl, a, n, rs, root, rfl, hN1, r0, r1, ?_⟩
    obtain ⟨r, xs, o, h1, h2, hc, hd, h3⟩ := hN1
    have n1 := hG.n1
    have n2 := hG.n2
    refine ⟨_, rfl, a, _, rfl, h1, rfl, _, _, rfl, _, _, rfl, rfl, ?_⟩
    refine fun p np => ⟨_, rfl, ⟨upd_same, [(Sum.inl root, .int 0)], rfl, (by show 1 ≤ 15; decide), ?_⟩⟩
    have nHp := k1.dom p np
    rw [upd_upd]
    have hxs : SqT K H1 r xs := h2
    have hrl : xs.length = rs.length := h3.len
    refine ⟨_, rfl, n, rfl, by omega, by omega, for_range (lo := 0) (n := n.toNat) (fun i σ' H' => ∃ y5 y6 y7 y8 y9, σ' = [some (.ref a), some (.int root), some (.int n), some (.ref r), some (.ref p), y5, y6, y7, y8, y9] ∧ K0 H1 H' ∧
        ∃ kvs, H' p = some (.dK kvs) ∧ DI kvs (iter (fun f => rnd id rs f) i (ini root)) ∧ kvs.length ≤ 1 + 156 * i)
      ⟨none, none, none, none, none, rfl, K0.new np, _, upd_same, DI.one root, by show _ ≤ 1 + 156 * 0; exact Nat.le_of_eq rfl⟩ (fun i σ' H' hi h => ?_) (fun σ' H' h => ?_)⟩
    · obtain ⟨y5, y6, y7, y8, y9, rfl, k2, kvs, hk, hD, hlen⟩ := h
      refine ⟨.ref r, rfl, r, rfl, ⟨xs, k2.sqT hxs⟩, for_tup (xs := xs) (fun j σ' H' => ∃ y5 y6 y7 y8 y9, σ' = [some (.ref a), some (.int root), some (.int n), some (.ref r), some (.ref p), y5, y6, y7, y8, y9] ∧ K0 H1 H' ∧
          ∃ kvs, H' p = some (.dK kvs) ∧ DI kvs (rnd id (rs.take j) (iter (fun f => rnd id rs f) i (ini root))) ∧ kvs.length ≤ 1 + 156 * i + j)
        ⟨_, y6, y7, y8, y9, rfl, k2, kvs, hk, hD, hlen⟩ (fun j σ' H' hj h => ?_) (fun j x σ' H' hx h => ?_) (fun σ' H' h => ?_)⟩
      · obtain ⟨_, _, _, _, _, _, k3, _⟩ := h
        exact k3.sqT hxs
      · obtain ⟨y5, y6, y7, y8, y9, rfl, k3, kvs, hk, hD, hlen⟩ := h
        obtain ⟨d, e1, e2⟩ := dpAll_get h3 hx
        obtain ⟨t, rfl, hrd⟩ : ∃ t : R4, d = t.d ∧ rs[j]? = some t := by
          rw [List.getElem?_map] at e1
          cases e3 : rs[j]? with
          | none => rw [e3] at e1; cases e1
          | some t => rw [e3] at e1; cases e1; exact ⟨t, rfl, rfl⟩
        obtain ⟨q1, rfl, hs⟩ := dp_r4 e2
        have hjl : j < xs.length := by
          rw [hrl]; exact (List.getElem?_eq_some_iff.mp hrd).1
        rw [rnd_take hrd]
        generalize hg : rnd id (rs.take j) (iter (fun f => rnd id rs f) i (ini root)) = g at hD ⊢
        refine ⟨q1, _, rfl, k3.sqT hs, rfl, _, _, rfl, _, _, rfl, _, _, rfl, _, _, rfl, rfl, ?_⟩
        refine ⟨_, rfl, _, rfl, _, rfl, _, rfl, p, kvs, g, t.s, t.e, t.l, rfl, .inl hk, hD, _, rfl, ?_⟩
        have hsz : kvs.length < sizeLine := Nat.lt_of_le_of_lt (m := 5000) (by omega) (by decide)
        unfold rlx undB
        cases es : g t.s with
        | none => exact ⟨_, _, _, _, _, rfl, k3, kvs, hk, by rw [show id g t.s = none from es]; exact hD, by omega⟩
        | some x =>
          rw [show id g t.s = some x from es]
          have gets : DGet H' p (.int t.s) (some (.int x)) := by
            have := DGet.k (k := Sum.inl t.s) hk
            rw [hD.val, es] at this
            exact this
          cases ee : g t.e with
          | none =>
            refine iteT ⟨_, rfl, _, rfl, p, _, rfl, gets, _, rfl, x, t.l, rfl, rfl, _, rfl, _, rfl, p, _, rfl, DPut.k (k := Sum.inl t.e) hk hsz, ?_⟩
            refine ⟨_, _, _, _, _, rfl, k3.mut np, _, upd_same, hD.put _ _, Nat.le_trans (length_putK _ _ _) (by omega)⟩
          | some b =>
            by_cases hb : x + t.l < b
            · show if decide (x + t.l < b) = true then _ else _
              rw [decide_eq_true hb]
              simp only [hb, if_true]
              refine ⟨_, rfl, _, rfl, p, _, rfl, gets, _, rfl, x, t.l, rfl, rfl, _, rfl, _, rfl, p, _, rfl, DPut.k (k := Sum.inl t.e) hk hsz, ?_⟩
              refine ⟨_, _, _, _, _, rfl, k3.mut np, _, upd_same, hD.put _ _, Nat.le_trans (length_putK _ _ _) (by omega)⟩
            · show if decide (x + t.l < b) = true then _ else _
              rw [decide_eq_false hb]
              simp only [hb, if_false]
              exact ⟨_, _, _, _, _, rfl, k3, kvs, hk, hD, by omega⟩
      · obtain ⟨y5, y6, y7, y8, y9, rfl, k3, kvs, hk, hD, hlen⟩ := h
        rw [hrl, List.take_length] at hD
        exact ⟨_, _, _, _, _, rfl, k3, kvs, hk, hD, by omega⟩
    · obtain ⟨y5, y6, y7, y8, y9, rfl, k2, kvs, hk, hD, hlen⟩ := h
      exact ⟨_, rfl, q p kvs H' (k1.trans k2) nHp hk hD (by omega)⟩
end
end HK

set_option Elab.async false
set_option linter.all false
set_option maxRecDepth 100000
set_option maxHeartbeats 8000000
namespace HK
open PySem PySem.Spec PyProof.Rows L2 GAl GxR HkN
open Evl (pss_cut)
/-! ### cheapest -/
abbrev sNeedFew : Stmt := topS 29
abbrev N_scNeedFew : List Str := ["net", "hearers"]
theorem scNeedFew : FnScope N_scNeedFew ["net", "hearers"] (defScope sNeedFew) := ⟨rfl, rfl, rfl, by decide +kernel, rfl, by decide +kernel, by decide +kernel⟩
abbrev sCheap : Stmt := topS 28
abbrev N_scCheap : List Str := ["net", "root", "hearers", "table", "steps", "reached", "place"]
theorem scCheap : FnScope N_scCheap ["net", "root", "hearers"] (defScope sCheap) := ⟨rfl, rfl, rfl, by decide +kernel, rfl, by decide +kernel, by decide +kernel⟩
theorem ltO_isSome {z : Int} {o : Option Int} (h : ltO (some z) o = false) : o.isSome = true := by
  obtain ⟨y, e, _⟩ := ltO_le h
  rw [e]; rfl
theorem T_from {rs : List R4} {n : Int} {T : TF} {S : SF} {s : List Int} {root : Int} (hr : RowOK rs n T S s) : ∀ (k : Nat) (v : Int), Rk rs root k v → (T s v).isSome = true → (T s root).isSome = true
  | 0, v, h, e => by
    have h : v = root := h
    rw [← h]; exact e
  | k + 1, v, h, e => by
    rcases h with h | ⟨r, h1, h2, h3⟩
    · exact T_from hr k v h e
    · refine T_from hr k r.s h3 ?_
      obtain ⟨x, ex⟩ := Option.isSome_iff_exists.mp e
      have := hr.road r h1
      rw [h2, ex] at this
      exact ltO_isSome this
theorem T_all {rs : List R4} {n : Int} {T : TF} {S : SF} {hs : List Int} {root : Int} {k : Nat} (hnd : hs.Nodup) (hRow : ∀ s ∈ compsN hs, RowOK rs n T S s) (r0 : 0 ≤ root) (r1 : root < n) (hR : ∀ h ∈ hs, Rk rs root k h) : ∀ (N : Nat) (s : List Int), s.length ≤ N → s ∈ compsN hs → (T s root).isSome = true := by
  intro N
  induction N with
  | zero =>
    intro s hl hm
    exact absurd (List.length_eq_zero_iff.mp (Nat.le_zero.mp hl)) (compsN_mem.mp hm).2
  | succ N ih =>
    intro s hl hm
    obtain ⟨hsub, hne⟩ := compsN_mem.mp hm
    have hr := hRow s hm
    have snd : s.Nodup := List.Nodup.sublist hsub hnd
    match s, hl, hm, hsub, hne, hr, snd with
    | [], _, _, _, hne, _, _ => exact absurd rfl hne
    | [v], _, hm, hsub, _, hr, _ =>
      refine T_from hr k v (hR v (hsub.subset (List.mem_singleton.mpr rfl))) ?_
      rw [hr.home v rfl]; rfl
    | x :: y :: l, hl, hm, hsub, hne, hr, snd =>
      have n1 := List.nodup_cons.mp snd
      have hxy : y ≠ x := fun z => n1.1 (by rw [z]; exact List.mem_cons_self ..)
      have fa : x ∈ (x :: y :: l).filter (fun u => decide (u = x)) := List.mem_filter.mpr ⟨List.mem_cons_self .., decide_eq_true rfl⟩
      have fb : y ∈ (x :: y :: l).filter (fun u => !decide (u = x)) := List.mem_filter.mpr ⟨List.mem_cons_of_mem _ (List.mem_cons_self ..), by rw [decide_eq_false hxy]; rfl⟩
      have na : (x :: y :: l).filter (fun u => decide (u = x)) ≠ [] := fun z => by rw [z] at fa; cases fa
      have nb : (x :: y :: l).filter (fun u => !decide (u = x)) ≠ [] := fun z => by rw [z] at fb; cases fb
      have fl := filter_len (fun u => decide (u = x)) (x :: y :: l)
      have la := List.length_pos_iff.mpr na
      have lb := List.length_pos_iff.mpr nb
      have ma : (x :: y :: l).filter (fun u => decide (u = x)) ∈ compsN hs := compsN_mem.mpr ⟨List.filter_sublist.trans hsub, na⟩
      have mb : (x :: y :: l).filter (fun u => !decide (u = x)) ∈ compsN hs := compsN_mem.mpr ⟨List.filter_sublist.trans hsub, nb⟩
      obtain ⟨p, ep⟩ := Option.isSome_iff_exists.mp (ih _ (by omega) ma)
      obtain ⟨q, eq⟩ := Option.isSome_iff_exists.mp (ih _ (by omega) mb)
      rcases partsF_all snd na nb with h | h
      · have := hr.join _ _ h root r0 r1
        rw [ep, eq] at this
        exact ltO_isSome this
      · have := hr.join _ _ h root r0 r1
        rw [ep, eq] at this
        exact ltO_isSome this
section
variable {P : Program} {w : World} {K : PySem.W.Frag} {mg : Str → Option Value} {base : Heap}
def spNeedFew (K : PySem.W.Frag) (Pr Pa : Addr) : Sp := fun vs H Q _ => ∃ (a : Addr) (n : Int) (rs : List R4) (p : Addr) (ns : List Int), vs = [.ref a, .ref p] ∧ NetAt K H a n rs ∧ SqT K H p (ns.map V.int) ∧ AreP n ns ∧ ns ≠ [] ∧ ns.length ≤ 6 ∧ TabG H Pr ∧ TabG H Pa ∧ ∀ (H' : Hp), K0 H H' → Q .non H'
theorem ok_needfew {f Pr Pa : Addr} {fd : FuncData} {t9 : Tok} {f_needhearers : Addr} {fd_needhearers : FuncData} (F : Fun K "need_few_hearers" "need_few_hearers" sNeedFew f fd) (k_needhearers : PySem.W.keepIn K (.ref f_needhearers) = true) (b_needhearers : Binds K fd_needhearers ["net", "hearers"] []) (g_needhearers : mg "need_hearers" = some (.ref f_needhearers)) (G_needhearers : FnOk P w K mg base CX0 6 f_needhearers fd_needhearers ["net", "hearers"] (spNeedH K Pr Pa)) (m_len : mg "len" = none) (c_MOST_HEARERS : mg "MOST_HEARERS" = some (.int 6 t9)) : FnOk P w K mg base CX0 7 f fd ["net", "hearers"] (spNeedFew K Pr Pa) := by
  refine F.ok scNeedFew (fun vs H Q E h => ?_) (fun cdv A outer st H vs Q E hr h => ?_)
  · obtain ⟨a, n, rs, p, ns, rfl, _⟩ := h
    rfl
  · obtain ⟨a, n, rs, p, ns, rfl, hN, hp, hA, hne, hl, tr, ta, q⟩ := h
    have hu := hu_of hr
    refine ⟨_, (pss_cons (ps_expr (pe_call G_needhearers (hr.mono (by decide)) (by rfl) g_needhearers k_needhearers b_needhearers .nil pass0 (pa_cons (pv 0) (pa_cons (pv 1) pa_nil))))
      (pss_cons (ps_if (pt_not (pt_truth (pv 1) (by intro _; rfl))) pss_never pss_nil)
      (pss_one (ps_if (pt_cmpR op_gt (pe_callB call_len_seq (by rfl) m_len PySem.boot_len (pa_cons (pv 1) pa_nil)) (pe_glob (v := .int 6) (by rfl) c_MOST_HEARERS ⟨_, rfl⟩) (nomark _)) pss_never pss_nil)))), ?_⟩
    refine ⟨_, rfl, _, rfl, a, n, rs, p, ns, rfl, hN, hp, hA, tr, ta, fun H1 k1 => ?_⟩
    have hp1 := k1.sqT hp
    refine ⟨_, rfl, true, .inr (.inl ⟨_, hp1, by cases ns with
      | nil => exact absurd rfl hne
      | cons x l => rfl⟩), iteF ?_⟩
    refine ⟨_, rfl, p, _, rfl, .inr hp1, _, _, rfl, rfl, _, rfl, ?_⟩
    rw [List.length_map, decide_eq_false (show ¬ (6 : Int) < (ns.length : Nat) from by omega)]
    exact iteF (q H1 k1)
/-- what cheapest tells -/
def TreeTold (P : Program) (w : World) (K : PySem.W.Frag) (H : Hp) (q qd dt : Addr) (nn : Nat) (rs : List R4) (root : Int) (hs : List Int) : Prop := ∃ (ls : List (Key × V)) (g : IF) (T : TF) (S : SF), SqT K H q [.str "tree", .ref qd, .ref dt] ∧ H qd = some (.dK ls) ∧ DI ls g ∧ ls.length ≤ 12 ∧ TrimP rs root g ls.length hs ∧
  TbAt P w K H dt (keysOf nn (compsN hs)) T ∧ (∀ s ∈ compsN hs, RowOK rs nn T S s) ∧ T hs root = some (prG g rs)
def NoneTold (K : PySem.W.Frag) (H : Hp) (q : Addr) (n : Int) (rs : List R4) (root : Int) : Prop := ∃ (b : Addr) (ms : List Int), SqT K H q [.str "none", .ref b] ∧ SqT K H b (iV ms) ∧ AreP n ms ∧ ∀ v, v ∈ ms ↔ (due n rs root v).isSome = true
def spCheap (P : Program) (w : World) (K : PySem.W.Frag) (Pn Pr Pa Pp Pg : Addr) : Sp := fun vs H Q _ => ∃ (a : Addr) (nn : Nat) (rs : List R4) (root : Int) (p : Addr) (hs : List Int), vs = [.ref a, .int root, .ref p] ∧ NetAt K H a nn rs ∧ Good nn rs ∧ rs.length ≤ 156 ∧ 0 ≤ root ∧ root < nn ∧ SqT K H p (iV hs) ∧ AreP nn hs ∧ hs ≠ [] ∧ hs.length ≤ 6 ∧ TbL H [Pn, Pr, Pa, Pp, Pg] ∧
  (∀ (q qd dt : Addr) (H' : Hp), K0 H H' → H qd = none → H dt = none → qd ≠ dt → (∀ h ∈ hs, (due nn rs root h).isSome = true) → TreeTold P w K H' q qd dt nn rs root hs → Q (.ref q) H') ∧
  (∀ (q : Addr) (H' : Hp), K0 H H' → (¬ ∀ h ∈ hs, (due nn rs root h).isSome = true) → NoneTold K H' q nn rs root → Q (.ref q) H')
theorem ok_cheap {f c Pn Pr Pa Pp Pg : Addr} {fd : FuncData} {f_neednet f_needplace f_needfew f_early f_great f_along f_trimmed : Addr} {fd_neednet fd_needplace fd_needfew fd_early fd_great fd_along fd_trimmed : FuncData} (F : FunC K "cheapest" "cheapest" sCheap f fd c) (TB : TabB base mg c Pg)
    (k_neednet : PySem.W.keepIn K (.ref f_neednet) = true) (b_neednet : Binds K fd_neednet ["net"] []) (g_neednet : mg "need_net" = some (.ref f_neednet)) (G_neednet : FnOk P w K mg base CX0 6 f_neednet fd_neednet ["net"] (spNeedNet K Pn Pr))
    (k_needplace : PySem.W.keepIn K (.ref f_needplace) = true) (b_needplace : Binds K fd_needplace ["net", "place"] []) (g_needplace : mg "need_place" = some (.ref f_needplace)) (G_needplace : FnOk P w K mg base CX0 4 f_needplace fd_needplace ["net", "place"] (spNeedPlace K))
    (k_needfew : PySem.W.keepIn K (.ref f_needfew) = true) (b_needfew : Binds K fd_needfew ["net", "hearers"] []) (g_needfew : mg "need_few_hearers" = some (.ref f_needfew)) (G_needfew : FnOk P w K mg base CX0 7 f_needfew fd_needfew ["net", "hearers"] (spNeedFew K Pr Pa))
    (k_early : PySem.W.keepIn K (.ref f_early) = true) (b_early : Binds K fd_early ["net", "root"] []) (g_early : mg "earliest" = some (.ref f_early)) (G_early : FnOk P w K mg base CX0 7 f_early fd_early ["net", "root"] (spEarly K Pn Pr))
    (k_great : PySem.W.keepIn K (.ref f_great) = true) (b_great : Binds K fd_great ["net", "hearers"] []) (g_great : mg "greatest_table" = some (.ref f_great)) (G_great : FnOk P w K mg base CX0 4 f_great fd_great ["net", "hearers"] (spGreat P w K Pp))
    (k_along : PySem.W.keepIn K (.ref f_along) = true) (b_along : Binds K fd_along ["steps", "hearers", "root"] []) (g_along : mg "tree_along" = some (.ref f_along)) (G_along : FnOk P w K mg base CX0 1 f_along fd_along ["steps", "hearers", "root"] (spAlong P w K))
    (k_trimmed : PySem.W.keepIn K (.ref f_trimmed) = true) (b_trimmed : Binds K fd_trimmed ["hearers", "ahead"] []) (g_trimmed : mg "trimmed" = some (.ref f_trimmed)) (G_trimmed : FnOk P w K mg base CX0 1 f_trimmed fd_trimmed ["hearers", "ahead"] (spTrimmed K)) (m_all : mg "all" = none) (m_tuple : mg "tuple" = none) (m_sorted : mg "sorted" = none) : FnOk P w K mg base CX0 8 f fd ["net", "root", "hearers"] (spCheap P w K Pn Pr Pa Pp Pg) := by
  refine F.ok scCheap (fun vs H Q E h => ?_) (fun A outer st H vs Q E hr h => ?_)
  · obtain ⟨a, nn, rs, root, p, hs, rfl, _⟩ := h
    rfl
  · obtain ⟨a, nn, rs, root, p, hs, rfl, hN, hg, hl, r0, r1, hp, hA, hne, hsl, tb, qt, qn⟩ := h
    have hu := hu_of hr
    refine ⟨_, (pss_cons (ps_expr (pe_call G_neednet (hr.mono (by decide)) (by rfl) g_neednet k_neednet b_neednet .nil pass0 (pa_cons (pv 0) pa_nil)))
      (pss_cons (ps_expr (pe_call G_needplace (hr.mono (by decide)) (by rfl) g_needplace k_needplace b_needplace .nil pass0 (pa_cons (pv 0) (pa_cons (pv 1) pa_nil))))
      (pss_cons (ps_expr (pe_call G_needfew (hr.mono (by decide)) (by rfl) g_needfew k_needfew b_needfew .nil pass0 (pa_cons (pv 0) (pa_cons (pv 2) pa_nil))))
      (pss_cons (ps_set (i := 5) scCheap.nd rfl (.inr rfl) (pe_call G_early (hr.mono (by decide)) (by rfl) g_early k_early b_early .nil pass0 (pa_cons (pv 0) (pa_cons (pv 1) pa_nil))))
      (pss_cut (ps_if (pt_not (pt_val (pe_allG (own := [("place", 6)]) (k := 0) (g := (gName 6)) (tt := tYes) (te := (tDIn (tVar 6) (tVar 5))) (hr.mono (by decide)) (by rfl) m_all rfl scCheap.nd TB rfl (gsc_by (N := N_scCheap) (sc := defScope sCheap) (by decide +kernel)) (pi_tup (pv 2)) (fun A' hr' _ _ _ _ _ _ => (pg_name (i := 6) scCheap.nd rfl (.inl rfl))) (fun A' hr' _ _ _ _ _ _ => pts_nil) (fun A' hr' _ _ _ _ _ _ => (pe_cmp (pc_din (hu_of hr') (pv 6) (pv 5))))))) (pss_one (ps_ret (pe_tup (pa_cons pe_str (pa_cons (pe_callTy HkL.call_tupR (by rfl) m_tuple (by decide +kernel) (pa_cons (pe_callB (call_sortedDI rfl) (by rfl) m_sorted boot_sorted (pa_cons (pv 5) pa_nil)) pa_nil)) pa_nil))))) pss_nil)
      (pss_cons (ps_asg (pe_call G_great (hr.mono (by decide)) (by rfl) g_great k_great b_great .nil pass0 (pa_cons (pv 0) (pa_cons (pv 2) pa_nil))) (pg_tup rfl (pgs_cons (pg_name (i := 3) scCheap.nd rfl (.inl rfl)) (pgs_cons (pg_name (i := 4) scCheap.nd rfl (.inl rfl)) pgs_nil))))
      (pss_one (ps_ret (pe_tup (pa_cons pe_str (pa_cons (pe_call G_trimmed (hr.mono (by decide)) (by rfl) g_trimmed k_trimmed b_trimmed .nil pass0 (pa_cons (pv 2) (pa_cons (pe_call G_along (hr.mono (by decide)) (by rfl) g_along k_along b_along .nil pass0 (pa_cons (pv 4) (pa_cons (pv 2) (pa_cons (pv 1) pa_nil)))) pa_nil))) (pa_cons (pv 3) pa_nil)))))))))))), ?_⟩
    refine ⟨_, rfl, a, nn, rs, rfl, hN, hg, hl, tb Pn (by simp), tb Pr (by simp), fun H1 k1 => ?_⟩
    refine ⟨_, rfl, _, rfl, a, nn, rs, root, rfl, hN.k0 k1, r0, r1, ?_⟩
    refine ⟨_, rfl, _, rfl, a, nn, rs, p, hs, rfl, hN.k0 k1, k1.sqT hp, hA, hne, hsl, k1.tab _ (tb Pr (by simp)), k1.tab _ (tb Pa (by simp)), fun H2 k2 => ?_⟩
    have k12 := k1.trans k2
    refine ⟨_, rfl, _, rfl, a, nn, rs, root, rfl, hN.k0 k12, hg, hl, r0, r1, k12.tab _ (tb Pn (by simp)), k12.tab _ (tb Pr (by simp)), fun d kvs H3 k3 nd hd hD hkl => ?_⟩
    have k13 := k12.trans k3
    have hnd : hs.Nodup := hA.2.imp fun a => Int.ne_of_lt a
    have hI := due_inv (n := (nn : Int)) (root := root) hg.ok r0 r1
    have n12 : (nn : Int) ≤ 12 := hg.n2
    have hk12 : kvs.length ≤ 12 := hD.small fun v x e => by
      have := hI.rng v x e
      omega
    refine ⟨fun σ' G => σ' = [some (.ref a), some (.int root), some (.ref p), none, none, some (.ref d), none] ∧ K0 H G ∧ ∀ h ∈ hs, (due nn rs root h).isSome = true, ?_, ?_⟩
    · have tPg := k13.tab _ (tb Pg (by simp))
      have hp3 : SqT K H3 p (hs.map V.int) := k13.sqT hp
      refine ⟨_, rfl, p, rfl, ⟨_, hp3⟩, tPg, fun H4 hT4 => ?_⟩
      have k4 : K0 H3 H4 := K0.tbd tPg hT4
      refine ⟨fun i m G => i + m = hs.length ∧ K0 H3 G ∧ ∀ h ∈ hs.take i, (due nn rs root h).isSome = true, ⟨hs.length, by omega, k4, fun v hv => by rw [List.take_zero] at hv; cases hv⟩, fun i m G hW => ?_⟩
      obtain ⟨em, k5, hall⟩ := hW
      have hA5 : SqT K G p (hs.map V.int) := k5.sqT hp3
      by_cases hi : i < hs.length
      · have h1 : i < (hs.map V.int).length := by rw [List.length_map]; omega
        have g1 : (hs.map V.int)[i]? = some (hs.map V.int)[i] := List.getElem?_eq_getElem h1
        have g0 : hs[i]? = some hs[i] := List.getElem?_eq_getElem hi
        refine .inr ⟨⟨_, _, hA5, g1⟩, fun H' => K0 H3 H' ∧ (due nn rs root hs[i]).isSome = true, fun H' hN => ⟨m - 1, by omega, by omega, hN.1, fun v hv => ?_⟩, fun x H' hy => ?_⟩
        · rw [List.take_add_one, g0] at hv
          rcases List.mem_append.mp hv with hv | hv
          · exact hall v hv
          · have := List.mem_singleton.mp hv
            subst this
            exact hN.2
        · obtain ⟨rfl, fx⟩ := hy
          have ex : x = .int hs[i] := by
            have := fx _ hA5
            rw [List.getElem?_map, g0] at this
            exact (Option.some.inj this).symm
          subst ex
          have hd5 := k5.oth d _ hd (fun _ z => by cases z)
          refine ⟨rfl, tyes ⟨_, rfl, _, rfl, d, _, rfl, dgetR (.inl hd5) hD hs[i], _, rfl, ?_⟩⟩
          cases eg : due nn rs root hs[i] with
          | some y => exact iteT ⟨k5, rfl⟩
          | none =>
            refine iteF ⟨_, rfl, iteT ?_⟩
            obtain ⟨ks, eks, ksn, ksm⟩ := hD.ints
            have hks : ks.length = kvs.length := by
              have := congrArg List.length eks
              rw [List.length_map, List.length_map] at this
              exact this.symm
            refine ⟨_, rfl, d, kvs, ks, rfl, .inl hd5, eks, by omega, fun ys ps hperm hsort nps => ?_⟩
            have kps := K0.new nps (o := .lst (ys.map V.int))
            have hps : (upd H' ps (.lst (ys.map V.int))) ps = some (.lst (ys.map V.int)) := upd_same
            generalize upd H' ps (.lst (ys.map V.int)) = G6 at kps hps ⊢
            refine ⟨ps, _, rfl, .inl ⟨.inl (.inl hps), fun b nb => ?_⟩⟩
            have kb := K0.new nb (o := .tup (ys.map V.int))
            have hb : SqT K (upd G6 b (.tup (ys.map V.int))) b (iV ys) := .inl (.inl upd_same)
            generalize upd G6 b (.tup (ys.map V.int)) = G7 at kb hb ⊢
            refine ⟨few_szG (show 2 ≤ 1000 by decide), fun q nq => ?_⟩
            have kq := K0.new nq (o := .tup [.str "none", .ref b])
            have memy : ∀ v, v ∈ ys ↔ (due nn rs root v).isSome = true := fun v => (hperm.mem_iff).trans (ksm v)
            refine qn q _ (((k13.trans k5).trans (kps.trans kb)).trans kq) (fun z => ?_) ⟨b, ys, .inl (.inl upd_same), kq.sqT hb, ⟨fun v hv => ?_, ?_⟩, memy⟩
            · have := z _ (List.getElem_mem hi)
              rw [eg] at this; cases this
            · obtain ⟨x, ex⟩ := Option.isSome_iff_exists.mp ((memy v).mp hv)
              have := hI.rng v x ex
              exact ⟨this.1, this.2.1⟩
            · have nd : ys.Nodup := hperm.symm.nodup ksn
              exact (List.pairwise_and_iff.mpr ⟨hsort, nd⟩).imp fun ⟨h1, h2⟩ => by omega
      · rw [List.take_of_length_le (by omega)] at hall
        refine .inl ⟨⟨_, hA5, by rw [List.length_map]; omega⟩, _, rfl, iteF ⟨rfl, k13.trans k5, hall⟩⟩
    rintro σ' G ⟨rfl, k, hall⟩
    have n1 : 1 ≤ nn := by have := hg.n1; omega
    have hin : ∀ h ∈ hs, 0 ≤ h ∧ h < (nn : Int) := hA.1
    refine ⟨_, rfl, _, rfl, a, p, nn, rs, hs, rfl, hN.k0 k, hg, k.sqT hp, hnd, by omega, hin, k.tab _ (tb Pp (by simp)), fun tp dt ds H4 T S k4 htp nt ns hW hRow => ?_⟩
    refine ⟨tp, _, rfl, htp, rfl, _, _, rfl, _, _, rfl, rfl, ?_⟩
    have k04 := k.trans k4
    have hmem : hs ∈ compsN hs := compsN_mem.mpr ⟨List.Sublist.refl _, hne⟩
    obtain ⟨t, hT⟩ := Option.isSome_iff_exists.mp (T_all hnd hRow r0 r1 (fun h hh => (Rk_due hg.ok r0 r1 h).mpr (hall h hh)) _ hs (Nat.le_refl _) hmem)
    refine ⟨_, rfl, _, rfl, _, rfl, _, rfl, ds, p, nn, rs, hs, root, t, _, T, S, rfl, hg, hW.s, k04.sqT hp, hnd, hne, by omega, hRow, r0, r1, hT, fun qd0 kv0 g0 H5 k5 nq0 hq0 hD0 hl0 hAl hS0 hc0 => ?_⟩
    have hT0 : TreeP rs root g0 kv0.length := hAl.tree hD0
    refine ⟨p, hs, qd0, kv0, g0, root, rfl, (k04.trans k5).sqT hp, hq0, hD0, by omega, hT0.1, serv_end hT0 hS0, fun qd ls H6 k6 nqd hqd hDd hld => ?_⟩
    refine ⟨_, rfl, few_szG (show 3 ≤ 1000 by decide), fun q nq => ?_⟩
    have kq := K0.new nq (o := .tup [.str "tree", .ref qd, .ref dt])
    have k46 := (k5.trans k6).trans kq
    have hW6 := hW.k0 k46
    have ndt : H dt = none := k.dom _ nt
    have hTr := kept_trim hD0 hDd hT0 hS0
    have k05 := k04.trans k5
    have ndq : qd ≠ dt := fun z => by
      obtain ⟨kvz, hz, _⟩ := (hW.k0 k5).t
      rw [z, hz] at nqd; cases nqd
    refine qt q qd dt _ ((k04.trans (k5.trans k6)).trans kq) (k05.dom _ nqd) ndt ndq hall ⟨ls, keptF g0 hs, T, S, .inl (.inl upd_same), kq.oth _ _ hqd (fun _ z => by cases z), hDd, by omega, hTr, hW6.t, hRow, ?_⟩
    obtain ⟨y, ey, hy⟩ := low_bound hg hTr.1 hTr.2.1 hnd hne hin hRow r0 r1
    have hm : prG (keptF g0 hs) rs ≤ prG g0 rs := prG_mono (fun r hr => (hg.ok r hr).c0) fun v x e => (resF_some.mp e).2
    rw [hT] at ey
    cases ey
    rw [hT, show prG (keptF g0 hs) rs = t from by omega]
end
end HK

set_option Elab.async false
set_option linter.all false
set_option maxRecDepth 100000
set_option maxHeartbeats 4000000
namespace HK
open PySem PySem.Spec PyProof.Rows L2 GAl GxR HkN
/-! ### the net of a send, and what is sent along a tree of it -/
/-- the roads of a send's net, by those that keep the number -/
def sendK (n : Int) (rs : List R4) (kps : KpL) (ks : List Int) : List R4 := rs.filter (stands kps) ++ ks.map fun p => ⟨n, p, 0, 1⟩
theorem sendR_eq (n : Int) (rs : List R4) (kps : KpL) (m : Int) : sendR n rs kps m = sendK n rs kps (keepK kps m) := rfl
theorem sendK_mem {n : Int} {rs : List R4} {kps : KpL} {ks : List Int} {r : R4} : r ∈ sendK n rs kps ks ↔ (r ∈ rs ∧ stands kps r = true) ∨ ∃ p ∈ ks, r = ⟨n, p, 0, 1⟩ := by
  unfold sendK
  rw [List.mem_append, List.mem_filter, List.mem_map]
  exact or_congr Iff.rfl ⟨fun ⟨p, h, e⟩ => ⟨p, h, e.symm⟩, fun ⟨p, h, e⟩ => ⟨p, h, e.symm⟩⟩
theorem sendK_good {n : Int} {rs : List R4} {kps : KpL} {ks : List Int} (hg : Good n rs) (hn : n < 12) (hk : AreP n ks) : Good (n + 1) (sendK n rs kps ks) := by
  have h1 := hg.n1
  refine ⟨by omega, by omega, fun r hr => ?_, ?_⟩
  · rcases sendK_mem.mp hr with ⟨h, _⟩ | ⟨p, hp, rfl⟩
    · have ok := hg.ok r h
      exact ⟨ok.s0, by have := ok.s1; omega, ok.e0, by have := ok.e1; omega, ok.ne, ok.c0, ok.c1, ok.l0, ok.l1⟩
    · have := hk.1 p hp
      exact ⟨by show 0 ≤ n; omega, by show n < n + 1; omega, this.1, by show p < n + 1; omega, by show n ≠ p; omega, by show (0 : Int) ≤ 0; omega, by show (0 : Int) ≤ 1000; omega, by show (1 : Int) ≤ 1; omega, by show (1 : Int) ≤ 1000; omega⟩
  · refine List.pairwise_append.mpr ⟨hg.up.sublist List.filter_sublist, List.pairwise_map.mpr (hk.2.imp fun h => .inr ⟨rfl, h⟩), fun a ha b hb => ?_⟩
    obtain ⟨p, hp, rfl⟩ := List.mem_map.mp hb
    exact .inl (hg.ok a (List.mem_filter.mp ha).1).s1
theorem AreP.few {n : Int} {ks : List Int} (h : AreP n ks) (hn : n ≤ 12) : ks.length ≤ 12 := by
  have := h.len
  omega
theorem Good.few {n : Int} {rs : List R4} (hg : Good n rs) : rs.length ≤ 156 := by
  have up : (rs.map fun r => r.s * 12 + r.e).Pairwise (· < ·) := by
    refine List.pairwise_map.mpr ((List.pairwise_and_iff.mpr ⟨hg.up, List.Pairwise.imp_of_mem (fun {a b} ha hb _ => (⟨ha, hb⟩ : a ∈ rs ∧ b ∈ rs)) hg.up⟩).imp fun {a b} h => ?_)
    obtain ⟨h1, ha, hb⟩ := h
    have oa := hg.ok a ha
    have ob := hg.ok b hb
    have := hg.n2
    have a1 := oa.e1
    have b0 := ob.e0
    rcases h1 with h | ⟨h, h2⟩ <;> omega
  have hA : AreP 144 (rs.map fun r => r.s * 12 + r.e) := ⟨fun v hv => by
    obtain ⟨r, hr, rfl⟩ := List.mem_map.mp hv
    have ok := hg.ok r hr
    have := hg.n2
    have h1 := ok.s0
    have h2 := ok.s1
    have h3 := ok.e0
    have h4 := ok.e1
    omega, up⟩
  have := hA.len
  rw [List.length_map] at this
  omega
/-- a tree without what leads to those that keep the number -/
def cutG (ks : List Int) (g : IF) : IF := fun v => if v ∈ ks then none else g v
theorem cutG_in {ks : List Int} {g : IF} {v : Int} (h : v ∈ ks) : cutG ks g v = none := if_pos h
theorem cutG_out {ks : List Int} {g : IF} {v : Int} (h : v ∉ ks) : cutG ks g v = g v := if_neg h
theorem cutG_some {ks : List Int} {g : IF} {v x : Int} : cutG ks g v = some x ↔ v ∉ ks ∧ g v = some x := by
  unfold cutG
  by_cases h : v ∈ ks
  · rw [if_pos h]
    exact ⟨(fun z => by cases z), fun z => absurd h z.1⟩
  · rw [if_neg h]
    exact ⟨fun z => ⟨h, z⟩, fun z => z.2⟩
noncomputable def sendF (ks ls : List Int) (g : IF) : IF := keptF (cutG ks g) ls
/-- a send: along roads that stand, to none that keeps it, from one that does, to all that lack it, to none in vain -/
structure SendOk (rs : List R4) (kps : KpL) (ks ls : List Int) (h : IF) (M : Nat) : Prop where
  road : ∀ v x, h v = some x → ∃ r ∈ rs, r.s = x ∧ r.e = v ∧ stands kps r = true
  notk : ∀ v x, h v = some x → v ∉ ks
  ends : ∀ v x, h v = some x → clm h M v ∈ ks
  trim : ∀ v x, h v = some x → v ∈ ls ∨ ∃ u, h u = some v
  all : ∀ v ∈ ls, (h v).isSome = true
section
variable {n : Int} {rs : List R4} {kps : KpL} {ks ls : List Int} {g : IF} {L : Nat}
theorem roadK {x v : Int} (hg : Good n rs) (h : (road (sendK n rs kps ks) x v).isSome = true) : (x = n ∧ v ∈ ks) ∨ (x < n ∧ ∃ r ∈ rs, r.s = x ∧ r.e = v ∧ stands kps r = true) := by
  obtain ⟨r, e⟩ := Option.isSome_iff_exists.mp h
  obtain ⟨h1, h2, h3⟩ := road_some e
  rcases sendK_mem.mp h1 with ⟨ha, hb⟩ | ⟨p, hp, rfl⟩
  · exact .inr ⟨by rw [← h2]; exact (hg.ok r ha).s1, r, ha, h2, h3, hb⟩
  · exact .inl ⟨h2.symm, by rw [← h3]; exact hp⟩
theorem cut_ends (hg : Good n rs) (hT : TreeP (sendK n rs kps ks) n g L) (hk : n ∉ ks) {v x : Int} (e : g v = some x) : ∀ j, clm (cutG ks g) j v ∈ ks ∨ (clm (cutG ks g) j v = clm g j v ∧ clm g j v ≠ n)
  | 0 => .inr ⟨rfl, fun z => by have z : v = n := z; rw [z, hT.1] at e; cases e⟩
  | j + 1 => by
    rcases cut_ends hg hT hk e j with h | ⟨h1, h2⟩
    · left
      have : cutG ks g (clm (cutG ks g) j v) = none := cutG_in h
      show stp (cutG ks g) (clm (cutG ks g) j v) ∈ ks
      rw [stp_none this]
      exact h
    · by_cases hm : clm g j v ∈ ks
      · left
        show stp (cutG ks g) (clm (cutG ks g) j v) ∈ ks
        rw [h1]
        have : cutG ks g (clm g j v) = none := cutG_in hm
        rw [stp_none this]
        exact hm
      · right
        have ec : cutG ks g (clm g j v) = g (clm g j v) := cutG_out hm
        have es : clm (cutG ks g) (j + 1) v = clm g (j + 1) v := by
          show stp (cutG ks g) (clm (cutG ks g) j v) = stp g (clm g j v)
          rw [h1]
          unfold stp
          rw [ec]
        refine ⟨es, ?_⟩
        rcases clm_in hT.1 (hT.2.2 v x e) j with h | ⟨y, hy⟩
        · exact absurd h h2
        · show stp g (clm g j v) ≠ n
          rw [stp_some hy]
          rcases roadK hg (hT.2.1 _ _ hy) with ⟨_, h⟩ | ⟨h, _⟩
          · exact absurd h hm
          · omega
theorem cut_end (hg : Good n rs) (hT : TreeP (sendK n rs kps ks) n g L) (hk : n ∉ ks) {v x : Int} (e : g v = some x) : clm (cutG ks g) L v ∈ ks := by
  rcases cut_ends hg hT hk e L with h | ⟨_, h⟩
  · exact h
  · exact absurd (hT.2.2 v x e) h
theorem sendF_ok (hg : Good n rs) (hTr : TrimP (sendK n rs kps ks) n g L ls) (hk : n ∉ ks) (hd : ∀ v ∈ ls, v ∉ ks) (hl : n ∉ ls) {lst : List (Key × V)} (hD : DI lst (sendF ks ls g)) : SendOk rs kps ks ls (sendF ks ls g) lst.length := by
  obtain ⟨hT, hS, _⟩ := hTr
  have key : ∀ v x, sendF ks ls g v = some x → OnW (cutG ks g) ls v ∧ v ∉ ks ∧ g v = some x := fun v x e => by
    obtain ⟨h1, h2⟩ := resF_some.mp e
    exact ⟨h1, cutG_some.mp h2⟩
  refine ⟨fun v x e => ?_, fun v x e => (key v x e).2.1, fun v x e => ?_, fun v x e => ?_, fun v hv => ?_⟩
  · obtain ⟨_, h1, h2⟩ := key v x e
    rcases roadK hg (hT.2.1 _ _ h2) with ⟨_, h⟩ | ⟨_, h⟩
    · exact absurd h h1
    · exact h
  · obtain ⟨h0, h1, h2⟩ := key v x e
    have hc := cut_end hg hT hk h2
    have e1 := (clm_kept h0 L).1
    have hr : sendF ks ls g (clm (cutG ks g) L v) = none := by
      cases e2 : sendF ks ls g (clm (cutG ks g) L v) with
      | none => rfl
      | some y => exact absurd hc (key _ _ e2).2.1
    rw [clm_len hD hr e1]
    exact hc
  · obtain ⟨⟨h, hh, j, ej⟩, h1, h2⟩ := key v x e
    subst ej
    clear e h1 h2
    induction j with
    | zero => exact .inl hh
    | succ j ih =>
      cases eg : cutG ks g (clm (cutG ks g) j h) with
      | none =>
        rw [show clm (cutG ks g) (j + 1) h = clm (cutG ks g) j h from stp_none eg]
        exact ih
      | some y =>
        refine .inr ⟨clm (cutG ks g) j h, ?_⟩
        rw [show clm (cutG ks g) (j + 1) h = y from stp_some eg]
        exact resF_some.mpr ⟨⟨h, hh, j, rfl⟩, eg⟩
  · rcases hS v hv with h | h
    · exact absurd (h ▸ hv) hl
    · obtain ⟨x, ex⟩ := Option.isSome_iff_exists.mp h
      rw [show sendF ks ls g v = some x from resF_some.mpr ⟨onW_self hv, cutG_some.mpr ⟨hd v hv, ex⟩⟩]
      rfl
/-- a send as a tree of the send's net -/
def upN (n : Int) (ks : List Int) (h : IF) : IF := fun v => if v ∈ ks then some n else h v
theorem SendOk.tree {h : IF} {M : Nat} (hg : Good n rs) (ok : SendOk rs kps ks ls h M) (hn : n < 12) (hA : AreP n ks) (hl : ∀ v ∈ ls, v ∉ ks) : TreeP (sendK n rs kps ks) n (upN n ks h) (M + 1) ∧ ServP n (upN n ks h) ls ∧ prG (upN n ks h) (sendK n rs kps ks) = prG h rs := by
  have hk : n ∉ ks := fun z => by have := hA.1 n z; omega
  have hnn : h n = none := by
    cases e : h n with
    | none => rfl
    | some x =>
      obtain ⟨r, hr, _, h2, _⟩ := ok.road n x e
      have := (hg.ok r hr).e1
      omega
  have hG := sendK_good (kps := kps) hg hn hA
  have up0 : upN n ks h n = none := by unfold upN; rw [if_neg hk]; exact hnn
  have upk : ∀ v ∈ ks, upN n ks h v = some n := fun v hv => if_pos hv
  have upo : ∀ v, v ∉ ks → upN n ks h v = h v := fun v hv => if_neg hv
  have trk : ∀ v j, clm (upN n ks h) j v = clm h j v ∨ clm (upN n ks h) j v = n := fun v j => by
    induction j with
    | zero => exact .inl rfl
    | succ j ih =>
      rcases ih with ih | ih
      · by_cases hm : clm h j v ∈ ks
        · right
          show stp (upN n ks h) (clm (upN n ks h) j v) = n
          rw [ih, stp_some (upk _ hm)]
        · left
          show stp (upN n ks h) (clm (upN n ks h) j v) = stp h (clm h j v)
          rw [ih]
          unfold stp
          rw [upo _ hm]
      · right
        show stp (upN n ks h) (clm (upN n ks h) j v) = n
        rw [ih, stp_none up0]
  refine ⟨⟨up0, fun v x e => ?_, fun v x e => ?_⟩, fun v hv => .inr (by rw [upo v (hl v hv)]; exact ok.all v hv), ?_⟩
  · by_cases hm : v ∈ ks
    · rw [upk v hm] at e
      cases e
      have hmem : (⟨n, v, 0, 1⟩ : R4) ∈ sendK n rs kps ks := sendK_mem.mpr (.inr ⟨v, hm, rfl⟩)
      rw [road_of hG.up hmem]
      rfl
    · rw [upo v hm] at e
      obtain ⟨r, hr, h1, h2, h3⟩ := ok.road v x e
      have hmem : r ∈ sendK n rs kps ks := sendK_mem.mpr (.inl ⟨hr, h3⟩)
      have := road_of hG.up hmem
      rw [h1, h2] at this
      rw [this]
      rfl
  · by_cases hm : v ∈ ks
    · have h1 : clm (upN n ks h) 1 v = n := by
        show stp (upN n ks h) v = n
        exact stp_some (upk v hm)
      have := clm_root up0 h1 M
      rwa [Nat.add_comm] at this
    · rw [upo v hm] at e
      have hend := ok.ends v x e
      show stp (upN n ks h) (clm (upN n ks h) M v) = n
      rcases trk v M with ht | ht
      · rw [ht, stp_some (upk _ hend)]
      · rw [ht, stp_none up0]
  · unfold sendK
    rw [prG_append]
    have z : ∀ l : List Int, prG (upN n ks h) (l.map fun p => (⟨n, p, 0, 1⟩ : R4)) = 0 := fun l => by
      induction l with
      | nil => rfl
      | cons a l ih =>
        show (if _ then (0 : Int) else 0) + prG _ (l.map _) = 0
        rw [ih]
        split <;> rfl
    rw [z, Int.add_zero]
    have f : ∀ l : List R4, (∀ r ∈ l, r ∈ rs) → prG (upN n ks h) (l.filter (stands kps)) = prG h l := fun l => by
      induction l with
      | nil => intro _; rfl
      | cons r l ih =>
        intro hin
        have ih := ih fun t ht => hin t (List.mem_cons_of_mem _ ht)
        have hr := hin r (List.mem_cons_self ..)
        by_cases hs : stands kps r = true
        · rw [List.filter_cons_of_pos hs]
          show (if upN n ks h r.e = some r.s then r.c else 0) + prG _ _ = (if h r.e = some r.s then r.c else 0) + prG h l
          rw [ih]
          congr 1
          by_cases hm : r.e ∈ ks
          · rw [upk _ hm]
            have h1 : ¬ (some n = some r.s) := fun z => by
              have := (hg.ok r hr).s1
              have := Option.some.inj z
              omega
            have h2 : ¬ (h r.e = some r.s) := fun z => ok.notk _ _ z hm
            rw [if_neg h1, if_neg h2]
          · rw [upo _ hm]
        · rw [List.filter_cons_of_neg hs, ih]
          have h2 : ¬ (h r.e = some r.s) := fun z => by
            obtain ⟨t, ht, e1, e2, e3⟩ := ok.road _ _ z
            refine hs ?_
            unfold stands at e3 ⊢
            rw [← e1, ← e2]
            exact e3
          show prG h l = (if h r.e = some r.s then r.c else 0) + prG h l
          rw [if_neg h2, Int.zero_add]
    exact f rs fun _ h => h
theorem prG_star (f : IF) (n : Int) : ∀ l : List Int, prG f (l.map fun p => (⟨n, p, 0, 1⟩ : R4)) = 0
  | [] => rfl
  | a :: l => by
    show (if _ then (0 : Int) else 0) + prG f (l.map _) = 0
    rw [prG_star f n l]
    split <;> rfl
theorem SendOk.flt {h : IF} {M : Nat} (ok : SendOk rs kps ks ls h M) : ∀ l : List R4, prG h (l.filter (stands kps)) = prG h l
  | [] => rfl
  | r :: l => by
    have ih := ok.flt l
    by_cases hs : stands kps r = true
    · rw [List.filter_cons_of_pos hs]
      show _ + prG h _ = _ + prG h l
      rw [ih]
    · rw [List.filter_cons_of_neg hs, ih]
      have h2 : ¬ (h r.e = some r.s) := fun z => by
        obtain ⟨t, ht, e1, e2, e3⟩ := ok.road _ _ z
        refine hs ?_
        unfold stands at e3 ⊢
        rw [← e1, ← e2]
        exact e3
      show prG h l = (if h r.e = some r.s then r.c else 0) + prG h l
      rw [if_neg h2, Int.zero_add]
/-- what the table tells is the price of what is sent -/
theorem send_price (hg : Good n rs) (hTr : TrimP (sendK n rs kps ks) n g L ls) (hn : n < 12) (hA : AreP n ks) (hAl : AreP n ls) (hne : ls ≠ []) (hd : ∀ v ∈ ls, v ∉ ks) {lst : List (Key × V)} (hD : DI lst (sendF ks ls g)) {nn : Nat} (en : (nn : Int) = n + 1) {T : TF} {S : SF} (hRow : ∀ s ∈ compsN ls, RowOK (sendK n rs kps ks) nn T S s)
    (hT : T ls n = some (prG g (sendK n rs kps ks))) : T ls n = some (prG (sendF ks ls g) rs) := by
  have h1 := hg.n1
  have hk : n ∉ ks := fun z => by have := hA.1 n z; omega
  have hl : n ∉ ls := fun z => by have := hAl.1 n z; omega
  have ok := sendF_ok hg hTr hk hd hl hD
  obtain ⟨t1, t2, t3⟩ := ok.tree hg hn hA hd
  have hG := sendK_good (kps := kps) hg hn hA
  rw [← en] at hG
  obtain ⟨y, ey, hy⟩ := low_bound hG t1 t2 (hAl.2.imp fun a => Int.ne_of_lt a) hne (fun v hv => by have := hAl.1 v hv; omega) hRow (by omega) (by omega)
  rw [hT] at ey ⊢
  cases ey
  rw [t3] at hy
  have hle : prG (sendF ks ls g) rs ≤ prG g (sendK n rs kps ks) := by
    have e1 : prG (sendF ks ls g) (sendK n rs kps ks) = prG (sendF ks ls g) rs := by
      unfold sendK
      rw [prG_append, prG_star, ok.flt, Int.add_zero]
    rw [← e1]
    exact prG_mono (fun r hr => (hG.ok r hr).c0) fun v x e => (cutG_some.mp (resF_some.mp e).2).2
  congr 1
  omega
end
end HK

set_option Elab.async false
set_option linter.all false
set_option maxRecDepth 100000
set_option maxHeartbeats 4000000
namespace HK
open PySem PySem.Spec PyProof.Rows L2 GAl GxR
open Evl (pss_cut)
abbrev sCutK : Stmt := topS 40
abbrev N_scCutK : List Str := ["keepers", "lackers", "ahead", "place"]
theorem scCutK : FnScope N_scCutK ["keepers", "lackers", "ahead"] (defScope sCutK) := ⟨rfl, rfl, rfl, by decide +kernel, rfl, by decide +kernel, by decide +kernel⟩
section
variable {P : Program} {w : World} {K : PySem.W.Frag} {mg : Str → Option Value} {base : Heap}
/-! ### trimmed, where the ways end at more places than one -/
def spTrimmedF (K : PySem.W.Frag) : Sp := fun vs H Q _ => ∃ (p : Addr) (ns : List Int) (d : Addr) (kvs : List (Key × V)) (g : IF), vs = [.ref p, .ref d] ∧ SqT K H p (ns.map V.int) ∧ H d = some (.dK kvs) ∧ DI kvs g ∧ kvs.length ≤ 5000 ∧ (∀ h ∈ ns, g (clm g kvs.length h) = none) ∧
  ∀ (q : Addr) (ls : List (Key × V)) (H' : Hp), K0 H H' → H q = none → H' q = some (.dK ls) → DI ls (keptF g ns) → ls.length ≤ kvs.length → Q (.ref q) H'
theorem ok_trimmedF {f : Addr} {fd : FuncData} (F : Fun K "trimmed" "trimmed" sTrimmed f fd) : FnOk P w K mg base CX0 1 f fd ["hearers", "ahead"] (spTrimmedF K) := by
  refine F.ok scTrimmed (fun vs H Q E h => ?_) (fun cdv A outer s H vs Q E hr h => ?_)
  · obtain ⟨p, ns, d, kvs, g, rfl, _⟩ := h
    rfl
  · obtain ⟨p, ns, d, kvs, g, rfl, hS, hd, hD, hkl, hend, q⟩ := h
    have hu := hu_of hr
    refine ⟨_, (pss_cons (ps_set (i := 2) scTrimmed.nd rfl (.inl rfl) pe_dnewK)
      (pss_cons (ps_for PassesOwn.never rfl (pi_tup (pv 0)) (pg_name (i := 3) scTrimmed.nd rfl (.inl rfl))
      (pss_cons (ps_set (i := 4) scTrimmed.nd rfl (.inl rfl) (pv 3))
      (pss_one (ps_while PassesOwn.never (pt_cmp (pc_din hu (pv 4) (pv 1)))
      (pss_cons (ps_dput hu (pv 2) (pv 4) (pe_dget hu (pv 1) (pv 4) (fun _ _ => rfl)) rfl)
      (pss_one (ps_set (i := 4) scTrimmed.nd rfl (.inl rfl) (pe_dget hu (pv 1) (pv 4) (fun _ _ => rfl)))))))))
      (pss_one (ps_ret (pv 2))))), ?_⟩
    refine fun t nt => ?_
    have k1 : K0 H (upd H t (.dK [])) := K0.new nt
    have d0 : DI [] (resF (fun _ => False) g) := ⟨List.nodup_nil, fun p hp => (by cases hp), fun i => by unfold resF; simp; rfl⟩
    have inc : ∀ {S : Int → Prop} {ls : List (Key × V)}, DI ls (resF S g) → ls.length ≤ kvs.length := fun {S ls} h => h.le hD fun v x e => by rw [(resF_some.mp e).2]; rfl
    refine ⟨_, rfl, p, rfl, ⟨_, k1.sqT hS⟩, for_tup (xs := ns.map V.int) (fun i σ' H' => ∃ y3 y4, σ' = [some (.ref p), some (.ref d), some (.ref t), y3, y4] ∧ K0 H H' ∧ ∃ ls, H' t = some (.dK ls) ∧ DI ls (resF (OnW g (ns.take i)) g))
      ⟨none, none, rfl, k1, [], upd_same, by rw [resF_congr (T := fun _ => False)]; exact d0; intro v x _; rw [List.take_zero]; exact ⟨fun ⟨h, hh, _⟩ => by (cases hh), fun z => z.elim⟩⟩ (fun i σ' H' _ h => ?_) (fun i x σ' H' hx h => ?_) (fun σ' H' h => ?_)⟩
    · obtain ⟨_, _, _, k, _⟩ := h
      exact k.sqT hS
    · obtain ⟨y3, y4, rfl, k2, ls, hls, hDI⟩ := h
      rw [List.getElem?_map] at hx
      cases ev : ns[i]? with
      | none => rw [ev] at hx; cases hx
      | some v =>
      rw [ev] at hx
      cases hx
      have hv := hend v (List.mem_of_getElem? ev)
      refine ⟨_, rfl, ?_⟩
      refine ⟨fun m σ' H' => ∃ k, σ' = [some (.ref p), some (.ref d), some (.ref t), some (.int v), some (.int (clm g k v))] ∧ K0 H H' ∧ k + m = kvs.length + 1 ∧ ∃ ls, H' t = some (.dK ls) ∧ DI ls (resF (fun u => OnW g (ns.take i) u ∨ ∃ j, j < k ∧ u = clm g j v) g), ⟨kvs.length + 1, 0, rfl, k2, by omega, ls, hls, by
        rw [resF_congr (T := OnW g (ns.take i))]
        · exact hDI
        · intro u x _
          exact ⟨fun z => z.elim id (fun ⟨j, hj, _⟩ => absurd hj (Nat.not_lt_zero _)), .inl⟩⟩, ?_⟩
      rintro m σ' H2 ⟨k, rfl, k3, em, ls, hls, hDI⟩
      have hd3 := k3.oth d _ hd (fun _ z => by cases z)
      have dg := dgetR (.inl hd3) hD (clm g k v)
      refine ⟨_, rfl, _, rfl, d, _, rfl, dg, _, rfl, ?_⟩
      cases eg : g (clm g k v) with
      | none =>
        refine ⟨_, _, rfl, k3, ls, hls, ?_⟩
        rw [resF_congr (T := fun u => OnW g (ns.take i) u ∨ ∃ j, j < k ∧ u = clm g j v)]
        · exact hDI
        · intro u x eu
          rw [List.take_add_one, ev]
          constructor
          · rintro ⟨h, hh, j, rfl⟩
            rcases List.mem_append.mp hh with hh | hh
            · exact .inl ⟨h, hh, j, rfl⟩
            · have := List.mem_singleton.mp hh
              subst this
              refine .inr ⟨j, Nat.lt_of_not_le fun hle => ?_, rfl⟩
              have := clm_fix eg (j - k)
              rw [show k + (j - k) = j by omega] at this
              rw [this, eg] at eu
              cases eu
          · rintro (⟨h, hh, j, rfl⟩ | ⟨j, _, rfl⟩)
            · exact ⟨h, List.mem_append_left _ hh, j, rfl⟩
            · exact ⟨v, List.mem_append_right _ (List.mem_singleton.mpr rfl), j, rfl⟩
      | some y =>
        rw [eg] at dg
        have hk : k < kvs.length := by
          refine Nat.lt_of_not_le fun hle => ?_
          have := clm_fix hv (k - kvs.length)
          rw [show kvs.length + (k - kvs.length) = k by omega] at this
          rw [this, hv] at eg
          cases eg
        refine ⟨fun σ' H' => ∃ k', k' = k + 1 ∧ σ' = [some (.ref p), some (.ref d), some (.ref t), some (.int v), some (.int (clm g k' v))] ∧ K0 H H' ∧ ∃ ls, H' t = some (.dK ls) ∧ DI ls (resF (fun u => OnW g (ns.take i) u ∨ ∃ j, j < k' ∧ u = clm g j v) g), fun σ' H' ⟨k', e1, e2, e3, e4⟩ => ⟨m - 1, by omega, k', e2, e3, by omega, e4⟩, ?_⟩
        refine ⟨_, rfl, _, rfl, d, _, rfl, dg, _, rfl, _, rfl, t, _, rfl, DPut.k (k := Sum.inl (clm g k v)) hls (Nat.lt_of_le_of_lt (m := 5000) (Nat.le_trans (inc hDI) hkl) (by decide)), ?_⟩
        have k4 := k3.mut (p := t) (o := .dK (putK ls (Sum.inl (clm g k v)) (.int y))) nt
        have htd : d ≠ t := fun z => by rw [z, nt] at hd; cases hd
        have dg2 := dgetR (.inl (show upd H2 t (.dK (putK ls (Sum.inl (clm g k v)) (.int y))) d = some (.dK kvs) by rw [upd_ne htd]; exact hd3)) hD (clm g k v)
        rw [eg] at dg2
        refine ⟨_, rfl, _, rfl, d, _, rfl, dg2, k + 1, rfl, by rw [show clm g (k + 1) v = y from stp_some eg]; rfl, k4, _, upd_same, ?_⟩
        have := hDI.put (clm g k v) y
        rw [resF_put eg] at this
        rw [resF_congr (T := fun u => (OnW g (ns.take i) u ∨ ∃ j, j < k ∧ u = clm g j v) ∨ u = clm g k v)]
        · exact this
        · intro u x _
          constructor
          · rintro (h | ⟨j, hj, e⟩)
            · exact .inl (.inl h)
            · by_cases hjk : j = k
              · subst hjk; exact .inr e
              · exact .inl (.inr ⟨j, by omega, e⟩)
          · rintro ((h | ⟨j, hj, e⟩) | e)
            · exact .inl h
            · exact .inr ⟨j, by omega, e⟩
            · exact .inr ⟨k, by omega, e⟩
    · obtain ⟨y3, y4, rfl, k2, ls, hls, hDI⟩ := h
      rw [List.length_map, List.take_of_length_le (Nat.le_refl _)] at hDI
      exact ⟨_, rfl, q t ls _ k2 nt hls hDI (inc hDI)⟩
/-! what is left of a tree, of the first places gone through -/
open Classical in
noncomputable def partG (ks : List Int) (g : IF) (l : List (Key × V)) : IF := fun v => if (Sum.inl v : Key) ∈ (l.map (fun e : Key × V => e.1) : List Key) then cutG ks g v else none
def spCutK (K : PySem.W.Frag) : Sp := fun vs H Q _ => ∃ (p1 p2 : Addr) (ks ls : List Int) (d : Addr) (kvs : List (Key × V)) (g : IF), vs = [.ref p1, .ref p2, .ref d] ∧ SqT K H p1 (iV ks) ∧ SqT K H p2 (iV ls) ∧ H d = some (.dK kvs) ∧ DI kvs g ∧ kvs.length ≤ 12 ∧ (∀ v ∈ ls, cutG ks g (clm (cutG ks g) kvs.length v) = none) ∧
  ∀ (q : Addr) (lst : List (Key × V)) (H' : Hp), K0 H H' → H q = none → H' q = some (.dK lst) → DI lst (sendF ks ls g) → lst.length ≤ 12 → Q (.ref q) H'
theorem ok_cutk {f : Addr} {fd : FuncData} {f_trimmed : Addr} {fd_trimmed : FuncData} (F : Fun K "cut_at_keepers" "cut_at_keepers" sCutK f fd) (k_trimmed : PySem.W.keepIn K (.ref f_trimmed) = true) (b_trimmed : Binds K fd_trimmed ["hearers", "ahead"] []) (g_trimmed : mg "trimmed" = some (.ref f_trimmed)) (G_trimmed : FnOk P w K mg base CX0 1 f_trimmed fd_trimmed ["hearers", "ahead"] (spTrimmed K)) (GF_trimmed : FnOk P w K mg base CX0 1 f_trimmed fd_trimmed ["hearers", "ahead"] (spTrimmedF K)) : FnOk P w K mg base CX0 2 f fd ["keepers", "lackers", "ahead"] (spCutK K) := by
  refine F.ok scCutK (fun vs H Q E h => ?_) (fun cdv A outer st H vs Q E hr h => ?_)
  · obtain ⟨p1, p2, ks, ls, d, kvs, g, rfl, _⟩ := h
    rfl
  · obtain ⟨p1, p2, ks, ls, d, kvs, g, rfl, hp1, hp2, hd, hD, hl, hend, q⟩ := h
    have hu := hu_of hr
    refine ⟨_, (pss_one (ps_ret (pe_call GF_trimmed (hr.mono (by decide)) (by rfl) g_trimmed k_trimmed b_trimmed .nil pass0 (pa_cons (pv 1) (pa_cons (pe_lock (pe_dc (own := [("place", 3)]) (g := (gName 3)) (tt := (tTest (tOp (rIn K true) (tVar 3) (tVar 0)))) (tk := (tVar 3)) (tv := (tDGet (tVar 2) (tVar 3)))  rfl scCutK.nd (pi_keys (pv 2)) (blkOk_by (N := N_scCutK) (sc := defScope sCutK) (by decide +kernel)) (fun _ _ _ _ _ => (pg_name (i := 3) scCutK.nd rfl (.inl rfl))) (fun _ _ _ _ _ => (pts_one (pt_cmpR op_notIn_seq (pv 3) (pv 0) rfl))) (fun _ _ _ _ _ => (pv 3)) (fun _ _ _ _ _ => (pe_dget hu (pv 2) (pv 3) (fun _ _ => rfl))))) pa_nil))))), ?_⟩
    refine ⟨_, rfl, d, _, hd, trivial, fun od => ⟨_, rfl, d, od, rfl, .inl ⟨kvs, upd_same, fun D nD => ?_⟩⟩⟩
    have hdl : (upd H d (.frz od (.dK kvs))) d = some (.frz od (.dK kvs)) := upd_same
    have p1l : SqT K (upd H d (.frz od (.dK kvs))) p1 (iV ks) := sqT_lock hp1 hd
    have nDd : D ≠ d := fun z => by rw [z, hdl] at nD; cases nD
    have nDH : H D = none := by rw [upd_ne nDd] at nD; exact nD
    generalize hHL : upd H d (.frz od (.dK kvs)) = HL at nD hdl p1l ⊢
    have d0 : DI [] (partG ks g []) := ⟨List.nodup_nil, fun p hp => (by cases hp), fun i => by rw [show partG ks g [] i = none from by unfold partG; exact if_neg List.not_mem_nil]; rfl⟩
    refine HkC.walk_any walk_keys (fun i G => K0 HL G ∧ ∃ lst, G D = some (.dK lst) ∧ DI lst (partG ks g (kvs.take i))) ⟨K0.new nD, [], upd_same, d0⟩ (fun i G _ h => h.1.oth d _ hdl (fun _ z => by cases z)) (fun i x G G' hi h y => ?_) (fun G h => ?_)
    · obtain ⟨k, lst, hl0, hDI⟩ := h
      obtain ⟨rfl, kk, v, hkv, rfl⟩ := y
      obtain ⟨j, z, e, e2⟩ := hD.at_ (List.mem_of_getElem? hkv)
      cases e
      have htk : (kvs.take (i + 1)).map (fun e => e.1) = (kvs.take i).map (fun e => e.1) ++ [Sum.inl j] := by rw [List.take_add_one, hkv, List.map_append]; rfl
      have nin : (Sum.inl j : Key) ∉ (kvs.take i).map (fun e => e.1) := fun hm => by
        have nd := hD.nd
        rw [← List.take_append_drop (i + 1) kvs, List.map_append, htk] at nd
        exact (List.nodup_append.mp (List.nodup_append.mp nd).1).2.2 _ hm _ (List.mem_singleton.mpr rfl) rfl
      have hd' := k.oth d _ hdl (fun _ z => by cases z)
      have p1' := k.sqT p1l
      have hlen : lst.length ≤ 12 := by
        have := hDI.le hD fun v x e => by
          unfold partG at e
          by_cases h : (Sum.inl v : Key) ∈ (kvs.take i).map (fun e => e.1)
          · rw [if_pos h] at e
            rw [(cutG_some.mp e).2]; rfl
          · rw [if_neg h] at e; cases e
        omega
      have fin : ∀ {f : IF}, (∀ v, v ≠ j → f v = partG ks g (kvs.take i) v) → f j = cutG ks g j → f = partG ks g (kvs.take (i + 1)) := fun {f} h1 h2 => by
        funext v
        by_cases e : v = j
        · rw [e, h2]
          unfold partG
          rw [if_pos (by rw [htk]; exact List.mem_append_right _ (List.mem_singleton.mpr rfl))]
        · rw [h1 v e]
          unfold partG
          by_cases h : (Sum.inl v : Key) ∈ (kvs.take i).map (fun e => e.1)
          · rw [if_pos h, if_pos (by rw [htk]; exact List.mem_append_left _ h)]
          · rw [if_neg h, if_neg (by
              rw [htk]
              intro hm
              rcases List.mem_append.mp hm with hm | hm
              · exact h hm
              · exact e (Sum.inl.inj (List.mem_singleton.mp hm)))]
      refine ⟨rfl, _, rfl, _, rfl, p1, _, rfl, .inr p1', rfl, ?_, _, rfl, ?_⟩
      · rw [List.all_map]
        exact List.all_eq_true.mpr fun _ _ => rfl
      · show if (!inV (V.int j) (ks.map V.int)) = true then _ else _
        rw [inI]
        by_cases hm : j ∈ ks
        · rw [decide_eq_true hm]
          refine iteF ⟨k, lst, hl0, ?_⟩
          rw [← fin (f := partG ks g (kvs.take i)) (fun v _ => rfl) (by unfold partG; rw [if_neg nin, cutG_in hm])]
          exact hDI
        · rw [decide_eq_false hm]
          have dj := dgetR (.inr ⟨od, hd'⟩) hD j
          rw [e2] at dj
          refine iteT ⟨_, rfl, _, rfl, _, rfl, d, _, rfl, dj, lst, .inl j, rfl, hl0, by rw [sizeLine_eq]; omega, k.mut nD, _, upd_same, ?_⟩
          rw [← fin (f := HK.put (partG ks g (kvs.take i)) j z) (fun v hv => put_ne hv) (by unfold HK.put; rw [if_pos rfl, cutG_out hm, e2])]
          exact hDI.put j z
    · obtain ⟨k, lst, hl0, hDI⟩ := h
      have hd9 := k.oth d _ hdl (fun _ z => by cases z)
      subst hHL
      have k9 := K0.lock hd (fun _ z => by cases z) k
      have eG : partG ks g (kvs.take kvs.length) = cutG ks g := by
        rw [List.take_length]
        funext v
        unfold partG
        by_cases h : (Sum.inl v : Key) ∈ kvs.map (fun e => e.1)
        · rw [if_pos h]
        · rw [if_neg h]
          cases e : cutG ks g v with
          | none => rfl
          | some x => exact absurd ((hD.mem v).mpr (by rw [(cutG_some.mp e).2]; rfl)) h
      rw [eG] at hDI
      have hlen : lst.length ≤ kvs.length := hDI.le hD fun v x e => by rw [(cutG_some.mp e).2]; rfl
      refine ⟨hd9, p2, ls, D, lst, cutG ks g, rfl, k9.sqT hp2, by rw [upd_ne nDd]; exact hl0, hDI, by omega, fun v hv => ?_, fun q1 l1 H' k1 nq hq1 hDq hle => ?_⟩
      · have := hend v hv
        rw [clm_len hDI this rfl]
        exact this
      · exact q q1 l1 H' (k9.trans k1) (k9.dom _ nq) hq1 hDq (by omega)
end
end HK

set_option Elab.async false
set_option linter.all false
set_option maxRecDepth 100000
set_option maxHeartbeats 4000000
namespace HK
open PySem PySem.Spec PyProof.Rows L2 GAl GxR HkN
open Evl (pss_cut)
abbrev sMend : Stmt := topS 39
abbrev N_scMend : List Str := ["net", "kept", "wants", "held", "wanted", "sends", "lost", "found", "number", "keepers", "lackers", "told", "place"]
theorem scMend : FnScope N_scMend ["net", "kept", "wants"] (defScope sMend) := ⟨rfl, rfl, rfl, by decide +kernel, rfl, by decide +kernel, by decide +kernel⟩
/-! ### what mend holds while it goes through the numbers -/
def numK (l : List Int) : List NK := l.map .num
def keyKL (ks ls : List Int) : NK := .tup [.tup (numK ks), .tup (numK ls)]
theorem numK_inj : ∀ {a b : List Int}, numK a = numK b → a = b
  | [], [], _ => rfl
  | [], _ :: _, h => by cases h
  | _ :: _, [], h => by cases h
  | x :: a, y :: b, h => by
    have h1 : PySem.NestedKey.num x = PySem.NestedKey.num y := (List.cons.inj h).1
    have h2 : numK a = numK b := (List.cons.inj h).2
    cases h1
    rw [numK_inj h2]
theorem keyKL_inj {ks ls ks' ls' : List Int} (h : keyKL ks ls = keyKL ks' ls') : ks = ks' ∧ ls = ls' := by
  unfold keyKL at h
  have h := PySem.NestedKey.tup.inj h
  have h1 := (List.cons.inj h).1
  have h2 := (List.cons.inj (List.cons.inj h).2).1
  exact ⟨numK_inj (PySem.NestedKey.tup.inj h1), numK_inj (PySem.NestedKey.tup.inj h2)⟩
theorem keyVs_num (K : PySem.W.Frag) (H : Hp) : ∀ l : List Int, KeyVs K H (numK l) (iV l)
  | [] => .nil
  | x :: l => .cons (.int x) (keyVs_num K H l)
theorem keyKL_v {K : PySem.W.Frag} {H : Hp} {b p1 p2 : Addr} {ks ls : List Int} (h : SqT K H b [.ref p1, .ref p2]) (h1 : SqT K H p1 (iV ks)) (h2 : SqT K H p2 (iV ls)) : KeyV K H (keyKL ks ls) (.ref b) :=
  .tup h (.cons (.tup h1 (keyVs_num K H ks)) (.cons (.tup h2 (keyVs_num K H ls)) .nil))
theorem keyKL_d (ks ls : List Int) : (keyKL ks ls).depth ≤ 8 := by
  show PySem.NestedKey.depthAll [.tup (numK ks), .tup (numK ls)] + 1 ≤ 8
  simp only [PySem.NestedKey.depthAll, PySem.NestedKey.depth]
  rw [show PySem.NestedKey.depthAll (numK ks) = 0 from num_depth ks, show PySem.NestedKey.depthAll (numK ls) = 0 from num_depth ls]
  decide
theorem KX.wr {F : Addr → Prop} {H : Hp} {d : Addr} {u o : HO} (h : H d = some u) (n1 : ∀ xs, u ≠ .tup xs) (n2 : ∀ o v, u ≠ .frz o v) (n3 : ∀ ps, u ≠ .tbl ps) (hF : F d) : KX F H (upd H d o) := by
  have nt : ∀ b x, H b = some x → x ≠ u → b ≠ d := fun b x e n z => by rw [z, h] at e; exact n (Option.some.inj e).symm
  refine ⟨fun b xs e => ?_, fun b o v e => ?_, fun b v e n _ => ?_, fun Q hQ => ?_, fun b e => upd_none e⟩
  · rw [upd_ne (nt b _ e fun z => n1 xs z.symm)]; exact e
  · rw [upd_ne (nt b _ e fun z => n2 o v z.symm)]; exact e
  · rw [upd_ne (fun z => n (by rw [z]; exact hF))]; exact e
  · obtain ⟨ps, e, ht⟩ := hQ
    exact ⟨ps, by rw [upd_ne (nt _ _ e fun z => n3 ps z.symm)]; exact e, ht⟩
/-- all that lack it can be reached -/
def RchA (nn : Nat) (rs : List R4) (kps : KpL) (ks ls : List Int) : Prop := ∀ v ∈ ls, (due ((nn + 1 : Nat) : Int) (sendK nn rs kps ks) nn v).isSome = true
/-- what is sent of a number -/
def MendOk (nn : Nat) (rs : List R4) (kps wps : KpL) (m : Int) (h : IF) : Prop := (∃ M, SendOk rs kps (keepK kps m) (lackL kps wps m) h M) ∧ RchA nn rs kps (keepK kps m) (lackL kps wps m) ∧
  ∃ (T : TF) (S : SF), (∀ s ∈ compsN (lackL kps wps m), RowOK (sendK nn rs kps (keepK kps m)) ((nn + 1 : Nat) : Int) T S s) ∧ T (lackL kps wps m) nn = some (prG h rs)
def SendsAt (H : Hp) (S : Addr) (F : Addr → Prop) (xs : List (Int × IF)) : Prop := ∃ kvs, H S = some (.dK kvs) ∧ kvs.length = xs.length ∧ ∀ (i : Nat) (m : Int) (h : IF), xs[i]? = some (m, h) → ∃ (b : Addr) (ls : List (Key × V)), kvs[i]? = some (.inl m, .ref b) ∧ H b = some (.dK ls) ∧ DI ls h ∧ ls.length ≤ 12 ∧ ¬ F b
theorem SendsAt.kx {F F' : Addr → Prop} {G G' : Hp} {S : Addr} {xs : List (Int × IF)} (h : SendsAt G S F xs) (k : KX F' G G') (hF : ∀ c, F' c → F c) (e : G' S = G S) : SendsAt G' S F xs := by
  obtain ⟨kvs, a, b, c⟩ := h
  exact ⟨kvs, by rw [e]; exact a, b, fun i m f hi => by
    obtain ⟨x, ls, c1, c2, c3, c4, c5⟩ := c i m f hi
    exact ⟨x, ls, c1, k.oth x _ c2 (fun z => c5 (hF _ z)) (fun _ z => by cases z), c3, c4, c5⟩⟩
/-- what was told for keepers and lackers -/
def ToldC (K : PySem.W.Frag) (F : Addr → Prop) (nn : Nat) (rs : List R4) (kps : KpL) (H : Hp) (ks ls : List Int) (q : Addr) : Prop :=
  (RchA nn rs kps ks ls ∧ ∃ (qd dt : Addr) (lst : List (Key × V)) (g : IF) (T : TF) (S : SF), SqT K H q [.str "tree", .ref qd, .ref dt] ∧ H qd = some (.dK lst) ∧ ¬ F qd ∧ DI lst g ∧ lst.length ≤ 12 ∧ TrimP (sendK nn rs kps ks) nn g lst.length ls ∧
    (∀ s ∈ compsN ls, RowOK (sendK nn rs kps ks) ((nn + 1 : Nat) : Int) T S s) ∧ T ls nn = some (prG g (sendK nn rs kps ks))) ∨
  (¬ RchA nn rs kps ks ls ∧ ∃ (b : Addr) (ms : List Int), SqT K H q [.str "none", .ref b] ∧ SqT K H b (iV ms) ∧ AreP ((nn + 1 : Nat) : Int) ms ∧ ∀ v, v ∈ ms ↔ (due ((nn + 1 : Nat) : Int) (sendK nn rs kps ks) nn v).isSome = true)
theorem ToldC.kx {K : PySem.W.Frag} {F : Addr → Prop} {nn : Nat} {rs : List R4} {kps : KpL} {H H' : Hp} {ks ls : List Int} {q : Addr} (h : ToldC K F nn rs kps H ks ls q) (k : KX F H H') : ToldC K F nn rs kps H' ks ls q := by
  rcases h with ⟨a, qd, dt, lst, g, T, S, b1, b2, b3, b4⟩ | ⟨a, b, ms, b1, b2, b3⟩
  · exact .inl ⟨a, qd, dt, lst, g, T, S, k.sqT b1, k.oth qd _ b2 b3 (fun _ z => by cases z), b3, b4⟩
  · exact .inr ⟨a, b, ms, k.sqT b1, k.sqT b2, b3⟩
def FoundAt (P : Program) (w : World) (K : PySem.W.Frag) (F : Addr → Prop) (nn : Nat) (rs : List R4) (kps : KpL) (N : Nat) (H : Hp) (d : Addr) : Prop := ∃ kvs : List NE, H d = some (DN P w d kvs) ∧ KsOk K H kvs ∧ kvs.length ≤ N ∧ ∀ e ∈ kvs, ∃ (ks ls : List Int) (q : Addr), e.1 = keyKL ks ls ∧ e.2.2 = .ref q ∧ ToldC K F nn rs kps H ks ls q
theorem FoundAt.kx {P : Program} {w : World} {K : PySem.W.Frag} {F : Addr → Prop} {nn : Nat} {rs : List R4} {kps : KpL} {N : Nat} {H H' : Hp} {d : Addr} (h : FoundAt P w K F nn rs kps N H d) (k : KX F H H') (e : H' d = H d) : FoundAt P w K F nn rs kps N H' d := by
  obtain ⟨kvs, a, b, c, f⟩ := h
  exact ⟨kvs, by rw [e]; exact a, ksOk_kx b k, c, fun x hx => by
    obtain ⟨ks, ls, q, e1, e2, e3⟩ := f x hx
    exact ⟨ks, ls, q, e1, e2, e3.kx k⟩⟩
/-- told for these, it stands in the dict -/
def HasKL (P : Program) (w : World) (K : PySem.W.Frag) (F : Addr → Prop) (nn : Nat) (rs : List R4) (kps : KpL) (H : Hp) (d : Addr) (ks ls : List Int) : Prop := ∃ (kvs : List NE) (q : Addr), H d = some (DN P w d kvs) ∧ KsOk K H kvs ∧ valN kvs (keyKL ks ls) = some (.ref q) ∧ ToldC K F nn rs kps H ks ls q
theorem HasKL.get {P : Program} {w : World} {K : PySem.W.Frag} {F : Addr → Prop} {nn : Nat} {rs : List R4} {kps : KpL} {H : Hp} {d b p1 p2 : Addr} {ks ls : List Int} (h : HasKL P w K F nn rs kps H d ks ls) (hb : SqT K H b [.ref p1, .ref p2]) (h1 : SqT K H p1 (iV ks)) (h2 : SqT K H p2 (iV ls)) :
    ∃ q, DGetN P w K H d (.ref b) (some (.ref q)) ∧ ToldC K F nn rs kps H ks ls q := by
  obtain ⟨kvs, q, a, c, e, f⟩ := h
  exact ⟨q, ⟨kvs, keyKL ks ls, b, .inl a, c, rfl, keyKL_v hb h1 h2, keyKL_d ks ls, e.symm⟩, f⟩
theorem HasKL.k0 {P : Program} {w : World} {K : PySem.W.Frag} {F : Addr → Prop} {nn : Nat} {rs : List R4} {kps : KpL} {H H' : Hp} {d : Addr} {ks ls : List Int} (h : HasKL P w K F nn rs kps H d ks ls) (k : K0 H H') : HasKL P w K F nn rs kps H' d ks ls := by
  obtain ⟨kvs, q, a, c, e, f⟩ := h
  exact ⟨kvs, q, k.oth d _ a (fun _ z => by cases z), ksOk_kx c (k.kx (F := F)), e, f.kx k.kx⟩
theorem FoundAt.look {P : Program} {w : World} {K : PySem.W.Frag} {F : Addr → Prop} {nn : Nat} {rs : List R4} {kps : KpL} {N : Nat} {H : Hp} {d : Addr} (h : FoundAt P w K F nn rs kps N H d) (ks ls : List Int) :
    HasKL P w K F nn rs kps H d ks ls ∨ ∃ kvs, H d = some (DN P w d kvs) ∧ KsOk K H kvs ∧ valN kvs (keyKL ks ls) = none := by
  obtain ⟨kvs, a, c, _, f⟩ := h
  cases e : valN kvs (keyKL ks ls) with
  | none => exact .inr ⟨kvs, a, c, e⟩
  | some v =>
    left
    have e0 := e
    unfold valN at e
    obtain ⟨x, ex, rfl⟩ := Option.map_eq_some_iff.mp e
    have e1 := List.find?_some ex
    have hx := List.mem_of_find?_eq_some ex
    obtain ⟨ks', ls', q, e2, e3, e4⟩ := f x hx
    have e5 : x.1 = keyKL ks ls := of_decide_eq_true e1
    rw [e2] at e5
    obtain ⟨rfl, rfl⟩ := keyKL_inj e5
    rw [e3] at e0
    exact ⟨kvs, q, a, c, e0, e4⟩
theorem FoundAt.put {P : Program} {w : World} {K : PySem.W.Frag} {F : Addr → Prop} {nn : Nat} {rs : List R4} {kps : KpL} {N : Nat} {H : Hp} {d b p1 p2 q : Addr} {ks ls : List Int} (h : FoundAt P w K F nn rs kps N H d) (hF : F d) (hN : N ≤ 1000) (hb : SqT K H b [.ref p1, .ref p2]) (h1 : SqT K H p1 (iV ks)) (h2 : SqT K H p2 (iV ls)) (ht : ToldC K F nn rs kps H ks ls q) :
    ∃ u, DPutN P w K H d (.ref b) (.ref q) (upd H d u) ∧ FoundAt P w K F nn rs kps (N + 1) (upd H d u) d ∧ KX F H (upd H d u) ∧ HasKL P w K F nn rs kps (upd H d u) d ks ls := by
  obtain ⟨kvs, a, c, l, f⟩ := h
  have kv := keyKL_v hb h1 h2
  have kx := KX.dn (o := DN P w d (putN kvs (keyKL ks ls) b (.ref q))) a hF
  have hl := putN_len (kvs := kvs) (k := keyKL ks ls) (b := b) (v := .ref q)
  have hks : KsOk K (upd H d (DN P w d (putN kvs (keyKL ks ls) b (.ref q)))) (putN kvs (keyKL ks ls) b (.ref q)) := ksOk_kx (c.put kv (keyKL_d ks ls)) kx
  refine ⟨_, ⟨kvs, keyKL ks ls, b, a, c, rfl, kv, keyKL_d ks ls, by rw [sizeLine_eq]; omega, rfl⟩, ⟨_, upd_same, hks, by omega, fun e he => ?_⟩, kx, ⟨_, q, upd_same, hks, by rw [valN_put, if_pos rfl], ht.kx kx⟩⟩
  unfold putN at he
  split at he
  · obtain ⟨x, hx, rfl⟩ := List.mem_map.mp he
    by_cases ex : x.1 = keyKL ks ls
    · rw [if_pos ex]
      exact ⟨ks, ls, q, ex, rfl, ht.kx kx⟩
    · rw [if_neg ex]
      obtain ⟨ks', ls', q', e1, e2, e3⟩ := f x hx
      exact ⟨ks', ls', q', e1, e2, e3.kx kx⟩
  · rcases List.mem_append.mp he with he | he
    · obtain ⟨ks', ls', q', e1, e2, e3⟩ := f e he
      exact ⟨ks', ls', q', e1, e2, e3.kx kx⟩
    · rw [List.mem_singleton.mp he]
      exact ⟨ks, ls, q, rfl, rfl, ht.kx kx⟩
def hasK (kps : KpL) (m : Int) : Bool := decide (keepK kps m ≠ [])
def FS (S L Fd : Addr) : Addr → Prop := fun c => c = S ∨ c = L ∨ c = Fd
def FB (H : Hp) (S L Fd : Addr) : Addr → Prop := fun c => H c ≠ none ∨ FS S L Fd c
structure MSt (P : Program) (w : World) (K : PySem.W.Frag) (H Hb : Hp) (S L Fd : Addr) (nn : Nat) (rs : List R4) (kps wps : KpL) (N : Nat) (dn : List Int) (G : Hp) : Prop where
  k : K0 Hb G
  xs : ∃ xs, SendsAt G S (FB H S L Fd) xs ∧ xs.map (·.1) = dn.filter (hasK kps) ∧ ∀ p ∈ xs, MendOk nn rs kps wps p.1 p.2
  lo : G L = some (.lst ((dn.filter fun m => !hasK kps m).map V.int))
  fo : FoundAt P w K (FS S L Fd) nn rs kps N G Fd
section
variable {P : Program} {w : World} {K : PySem.W.Frag} {H Hb G G' : Hp} {S L Fd : Addr} {nn : Nat} {rs : List R4} {kps wps : KpL} {N : Nat} {dn : List Int}
theorem MSt.tabS (h : MSt P w K H Hb S L Fd nn rs kps wps N dn G) : ∃ ls, G S = some (.dK ls) := by
  obtain ⟨xs, ⟨ls, e, _⟩, _⟩ := h.xs
  exact ⟨ls, e⟩
theorem MSt.k0 (h : MSt P w K H Hb S L Fd nn rs kps wps N dn G) (k : K0 G G') : MSt P w K H Hb S L Fd nn rs kps wps N dn G' := by
  obtain ⟨ls, eS⟩ := h.tabS
  obtain ⟨xs, a, b, c⟩ := h.xs
  have eF : ∃ u, G Fd = some (DN P w Fd u) := by
    obtain ⟨u, e, _⟩ := h.fo
    exact ⟨u, e⟩
  obtain ⟨u, eF⟩ := eF
  exact ⟨h.k.trans k, ⟨xs, a.kx (F' := FS S L Fd) k.kx (fun _ z => .inr z) (by rw [eS]; exact k.oth S _ eS (fun _ z => by cases z)), b, c⟩, k.oth L _ h.lo (fun _ z => by cases z), h.fo.kx k.kx (by rw [eF]; exact k.oth Fd _ eF (fun _ z => by cases z))⟩
theorem MSt.mono {N' : Nat} (h : MSt P w K H Hb S L Fd nn rs kps wps N dn G) (hn : N ≤ N') : MSt P w K H Hb S L Fd nn rs kps wps N' dn G := by
  refine ⟨h.k, h.xs, h.lo, ?_⟩
  obtain ⟨u, a, b, c, d⟩ := h.fo
  exact ⟨u, a, b, by omega, d⟩
theorem MSt.addLost {m : Int} (h : MSt P w K H Hb S L Fd nn rs kps wps N dn G) (nL : Hb L = none) (hm : hasK kps m = false) : MSt P w K H Hb S L Fd nn rs kps wps N (dn ++ [m]) (upd G L (.lst ((dn.filter fun m => !hasK kps m).map V.int ++ [.int m]))) := by
  obtain ⟨ls, eS⟩ := h.tabS
  obtain ⟨xs, a, b, c⟩ := h.xs
  have kx : KX (FS S L Fd) G (upd G L (.lst ((dn.filter fun m => !hasK kps m).map V.int ++ [.int m]))) := KX.wr h.lo (fun _ z => by cases z) (fun _ _ z => by cases z) (fun _ z => by cases z) (.inr (.inl rfl))
  have nS : S ≠ L := fun z => by rw [z, h.lo] at eS; cases eS
  have nF : Fd ≠ L := fun z => by
    obtain ⟨u, e, _⟩ := h.fo
    rw [z, h.lo] at e; cases e
  refine ⟨h.k.mut nL, ⟨xs, a.kx kx (fun _ z => .inr z) (upd_ne nS), by rw [b, List.filter_append, List.filter_cons_of_neg (by rw [hm]; exact Bool.false_ne_true), List.filter_nil, List.append_nil], c⟩, ?_, h.fo.kx kx (upd_ne nF)⟩
  rw [upd_same, List.filter_append, List.filter_cons_of_pos (by rw [hm]; rfl), List.filter_nil, List.map_append]
  rfl
theorem MSt.fnd {b p1 p2 q : Addr} {ks ls : List Int} (h : MSt P w K H Hb S L Fd nn rs kps wps N dn G) (nF : Hb Fd = none) (hN : N ≤ 1000) (hb : SqT K G b [.ref p1, .ref p2]) (h1 : SqT K G p1 (iV ks)) (h2 : SqT K G p2 (iV ls)) (ht : ToldC K (FS S L Fd) nn rs kps G ks ls q) :
    ∃ u, DPutN P w K G Fd (.ref b) (.ref q) (upd G Fd u) ∧ MSt P w K H Hb S L Fd nn rs kps wps (N + 1) dn (upd G Fd u) ∧ KX (FS S L Fd) G (upd G Fd u) ∧ HasKL P w K (FS S L Fd) nn rs kps (upd G Fd u) Fd ks ls := by
  obtain ⟨u, a1, a2, a3, a4⟩ := h.fo.put (.inr (.inr rfl)) hN hb h1 h2 ht
  obtain ⟨ls', eS⟩ := h.tabS
  obtain ⟨kv, eF, _⟩ := h.fo
  have nS : S ≠ Fd := fun z => by rw [z, eF] at eS; cases eS
  have nL : L ≠ Fd := fun z => by have := h.lo; rw [z, eF] at this; cases this
  obtain ⟨xs, b1, b2, b3⟩ := h.xs
  exact ⟨u, a1, ⟨h.k.mut nF, ⟨xs, b1.kx a3 (fun _ z => .inr z) (upd_ne nS), b2, b3⟩, by rw [upd_ne nL]; exact h.lo, a2⟩, a3, a4⟩
theorem MSt.addSend {m : Int} {b : Addr} {lst ls : List (Key × V)} {h' : IF} (h : MSt P w K H Hb S L Fd nn rs kps wps N dn G) (nS : Hb S = none) (eS : G S = some (.dK ls)) (hm : hasK kps m = true) (hnew : m ∉ dn) (hb : G b = some (.dK lst)) (hD : DI lst h') (hl : lst.length ≤ 12) (hF : ¬ FB H S L Fd b) (ok : MendOk nn rs kps wps m h') :
    MSt P w K H Hb S L Fd nn rs kps wps N (dn ++ [m]) (upd G S (.dK (putK ls (.inl m) (.ref b)))) := by
  obtain ⟨xs, ⟨ls', e', a2, a3⟩, b', c⟩ := h.xs
  rw [eS] at e'
  cases e'
  have kx : KX (FS S L Fd) G (upd G S (.dK (putK ls (.inl m) (.ref b)))) := KX.wr eS (fun _ z => by cases z) (fun _ _ z => by cases z) (fun _ z => by cases z) (.inl rfl)
  have nL : L ≠ S := fun z => by have := h.lo; rw [z, eS] at this; cases this
  have nF : Fd ≠ S := fun z => by
    obtain ⟨u, e, _⟩ := h.fo
    rw [z, eS] at e; cases e
  have keys : ls.map (·.1) = (xs.map (·.1)).map Sum.inl := by
    refine List.ext_getElem? fun i => ?_
    rw [List.getElem?_map, List.getElem?_map, List.getElem?_map]
    cases e : xs[i]? with
    | none => rw [List.getElem?_eq_none_iff.mpr (show ls.length ≤ i by rw [a2]; exact List.getElem?_eq_none_iff.mp e)]; rfl
    | some p =>
      obtain ⟨x, l1, e1, _⟩ := a3 i p.1 p.2 e
      rw [e1]; rfl
  have nin : (Sum.inl m : Key) ∉ ls.map (·.1) := by
    rw [keys]
    intro hm2
    obtain ⟨v, hv, ev⟩ := List.mem_map.mp hm2
    cases ev
    rw [b'] at hv
    exact hnew (List.mem_filter.mp hv).1
  refine ⟨h.k.mut nS, ⟨xs ++ [(m, h')], ⟨_, upd_same, ?_, fun i m2 h2 e => ?_⟩, ?_, fun p hp => ?_⟩, by rw [upd_ne nL, h.lo, List.filter_append, List.filter_cons_of_neg (by rw [hm]; exact Bool.false_ne_true), List.filter_nil, List.append_nil], h.fo.kx kx (upd_ne nF)⟩
  · rw [put_new nin, List.length_append, List.length_append, a2]; rfl
  · rw [put_new nin]
    by_cases hi : i < xs.length
    · rw [List.getElem?_append_left hi] at e
      obtain ⟨x, l1, e1, e2, e3, e4, e5⟩ := a3 i m2 h2 e
      exact ⟨x, l1, by rw [List.getElem?_append_left (by rw [a2]; exact hi)]; exact e1, by rw [upd_ne (fun z => e5 (.inr (.inl z)))]; exact e2, e3, e4, e5⟩
    · rw [List.getElem?_append_right (by omega)] at e
      have hj0 : i - xs.length = 0 := by
        cases hh : i - xs.length with
        | zero => rfl
        | succ n => rw [hh] at e; cases e
      rw [hj0] at e
      cases e
      exact ⟨b, lst, by rw [List.getElem?_append_right (by rw [a2]; omega), a2, hj0]; rfl, by rw [upd_ne (fun z => hF (.inr (.inl z)))]; exact hb, hD, hl, hF⟩
  · rw [List.map_append, b', List.filter_append, List.filter_cons_of_pos hm]
    rfl
  · rcases List.mem_append.mp hp with hp | hp
    · exact c p hp
    · rw [List.mem_singleton.mp hp]; exact ok
end
section
variable {P : Program} {w : World} {K : PySem.W.Frag} {mg : Str → Option Value} {base : Heap}
def spMend (P : Program) (w : World) (K : PySem.W.Frag) (Pn Pr Pu Ph Ps Pf Pk Pl Pa Pp Pg Pm : Addr) : Sp := fun vs H Q _ => ∃ (a d e : Addr) (nn : Nat) (rs : List R4) (kvs kvw : List (Key × V)) (kps wps : KpL) (M : List Int), vs = [.ref a, .ref d, .ref e] ∧ NetAt K H a nn rs ∧ Good nn rs ∧ nn < 12 ∧ H d = some (.dK kvs) ∧ KVs K H kvs kps ∧ KpOk nn kps ∧ H e = some (.dK kvw) ∧ KVs K H kvw wps ∧ KpOk nn wps ∧ (∀ p ∈ wps, p.1 ∈ kps.map (·.1)) ∧ wps.length ≤ 6 ∧ M.length < 64 ∧ (∀ p ∈ wps, ∀ v ∈ p.2, v ∈ M) ∧ TbL H [Pn, Pr, Pu, Ph, Ps, Pf, Pk, Pl, Pa, Pp, Pg, Pm] ∧
  (∀ (q S L : Addr) (xs : List (Int × IF)) (nums : List Int) (H' : Hp), K0 H H' → H S = none → H L = none → S ≠ L → SqT K H' q [.str "mended", .ref S, .ref L] → nums.Pairwise (· < ·) → (∀ v, v ∈ nums ↔ Lck kps wps v) → SendsAt H' S (fun c => H c ≠ none ∨ c = S ∨ c = L) xs → xs.map (·.1) = nums.filter (hasK kps) → (∀ p ∈ xs, MendOk nn rs kps wps p.1 p.2) → H' L = some (.lst ((nums.filter fun m => !hasK kps m).map V.int)) → Q (.ref q) H') ∧
  (∀ (q b : Addr) (m : Int) (ms nums : List Int) (H' : Hp), K0 H H' → SqT K H' q [.str "parted", .int m, .ref b] → SqT K H' b (iV ms) → nums.Pairwise (· < ·) → (∀ v, v ∈ nums ↔ Lck kps wps v) → m ∈ nums → hasK kps m = true → (∀ v ∈ nums, v < m → hasK kps v = true → RchA nn rs kps (keepK kps v) (lackL kps wps v)) → ¬ RchA nn rs kps (keepK kps m) (lackL kps wps m) →
    AreP nn ms → (∀ v, v ∈ ms ↔ v ≠ nn ∧ (due ((nn + 1 : Nat) : Int) (sendK nn rs kps (keepK kps m)) nn v).isSome = true) → Q (.ref q) H')
theorem ok_mend {f c Pn Pr Pu Ph Ps Pf Pk Pl Pa Pp Pg Pm : Addr} {fd : FuncData} {f_needfall f_lookup f_lackednumbers f_keepers f_lackers f_cheap f_sendnet f_cutkeepers : Addr} {fd_needfall fd_lookup fd_lackednumbers fd_keepers fd_lackers fd_cheap fd_sendnet fd_cutkeepers : FuncData} (F : FunC K "mend" "mend" sMend f fd c) (TB : TabB base mg c Pm) (k_needfall : PySem.W.keepIn K (.ref f_needfall) = true) (b_needfall : Binds K fd_needfall ["net", "kept", "wants"] []) (g_needfall : mg "need_fall" = some (.ref f_needfall)) (G_needfall : FnOk P w K mg base CX0 8 f_needfall fd_needfall ["net", "kept", "wants"] (spNeedFall K Pn Pr Pu Ph Ps Pf))
    (k_lookup : PySem.W.keepIn K (.ref f_lookup) = true) (b_lookup : Binds K fd_lookup ["things"] []) (g_lookup : mg "lookup" = some (.ref f_lookup)) (G_lookup : FnOk P w K mg base CX0 1 f_lookup fd_lookup ["things"] (spLookup K))
    (k_lackednumbers : PySem.W.keepIn K (.ref f_lackednumbers) = true) (b_lackednumbers : Binds K fd_lackednumbers ["kept", "wants"] []) (g_lackednumbers : mg "lacked_numbers" = some (.ref f_lackednumbers)) (G_lackednumbers : FnOk P w K mg base CX0 1 f_lackednumbers fd_lackednumbers ["kept", "wants"] (spLacked P w))
    (k_keepers : PySem.W.keepIn K (.ref f_keepers) = true) (b_keepers : Binds K fd_keepers ["kept", "number"] []) (g_keepers : mg "keepers_of" = some (.ref f_keepers)) (G_keepers : FnOk P w K mg base CX0 2 f_keepers fd_keepers ["kept", "number"] (spKeepers K Pk))
    (k_lackers : PySem.W.keepIn K (.ref f_lackers) = true) (b_lackers : Binds K fd_lackers ["kept", "wants", "number"] []) (g_lackers : mg "lackers_of" = some (.ref f_lackers)) (G_lackers : FnOk P w K mg base CX0 2 f_lackers fd_lackers ["kept", "wants", "number"] (spLackers K Pl))
    (k_cheap : PySem.W.keepIn K (.ref f_cheap) = true) (b_cheap : Binds K fd_cheap ["net", "root", "hearers"] []) (g_cheap : mg "cheapest" = some (.ref f_cheap)) (G_cheap : FnOk P w K mg base CX0 8 f_cheap fd_cheap ["net", "root", "hearers"] (spCheap P w K Pn Pr Pa Pp Pg))
    (k_sendnet : PySem.W.keepIn K (.ref f_sendnet) = true) (b_sendnet : Binds K fd_sendnet ["net", "kept", "number"] []) (g_sendnet : mg "send_net" = some (.ref f_sendnet)) (G_sendnet : FnOk P w K mg base CX0 8 f_sendnet fd_sendnet ["net", "kept", "number"] (spSendNet K Pn Pr Pu Ph Ps Pk))
    (k_cutkeepers : PySem.W.keepIn K (.ref f_cutkeepers) = true) (b_cutkeepers : Binds K fd_cutkeepers ["keepers", "lackers", "ahead"] []) (g_cutkeepers : mg "cut_at_keepers" = some (.ref f_cutkeepers)) (G_cutkeepers : FnOk P w K mg base CX0 2 f_cutkeepers fd_cutkeepers ["keepers", "lackers", "ahead"] (spCutK K))
    (GL_keepers : FnOk P w K mg base CX0 2 f_keepers fd_keepers ["kept", "number"] (spKeepersL K Pk)) (m_tuple : mg "tuple" = none) : FnOk P w K mg base CX0 9 f fd ["net", "kept", "wants"] (spMend P w K Pn Pr Pu Ph Ps Pf Pk Pl Pa Pp Pg Pm) := by
  refine F.ok scMend (fun vs H Q E h => ?_) (fun A outer st H vs Q E hr h => ?_)
  · obtain ⟨a, d, e, nn, rs, kvs, kvw, kps, wps, M, rfl, _⟩ := h
    rfl
  · obtain ⟨a, d, e, nn, rs, kvs, kvw, kps, wps, M, rfl, hN, hg, hn, hd, hK, hO, he, hKw, hW, hsub, hw6, hM, hin, tb, qm, qp⟩ := h
    have hu := hu_of hr
    refine ⟨_, (pss_cons (ps_expr (pe_call G_needfall (hr.mono (by decide)) (by rfl) g_needfall k_needfall b_needfall .nil pass0 (pa_cons (pv 0) (pa_cons (pv 1) (pa_cons (pv 2) pa_nil)))))
      (pss_cons (ps_set (i := 3) scMend.nd rfl (.inl rfl) (pe_call G_lookup (hr.mono (by decide)) (by rfl) g_lookup k_lookup b_lookup .nil pass0 (pa_cons (pv 1) pa_nil)))
      (pss_cons (ps_set (i := 4) scMend.nd rfl (.inl rfl) (pe_call G_lookup (hr.mono (by decide)) (by rfl) g_lookup k_lookup b_lookup .nil pass0 (pa_cons (pv 2) pa_nil)))
      (pss_cons (ps_set (i := 5) scMend.nd rfl (.inl rfl) pe_dnewK)
      (pss_cons (ps_set (i := 6) scMend.nd rfl (.inl rfl) (pe_lst pa_nil))
      (pss_cons (ps_set (i := 7) scMend.nd rfl (.inl rfl) HkN.pe_dnewN)
      (pss_cons (ps_for PassesOwn.never rfl (pi_list (pe_call G_lackednumbers (hr.mono (by decide)) (by rfl) g_lackednumbers k_lackednumbers b_lackednumbers .nil pass0 (pa_cons (pv 3) (pa_cons (pv 4) pa_nil)))) (pg_name (i := 8) scMend.nd rfl (.inl rfl))
      (pss_cons (ps_set (i := 9) scMend.nd rfl (.inl rfl) (pe_call GL_keepers (hr.mono (by decide)) (by rfl) g_keepers k_keepers b_keepers .nil pass0 (pa_cons (pv 3) (pa_cons (pv 8) pa_nil))))
      (pss_cons (ps_set (i := 10) scMend.nd rfl (.inl rfl) (pe_call G_lackers (hr.mono (by decide)) (by rfl) g_lackers k_lackers b_lackers .nil pass0 (pa_cons (pv 3) (pa_cons (pv 4) (pa_cons (pv 8) pa_nil)))))
      (pss_cons (ps_if (pt_not (pt_truth (pv 9) (by intro _; rfl))) (pss_cons (ps_expr (pe_bm PySem.F.plainAttrs_list PySem.F.slot_list_append PySem.F.type_list_append mt_append (pv 6) (pa_cons (pv 8) pa_nil)))
      (pss_one ps_continue)) pss_nil)
      (pss_cut (ps_if (pt_cmp (HkC.pc_notinN (HkN.room_u9 hr) (pe_tup (pa_cons (pv 9) (pa_cons (pv 10) pa_nil))) (pv 7))) (pss_one (HkN.ps_dputN (HkN.room_u9 hr) (pv 7) (pe_tup (pa_cons (pv 9) (pa_cons (pv 10) pa_nil))) (pe_call G_cheap (hr.mono (by decide)) (by rfl) g_cheap k_cheap b_cheap .nil pass0 (pa_cons (pe_call G_sendnet (hr.mono (by decide)) (by rfl) g_sendnet k_sendnet b_sendnet .nil pass0 (pa_cons (pv 0) (pa_cons (pv 1) (pa_cons (pv 8) pa_nil)))) (pa_cons (pe_ix ix_tup (pv 0) pe_int (fun _ _ => rfl)) (pa_cons (pv 10) pa_nil)))) rfl)) pss_nil)
      (pss_cons (ps_set (i := 11) scMend.nd rfl (.inl rfl) (HkN.pe_dgetN (HkN.room_u9 hr) (pv 7) (pe_tup (pa_cons (pv 9) (pa_cons (pv 10) pa_nil))) (fun _ _ => rfl)))
      (pss_cons (ps_if (pt_cmpR op_eq (pe_ix ix_tup (pv 11) pe_int (fun _ _ => rfl)) pe_str (nomark _)) (pss_one (ps_ret (pe_tup (pa_cons pe_str (pa_cons (pv 8) (pa_cons (pe_tupG (own := [("place", 12)]) (k := 0) (g := (gName 12)) (tt := (tTest (tOp rNe (tVar 12) (tOp (rIxT K) (tVar 0) (tC (.int 0)))))) (te := (tVar 12)) (hr.mono (by decide)) (by rfl) m_tuple rfl scMend.nd TB rfl (gsc_by (N := N_scMend) (sc := defScope sMend) (by decide +kernel)) (pi_tup (pe_ix ix_tup (pv 11) pe_int (fun _ _ => rfl))) (fun A' hr' _ _ _ _ _ _ => (pg_name (i := 12) scMend.nd rfl (.inl rfl))) (fun A' hr' _ _ _ _ _ _ => (pts_one (pt_cmpR op_ne (pv 12) (pe_ix ix_tup (pv 0) pe_int (fun _ _ => rfl)) (nomark _)))) (fun A' hr' _ _ _ _ _ _ => (pv 12))) pa_nil)))))) pss_nil)
      (pss_one (ps_dput hu (pv 5) (pv 8) (pe_call G_cutkeepers (hr.mono (by decide)) (by rfl) g_cutkeepers k_cutkeepers b_cutkeepers .nil pass0 (pa_cons (pv 9) (pa_cons (pv 10) (pa_cons (pe_ix ix_tup (pv 11) pe_int (fun _ _ => rfl)) pa_nil)))) rfl)))))))))
      (pss_one (ps_ret (pe_tup (pa_cons pe_str (pa_cons (pv 5) (pa_cons (pv 6) pa_nil))))))))))))), ?_⟩
    have t (p : Addr) (hp : p ∈ [Pn, Pr, Pu, Ph, Ps, Pf, Pk, Pl, Pa, Pp, Pg, Pm]) := tb p hp
    refine ⟨_, rfl, _, rfl, _, rfl, a, d, e, nn, rs, kvs, kvw, kps, wps, rfl, hN, hg, hg.few, by omega, hd, hK, hO, he, hKw, hW, hsub, hw6, fun p hp => t p (List.mem_append_left [Pk, Pl, Pa, Pp, Pg, Pm] hp), fun H1 k1 => ?_⟩
    have hd1 := k1.oth d _ hd (fun _ z => by cases z)
    refine ⟨_, rfl, d, kvs, kps, nn, rfl, hd1, hK.k0 k1, hO, by omega, fun D1 H2 k2 hL => ?_⟩
    have k12 := k1.trans k2
    have he2 := k12.oth e _ he (fun _ z => by cases z)
    refine ⟨_, rfl, e, kvw, wps, nn, rfl, he2, hKw.k0 k12, hW, by omega, fun D2 Hb k3 hL2 => ?_⟩
    have kb := k12.trans k3
    have hL1 := hL.k0 k3
    refine fun S nS => ⟨few_szG (show 0 ≤ 1000 by decide), fun L nL => fun Fd nF => ?_⟩
    have nL' : Hb L = none := upd_none nL
    have nF' : Hb Fd = none := upd_none (upd_none nF)
    have nSL : S ≠ L := fun z => by rw [← z, upd_same] at nL; cases nL
    have nLF : L ≠ Fd := fun z => by rw [← z, upd_same] at nF; cases nF
    have nSF : S ≠ Fd := fun z => by rw [← z, upd_ne nSL, upd_same] at nF; cases nF
    have hS0 : (upd (upd (upd Hb S (.dK [])) L (.lst [])) Fd (DN P w Fd [])) S = some (.dK []) := by rw [upd_ne nSF, upd_ne nSL, upd_same]
    have M0 : MSt P w K H Hb S L Fd nn rs kps wps 0 [] (upd (upd (upd Hb S (.dK [])) L (.lst [])) Fd (DN P w Fd [])) := ⟨((K0.new nS).mut nL').mut nF', ⟨[], ⟨[], hS0, rfl, fun i m h z => by cases z⟩, rfl, fun p hp => by cases hp⟩, by rw [upd_ne nLF, upd_same]; rfl, [], upd_same, KsOk.nil, Nat.zero_le _, fun x hx => by cases hx⟩
    refine ⟨_, rfl, _, rfl, D1, D2, kps, wps, nn, M, rfl, hL1.k0 M0.k, hL2.k0 M0.k, hO, hW, hsub, hM, hin, fun qn nums G1 kn hqn up mem => ⟨qn, rfl, ⟨_, .inl (.inl hqn)⟩, ?_⟩⟩
    have M1 := M0.k0 kn
    refine for_list (K := K) (a := qn) (xs := nums.map V.int) (fun i σ' G => ∃ y8 y9 y10 y11 : Option V, σ' = [some (.ref a), some (.ref d), some (.ref e), some (.ref D1), some (.ref D2), some (.ref S), some (.ref L), some (.ref Fd), y8, y9, y10, y11, none] ∧ K0 G1 G1 ∧ MSt P w K H Hb S L Fd nn rs kps wps i (nums.take i) G ∧ G qn = some (.lst (nums.map V.int)) ∧ ∀ v ∈ nums.take i, hasK kps v = true → RchA nn rs kps (keepK kps v) (lackL kps wps v))
      ⟨none, none, none, none, rfl, K0.refl _, M1, hqn, fun v hv => by rw [List.take_zero] at hv; cases hv⟩ (fun i σ' G _ h => ?_) (fun i x σ' G hx h => ?_) (fun σ' G h => ?_)
    · obtain ⟨_, _, _, _, _, _, _, h1, _⟩ := h
      exact .inl (.inl h1)
    · obtain ⟨y8, y9, y10, y11, rfl, _, hM2, hqG, hrch⟩ := h
      rw [List.getElem?_map] at hx
      obtain ⟨m, hm, rfl⟩ := Option.map_eq_some_iff.mp hx
      have htk : nums.take (i + 1) = nums.take i ++ [m] := by rw [List.take_add_one, hm]; rfl
      have hmn : m ∈ nums := List.mem_of_getElem? hm
      have hi64 : i < 1000 := by
        have h1 := (List.getElem?_eq_some_iff.mp hm).1
        have h2 : nums.length ≤ M.length := sub_lenG (up.imp fun a => Int.ne_of_lt a) fun v hv => by
          obtain ⟨p, ms, h1, h2, _⟩ := (mem v).mp hv
          exact hin _ h1 v h2
        omega
      have nqL : qn ≠ L := fun z => by
        have h1 := M1.lo
        rw [← z, hqn] at h1
        have h2 : nums.map V.int = [] := HO.lst.inj (Option.some.inj h1)
        rw [List.map_eq_nil_iff.mp h2] at hm
        cases hm
      have kH : K0 H G := kb.trans hM2.k
      refine ⟨_, rfl, _, rfl, D1, kps, nn, m, rfl, hL1.k0 hM2.k, hO, by omega, kH.tab _ (t Pk (by simp)), fun q1 G2 k2' hq1 => ?_⟩
      have kH2 := kH.trans k2'
      have hMa := hM2.k0 k2'
      refine ⟨_, rfl, _, rfl, _, rfl, D1, D2, kps, wps, nn, m, rfl, hL1.k0 hMa.k, hL2.k0 hMa.k, hO, hW, hsub, by omega, kH2.tab _ (t Pl (by simp)), fun q2 G3 k3' hq2 => ?_⟩
      have kH3 := kH2.trans k3'
      have hMb := hMa.k0 k3'
      have hq1b := k3'.sqT hq1
      have hqG3 := (k2'.trans k3').oth qn _ hqG (fun _ z => by cases z)
      by_cases hk : keepK kps m = []
      · have hm0 : hasK kps m = false := decide_eq_false (fun z => z hk)
        refine ⟨_, rfl, false, .inr (.inl ⟨_, hq1b, by rw [hk]; rfl⟩), iteT ?_⟩
        refine ⟨_, rfl, .inl ⟨rfl, _, .inl (.inl hMb.lo)⟩, _, rfl, L, _, .int m, rfl, rfl, hMb.lo, ?_, ?_⟩
        · rw [List.length_map, sizeLine_eq]
          have h1 := List.length_filter_le (fun m => !hasK kps m) (nums.take i)
          have h2 := List.length_take_le' i nums
          have h3 := List.length_take_le i nums
          omega
        · have := hMb.addLost nL' hm0
          rw [← htk] at this
          refine ⟨_, _, _, _, rfl, K0.refl _, this.mono (Nat.le_succ i), by rw [upd_ne nqL]; exact hqG3, fun v hv hh => ?_⟩
          rw [htk] at hv
          rcases List.mem_append.mp hv with hv | hv
          · exact hrch v hv hh
          · rw [List.mem_singleton.mp hv, hm0] at hh; cases hh
      have hm1 : hasK kps m = true := decide_eq_true hk
      refine ⟨_, rfl, true, .inr (.inl ⟨_, hq1b, by cases h0 : keepK kps m with
        | nil => exact absurd h0 hk
        | cons x l => rfl⟩), iteF ?_⟩
      have hAk := keep_areP hO m
      have hAl := lack_areP (kps := kps) hW m
      have hne : lackL kps wps m ≠ [] := fun z => by
        obtain ⟨p, ms, h1, h2, h3⟩ := (mem m).mp hmn
        have : p ∈ lackL kps wps m := lack_mem.mpr ⟨ms, h1, h2, h3⟩
        rw [z] at this; cases this
      have hdis : ∀ v ∈ lackL kps wps m, v ∉ keepK kps m := fun v hv hv2 => by
        obtain ⟨_, _, _, h3⟩ := lack_mem.mp hv
        obtain ⟨ns, h4, h5⟩ := keep_mem.mp hv2
        exact h3 ns h4 h5
      have hl6 : (lackL kps wps m).length ≤ 6 := by have := lack_len kps wps m; omega
      have hG9 := sendK_good (kps := kps) hg (by omega) hAk
      -- told for these
      refine ⟨fun σ' G4 => σ' = [some (.ref a), some (.ref d), some (.ref e), some (.ref D1), some (.ref D2), some (.ref S), some (.ref L), some (.ref Fd), some (.int m), some (.ref q1), some (.ref q2), y11, none] ∧ MSt P w K H Hb S L Fd nn rs kps wps (i + 1) (nums.take i) G4 ∧ SqT K G4 q1 (iV (keepK kps m)) ∧ SqT K G4 q2 (iV (lackL kps wps m)) ∧ G4 qn = some (.lst (nums.map V.int)) ∧ HasKL P w K (FS S L Fd) nn rs kps G4 Fd (keepK kps m) (lackL kps wps m), ?_, ?_⟩
      · refine ⟨_, rfl, _, rfl, few_szG (show 2 ≤ 1000 by decide), fun b nb => ?_⟩
        have kt := K0.new nb (o := .tup [.ref q1, .ref q2])
        have hb : SqT K (upd G3 b (.tup [.ref q1, .ref q2])) b [.ref q1, .ref q2] := .inl (.inl upd_same)
        generalize upd G3 b (.tup [.ref q1, .ref q2]) = G5 at kt hb ⊢
        have hMd := hMb.k0 kt
        have hq1d := kt.sqT hq1b
        have hq2d := kt.sqT hq2
        have hqG5 := kt.oth qn _ hqG3 (fun _ z => by cases z)
        rcases hMd.fo.look (keepK kps m) (lackL kps wps m) with hh | ⟨kv, e1, e2, e3⟩
        · obtain ⟨q0, dg, _⟩ := hh.get hb hq1d hq2d
          refine ⟨_, rfl, Fd, _, rfl, dg, _, rfl, iteF ⟨rfl, hMd.mono (Nat.le_succ i), hq1d, hq2d, hqG5, hh⟩⟩
        · have kH5 := kH3.trans kt
          have hd5 := kH5.oth d _ hd (fun _ z => by cases z)
          refine ⟨_, rfl, Fd, none, rfl, ⟨kv, _, b, .inl e1, e2, rfl, keyKL_v hb hq1d hq2d, keyKL_d _ _, e3.symm⟩, _, rfl, iteT ?_⟩
          refine ⟨_, rfl, _, rfl, _, rfl, a, d, nn, rs, kvs, kps, m, rfl, hN.k0 kH5, hg, hg.few, by omega, hd5, hK.k0 kH5, hO, kH5.tab _ (t Pn (by simp)), kH5.tab _ (t Pr (by simp)), kH5.tab _ (t Pu (by simp)), kH5.tab _ (t Ph (by simp)), kH5.tab _ (t Ps (by simp)), kH5.tab _ (t Pk (by simp)), fun sn G6 k6 hsn => ?_⟩
          have kH6 := kH5.trans k6
          obtain ⟨ra, xs0, o0, hn1, _⟩ := hN.k0 kH6
          have wr : ∀ (q0 : Addr) (G7 : Hp), K0 G6 G7 → ToldC K (FS S L Fd) nn rs kps G7 (keepK kps m) (lackL kps wps m) q0 → ∀ b2, G7 b2 = none → ∃ u, DPutN P w K (upd G7 b2 (.tup [.ref q1, .ref q2])) Fd (.ref b2) (.ref q0) (upd (upd G7 b2 (.tup [.ref q1, .ref q2])) Fd u) ∧ MSt P w K H Hb S L Fd nn rs kps wps (i + 1) (nums.take i) (upd (upd G7 b2 (.tup [.ref q1, .ref q2])) Fd u) ∧ SqT K (upd (upd G7 b2 (.tup [.ref q1, .ref q2])) Fd u) q1 (iV (keepK kps m)) ∧ SqT K (upd (upd G7 b2 (.tup [.ref q1, .ref q2])) Fd u) q2 (iV (lackL kps wps m)) ∧ (upd (upd G7 b2 (.tup [.ref q1, .ref q2])) Fd u) qn = some (.lst (nums.map V.int)) ∧ HasKL P w K (FS S L Fd) nn rs kps (upd (upd G7 b2 (.tup [.ref q1, .ref q2])) Fd u) Fd (keepK kps m) (lackL kps wps m) := fun q0 G7 k7 ht b2 nb2 => by
            have kt2 := K0.new nb2 (o := .tup [.ref q1, .ref q2])
            have k8 := (k6.trans k7).trans kt2
            obtain ⟨u, a1, a2, a3, a4⟩ := (hMd.k0 k8).fnd nF' (by omega) (.inl (.inl upd_same)) (k8.sqT hq1d) (k8.sqT hq2d) (ht.kx kt2.kx)
            have nqF : qn ≠ Fd := fun z => by rw [z, e1] at hqG5; cases hqG5
            exact ⟨u, a1, a2, a3.sqT (k8.sqT hq1d), a3.sqT (k8.sqT hq2d), by rw [upd_ne nqF]; exact k8.oth qn _ hqG5 (fun _ z => by cases z), a4⟩
          refine ⟨_, rfl, a, _, 0, .int nn, rfl, rfl, hn1, atI_nat (j := 0) rfl, _, rfl, sn, nn + 1, sendR nn rs kps m, nn, q2, lackL kps wps m, rfl, hsn, hG9, hG9.few, by omega, by omega, k6.sqT hq2d, ?_, hne, hl6, ?_, ?_, ?_⟩
          · exact ⟨fun v hv => by have := hAl.1 v hv; omega, hAl.2⟩
          · exact fun p hp => kH6.tab _ (t p (by simp only [List.mem_cons, List.not_mem_nil, or_false] at hp ⊢; rcases hp with h | h | h | h | h <;> simp [h]))
          · intro q0 qd dt G7 k7 nqd ndt _ hrc ht
            obtain ⟨lst, g, T, Sf, h1, h2, h3, h4, h5, _, h7, h8⟩ := ht
            refine ⟨_, rfl, _, rfl, _, rfl, few_szG (show 2 ≤ 1000 by decide), fun b2 nb2 => ?_⟩
            have hb6 : FS S L Fd qd → False := fun z => by
              have hM6 := hMd.k0 k6
              rcases z with z | z | z
              · obtain ⟨l1, e⟩ := hM6.tabS
                rw [← z, nqd] at e; cases e
              · have e := hM6.lo
                rw [← z, nqd] at e; cases e
              · have e := k6.oth Fd _ e1 (fun _ z => by cases z)
                rw [← z, nqd] at e; cases e
            obtain ⟨u, a1, a2, a3, a4, a5, a6⟩ := wr q0 G7 k7 (.inl ⟨hrc, qd, dt, lst, g, T, Sf, h1, h2, hb6, h3, h4, h5, h7, h8⟩) b2 nb2
            exact ⟨Fd, _, rfl, a1, rfl, a2, a3, a4, a5, a6⟩
          · intro q0 G7 k7 hrc ht
            obtain ⟨b0, ms, h1, h2, h3, h4⟩ := ht
            refine ⟨_, rfl, _, rfl, _, rfl, few_szG (show 2 ≤ 1000 by decide), fun b2 nb2 => ?_⟩
            obtain ⟨u, a1, a2, a3, a4, a5, a6⟩ := wr q0 G7 k7 (.inr ⟨hrc, b0, ms, h1, h2, h3, h4⟩) b2 nb2
            exact ⟨Fd, _, rfl, a1, rfl, a2, a3, a4, a5, a6⟩
      rintro σ' G4 ⟨rfl, hMc, hq1c, hq2c, hqG4, hhas⟩
      refine ⟨_, rfl, _, rfl, _, rfl, few_szG (show 2 ≤ 1000 by decide), fun b nb => ?_⟩
      have kt := K0.new nb (o := .tup [.ref q1, .ref q2])
      have hb : SqT K (upd G4 b (.tup [.ref q1, .ref q2])) b [.ref q1, .ref q2] := .inl (.inl upd_same)
      have hq1d := kt.sqT hq1c
      have hq2d := kt.sqT hq2c
      have hMd := hMc.k0 kt
      have hqG5 := kt.oth qn _ hqG4 (fun _ z => by cases z)
      obtain ⟨q0, dg, ht⟩ := (hhas.k0 kt).get hb hq1d hq2d
      generalize upd G4 b (.tup [.ref q1, .ref q2]) = G5 at kt hb hq1d hq2d hMd hqG5 dg ht ⊢
      have kH5 : K0 H G5 := kb.trans hMd.k
      refine ⟨Fd, _, rfl, dg, ?_⟩
      have hkn : (nn : Int) ∉ keepK kps m := fun z => by have := hAk.1 _ z; omega
      have hln : (nn : Int) ∉ lackL kps wps m := fun z => by have := hAl.1 _ z; omega
      rcases ht with ⟨hrc, qd, dt, lst, g, T, Sf, h1, h2, hF, hDI, h12, hTr, hRow, hT⟩ | ⟨hrc, b0, ms, h1, h2, hA, hmem⟩
      · refine ⟨_, rfl, q0, _, 0, .str "tree", rfl, rfl, h1, atI_nat (j := 0) rfl, rfl, _, rfl, ?_⟩
        rw [decide_eq_false (show ¬ V.str "tree" = V.str (Str.ofString "none") from by decide +kernel)]
        refine iteF ?_
        refine ⟨_, rfl, _, rfl, _, rfl, q0, _, 1, .ref qd, rfl, rfl, h1, atI_nat (j := 1) rfl, q1, q2, keepK kps m, lackL kps wps m, qd, lst, g, rfl, hq1d, hq2d, h2, hDI, h12, fun v hv => ?_, fun qb l2 G6 k6 nqb hqb hDb hlb => ?_⟩
        · rcases hTr.2.1 v hv with h | h
          · exact absurd (h ▸ hv) hln
          · obtain ⟨x, ex⟩ := Option.isSome_iff_exists.mp h
            exact cutG_in (cut_end hg hTr.1 hkn ex)
        · have hMe := hMd.k0 k6
          obtain ⟨ls, eS⟩ := hMe.tabS
          have hFB : ¬ FB H S L Fd qb := fun z => by
            rcases z with z | z | z | z
            · exact z (kH5.dom _ nqb)
            · obtain ⟨l1, e⟩ := hMd.tabS
              rw [← z, nqb] at e; cases e
            · have e := hMd.lo
              rw [← z, nqb] at e; cases e
            · obtain ⟨u, e, _⟩ := hMd.fo
              rw [← z, nqb] at e; cases e
          have hnew : m ∉ nums.take i := fun z => by
            have nd := up.imp (fun a => Int.ne_of_lt a)
            rw [← List.take_append_drop (i + 1) nums, htk] at nd
            exact (List.nodup_append.mp (List.nodup_append.mp nd).1).2.2 _ z _ (List.mem_singleton.mpr rfl) rfl
          have ok : MendOk nn rs kps wps m (sendF (keepK kps m) (lackL kps wps m) g) := ⟨⟨_, sendF_ok hg hTr hkn hdis hln hDb⟩, hrc, T, Sf, hRow, send_price hg hTr (by omega) hAk hAl hne hdis hDb rfl hRow hT⟩
          have hsl : ls.length ≤ 1000 := by
            obtain ⟨xs, ⟨l1, e, e5, _⟩, e6, _⟩ := hMe.xs
            rw [eS] at e
            cases e
            have := congrArg List.length e6
            rw [List.length_map] at this
            have h8 := List.length_filter_le (hasK kps) (nums.take i)
            have h9 := List.length_take_le i nums
            omega
          refine ⟨_, rfl, _, rfl, S, _, rfl, DPut.k (k := Sum.inl m) eS (by rw [sizeLine_eq]; omega), ?_⟩
          have hfin := hMe.addSend nS eS hm1 hnew hqb hDb hlb hFB ok
          rw [← htk] at hfin
          have nqS : qn ≠ S := fun z => by
            have e := k6.oth qn _ hqG5 (fun _ z => by cases z)
            rw [z, eS] at e; cases e
          refine ⟨_, _, _, _, rfl, K0.refl _, hfin, by rw [upd_ne nqS]; exact k6.oth qn _ hqG5 (fun _ z => by cases z), fun v hv hh => ?_⟩
          rw [htk] at hv
          rcases List.mem_append.mp hv with hv | hv
          · exact hrch v hv hh
          · rw [List.mem_singleton.mp hv]; exact hrc
      · refine ⟨_, rfl, q0, _, 0, .str "none", rfl, rfl, h1, atI_nat (j := 0) rfl, rfl, _, rfl, ?_⟩
        rw [decide_eq_true (show V.str "none" = V.str (Str.ofString "none") from rfl)]
        refine iteT ⟨_, rfl, _, rfl, q0, _, 1, .ref b0, rfl, rfl, h1, atI_nat (j := 1) rfl, b0, rfl, ⟨_, h2⟩, kH5.tab _ (t Pm (by simp)), fun G6 hT6 => ?_⟩
        have k6 : K0 G5 G6 := K0.tbd (kH5.tab _ (t Pm (by simp))) hT6
        have hml : ms.length ≤ 12 := hA.few (by omega)
        refine ⟨fun j r γ G7 => j + r = ms.length ∧ K0 G6 G7 ∧ γ = ((ms.take j).filter fun v => decide (v ≠ (nn : Int))).map V.int, ⟨ms.length, by omega, K0.refl _, rfl⟩, fun j r γ G7 hW7 => ?_⟩
        obtain ⟨em, k7, eγ⟩ := hW7
        have hS7 : SqT K G7 b0 (iV ms) := (k6.trans k7).sqT h2
        have hfl : ((ms.take j).filter fun v => decide (v ≠ (nn : Int))).length ≤ 12 := by
          have h3 := List.length_filter_le (fun v => decide (v ≠ (nn : Int))) (ms.take j)
          have h4 := List.length_take_le' j ms
          omega
        by_cases hj : j < ms.length
        · have e0 : ms[j]? = some ms[j] := List.getElem?_eq_getElem hj
          refine .inr ⟨⟨_, _, hS7, by rw [List.getElem?_map, e0]; rfl⟩, fun γ' H' => K0 G6 H' ∧ γ' = ((ms.take (j + 1)).filter fun v => decide (v ≠ (nn : Int))).map V.int, fun γ' H' hN => ⟨r - 1, by omega, by omega, hN⟩, fun z H' hy => ?_⟩
          obtain ⟨rfl, fx⟩ := hy
          have ez := fx _ hS7
          rw [List.getElem?_map, e0] at ez
          cases ez
          obtain ⟨ra, xs0, o0, hn1, _⟩ := hN.k0 (kH5.trans (k6.trans k7))
          refine ⟨rfl, _, rfl, _, rfl, a, _, 0, .int nn, rfl, rfl, hn1, atI_nat (j := 0) rfl, rfl, _, rfl, ?_⟩
          have etk : ms.take (j + 1) = ms.take j ++ [ms[j]] := by rw [List.take_add_one, e0]; rfl
          by_cases hv : ms[j] = (nn : Int)
          · rw [decide_eq_true (show V.int ms[j] = V.int (nn : Int) from by rw [hv])]
            refine iteF ⟨k7, ?_⟩
            rw [eγ, etk, List.filter_append, List.filter_cons_of_neg (by simp [hv]), List.filter_nil, List.append_nil]
          · rw [decide_eq_false (show ¬ V.int ms[j] = V.int (nn : Int) from fun z => hv (V.int.inj z))]
            refine iteT ⟨_, rfl, ?_, k7, ?_⟩
            · rw [eγ, List.length_map]; omega
            · rw [eγ, etk, List.filter_append, List.filter_cons_of_pos (by simp [hv]), List.filter_nil, List.map_append]
              rfl
        · rw [List.take_of_length_le (by omega)] at eγ
          rw [List.take_of_length_le (by omega)] at hfl
          refine .inl ⟨⟨_, hS7, by rw [List.length_map]; omega⟩, by rw [eγ, List.length_map]; omega, fun qt nqt => ⟨few_szG (show 3 ≤ 1000 by decide), fun q nq => ?_⟩⟩
          have kq := K0.new nqt (o := .tup γ)
          have kq2 := K0.new nq (o := .tup [.str "parted", .int m, .ref qt])
          refine qp q qt m (ms.filter fun v => decide (v ≠ (nn : Int))) nums _ ((((kH5.trans k6).trans k7).trans kq).trans kq2) (.inl (.inl upd_same)) (kq2.sqT (.inl (.inl (by rw [upd_same, eγ])))) up mem hmn hm1 (fun v hv hlt hh => ?_) hrc ?_ fun v => ?_
          · obtain ⟨j2, hj2⟩ := List.getElem?_of_mem hv
            have l1 := (List.getElem?_eq_some_iff.mp hj2).1
            have l2 := (List.getElem?_eq_some_iff.mp hm).1
            have v1 := (List.getElem?_eq_some_iff.mp hj2).2
            have v2 := (List.getElem?_eq_some_iff.mp hm).2
            have lt : j2 < i := by
              rcases Nat.lt_trichotomy j2 i with h | h | h
              · exact h
              · subst h
                rw [hj2] at hm
                cases hm
                omega
              · have := List.pairwise_iff_getElem.mp up i j2 l2 l1 h
                omega
            refine hrch v ?_ hh
            rw [← v1]
            exact List.mem_take_iff_getElem.mpr ⟨j2, by omega, rfl⟩
          · refine ⟨fun v hv => ?_, hA.2.sublist List.filter_sublist⟩
            obtain ⟨h3, h4⟩ := List.mem_filter.mp hv
            have h5 := hA.1 v h3
            have h6 : v ≠ (nn : Int) := of_decide_eq_true h4
            omega
          · rw [List.mem_filter, hmem, decide_eq_true_iff]
            exact And.comm
    · obtain ⟨y8, y9, y10, y11, rfl, _, hM2, hqG, hrch⟩ := h
      rw [List.length_map, List.take_length] at hM2
      refine ⟨_, rfl, _, rfl, few_szG (show 3 ≤ 1000 by decide), fun q nq => ?_⟩
      have kq := K0.new nq (o := .tup [.str "mended", .ref S, .ref L])
      have hM3 := hM2.k0 kq
      obtain ⟨xs, h1, h2, h3⟩ := hM3.xs
      refine qm q S L xs nums _ (kb.trans hM3.k) (kb.dom _ nS) (kb.dom _ nL') nSL (.inl (.inl upd_same)) up mem ?_ h2 h3 hM3.lo
      obtain ⟨l1, e1, e2, e3⟩ := h1
      exact ⟨l1, e1, e2, fun i m h e => by
        obtain ⟨b, l2, f1, f2, f3, f4, f5⟩ := e3 i m h e
        exact ⟨b, l2, f1, f2, f3, f4, fun z => f5 (z.elim .inl fun z => z.elim (fun z => .inr (.inl z)) fun z => .inr (.inr (.inl z)))⟩⟩
end
end HK

set_option Elab.async false
set_option linter.all false
set_option maxRecDepth 100000
set_option maxHeartbeats 4000000
namespace HK
open PySem PySem.Spec PyProof.Rows L2 GAl GxR
open Evl (pss_cut)
abbrev sAKept : Stmt := topS 57
abbrev N_scAKept : List Str := ["tape", "n", "many", "kept", "place", "number"]
theorem scAKept : FnScope N_scAKept ["tape", "n", "many"] (defScope sAKept) := ⟨rfl, rfl, rfl, by decide +kernel, rfl, by decide +kernel, by decide +kernel⟩
section
variable {P : Program} {w : World} {K : PySem.W.Frag} {mg : Str → Option Value} {base : Heap}
def spAKept (K : PySem.W.Frag) : Sp := fun vs H Q _ => ∃ (t : Addr) (n many : Int), vs = [.ref t, .int n, .int many] ∧ TpA H t ∧ 1 ≤ n ∧ n ≤ 12 ∧ 0 ≤ many ∧ many ≤ 10 ∧
  ∀ (d : Addr) (kvs : List (Key × V)) (kps : KpL) (H' : Hp), Kt t H H' → TpA H' t → H d = none → H' d = some (.dK kvs) → KVs K H' kvs kps → KpOk n kps → (∀ p ∈ kps, ∀ v ∈ p.2, v < many) → Q (.ref d) H'
theorem ok_akept {f : Addr} {fd : FuncData} {f_adigit : Addr} {fd_adigit : FuncData} (F : Fun K "_law_akept" "_law_akept" sAKept f fd) (k_adigit : PySem.W.keepIn K (.ref f_adigit) = true) (b_adigit : Binds K fd_adigit ["tape", "many"] []) (g_adigit : mg "_law_adigit" = some (.ref f_adigit)) (G_adigit : FnOk P w K mg base CX0 1 f_adigit fd_adigit ["tape", "many"] (spADigit)) (m_range : mg "range" = none) (m_tuple : mg "tuple" = none) : FnOk P w K mg base CX0 2 f fd ["tape", "n", "many"] (spAKept K) := by
  refine F.ok scAKept (fun vs H Q E h => ?_) (fun cdv A outer s H vs Q E hr h => ?_)
  · obtain ⟨t, n, many, rfl, _⟩ := h
    rfl
  · obtain ⟨t, n, many, rfl, T, n1, n2, m0, m1, q⟩ := h
    have hu := hu_of hr
    refine ⟨_, (pss_cons (ps_set (i := 3) scAKept.nd rfl (.inl rfl) pe_dnewK)
      (pss_cons (ps_for PassesOwn.never rfl (pi_range1 (by rfl) m_range (pa_cons (pv 1) pa_nil)) (pg_name (i := 4) scAKept.nd rfl (.inl rfl))
      (pss_one (ps_if (pt_cmpR op_gt (pe_call G_adigit (hr.mono (by decide)) (by rfl) g_adigit k_adigit b_adigit .nil pass0 (pa_cons (pv 0) (pa_cons pe_int pa_nil))) pe_int (nomark _)) (pss_one (ps_dput hu (pv 3) (pv 4) (pe_callTy call_tuple_fz (by rfl) m_tuple (by decide +kernel) (pa_cons (pe_lc (own := [("number", 5)]) (g := (gName 5)) (tt := (tTest (tOp rEq (tCall (spADigit) [] E0 (tCons (tVar 0) (tCons (tC (.int 3)) tNil))) (tC (.int 0))))) (te := (tVar 5)) rfl scAKept.nd (pi_range1 (by rfl) m_range (pa_cons (pv 2) pa_nil)) (blkOk_by (N := N_scAKept) (sc := defScope sAKept) (by decide +kernel)) (fun _ _ _ _ _ => (pg_name (i := 5) scAKept.nd rfl (.inl rfl))) (fun _ _ _ _ _ => (pts_one (pt_cmpR op_eq (pe_call G_adigit (hr.mono (by decide)) (by rfl) g_adigit k_adigit b_adigit .nil pass0 (pa_cons (pv 0) (pa_cons pe_int pa_nil))) pe_int (nomark _)))) (fun _ _ _ _ _ => (pv 5))) pa_nil)) rfl)) pss_nil)))
      (pss_one (ps_ret (pv 3))))), ?_⟩
    refine fun d nd => ?_
    have k1 := K0.new nd (o := .dK [])
    have hd1 : upd H d (.dK []) d = some (.dK []) := upd_same
    have T1 := T.k0 k1
    generalize upd H d (.dK []) = H1 at k1 hd1 T1 ⊢
    have hdt : d ≠ t := T.ne nd
    refine ⟨_, rfl, n, rfl, by omega, by omega, for_range (lo := 0) (n := n.toNat) (fun i σ' H' => ∃ y4 y5, σ' = [some (.ref t), some (.int n), some (.int many), some (.ref d), y4, y5] ∧ Kt t H H' ∧ TpA H' t ∧ ∃ (kvs : List (Key × V)) (kps : KpL), H' d = some (.dK kvs) ∧ KVs K H' kvs kps ∧ KpOk n kps ∧ ∀ p ∈ kps, p.1 < (i : Int) ∧ ∀ v ∈ p.2, v < many)
      ⟨none, none, rfl, k1.kt, T1, [], [], hd1, ⟨rfl, (fun i p ms e => by cases e)⟩, ⟨.nil, (fun p h => by cases h), (fun p h => by cases h), (fun p h => by cases h), (fun p h => by cases h)⟩, (fun p h => by cases h)⟩ (fun i σ' H' hi h => ?_) (fun σ' H' h => ?_)⟩
    · obtain ⟨y4, y5, rfl, k2, T2, kvs, kps, hd2, hK, hO, hlt⟩ := h
      have hin : (i : Int) < n := by omega
      refine ⟨_, rfl, t, 5, rfl, T2, by omega, by omega, fun d5 H3 a0 a1 k3 T3 => ⟨d5, 0, rfl, rfl, _, rfl, ite2 (fun e => ?_) (fun e => ?_)⟩⟩
      rotate_left
      · exact ⟨_, _, rfl, k2.trans k3, T3, kvs, kps, k3.oth d _ hd2 hdt (fun _ z => by cases z), hK.kt k3, hO, fun p hp => ⟨by have := (hlt p hp).1; omega, (hlt p hp).2⟩⟩
      have hd3 := k3.oth d _ hd2 hdt (fun _ z => by cases z)
      have hK3 := hK.kt k3
      refine ⟨_, rfl, many, rfl, by omega, by omega, fun D nD => ?_⟩
      have hDt : D ≠ t := T3.ne nD
      refine lc_range (lo := 0) (n := many.toNat) (fun j H4 => Kt t H3 H4 ∧ TpA H4 t ∧ ∃ l : List Int, H4 D = some (.lst (l.map V.int)) ∧ l.Pairwise (· < ·) ∧ (∀ v ∈ l, 0 ≤ v ∧ v < (j : Int)) ∧ l.length ≤ j) ⟨(K0.new nD).kt, T3.k0 (K0.new nD), [], upd_same, List.Pairwise.nil, (fun v hv => (by cases hv)), Nat.le_refl _⟩ (fun j H4 hj h => ?_) (fun H4 h => ?_)
      · obtain ⟨k4, T4, l, hl, hup, hb, hlen⟩ := h
        have hj10 : j < 10 := by omega
        refine ⟨rfl, _, rfl, t, 3, rfl, T4, by omega, by omega, fun d3 H5 b0 b1 k5 T5 => ⟨rfl, _, rfl, ?_⟩⟩
        have hl5 := k5.oth D _ hl hDt (fun _ z => by cases z)
        refine ite2 (fun _ => ?_) (fun _ => ⟨k4.trans k5, T5, l, hl5, hup, fun v hv => by have := hb v hv; omega, by omega⟩)
        refine ⟨_, rfl, _, hl5, ?_, (k4.trans k5).mut nD, T5.mut hDt, l ++ [(j : Int)], ?_, ?_, ?_, ?_⟩
        · rw [List.length_map, sizeLine_eq]; omega
        · rw [upd_same, List.map_append, Int.zero_add]; rfl
        · exact List.pairwise_append.mpr ⟨hup, List.pairwise_singleton _ _, fun a ha b hb2 => by
            rw [List.mem_singleton.mp hb2]
            exact (hb a ha).2⟩
        · intro v hv
          rcases List.mem_append.mp hv with hv | hv
          · have := hb v hv; omega
          · rw [List.mem_singleton.mp hv]; omega
        · rw [List.length_append]; show l.length + 1 ≤ j + 1; omega
      · obtain ⟨k4, T4, l, hl, hup, hb, hlen⟩ := h
        refine ⟨D, _, rfl, .inl (.inl hl), fun q1 ob nq _ _ => ?_⟩
        have kq := K0.new nq (o := .frz ob (.tup (l.map V.int)))
        have hq : SqT K (upd H4 q1 (.frz ob (.tup (l.map V.int)))) q1 (l.map V.int) := .inl (.inr ⟨ob, upd_same⟩)
        have T5 := T4.k0 kq
        have k35 := k4.trans kq.kt
        generalize upd H4 q1 (.frz ob (.tup (l.map V.int))) = H5 at kq hq T5 k35 ⊢
        have hd5 := k35.oth d _ hd3 hdt (fun _ z => by cases z)
        have hK5 := hK3.kt k35
        have hno : valV kvs (.inl (i : Int)) = none := by
          have hn : (i : Int) ∉ kps.map (·.1) := fun hm => by
            obtain ⟨p, hp, e⟩ := List.mem_map.mp hm
            have := (hlt p hp).1
            omega
          have := hK.isS hO.nodup (i : Int)
          rw [decide_eq_false hn] at this
          cases e : valV kvs (.inl (i : Int)) with
          | none => rfl
          | some v => rw [e] at this; cases this
        have hput : putK kvs (.inl (i : Int)) (.ref q1) = kvs ++ [(.inl (i : Int), .ref q1)] := by
          unfold putK
          rw [valV_any, hno]
          rfl
        have hkl : kvs.length ≤ 12 := by rw [hK.1]; exact hO.len n2
        have e0 : (0 : Int) + (i : Int) = (i : Int) := Int.zero_add _
        refine ⟨_, rfl, _, rfl, d, _, rfl, DPut.k (k := .inl ((0 : Int) + (i : Int))) hd5 (by rw [sizeLine_eq]; omega), _, _, rfl, ?_, ?_, _, kps ++ [((i : Int), l)], upd_same, ?_, ?_, ?_⟩
        · exact (k2.trans (k3.trans k35)).mut nd
        · exact T5.mut hdt
        · rw [e0, hput]
          refine ⟨by rw [List.length_append, List.length_append, hK.1]; rfl, fun j p ms e => ?_⟩
          by_cases hj : j < kps.length
          · rw [List.getElem?_append_left hj] at e
            obtain ⟨q2, a, b⟩ := hK5.2 j p ms e
            exact ⟨q2, by rw [List.getElem?_append_left (by rw [hK.1]; exact hj)]; exact a, sqT_lock b hd5⟩
          · rw [List.getElem?_append_right (by omega)] at e
            have hj0 : j - kps.length = 0 := by
              cases hh : j - kps.length with
              | zero => rfl
              | succ k => rw [hh] at e; cases e
            rw [hj0] at e
            cases e
            exact ⟨q1, by rw [List.getElem?_append_right (by rw [hK.1]; omega), hK.1, hj0]; rfl, sqT_lock hq hd5⟩
        · refine ⟨?_, fun p hp => ?_, fun p hp => ?_, fun p hp => ?_, fun p hp => ?_⟩
          · rw [List.map_append]
            exact List.pairwise_append.mpr ⟨hO.up, List.pairwise_singleton _ _, fun a ha b hb2 => by
              obtain ⟨p, hp, rfl⟩ := List.mem_map.mp ha
              rw [List.mem_singleton.mp hb2]
              exact (hlt p hp).1⟩
          · rcases List.mem_append.mp hp with hp | hp
            · exact hO.inn p hp
            · rw [List.mem_singleton.mp hp]; exact ⟨by show (0 : Int) ≤ i; omega, hin⟩
          · rcases List.mem_append.mp hp with hp | hp
            · exact hO.up2 p hp
            · rw [List.mem_singleton.mp hp]; exact hup
          · rcases List.mem_append.mp hp with hp | hp
            · exact hO.nn p hp
            · rw [List.mem_singleton.mp hp]; exact fun v hv => (hb v hv).1
          · rcases List.mem_append.mp hp with hp | hp
            · exact hO.few p hp
            · rw [List.mem_singleton.mp hp]; show l.length ≤ 10; omega
        · intro p hp
          rcases List.mem_append.mp hp with hp | hp
          · exact ⟨by have := (hlt p hp).1; omega, (hlt p hp).2⟩
          · rw [List.mem_singleton.mp hp]
            exact ⟨by show (i : Int) < ((i + 1 : Nat) : Int); omega, fun v hv => by have := (hb v hv).2; omega⟩
    · obtain ⟨y4, y5, rfl, k2, T2, kvs, kps, hd2, hK, hO, hlt⟩ := h
      exact ⟨_, rfl, q d kvs kps H' k2 T2 nd hd2 hK hO fun p hp => (hlt p hp).2⟩
end
end HK

set_option Elab.async false
set_option linter.all false
set_option maxRecDepth 100000
set_option maxHeartbeats 4000000
namespace HK
open PySem PySem.Spec PyProof.Rows L2 GAl GxR
open Evl (pss_cut)
abbrev sALack : Stmt := topS 59
abbrev N_scALack : List Str := ["kept", "wants", "number", "place"]
theorem scALack : FnScope N_scALack ["kept", "wants", "number"] (defScope sALack) := ⟨rfl, rfl, rfl, by decide +kernel, rfl, by decide +kernel, by decide +kernel⟩
abbrev sAWants : Stmt := topS 58
abbrev N_scAWants : List Str := ["tape", "kept", "many", "wants", "place", "first", "number"]
theorem scAWants : FnScope N_scAWants ["tape", "kept", "many"] (defScope sAWants) := ⟨rfl, rfl, rfl, by decide +kernel, rfl, by decide +kernel, by decide +kernel⟩
theorem Kt.dctM {t : Addr} {H : Hp} {ls ms : List (Key × V)} (h : H t = some (.dK ls)) : Kt t H (upd H t (.dK ms)) := ⟨fun b zs e => by
  rw [upd_ne (ne_of e h (fun z => by cases z))]; exact e, fun b o u e => by
  rw [upd_ne (ne_of e h (fun z => by cases z))]; exact e, fun b o e n _ => by rw [upd_ne n]; exact e, fun P hP => by
  obtain ⟨ps, e, ht⟩ := hP
  exact ⟨ps, by rw [upd_ne (ne_of e h (fun z => by cases z))]; exact e, ht⟩, fun _ e => upd_none e⟩
theorem K0.withM {L : Addr} {H H1 H' : Hp} (k1 : K0 H H1) (nL : H L = none) (kl : Kt L H1 H') : K0 H H' := ⟨fun b o e m => kl.oth b o (k1.oth b o e m) (ne_of_none e nL) m, fun P hP => kl.tab P (k1.tab P hP), fun b e => k1.dom b (kl.dom b e)⟩
theorem sqT_open {K : PySem.W.Frag} {H : Hp} {a d : Addr} {xs : List V} {kvs : List (Key × V)} {od : Obj} {o : HO} (h : SqT K H a xs) (hd : H d = some (.frz od (.dK kvs))) : SqT K (upd H d o) a xs := by
  rcases h with (h | ⟨x, h⟩) | h
  · exact .inl (.inl (by rw [upd_ne (fun z => by rw [z, hd] at h; cases h)]; exact h))
  · exact .inl (.inr ⟨x, by rw [upd_ne (fun z => by rw [z, hd] at h; cases h)]; exact h⟩)
  · exact .inr h
section
variable {P : Program} {w : World} {K : PySem.W.Frag} {mg : Str → Option Value} {base : Heap}
def spALack (K : PySem.W.Frag) : Sp := fun vs H Q _ => ∃ (d e : Addr) (kvs kvw : List (Key × V)) (kps wps : KpL) (n m : Int), vs = [.ref d, .ref e, .int m] ∧ H d = some (.dK kvs) ∧ KVs K H kvs kps ∧ H e = some (.dK kvw) ∧ KVs K H kvw wps ∧ KpOk n kps ∧ KpOk n wps ∧ (∀ p ∈ wps, p.1 ∈ kps.map (·.1)) ∧ n ≤ 12 ∧
  ∀ (q : Addr) (H' : Hp), K0 H H' → SqT K H' q ((lackL kps wps m).map V.int) → Q (.ref q) H'
theorem ok_alack {f : Addr} {fd : FuncData} (F : Fun K "_law_alacking" "_law_alacking" sALack f fd) (m_tuple : mg "tuple" = none) (m_sorted : mg "sorted" = none) : FnOk P w K mg base CX0 1 f fd ["kept", "wants", "number"] (spALack K) := by
  refine F.ok scALack (fun vs H Q E h => ?_) (fun cdv A outer s H vs Q E hr h => ?_)
  · obtain ⟨d, e, kvs, kvw, kps, wps, n, m, rfl, _⟩ := h
    rfl
  · obtain ⟨d, e, kvs, kvw, kps, wps, n, m, rfl, hd, hK, he, hKw, hO, hW, hsub, hn, q⟩ := h
    have hu := hu_of hr
    refine ⟨_, (pss_one (ps_ret (pe_callTy call_tuple_fz (by rfl) m_tuple (by decide +kernel) (pa_cons (pe_lc (own := [("place", 3)]) (g := (gName 3)) (tt := (tAnd (tTest (tOp (rIn K false) (tVar 2) (tDGet (tVar 1) (tVar 3)))) (tTest (tOp (rIn K true) (tVar 2) (tDGet (tVar 0) (tVar 3)))))) (te := (tVar 3)) rfl scALack.nd (pi_list (pe_callB (call_sortedDI rfl) (by rfl) m_sorted boot_sorted (pa_cons (pv 1) pa_nil))) (blkOk_by (N := N_scALack) (sc := defScope sALack) (by decide +kernel)) (fun _ _ _ _ _ => (pg_name (i := 3) scALack.nd rfl (.inl rfl))) (fun _ _ _ _ _ => (pts_one (PW.pt (pw_and (pt_cmpR op_in_seq (pv 2) (pe_dget hu (pv 1) (pv 3) (fun _ _ => rfl)) rfl) (pw_and1 (pt_cmpR op_notIn_seq (pv 2) (pe_dget hu (pv 0) (pv 3) (fun _ _ => rfl)) rfl)))))) (fun _ _ _ _ _ => (pv 3))) pa_nil)))), ?_⟩
    have hkl := hW.len hn
    refine ⟨_, rfl, e, kvw, wps.map (·.1), rfl, .inl he, hKw.keysI, by rw [List.length_map]; omega, fun ys sp perm up nsp => ?_⟩
    obtain rfl := sorted_keys hW perm up
    have ks := K0.new nsp (o := .lst ((wps.map (·.1)).map V.int))
    have hS : upd H sp (.lst ((wps.map (·.1)).map V.int)) sp = some (.lst ((wps.map (·.1)).map V.int)) := upd_same
    generalize upd H sp (.lst ((wps.map (·.1)).map V.int)) = H1 at ks hS ⊢
    refine ⟨sp, rfl, ⟨_, .inl (.inl hS)⟩, fun D nD => ?_⟩
    refine lc_list (K := K) (a := sp) (xs := (wps.map (·.1)).map V.int) (fun i G => K0 H1 G ∧ G D = some (.lst ((lackL kps (wps.take i) m).map V.int))) ⟨K0.new nD, upd_same⟩ (fun i G _ h => .inl (.inl (h.1.oth sp _ hS (fun _ z => by cases z)))) (fun i x G hx h => ?_) (fun G h => ?_)
    · obtain ⟨k, hDG⟩ := h
      rw [List.getElem?_map, List.getElem?_map] at hx
      obtain ⟨p0, hp0, rfl⟩ := Option.map_eq_some_iff.mp hx
      obtain ⟨⟨p, ms⟩, e0, rfl⟩ := Option.map_eq_some_iff.mp hp0
      have hmm := List.mem_of_getElem? e0
      have kk := ks.trans k
      obtain ⟨q1, v1, s1⟩ := (hKw.k0 kk).val hW.nodup hmm
      obtain ⟨⟨p', ns⟩, hpn, epn⟩ := List.mem_map.mp (hsub _ hmm)
      have epn : p' = p := epn
      subst epn
      obtain ⟨q2, v2, s2⟩ := (hK.k0 kk).val hO.nodup hpn
      have hdG := kk.oth d _ hd (fun _ z => by cases z)
      have heG := kk.oth e _ he (fun _ z => by cases z)
      have lc := lack_succ (m := m) hO e0 hpn
      have len1 : (lackL kps (wps.take i) m).length ≤ 12 := by
        have h1 := lack_len kps (wps.take i) m
        have h2 := List.length_take_le' i wps
        omega
      refine ⟨rfl, _, rfl, _, rfl, _, rfl, e, .ref q1, rfl, .inl ⟨kvw, .inl p', .inl heG, rfl, v1.symm⟩, q1, _, rfl, .inr s1, rfl, ?_, _, rfl, ?_⟩
      · rw [List.all_map]
        exact List.all_eq_true.mpr fun _ _ => rfl
      · have lcF : ¬ (m ∈ ms ∧ m ∉ ns) → lackL kps (wps.take (i + 1)) m = lackL kps (wps.take i) m := fun z => by rw [lc, if_neg z, List.append_nil]
        have lcT : (m ∈ ms ∧ m ∉ ns) → lackL kps (wps.take (i + 1)) m = lackL kps (wps.take i) m ++ [p'] := fun z => by rw [lc, if_pos z]
        show if (inV (V.int m) (ms.map V.int)) = true then _ else _
        rw [inI]
        by_cases hm : m ∈ ms
        · rw [decide_eq_true hm]
          refine iteT ⟨_, rfl, _, rfl, _, rfl, d, .ref q2, rfl, .inl ⟨kvs, .inl p', .inl hdG, rfl, v2.symm⟩, q2, _, rfl, .inr s2, rfl, ?_, _, rfl, ?_⟩
          · rw [List.all_map]
            exact List.all_eq_true.mpr fun _ _ => rfl
          show if (!inV (V.int m) (ns.map V.int)) = true then _ else _
          rw [inI]
          by_cases hmn : m ∈ ns
          · rw [decide_eq_true hmn]
            exact iteF ⟨k, by rw [lcF fun z => z.2 hmn]; exact hDG⟩
          · rw [decide_eq_false hmn]
            refine iteT ⟨_, rfl, _, hDG, by rw [List.length_map, sizeLine_eq]; omega, k.mut nD, ?_⟩
            rw [upd_same, lcT ⟨hm, hmn⟩, List.map_append]; rfl
        · rw [decide_eq_false hm]
          exact iteF (iteF ⟨k, by rw [lcF fun z => hm z.1]; exact hDG⟩)
    · obtain ⟨k, hDG⟩ := h
      rw [List.length_map, List.length_map, List.take_length] at hDG
      refine ⟨D, _, rfl, .inl (.inl hDG), fun q1 ob nq _ _ => ?_⟩
      exact q q1 _ ((ks.trans k).trans (K0.new nq)) (.inl (.inr ⟨ob, upd_same⟩))
/-- all numbers moved -/
def mvK (b : Int) (kps : KpL) : KpL := kps.map fun p => (p.1, p.2.map (· + b))
def spAMoved (K : PySem.W.Frag) : Sp := fun vs H Q _ => ∃ (d : Addr) (kvs : List (Key × V)) (kps : KpL) (n b : Int), vs = [.ref d, .int b] ∧ H d = some (.dK kvs) ∧ KVs K H kvs kps ∧ KpOk n kps ∧ n ≤ 12 ∧ ∀ (D : Addr) (ls : List (Key × V)) (H' : Hp), K0 H H' → H D = none → H' D = some (.dK ls) → KVs K H' ls (mvK b kps) → Q (.ref D) H'
theorem put_last {ls : List (Key × V)} {k : Key} {v v' : V} (h : k ∉ ls.map (·.1)) : putK (ls ++ [(k, v)]) k v' = ls ++ [(k, v')] := by
  have hany : ((ls ++ [(k, v)]).any fun kv => decide (kv.1 = k)) = true := by
    rw [List.any_append]
    simp
  unfold putK
  rw [if_pos hany, List.map_append]
  congr 1
  · have : ∀ l : List (Key × V), k ∉ l.map (·.1) → l.map (fun kv => if kv.1 = k then (kv.1, v') else kv) = l := by
      intro l
      induction l with
      | nil => intro _; rfl
      | cons a l ih =>
        intro hn
        rw [List.map_cons, ih fun z => hn (List.mem_cons_of_mem _ z), if_neg fun z => hn (by rw [List.map_cons, z]; exact List.mem_cons_self ..)]
    exact this ls h
  · rw [List.map_cons, List.map_nil, if_pos rfl]
theorem KVs.snoc {K : PySem.W.Frag} {H : Hp} {ls : List (Key × V)} {wps : KpL} {p : Int} {ms : List Int} {q : Addr} (h : KVs K H ls wps) (hq : SqT K H q (ms.map V.int)) : KVs K H (ls ++ [(.inl p, .ref q)]) (wps ++ [(p, ms)]) := by
  refine ⟨by rw [List.length_append, List.length_append, h.1]; rfl, fun j p' ms' e => ?_⟩
  by_cases hj : j < wps.length
  · rw [List.getElem?_append_left hj] at e
    obtain ⟨b1, a1, a2⟩ := h.2 j p' ms' e
    exact ⟨b1, by rw [List.getElem?_append_left (by rw [h.1]; exact hj)]; exact a1, a2⟩
  · rw [List.getElem?_append_right (by omega)] at e
    have hj0 : j - wps.length = 0 := by
      cases hh : j - wps.length with
      | zero => rfl
      | succ n => rw [hh] at e; cases e
    rw [hj0] at e
    cases e
    exact ⟨q, by rw [List.getElem?_append_right (by rw [h.1]; omega), h.1, hj0]; rfl, hq⟩
theorem KVs.pre {K : PySem.W.Frag} {H : Hp} {ls : List (Key × V)} {wps : KpL} {a : Key × V} {b : Int × List Int} (h : KVs K H (ls ++ [a]) (wps ++ [b])) (e : ls.length = wps.length) : KVs K H ls wps := ⟨e, fun i p ms hi => by
  have hl := (List.getElem?_eq_some_iff.mp hi).1
  obtain ⟨q, a1, a2⟩ := h.2 i p ms (by rw [List.getElem?_append_left hl]; exact hi)
  exact ⟨q, by rw [List.getElem?_append_left (by omega)] at a1; exact a1, a2⟩⟩
theorem KVs.upd {K : PySem.W.Frag} {H : Hp} {D : Addr} {ls kvs : List (Key × V)} {wps : KpL} {o : HO} (h : KVs K H ls wps) (hD : H D = some (.dK kvs)) : KVs K (upd H D o) ls wps := ⟨h.1, fun i p ms e => by
  obtain ⟨b1, a1, a2⟩ := h.2 i p ms e
  exact ⟨b1, a1, sqT_lock a2 hD⟩⟩
theorem KpOk.snoc {n : Int} {wps : KpL} {p : Int} {ms : List Int} (h : KpOk n wps) (hlt : ∀ q ∈ wps, q.1 < p) (p0 : 0 ≤ p) (p1 : p < n) (up : ms.Pairwise (· < ·)) (nn : ∀ v ∈ ms, 0 ≤ v) (few : ms.length ≤ 10) : KpOk n (wps ++ [(p, ms)]) := by
  refine ⟨?_, fun q hq => ?_, fun q hq => ?_, fun q hq => ?_, fun q hq => ?_⟩
  · rw [List.map_append]
    exact List.pairwise_append.mpr ⟨h.up, List.pairwise_singleton _ _, fun a ha b hb2 => by
      obtain ⟨q, hq, rfl⟩ := List.mem_map.mp ha
      rw [List.mem_singleton.mp hb2]
      exact hlt q hq⟩
  · rcases List.mem_append.mp hq with hq | hq
    · exact h.inn q hq
    · rw [List.mem_singleton.mp hq]; exact ⟨p0, p1⟩
  · rcases List.mem_append.mp hq with hq | hq
    · exact h.up2 q hq
    · rw [List.mem_singleton.mp hq]; exact up
  · rcases List.mem_append.mp hq with hq | hq
    · exact h.nn q hq
    · rw [List.mem_singleton.mp hq]; exact nn
  · rcases List.mem_append.mp hq with hq | hq
    · exact h.few q hq
    · rw [List.mem_singleton.mp hq]; exact few
/-- wants as they are drawn -/
structure WOk (n many : Int) (kps wps : KpL) : Prop where
  ok : KpOk n wps
  sub : ∀ p ∈ wps, p.1 ∈ kps.map (·.1)
  few : wps.length ≤ 4
  bd : ∀ p ∈ wps, ∀ v ∈ p.2, v < many
def spAWants (K : PySem.W.Frag) : Sp := fun vs H Q _ => ∃ (t d : Addr) (kvs : List (Key × V)) (kps : KpL) (n many : Int), vs = [.ref t, .ref d, .int many] ∧ TpA H t ∧ H d = some (.dK kvs) ∧ d ≠ t ∧ KVs K H kvs kps ∧ KpOk n kps ∧ n ≤ 12 ∧ 0 ≤ many ∧ many ≤ 10 ∧
  ∀ (D : Addr) (ls : List (Key × V)) (wps : KpL) (H' : Hp), Kt t H H' → TpA H' t → H D = none → H' D = some (.dK ls) → KVs K H' ls wps → WOk n many kps wps → Q (.ref D) H'
theorem ok_awants {f : Addr} {fd : FuncData} {f_adigit : Addr} {fd_adigit : FuncData} (F : Fun K "_law_awants" "_law_awants" sAWants f fd) (k_adigit : PySem.W.keepIn K (.ref f_adigit) = true) (b_adigit : Binds K fd_adigit ["tape", "many"] []) (g_adigit : mg "_law_adigit" = some (.ref f_adigit)) (G_adigit : FnOk P w K mg base CX0 1 f_adigit fd_adigit ["tape", "many"] (spADigit)) (m_range : mg "range" = none) (m_tuple : mg "tuple" = none) (m_sorted : mg "sorted" = none) (m_len : mg "len" = none) : FnOk P w K mg base CX0 2 f fd ["tape", "kept", "many"] (spAWants K) := by
  refine F.ok scAWants (fun vs H Q E h => ?_) (fun cdv A outer s H vs Q E hr h => ?_)
  · obtain ⟨t, d, kvs, kps, n, many, rfl, _⟩ := h
    rfl
  · obtain ⟨t, d, kvs, kps, n, many, rfl, hT, hd, hdt, hK, hO, hn, m0, m1, q⟩ := h
    have hu := hu_of hr
    refine ⟨_, (pss_cons (ps_set (i := 3) scAWants.nd rfl (.inl rfl) pe_dnewK)
      (pss_cons (ps_for PassesOwn.never rfl (pi_list (pe_callB (call_sortedDI rfl) (by rfl) m_sorted boot_sorted (pa_cons (pv 1) pa_nil))) (pg_name (i := 4) scAWants.nd rfl (.inl rfl))
      (pss_one (ps_if (PW.pt (pw_and (pt_cmpR op_eq (pe_call G_adigit (hr.mono (by decide)) (by rfl) g_adigit k_adigit b_adigit .nil pass0 (pa_cons (pv 0) (pa_cons pe_int pa_nil))) pe_int (nomark _)) (pw_and1 (pt_cmpR op_lt (pe_callB call_lenR (by rfl) m_len PySem.boot_len (pa_cons (pv 3) pa_nil)) pe_int (nomark _))))) (pss_cons (ps_set (i := 5) scAWants.nd rfl (.inl rfl) (pe_call G_adigit (hr.mono (by decide)) (by rfl) g_adigit k_adigit b_adigit .nil pass0 (pa_cons (pv 0) (pa_cons (pe_op op_add (pv 2) pe_int) pa_nil))))
      (pss_cons (ps_dput hu (pv 3) (pv 4) (pe_tupRg rfl (by rfl) m_tuple (prg_2 (by rfl) m_range (pv 5) (pv 2))) rfl)
      (pss_one (ps_if (pt_cmpR op_eq (pe_call G_adigit (hr.mono (by decide)) (by rfl) g_adigit k_adigit b_adigit .nil pass0 (pa_cons (pv 0) (pa_cons pe_int pa_nil))) pe_int (nomark _)) (pss_one (ps_dput hu (pv 3) (pv 4) (pe_callTy call_tuple_fz (by rfl) m_tuple (by decide +kernel) (pa_cons (pe_lc (own := [("number", 6)]) (g := (gName 6)) (tt := (tTest (tOp rEq (tCall (spADigit) [] E0 (tCons (tVar 0) (tCons (tC (.int 2)) tNil))) (tC (.int 0))))) (te := (tVar 6)) rfl scAWants.nd (pi_range1 (by rfl) m_range (pa_cons (pv 2) pa_nil)) (blkOk_by (N := N_scAWants) (sc := defScope sAWants) (by decide +kernel)) (fun _ _ _ _ _ => (pg_name (i := 6) scAWants.nd rfl (.inl rfl))) (fun _ _ _ _ _ => (pts_one (pt_cmpR op_eq (pe_call G_adigit (hr.mono (by decide)) (by rfl) g_adigit k_adigit b_adigit .nil pass0 (pa_cons (pv 0) (pa_cons pe_int pa_nil))) pe_int (nomark _)))) (fun _ _ _ _ _ => (pv 6))) pa_nil)) rfl)) pss_nil)))) pss_nil)))
      (pss_one (ps_ret (pv 3))))), ?_⟩
    have hkl := hO.len hn
    refine fun D nD => ?_
    have k1 := K0.new nD (o := .dK [])
    have hD1 : upd H D (.dK []) D = some (.dK []) := upd_same
    have hDt : D ≠ t := hT.ne nD
    have hT1 := hT.k0 k1
    generalize upd H D (.dK []) = H1 at k1 hD1 hT1 ⊢
    have hd1 := k1.oth d _ hd (fun _ z => by cases z)
    have nDd : D ≠ d := fun z => by rw [z, hd] at nD; cases nD
    refine ⟨_, rfl, d, kvs, kps.map (·.1), rfl, .inl hd1, hK.keysI, by rw [List.length_map]; omega, fun us sp perm up nsp => ?_⟩
    obtain rfl := sorted_keys hO perm up
    have ks := K0.new nsp (o := .lst ((kps.map (·.1)).map V.int))
    have hS : upd H1 sp (.lst ((kps.map (·.1)).map V.int)) sp = some (.lst ((kps.map (·.1)).map V.int)) := upd_same
    have hT2 := hT1.k0 ks
    have hD2 := ks.oth D _ hD1 (fun _ z => by cases z)
    have hst : sp ≠ t := hT1.ne nsp
    generalize upd H1 sp (.lst ((kps.map (·.1)).map V.int)) = H2 at ks hS hT2 hD2 ⊢
    have k2 : K0 H H2 := k1.trans ks
    refine ⟨sp, rfl, ⟨_, .inl (.inl hS)⟩, for_list (K := K) (a := sp) (xs := (kps.map (·.1)).map V.int) (fun i σ' G => ∃ y4 y5 y6 : Option V, σ' = [some (.ref t), some (.ref d), some (.int many), some (.ref D), y4, y5, y6] ∧ Kt t H G ∧ TpA G t ∧ G sp = some (.lst ((kps.map (·.1)).map V.int)) ∧ ∃ ls wps, G D = some (.dK ls) ∧ KVs K G ls wps ∧ WOk n many kps wps ∧ ∀ p ∈ wps, p.1 ∈ (kps.take i).map (·.1))
      ⟨none, none, none, rfl, k2.kt, hT2, hS, [], [], hD2, ⟨rfl, fun i p ms e => by cases e⟩, ⟨⟨.nil, (fun p h => by cases h), (fun p h => by cases h), (fun p h => by cases h), (fun p h => by cases h)⟩, (fun p h => by cases h), Nat.zero_le _, (fun p h => by cases h)⟩, fun p h => by cases h⟩ (fun i σ' G _ h => ?_) (fun i x σ' G hx h => ?_) (fun σ' G h => ?_)⟩
    · obtain ⟨_, _, _, _, _, _, h1, _⟩ := h
      exact .inl (.inl h1)
    · obtain ⟨y4, y5, y6, rfl, kG, hTG, hsG, ls, wps, hDG, hLs, hW, hpre⟩ := h
      rw [List.getElem?_map, List.getElem?_map] at hx
      obtain ⟨p0, hp0, rfl⟩ := Option.map_eq_some_iff.mp hx
      obtain ⟨⟨p, ms0⟩, e0, rfl⟩ := Option.map_eq_some_iff.mp hp0
      have hmm := List.mem_of_getElem? e0
      have hpin := hO.inn _ hmm
      have ltake : kps.take (i + 1) = kps.take i ++ [(p, ms0)] := by rw [List.take_add_one, e0]; rfl
      have hlt : ∀ q ∈ wps, q.1 < p := fun q hq => by
        have h1 := hpre q hq
        have h2 := hO.up
        rw [← List.take_append_drop (i + 1) kps, ltake, List.map_append, List.map_append] at h2
        exact (List.pairwise_append.mp (List.pairwise_append.mp h2).1).2.2 _ h1 _ (List.mem_singleton.mpr rfl)
      have stay : ∀ {G'}, Kt t H G' → TpA G' t → G' sp = some (.lst ((kps.map (·.1)).map V.int)) → ∀ {ls' : List (Key × V)} {wps' : KpL}, G' D = some (.dK ls') → KVs K G' ls' wps' → WOk n many kps wps' → (∀ q ∈ wps', q.1 ∈ (kps.take i).map (·.1) ∨ q.1 = p) → ∀ y4 y5 y6 : Option V, ∃ z4 z5 z6 : Option V, [some (.ref t), some (.ref d), some (.int many), some (.ref D), y4, y5, y6] = [some (.ref t), some (.ref d), some (.int many), some (.ref D), z4, z5, z6] ∧ Kt t H G' ∧ TpA G' t ∧ G' sp = some (.lst ((kps.map (·.1)).map V.int)) ∧ ∃ ls wps, G' D = some (.dK ls) ∧ KVs K G' ls wps ∧ WOk n many kps wps ∧ ∀ p ∈ wps, p.1 ∈ (kps.take (i + 1)).map (·.1) := fun {G'} a1 a2 a3 {ls' wps'} a4 a5 a6 a7 y4 y5 y6 =>
        ⟨y4, y5, y6, rfl, a1, a2, a3, ls', wps', a4, a5, a6, fun q hq => by
          rw [ltake, List.map_append]
          rcases a7 q hq with h | h
          · exact List.mem_append_left _ h
          · exact List.mem_append_right _ (by rw [h]; exact List.mem_singleton.mpr rfl)⟩
      refine ⟨_, rfl, t, 2, rfl, hTG, by omega, by omega, fun d2 G3 a0 a1 k3 T3 => ?_⟩
      have kG3 := kG.trans k3
      have hs3 := k3.oth sp _ hsG hst (fun _ z => by cases z)
      have hD3 := k3.oth D _ hDG hDt (fun _ z => by cases z)
      have hL3 := hLs.kt k3
      have sk : ∀ q ∈ wps, q.1 ∈ (kps.take i).map (·.1) ∨ q.1 = p := fun q hq => .inl (hpre q hq)
      refine ⟨rfl, _, rfl, ite2 (fun _ => ?_) (fun _ => iteF (stay kG3 T3 hs3 hD3 hL3 hW sk _ _ _))⟩
      refine ⟨_, rfl, D, ls, rfl, .inl hD3, _, _, rfl, rfl, _, rfl, ite2 (fun h4 => ?_) (fun _ => stay kG3 T3 hs3 hD3 hL3 hW sk _ _ _)⟩
      have h4 : ls.length < 4 := by
        have := of_decide_eq_true h4
        omega
      refine ⟨_, rfl, _, rfl, _, _, rfl, rfl, t, many + 1, rfl, T3, by omega, by omega, fun d5 H5 b0 b1 k5 T5 => ?_⟩
      have kG5 := kG3.trans k5
      have hs5 := k5.oth sp _ hs3 hst (fun _ z => by cases z)
      have hD5 := k5.oth D _ hD3 hDt (fun _ z => by cases z)
      have hL5 := hL3.kt k5
      refine ⟨_, rfl, _, rfl, d5, many, rfl, rfl, RgOk.of_le (by omega) (by omega) (by omega) (by omega), fun q1 nq1 => ?_⟩
      have kq := K0.new nq1 (o := .tup (rgV d5 many))
      have erg : rgV d5 many = (((List.range (many - d5).toNat).map fun i : Nat => d5 + (i : Int)) : List Int).map V.int := by
        unfold rgV
        rw [List.map_map]
        rfl
      have hq1 : SqT K (upd H5 q1 (.tup (rgV d5 many))) q1 ((((List.range (many - d5).toNat).map fun i : Nat => d5 + (i : Int)) : List Int).map V.int) := .inl (.inl (by rw [upd_same, erg]))
      have T6 := T5.k0 kq
      generalize upd H5 q1 (.tup (rgV d5 many)) = H6 at kq hq1 T6 ⊢
      have hD6 := kq.oth D _ hD5 (fun _ z => by cases z)
      have hs6 := kq.oth sp _ hs5 (fun _ z => by cases z)
      have hL6 := hL5.k0 kq
      have kG6 := kG5.trans kq.kt
      have nin : (Sum.inl p : Key) ∉ ls.map (·.1) := by
        rw [hLs.keysI]
        intro hin
        obtain ⟨u, hu1, hu2⟩ := List.mem_map.mp hin
        cases hu2
        obtain ⟨q2, hq2, rfl⟩ := List.mem_map.mp hu1
        have := hlt q2 hq2
        omega
      refine ⟨_, rfl, _, rfl, D, _, rfl, DPut.k (k := Sum.inl p) hD6 (by rw [sizeLine_eq]; omega), ?_⟩
      have wok : ∀ {l : List Int}, l.Pairwise (· < ·) → (∀ v ∈ l, 0 ≤ v ∧ v < many) → l.length ≤ 10 → WOk n many kps (wps ++ [(p, l)]) := fun {l} u1 u2 u3 => by
        refine ⟨hW.ok.snoc hlt hpin.1 hpin.2 u1 (fun v hv => (u2 v hv).1) u3, fun q hq => ?_, ?_, fun q hq v hv => ?_⟩
        · rcases List.mem_append.mp hq with hq | hq
          · exact hW.sub q hq
          · rw [List.mem_singleton.mp hq]; exact List.mem_map.mpr ⟨_, hmm, rfl⟩
        · rw [List.length_append, ← hLs.1]; show ls.length + 1 ≤ 4; omega
        · rcases List.mem_append.mp hq with hq | hq
          · exact hW.bd q hq v hv
          · rw [List.mem_singleton.mp hq] at hv; exact (u2 v hv).2
      have sk2 : ∀ {l : List Int}, ∀ q ∈ wps ++ [(p, l)], q.1 ∈ (kps.take i).map (·.1) ∨ q.1 = p := fun {l} q hq => by
        rcases List.mem_append.mp hq with hq | hq
        · exact sk q hq
        · rw [List.mem_singleton.mp hq]; exact .inr rfl
      have hD7 : upd H6 D (.dK (putK ls (.inl p) (.ref q1))) D = some (.dK (ls ++ [(.inl p, .ref q1)])) := by rw [upd_same, put_new nin]
      have hL7 : KVs K (upd H6 D (.dK (putK ls (.inl p) (.ref q1)))) (ls ++ [(.inl p, .ref q1)]) (wps ++ [(p, (List.range (many - d5).toNat).map fun i : Nat => d5 + (i : Int))]) := (hL6.snoc hq1).upd hD6
      have kG7 : Kt t H (upd H6 D (.dK (putK ls (.inl p) (.ref q1)))) := kG6.mut nD
      have T7 : TpA (upd H6 D (.dK (putK ls (.inl p) (.ref q1)))) t := T6.mut hDt
      have nsD : sp ≠ D := fun z => by rw [z, hD6] at hs6; cases hs6
      have hs7 : (upd H6 D (.dK (putK ls (.inl p) (.ref q1)))) sp = some (.lst ((kps.map (·.1)).map V.int)) := by rw [upd_ne nsD]; exact hs6
      have W7 : WOk n many kps (wps ++ [(p, (List.range (many - d5).toNat).map fun i : Nat => d5 + (i : Int))]) := by
        refine wok ?_ (fun v hv => ?_) (by rw [List.length_map, List.length_range]; omega)
        · exact List.pairwise_map.mpr (List.pairwise_lt_range.imp fun a => by omega)
        · obtain ⟨u, hu1, rfl⟩ := List.mem_map.mp hv
          have := List.mem_range.mp hu1
          omega
      generalize upd H6 D (.dK (putK ls (.inl p) (.ref q1))) = H7 at hD7 hL7 kG7 T7 hs7 ⊢
      refine ⟨_, rfl, t, 3, rfl, T7, by omega, by omega, fun d8 H8 c0 c1 k8 T8 => ⟨rfl, _, rfl, ?_⟩⟩
      have kG8 := kG7.trans k8
      have hs8 := k8.oth sp _ hs7 hst (fun _ z => by cases z)
      have hD8 := k8.oth D _ hD7 hDt (fun _ z => by cases z)
      have hL8 := hL7.kt k8
      refine ite2 (fun _ => ?_) (fun _ => stay kG8 T8 hs8 hD8 hL8 W7 sk2 _ _ _)
      refine ⟨_, rfl, many, rfl, by omega, by omega, fun E9 nE9 => ?_⟩
      have hEt : E9 ≠ t := T8.ne nE9
      refine lc_range (lo := 0) (n := many.toNat) (fun j H4 => Kt t H8 H4 ∧ TpA H4 t ∧ ∃ l : List Int, H4 E9 = some (.lst (l.map V.int)) ∧ l.Pairwise (· < ·) ∧ (∀ v ∈ l, 0 ≤ v ∧ v < (j : Int)) ∧ l.length ≤ j) ⟨(K0.new nE9).kt, T8.k0 (K0.new nE9), [], upd_same, List.Pairwise.nil, (fun v hv => (by cases hv)), Nat.le_refl _⟩ (fun j H4 hj h => ?_) (fun H4 h => ?_)
      · obtain ⟨k4, T4, l, hl, hup, hb, hlen⟩ := h
        have hj10 : j < 10 := by omega
        refine ⟨rfl, _, rfl, t, 2, rfl, T4, by omega, by omega, fun d3 Hx b0 b1 kx Tx => ⟨rfl, _, rfl, ?_⟩⟩
        have hl5 := kx.oth E9 _ hl hEt (fun _ z => by cases z)
        refine ite2 (fun _ => ?_) (fun _ => ⟨k4.trans kx, Tx, l, hl5, hup, fun v hv => by have := hb v hv; omega, by omega⟩)
        refine ⟨_, rfl, _, hl5, ?_, (k4.trans kx).mut nE9, Tx.mut hEt, l ++ [(j : Int)], ?_, ?_, ?_, ?_⟩
        · rw [List.length_map, sizeLine_eq]; omega
        · rw [upd_same, List.map_append, Int.zero_add]; rfl
        · exact List.pairwise_append.mpr ⟨hup, List.pairwise_singleton _ _, fun a ha b hb2 => by
            rw [List.mem_singleton.mp hb2]
            exact (hb a ha).2⟩
        · intro v hv
          rcases List.mem_append.mp hv with hv | hv
          · have := hb v hv; omega
          · rw [List.mem_singleton.mp hv]; omega
        · rw [List.length_append]; show l.length + 1 ≤ j + 1; omega
      · obtain ⟨k4, T4, l, hl, hup, hb, hlen⟩ := h
        refine ⟨E9, _, rfl, .inl (.inl hl), fun q2 ob nq _ _ => ?_⟩
        have kq2 := K0.new nq (o := .frz ob (.tup (l.map V.int)))
        have hq2 : SqT K (upd H4 q2 (.frz ob (.tup (l.map V.int)))) q2 (l.map V.int) := .inl (.inr ⟨ob, upd_same⟩)
        have T9 := T4.k0 kq2
        generalize upd H4 q2 (.frz ob (.tup (l.map V.int))) = H9 at kq2 hq2 T9 ⊢
        have k9 := k4.trans kq2.kt
        have hs9 := k9.oth sp _ hs8 hst (fun _ z => by cases z)
        have hD9 := k9.oth D _ hD8 hDt (fun _ z => by cases z)
        have hL9 := hL8.kt k9
        refine ⟨_, rfl, _, rfl, D, _, rfl, DPut.k (k := Sum.inl p) hD9 (by rw [List.length_append, sizeLine_eq]; show ls.length + 1 < _; omega), ?_⟩
        have kG9 := kG8.trans k9
        have hP9 := (hL9.pre hLs.1).snoc (p := p) hq2
        refine stay (kG9.mut nD) (T9.mut hDt) (by rw [upd_ne nsD]; exact hs9) (by rw [upd_same, put_last nin]) (hP9.upd hD9) (wok hup (fun v hv => by have := hb v hv; omega) (by omega)) sk2 _ _ _
    · obtain ⟨y4, y5, y6, rfl, kG, hTG, hsG, ls, wps, hDG, hLs, hW, _⟩ := h
      exact ⟨_, rfl, q D ls wps G kG hTG nD hDG hLs hW⟩
end
end HK

set_option Elab.async false
set_option linter.all false
set_option maxRecDepth 100000
set_option maxHeartbeats 2000000
/-! xs != ys of two lists whose items are equal, dicts among them -/
namespace PySem.SeqAt
open AutoSeq1 (wpAny_loadPart')
open MeetsSeq MeetsSeq2 MeetsSeq3 SeqRoads2
section
variable {prog : Program} {w : World}
theorem hk_neLoop (l b : Addr) (us ws : Array Value) (n n2 : Nat) (dd dd2 : Option Addr) (sl sl2 : Array (Option Value)) (hsz : us.size = ws.size) : ∀ k i : Nat, us.size - i = k →
    MeetsIn prog w (Builtin.«list.__eq__.loop» ⟨[.ref l, .ref b, rawInt i, rawInt 3], []⟩) (fun A R s => (s.heap.get? l = some { cls := .type "list", dict := dd, data := .seq us n, slots := sl }) ∧
      (s.heap.get? b = some { cls := .type "list", dict := dd2, data := .seq ws n2, slots := sl2 }) ∧ (∀ j (h1 : j < us.size) (h2 : j < ws.size), EqP prog w A.in1 s us[j] ws[j] true) ∧ R (.ok (.ret (.bool false))) s) := by
  intro k
  induction k with
  | zero =>
    intro i hk A R ⟨hp, g, d, tk, os⟩ ⟨hl, hb, he, h⟩
    wp_walk using wpAny_loadPart' hl, wpAny_loadPart' hb
    rw [show us[((i : Nat) : Int).toNat]? = none by simp; omega, show ws[((i : Nat) : Int).toNat]? = none by simp; omega]
    wp_walk using wpAny_loadPart' hl, wpAny_loadPart' hb
    show R (.ok (.ret (.bool (us.size != ws.size)))) _
    rw [hsz]
    simpa using h
  | succ k ih =>
    intro i hk A R ⟨hp, g, d, tk, os⟩ ⟨hl, hb, he, h⟩
    wp_walk using wpAny_loadPart' hl, wpAny_loadPart' hb
    have l1 : i < us.size := by omega
    have l2 : i < ws.size := by omega
    rw [show us[((i : Nat) : Int).toNat]? = some us[i] by simp [l1], show ws[((i : Nat) : Int).toNat]? = some ws[i] by simp [l2]]
    refine wpAny_bind (he i l1 l2 _ _ ?_)
    wp_walk
    rw [show ((i : Int) + 1) = ((i + 1 : Nat) : Int) by push_cast; rfl]
    refine ⟨plainId_quiet plain_eq_loop _, codeAny_builtin entry_eq_loop ?_⟩
    rw [Around.under_plainId plain_eq_loop _]
    exact ih (i + 1) (by omega) A R _ ⟨hl, hb, he, h⟩
theorem hk_neLists (l b : Addr) (us ws : Array Value) (n n2 : Nat) (dd dd2 : Option Addr) (sl sl2 : Array (Option Value)) (hsz : us.size = ws.size) :
    MeetsIn prog w (Builtin.«list.__ne__» ⟨[.ref l, .ref b], []⟩) (fun A R s => (s.heap.get? l = some { cls := .type "list", dict := dd, data := .seq us n, slots := sl }) ∧
      (s.heap.get? b = some { cls := .type "list", dict := dd2, data := .seq ws n2, slots := sl2 }) ∧ (∀ j (h1 : j < us.size) (h2 : j < ws.size), EqP prog w A.in1 s us[j] ws[j] true) ∧ R (.ok (.ret (.bool false))) s) := by
  intro A R ⟨hp, g, d, tk, os⟩ ⟨hl, hb, he, h⟩
  have f3 := AutoSeq1.sub_list_list
  have hne : ¬ (us.size != ws.size) = true := by simp [hsz]
  wp_walk using wpAny_loadPart' hl, wpAny_loadPart' hb
  refine ⟨plainId_quiet plain_eq_loop _, codeAny_builtin entry_eq_loop ?_⟩
  rw [Around.under_plainId plain_eq_loop _]
  exact hk_neLoop l b us ws n n2 dd dd2 sl sl2 hsz _ 0 rfl A R _ ⟨hl, hb, he, h⟩
end
end PySem.SeqAt
namespace HkL
open PySem PySem.Spec PyProof.Rows L2
section
variable {X : Cx}
/-- two lists of equal items -/
def rNeL (K : PySem.W.Frag) : R2 := fun x y H Q => ∃ (n : Nat) (a b : Addr) (xs ys : List V), n ≤ 50 ∧ x = .ref a ∧ y = .ref b ∧ SqL K H a xs ∧ SqL K H b ys ∧ Paired (EqV K H n) xs ys ∧ Q (.bl false) H
theorem op_neL (hu : X.A.units + 64 < cLine) : OpR X (compareOp .NotEq) (rNeL X.K) := by
  intro pins s σ H x y v u Q I rx ry h
  obtain ⟨n, a, b, xs, ys, hn, rfl, rfl, ha, hb, hp, q⟩ := h
  cases (show v = Value.ref a from rx)
  cases (show u = Value.ref b from ry)
  obtain ⟨us, r1, p1, _⟩ := I.list ha
  obtain ⟨ws, r2, p2, _⟩ := I.list hb
  obtain ⟨⟨cls, dd, data, sl⟩, ho, hc, m, hd⟩ := id p1.isList
  obtain ⟨⟨cls2, dd2, data2, sl2⟩, ho2, hc2, m2, hd2⟩ := id p2.isList
  simp only at hc hd hc2 hd2
  subst hc hd hc2 hd2
  have hsz : us.toArray.size = ws.toArray.size := by
    rw [List.size_toArray, List.size_toArray, ← r1.length, ← r2.length]
    exact Paired.length hp
  have ta : s.TypeIs (.ref a) "list" := ⟨_, ho, rfl⟩
  have tb : s.TypeIs (.ref b) "list" := ⟨_, ho2, rfl⟩
  refine wpAny_richCompare_same_room (op := .NotEq) ta tb F.slot_list_ne (call_meetsIn F.slot_list_ne ta F.entry_list_ne (F.args_list_ne_2 _ _) (SeqAt.hk_neLists a b us.toArray ws.toArray m m2 dd dd2 sl sl2 hsz)
    ⟨ho, ho2, fun j h1 h2 => ?_, show Value.bool false ≠ Value.notImplemented ∧ EP X pins σ Q (.bool false) s from ⟨(fun x => nomatch x), ⟨.bl false, H, I, rfl, q⟩⟩⟩) (by omega)
  have k := items_run (eqV_run I n X.A.in1 (by show X.A.units + 1 + n < cLine; omega)) hp r1 r2 j (by simpa using h1) (by simpa using h2)
  simpa using k
end
end HkL

set_option Elab.async false
set_option linter.all false
set_option maxRecDepth 100000
set_option maxHeartbeats 4000000
namespace HK
open PySem PySem.Spec PyProof.Rows L2 GAl GxR HkN
/-! what laws over mend have alike: numbers moved, copies compared, the lists that are handed in -/
theorem K0.withTm {L : Addr} {H H1 H' : Hp} (k1 : K0 H H1) (nL : H L = none) (kl : Kt L H1 H') : K0 H H' := ⟨fun b o e m => kl.oth b o (k1.oth b o e m) (ne_of_none e nL) m, fun P hP => kl.tab P (k1.tab P hP), fun b e => k1.dom b (kl.dom b e)⟩
theorem mvK_keys (b : Int) (kps : KpL) : (mvK b kps).map (·.1) = kps.map (·.1) := by
  unfold mvK
  rw [List.map_map]
  rfl
theorem mvK_len (b : Int) (kps : KpL) : (mvK b kps).length = kps.length := List.length_map _
theorem mvK_mem {b : Int} {kps : KpL} {p : Int × List Int} (h : p ∈ mvK b kps) : ∃ q ∈ kps, p = (q.1, q.2.map (· + b)) := by
  obtain ⟨q, hq, e⟩ := List.mem_map.mp h
  exact ⟨q, hq, e.symm⟩
theorem KpOk.mv {n b : Int} {kps : KpL} (h : KpOk n kps) (hb : 0 ≤ b) : KpOk n (mvK b kps) := by
  refine ⟨by rw [mvK_keys]; exact h.up, fun p hp => ?_, fun p hp => ?_, fun p hp v hv => ?_, fun p hp => ?_⟩
  all_goals obtain ⟨q, hq, rfl⟩ := mvK_mem hp
  · exact h.inn q hq
  · exact List.pairwise_map.mpr ((h.up2 q hq).imp fun {x y} z => by show x + b < y + b; omega)
  · obtain ⟨u, hu, e⟩ := List.mem_map.mp hv
    have := h.nn q hq u hu
    have e : u + b = v := e
    omega
  · rw [List.length_map]
    exact h.few q hq
/-- the numbers from b on -/
def fromN (b : Int) (n : Nat) : List Int := (List.range n).map fun i => b + (i : Nat)
theorem fromN_mem {b : Int} {n : Nat} {v : Int} : v ∈ fromN b n ↔ b ≤ v ∧ v < b + n := by
  unfold fromN
  constructor
  · intro h
    obtain ⟨i, hi, e⟩ := List.mem_map.mp h
    have := List.mem_range.mp hi
    have e : b + (i : Nat) = v := e
    omega
  · intro ⟨h1, h2⟩
    exact List.mem_map.mpr ⟨(v - b).toNat, List.mem_range.mpr (by omega), by show b + ((v - b).toNat : Nat) = v; omega⟩
theorem fromN_up (b : Int) (n : Nat) : (fromN b n).Pairwise (· < ·) := by
  unfold fromN
  refine List.pairwise_map.mpr (List.pairwise_lt_range.imp fun {x y} h => ?_)
  show b + (x : Int) < b + (y : Int)
  omega
theorem fromN_len (b : Int) (n : Nat) : (fromN b n).length = n := by
  unfold fromN
  rw [List.length_map, List.length_range]
theorem fromN_rg (a b : Int) : rgV a b = (fromN a (b - a).toNat).map V.int := by
  unfold rgV fromN
  rw [List.map_map]
  rfl
theorem mvK_in {b : Int} {many : Int} {n : Int} {kps : KpL} (h : KpOk n kps) (hb : ∀ p ∈ kps, ∀ v ∈ p.2, v < many) : ∀ p ∈ mvK b kps, ∀ v ∈ p.2, v ∈ fromN b many.toNat := fun p hp v hv => by
  obtain ⟨q, hq, rfl⟩ := mvK_mem hp
  obtain ⟨u, hu, e⟩ := List.mem_map.mp hv
  have e : u + b = v := e
  have h1 := h.nn q hq u hu
  have h2 := hb q hq u hu
  exact fromN_mem.mpr (by omega)
theorem WOk.mv {n many b : Int} {kps wps : KpL} (h : WOk n many kps wps) (hb : 0 ≤ b) : KpOk n (mvK b wps) ∧ (∀ p ∈ mvK b wps, p.1 ∈ (mvK b kps).map (·.1)) ∧ (mvK b wps).length ≤ 6 ∧ ∀ p ∈ mvK b wps, ∀ v ∈ p.2, v ∈ fromN b many.toNat := by
  refine ⟨h.ok.mv hb, fun p hp => ?_, by rw [mvK_len]; have := h.few; omega, mvK_in h.ok h.bd⟩
  obtain ⟨q, hq, rfl⟩ := mvK_mem hp
  rw [mvK_keys]
  exact h.sub q hq
/-- [dict(kept), dict(wants)] against [kept, wants] -/
theorem eq_two {K : PySem.W.Frag} {H : Hp} {kd wd d e : Addr} {kvs kvw : List (Key × V)} {kps wps : KpL} (hK : KVs K H kvs kps) (hW : KVs K H kvw wps) (nd : (kps.map (·.1)).Nodup) (nw : (wps.map (·.1)).Nodup) (h1 : H kd = some (.dK kvs)) (h2 : H d = some (.dK kvs)) (h3 : H wd = some (.dK kvw)) (h4 : H e = some (.dK kvw)) :
    Paired (EqV K H 3) [.ref kd, .ref wd] [.ref d, .ref e] := by
  have one : ∀ {kd d : Addr} {kvs : List (Key × V)} {kps : KpL}, KVs K H kvs kps → (kps.map (·.1)).Nodup → H kd = some (.dK kvs) → H d = some (.dK kvs) → EqV K H 3 (.ref kd) (.ref d) := fun {kd d kvs kps} hK nd h1 h2 => by
    refine .inr (.inr (.inr ⟨kd, d, kvs, kvs, rfl, rfl, h1, h2, rfl, fun p hp => ⟨p.2, valV_mem (hK.nd nd) hp, ?_⟩⟩))
    obtain ⟨i, hi, e⟩ := List.mem_iff_getElem.mp hp
    obtain ⟨_, _, q, _, e2, _⟩ := hK.at_ (List.getElem?_eq_getElem hi)
    rw [e] at e2
    exact .inr (.inl ⟨q, by rw [e2], by rw [e2]⟩)
  exact .cons (one hK nd h1 h2) (.cons (one hW nw h3 h4) .nil)
theorem pick3 {d : Int} (h0 : 0 ≤ d) (h1 : d < 3) : ∃ y : Int, atI [V.int 0, .int 0, .int (10 ^ (18 : Int).toNat)] d = some (.int y) ∧ 0 ≤ y ∧ y ≤ 1000000000000000000 := by
  have e : (10 : Int) ^ (18 : Int).toNat = 1000000000000000000 := by decide
  rw [e]
  obtain ⟨k, rfl⟩ := Int.eq_ofNat_of_zero_le h0
  match k, h1 with
  | 0, _ => exact ⟨0, atI_nat rfl, by decide, by decide⟩
  | 1, _ => exact ⟨0, atI_nat rfl, by decide, by decide⟩
  | 2, _ => exact ⟨1000000000000000000, atI_nat rfl, by decide, by decide⟩
  | k + 3, h => exact absurd h (by omega)
/-- net, kept and wants as they stand behind the tape's turns -/
structure KW (K : PySem.W.Frag) (H1 H' : Hp) (t na d e : Addr) (n : Int) (rs : List R4) (kvs kvw : List (Key × V)) (kps wps : KpL) : Prop where
  kt : Kt t H1 H'
  tp : TpA H' t
  net : NetAt K H' na n rs
  hd : H' d = some (.dK kvs)
  kv : KVs K H' kvs kps
  he : H' e = some (.dK kvw)
  kw : KVs K H' kvw wps
theorem KW.k0 {K : PySem.W.Frag} {H1 H' H2 : Hp} {t na d e : Addr} {n : Int} {rs : List R4} {kvs kvw : List (Key × V)} {kps wps : KpL} (h : KW K H1 H' t na d e n rs kvs kvw kps wps) (k : K0 H' H2) : KW K H1 H2 t na d e n rs kvs kvw kps wps :=
  ⟨h.kt.trans k.kt, h.tp.k0 k, h.net.k0 k, k.oth d _ h.hd (fun _ z => by cases z), h.kv.k0 k, k.oth e _ h.he (fun _ z => by cases z), h.kw.k0 k⟩
theorem tp_ne {H : Hp} {t d : Addr} {kvs : List (Key × V)} (T : TpA H t) (h : H d = some (.dK kvs)) : d ≠ t := fun z => by
  obtain ⟨v, e⟩ := T
  rw [← z, h] at e
  cases e
theorem KW.ktt {K : PySem.W.Frag} {H1 H' H2 : Hp} {t na d e : Addr} {n : Int} {rs : List R4} {kvs kvw : List (Key × V)} {kps wps : KpL} (h : KW K H1 H' t na d e n rs kvs kvw kps wps) (k : Kt t H' H2) (T : TpA H2 t) : KW K H1 H2 t na d e n rs kvs kvw kps wps :=
  ⟨h.kt.trans k, T, h.net.kt k, k.oth d _ h.hd (tp_ne h.tp h.hd) (fun _ z => by cases z), h.kv.kt k, k.oth e _ h.he (tp_ne h.tp h.he) (fun _ z => by cases z), h.kw.kt k⟩
theorem few_nm {xs : List V} (h : xs.length ≤ 1000) : xs.length ≤ sizeLine := by
  rw [sizeLine_eq]
  omega
end HK

set_option Elab.async false
set_option linter.all false
set_option maxRecDepth 100000
set_option maxHeartbeats 4000000
namespace HK
open PySem PySem.Spec PyProof.Rows L2 GAl GxR HkN
/-! ### lists of truths; lists of dicts -/
theorem inBls (bs : List Bool) : (bs.map V.bl).all flatV = true ∧ inV (.bl false) (bs.map V.bl) = decide (false ∈ bs) := by
  constructor
  · rw [List.all_map, List.all_eq_true]
    exact fun _ _ => rfl
  · rw [Bool.eq_iff_iff, decide_eq_true_iff]
    unfold inV
    rw [List.any_map, List.any_eq_true]
    constructor
    · rintro ⟨b, hb, e⟩
      cases b with
      | false => exact hb
      | true => exact absurd (show eqV (V.bl true) (V.bl false) = true from e) (by decide)
    · exact fun h => ⟨false, h, by decide⟩
def RowsAt (G : Hp) (bs : List Addr) (gs : List IF) : Prop := bs.length = gs.length ∧ ∀ (j : Nat) (b : Addr) (g : IF), bs[j]? = some b → gs[j]? = some g → ∃ ls, G b = some (.dK ls) ∧ DI ls g
theorem RowsAt.mono {G G' : Hp} {bs : List Addr} {gs : List IF} (h : RowsAt G bs gs) (k : ∀ b ls, G b = some (.dK ls) → G' b = some (.dK ls)) : RowsAt G' bs gs := ⟨h.1, fun j b g e1 e2 => by
  obtain ⟨ls, h1, h2⟩ := h.2 j b g e1 e2
  exact ⟨ls, k b ls h1, h2⟩⟩
theorem RowsAt.k0 {G G' : Hp} {bs : List Addr} {gs : List IF} (h : RowsAt G bs gs) (k : K0 G G') : RowsAt G' bs gs := h.mono fun b ls e => k.oth b _ e fun _ z => by cases z
theorem RowsAt.snoc {G : Hp} {bs : List Addr} {gs : List IF} (h : RowsAt G bs gs) {b : Addr} {g : IF} {ls : List (Key × V)} (hb : G b = some (.dK ls)) (hD : DI ls g) : RowsAt G (bs ++ [b]) (gs ++ [g]) := by
  refine ⟨by rw [List.length_append, List.length_append, h.1]; rfl, fun j b' g' e1 e2 => ?_⟩
  by_cases hj : j < bs.length
  · rw [List.getElem?_append_left hj] at e1
    rw [List.getElem?_append_left (by have := h.1; omega)] at e2
    exact h.2 j b' g' e1 e2
  · rw [List.getElem?_append_right (by omega)] at e1
    rw [List.getElem?_append_right (by have := h.1; omega), ← h.1] at e2
    cases e : j - bs.length with
    | zero =>
      rw [e] at e1 e2
      cases e1; cases e2
      exact ⟨ls, hb, hD⟩
    | succ i => rw [e] at e1; cases e1
def GoodG (nn : Nat) (rs : List R4) (root : Int) (g : IF) : Prop := g root = none ∧ ∀ v x, g v = some x → (0 ≤ v ∧ v < nn) ∧ ∃ r ∈ rs, r.s = x ∧ r.e = v
def trn (p : Nat) (g : IF) : IF := fun v => if v < p then g v else none
def RngG (p : Nat) (gs : List IF) : Prop := ∀ g ∈ gs, ∀ v x, g v = some x → 0 ≤ v ∧ v < (p : Int)
theorem trn_succ {p : Nat} {g : IF} : trn (p + 1) g = match g p with
  | none => trn p g
  | some x => put (trn p g) p x := by
  funext v
  cases e : g p with
  | none =>
    show (if v < ((p + 1 : Nat) : Int) then g v else none) = if v < (p : Int) then g v else none
    by_cases h : v < (p : Int)
    · rw [if_pos h, if_pos (by omega)]
    · by_cases h2 : v = p
      · rw [h2, if_pos (by omega), e, if_neg (by omega)]
      · rw [if_neg (by omega), if_neg h]
  | some x =>
    show (if v < ((p + 1 : Nat) : Int) then g v else none) = put (trn p g) p x v
    by_cases h2 : v = p
    · rw [h2, put_same, if_pos (by omega), e]
    · rw [put_ne h2]
      show _ = if v < (p : Int) then g v else none
      by_cases h : v < (p : Int)
      · rw [if_pos h, if_pos (by omega)]
      · rw [if_neg (by omega), if_neg h]
theorem few_roads {n : Int} {rs : List R4} (hg : Good n rs) (h4 : n ≤ 4) : rs.length ≤ 16 := by
  have h := sub_lenG (l := rs.map fun r => (r.s, r.e)) (ks := (List.range 4).flatMap fun (i : Nat) => (List.range 4).map fun (j : Nat) => ((i : Int), (j : Int))) (List.pairwise_map.mpr (hg.up.imp fun {a b} hl z => by
    have := Prod.ext_iff.mp z
    have h1 : a.s = b.s := this.1
    have h2 : a.e = b.e := this.2
    rcases hl with h | h <;> omega)) fun x hx => by
    obtain ⟨r, hr, rfl⟩ := List.mem_map.mp hx
    have ok := hg.ok r hr
    have := ok.s0
    have := ok.s1
    have := ok.e0
    have := ok.e1
    refine List.mem_flatMap.mpr ⟨r.s.toNat, List.mem_range.mpr (by omega), List.mem_map.mpr ⟨r.e.toNat, List.mem_range.mpr (by omega), ?_⟩⟩
    exact Prod.ext (by show ((r.s.toNat : Nat) : Int) = r.s; omega) (by show ((r.e.toNat : Nat) : Int) = r.e; omega)
  rw [List.length_map] at h
  exact h
end HK

set_option Elab.async false
set_option linter.all false
set_option maxRecDepth 100000
set_option maxHeartbeats 8000000
namespace HK
open PySem PySem.Spec PyProof.Rows L2 GAl GxR HkN
open Evl (pss_cut)
/-! ### what is reached, by the law's own look -/
section
variable {P : Program} {w : World} {K : PySem.W.Frag} {mg : Str → Option Value} {base : Heap}
def spAReached (K : PySem.W.Frag) : Sp := fun vs H Q _ => ∃ (a : Addr) (nn : Nat) (rs : List R4) (root : Int) (p : Addr), vs = [.ref a, .ref p] ∧ NetAt K H a nn rs ∧ Good nn rs ∧ 0 ≤ root ∧ root < nn ∧ H p = some (.lst [.int root]) ∧
  ∀ (l : Addr) (ns : List Int) (H' : Hp), K0 H H' → H l = none → H' l = some (.lst (ns.map V.int)) → ns.length ≤ 12 → (∀ v, v ∈ ns ↔ (due nn rs root v).isSome = true) → Q (.ref l) H'
end
end HK

set_option Elab.async false
set_option linter.all false
set_option maxRecDepth 100000
set_option maxHeartbeats 2000000
/-! x in xs, x not in xs: data in a list of data -/
namespace HkI
open PySem PySem.Spec PyProof.Rows L2
section
variable {X : Cx}
def rInD (neg : Bool) (K : PySem.W.Frag) : R2 := fun x y H Q => ∃ (d : PyData) (es : List PyData), Dp K H x d ∧ Dp K H y (.list es) ∧ d.canLay0 = true ∧ PyData.canLayAll0 es = true ∧ d.depth ≤ 60 ∧ Q (.bl (neg != es.any fun y => y.eqv d)) H
theorem op_notInD (hu : X.A.units + 64 < cLine) : OpR X (compareOp .NotIn) (rInD true X.K) := by
  intro pins s σ H x y v u Q I rx ry h
  obtain ⟨d, es, hx, hy, l1, l2, hd, q⟩ := h
  obtain ⟨as, ra⟩ := Dp.reads I d x v hx rx
  obtain ⟨bs, rb⟩ := Dp.reads I _ y u hy ry
  refine SeqAt.notIn_list_reads rb ra l2 l1 (by have := Nat.min_le_right (PyData.depthAll es) d.depth; omega) ⟨.bl _, H, I, rfl, ?_⟩
  rw [Bool.true_bne] at q
  exact q
theorem op_inD (hu : X.A.units + 64 < cLine) : OpR X (compareOp .In) (rInD false X.K) := by
  intro pins s σ H x y v u Q I rx ry h
  obtain ⟨d, es, hx, hy, l1, l2, hd, q⟩ := h
  obtain ⟨as, ra⟩ := Dp.reads I d x v hx rx
  obtain ⟨bs, rb⟩ := Dp.reads I _ y u hy ry
  refine SeqAt.in_list_reads rb ra l2 l1 (by have := Nat.min_le_right (PyData.depthAll es) d.depth; omega) ⟨.bl _, H, I, rfl, ?_⟩
  rw [Bool.false_bne] at q
  exact q
end
end HkI

set_option Elab.async false
set_option linter.all false
set_option maxRecDepth 100000
set_option maxHeartbeats 4000000
namespace HK
open PySem PySem.Spec PyProof.Rows L2 GAl GxR
open Evl (pss_cut)
/-! ### pairs of roads in a list -/
def tpD (ns : List Int) : PyData := .tuple (ns.map PyData.int)
theorem tups_dp {K : PySem.W.Frag} {H : Hp} : ∀ {xs : List V} {l : List (List Int)}, TupsAt K H xs l → DpAll K H xs (l.map tpD)
  | [], [], _ => .nil
  | [], _ :: _, h => by cases h.1
  | _ :: _, [], h => by cases h.1
  | x :: xs, ns :: l, h => by
    obtain ⟨t, rfl, s⟩ := h.2 0 x rfl
    exact .cons (.tup s (dpInts ns)) (tups_dp ⟨by simpa using h.1, fun i y e => h.2 (i + 1) y e⟩)
theorem lay_tp (ns : List Int) : (tpD ns).canLay0 = true := by
  have : ∀ ns : List Int, PyData.canLayAll0 (ns.map PyData.int) = true := fun ns => by
    induction ns with
    | nil => simp [PyData.canLayAll0]
    | cons a r ih => simp only [List.map_cons, PyData.canLayAll0, PyData.canLay0, ih, Bool.and_self]
  unfold tpD
  simp only [PyData.canLay0]
  exact this ns
theorem lay_tps : ∀ l : List (List Int), PyData.canLayAll0 (l.map tpD) = true
  | [] => by simp [PyData.canLayAll0]
  | a :: l => by simp only [List.map_cons, PyData.canLayAll0, lay_tp a, lay_tps l, Bool.and_self]
theorem depth2 (a b : Int) : (tpD [a, b]).depth ≤ 60 := by
  simp [tpD, PyData.depth, PyData.depthAll]
theorem eqvP (a b c d : Int) : PyData.eqv (tpD [a, b]) (tpD [c, d]) = decide (a = c ∧ b = d) := by
  show (a == c && (b == d && true)) = _
  rw [Bool.and_true, Bool.eq_iff_iff, Bool.and_eq_true, beq_iff_eq, beq_iff_eq, decide_eq_true_iff]
theorem any_road {rs : List R4} {x v : Int} : (((rs.map pr).map tpD).any fun y => PyData.eqv y (tpD [x, v])) = (road rs x v).isSome := by
  rw [List.map_map, List.any_map, Bool.eq_iff_iff, List.any_eq_true]
  unfold road
  rw [List.find?_isSome]
  constructor
  · rintro ⟨r, hr, h⟩
    refine ⟨r, hr, ?_⟩
    have h : PyData.eqv (tpD [r.s, r.e]) (tpD [x, v]) = true := h
    rw [eqvP] at h
    exact h
  · rintro ⟨r, hr, h⟩
    refine ⟨r, hr, ?_⟩
    show PyData.eqv (tpD [r.s, r.e]) (tpD [x, v]) = true
    rw [eqvP]
    exact h
theorem stp_get {g : IF} {c : Int} : ((g c).map V.int).getD (.int c) = .int (stp g c) := by
  unfold stp
  cases g c <;> rfl
section
variable {P : Program} {w : World} {K : PySem.W.Frag} {mg : Str → Option Value} {base : Heap}
def spATree (K : PySem.W.Frag) : Sp := fun vs H Q _ => ∃ (a : Addr) (n : Int) (rs : List R4) (root : Int) (p : Addr) (kvs : List (Key × V)) (g : IF), vs = [.ref a, .int root, .ref p] ∧ NetAt K H a n rs ∧ rs.length ≤ 156 ∧
  H p = some (.dK kvs) ∧ DI kvs g ∧ kvs.length ≤ 5000 ∧ ∀ (H' : Hp) (b : Bool), K0 H H' → (b = true ↔ TreeP rs root g kvs.length) → Q (.bl b) H'
end
end HK

set_option Elab.async false
set_option linter.all false
set_option maxRecDepth 100000
set_option maxHeartbeats 8000000
namespace HK
open PySem PySem.Spec PyProof.Rows L2 GAl GxR HkN
open Evl (pss_cut)
/-! ### trim trees and prices, by the law's own look -/
abbrev sAPrice : Stmt := topS 56
abbrev N_scAPrice : List Str := ["net", "ahead", "total", "i", "j", "cost", "late"]
theorem scAPrice : FnScope N_scAPrice ["net", "ahead"] (defScope sAPrice) := ⟨rfl, rfl, rfl, by decide +kernel, rfl, by decide +kernel, by decide +kernel⟩
section
variable {P : Program} {w : World} {K : PySem.W.Frag} {mg : Str → Option Value} {base : Heap}
def spAPrice (K : PySem.W.Frag) : Sp := fun vs H Q _ => ∃ (a : Addr) (n : Int) (rs : List R4) (d : Addr) (kvs : List (Key × V)) (g : IF), vs = [.ref a, .ref d] ∧ NetAt K H a n rs ∧ H d = some (.dK kvs) ∧ DI kvs g ∧ Q (.int (prG g rs)) H
theorem ok_aprice {f : Addr} {fd : FuncData} (F : Fun K "_law_aprice" "_law_aprice" sAPrice f fd) : FnOk P w K mg base CX0 1 f fd ["net", "ahead"] (spAPrice K) := by
  refine F.ok scAPrice (fun vs H Q E h => ?_) (fun cdv A outer st H vs Q E hr h => ?_)
  · obtain ⟨a, n, rs, d, kvs, g, rfl, _⟩ := h
    rfl
  · obtain ⟨a, n, rs, d, kvs, g, rfl, hN, hd, hD, q⟩ := h
    have hu := hu_of hr
    refine ⟨_, (pss_cons (ps_set (i := 2) scAPrice.nd rfl (.inl rfl) pe_int)
      (pss_cons (ps_for PassesOwn.never rfl (pi_tup (pe_ix ix_tup (pv 0) pe_int (fun _ _ => rfl))) (pg_tup rfl (pgs_cons (pg_name (i := 3) scAPrice.nd rfl (.inl rfl)) (pgs_cons (pg_name (i := 4) scAPrice.nd rfl (.inl rfl)) (pgs_cons (pg_name (i := 5) scAPrice.nd rfl (.inl rfl)) (pgs_cons (pg_name (i := 6) scAPrice.nd rfl (.inl rfl)) pgs_nil)))))
      (pss_one (ps_if (pt_cmpR op_eq (pe_dget1 hu (pv 1) (pv 4) ⟨rfl, rfl, rfl, rfl⟩) (pv 3) (nomark _)) (pss_one (ps_set (i := 2) scAPrice.nd rfl (.inl rfl) (pe_op op_add (pv 2) (pv 5)))) pss_nil)))
      (pss_one (ps_ret (pv 2))))), ?_⟩
    obtain ⟨ra, xs, o, hn1, hn2, hc, hdd, hrd⟩ := id hN
    have hxl : xs.length = rs.length := hrd.len
    refine ⟨_, rfl, a, _, 1, .ref ra, rfl, rfl, hn1, atI_nat (j := 1) rfl, ra, rfl, ⟨_, hn2⟩, for_tup (K := K) (a := ra) (xs := xs) (fun j σ' G => ∃ (y3 y4 y5 y6 : Option V), σ' = [some (.ref a), some (.ref d), some (.int (prG g (rs.take j))), y3, y4, y5, y6] ∧ H = G)
      ⟨none, none, none, none, rfl, rfl⟩ (fun j σ' G _ h => ?_) (fun j x σ' G hx h => ?_) (fun σ' G h => ?_)⟩
    · obtain ⟨_, _, _, _, _, rfl⟩ := h
      exact hn2
    · obtain ⟨y3, y4, y5, y6, rfl, rfl⟩ := h
      obtain ⟨r, q1, hr', rfl, hq⟩ := road_at hrd hx
      have htake : rs.take (j + 1) = rs.take j ++ [r] := by rw [List.take_add_one, hr']; rfl
      have hp : prG g (rs.take (j + 1)) = prG g (rs.take j) + (if g r.e = some r.s then r.c else 0) := by
        rw [htake, prG_append]
        show _ + (_ + 0) = _
        omega
      refine ⟨q1, _, rfl, hq, rfl, _, _, rfl, _, _, rfl, _, _, rfl, _, _, rfl, rfl, ?_⟩
      refine ⟨_, rfl, d, rfl, .inl ⟨kvs, .inl hd⟩, _, rfl, _, dgetR (.inl hd) hD r.e, _, rfl, ?_⟩
      rw [hp]
      cases eg : g r.e with
      | none =>
        refine ⟨rfl, _, rfl, iteF ?_⟩
        rw [if_neg (by intro z; cases z), Int.add_zero]
        exact ⟨_, _, _, _, rfl, rfl⟩
      | some x =>
        refine ⟨rfl, _, rfl, ?_⟩
        by_cases e : x = r.s
        · rw [decide_eq_true (show ((some x).map V.int).getD V.non = V.int r.s from by rw [e]; rfl), if_pos (by rw [e])]
          exact iteT ⟨_, rfl, _, rfl, _, _, rfl, rfl, _, _, _, _, rfl, rfl⟩
        · rw [decide_eq_false (show ¬ ((some x).map V.int).getD V.non = V.int r.s from fun z => e (V.int.inj z)), if_neg fun z => e (Option.some.inj z), Int.add_zero]
          exact iteF ⟨_, _, _, _, rfl, rfl⟩
    · obtain ⟨y3, y4, y5, y6, rfl, rfl⟩ := h
      rw [hxl, List.take_length]
      exact ⟨_, rfl, q⟩
def spATrim (K : PySem.W.Frag) : Sp := fun vs H Q _ => ∃ (a : Addr) (n : Int) (rs : List R4) (root : Int) (p : Addr) (hs : List Int) (d : Addr) (kvs : List (Key × V)) (g : IF), vs = [.ref a, .int root, .ref p, .ref d] ∧ NetAt K H a n rs ∧ rs.length ≤ 156 ∧ SqT K H p (iV hs) ∧ H d = some (.dK kvs) ∧ DI kvs g ∧ kvs.length ≤ 5000 ∧
  ∀ (H' : Hp) (b : Bool), K0 H H' → (b = true ↔ TrimP rs root g kvs.length hs) → Q (.bl b) H'
end
end HK

set_option Elab.async false
set_option linter.all false
set_option maxRecDepth 100000
set_option maxHeartbeats 2000000
namespace HK
open PySem PySem.Spec PyProof.Rows L2 GAl GxR
section
variable {P : Program} {w : World} {K : PySem.W.Frag} {mg : Str → Option Value} {base : Heap}
end
end HK

set_option Elab.async false
set_option linter.all false
set_option maxRecDepth 100000
set_option maxHeartbeats 8000000
namespace HK
open PySem PySem.Spec PyProof.Rows L2 GAl GxR HkN
open Evl (pss_cut)
/-! ### tables that hold, by the law's own look -/
theorem addO_comm (a b : Option Int) : addO a b = addO b a := by
  cases a with
  | none => cases b <;> rfl
  | some x =>
    cases b with
    | none => rfl
    | some y =>
      show some (x + y) = some (y + x)
      rw [Int.add_comm]
theorem inBl (xs : List V) (h : ∀ x ∈ xs, x = V.bl true) : xs.all flatV = true ∧ inV (.bl false) xs = false := by
  constructor
  · rw [List.all_eq_true]
    intro x hx
    rw [h x hx]; rfl
  · unfold inV
    rw [List.any_eq_false]
    intro x hx
    rw [h x hx]
    decide
theorem eqvAll_intsO : ∀ (a b : List Int), PyData.eqvAll (a.map PyData.int) (b.map PyData.int) = decide (a = b)
  | [], [] => rfl
  | [], _ :: _ => rfl
  | _ :: _, [] => rfl
  | a :: r, b :: u => by
    show (a == b && PyData.eqvAll (r.map PyData.int) (u.map PyData.int)) = _
    rw [eqvAll_intsO r u, Bool.eq_iff_iff, Bool.and_eq_true, beq_iff_eq, decide_eq_true_iff, decide_eq_true_iff]
    exact ⟨fun ⟨h1, h2⟩ => by rw [h1, h2], fun h => by cases h; exact ⟨rfl, rfl⟩⟩
theorem eqv_tp (a b : List Int) : PyData.eqv (tpD a) (tpD b) = decide (a = b) := eqvAll_intsO a b
theorem depth_tp (a : List Int) : PyData.depth (tpD a) ≤ 1 := by
  have : ∀ l : List Int, PyData.depthAll (l.map PyData.int) = 0 := fun l => by
    induction l with
    | nil => rfl
    | cons x l ih =>
      show max (PyData.depth (.int x)) (PyData.depthAll (l.map PyData.int)) = 0
      rw [ih]; rfl
  show PyData.depthAll (a.map PyData.int) + 1 ≤ 1
  rw [this]
  exact Nat.le_refl _
theorem shaped_tp (a : List Int) : SeqAt.shaped (tpD a) = true := by
  show (PyData.canLay0 (tpD a) && decide (PyData.depth (tpD a) ≤ 64)) = true
  rw [lay_tp, decide_eq_true (Nat.le_trans (depth_tp a) (by decide))]
  rfl
theorem dp_tp {K : PySem.W.Frag} {H : Hp} {a : Addr} {s : List Int} (h : SqT K H a (iV s)) : Dp K H (.ref a) (tpD s) := .tup h (dpInts s)
section
variable {P : Program} {w : World} {K : PySem.W.Frag} {mg : Str → Option Value} {base : Heap}
def spAHolds (P : Program) (w : World) (K : PySem.W.Frag) : Sp := fun vs H Q _ => ∃ (a p dt : Addr) (nn : Nat) (rs : List R4) (hs : List Int) (T : TF) (S : SF), vs = [.ref a, .ref p, .ref dt] ∧ NetAt K H a nn rs ∧ Good nn rs ∧ SqT K H p (iV hs) ∧ hs.Nodup ∧ hs.length ≤ 6 ∧
  TbAt P w K H dt (keysOf nn (compsN hs)) T ∧ (∀ s ∈ compsN hs, RowOK rs nn T S s) ∧ ∀ H', K0 H H' → Q (.bl true) H'
end
end HK

set_option Elab.async false
set_option linter.all false
set_option maxRecDepth 100000
set_option maxHeartbeats 4000000
namespace HK
open PySem PySem.Spec PyProof.Rows L2 GAl GxR DTu
open Evl (pss_cut)
/-! ### latenesses -/
def lsum (rs : List R4) (root : Int) (g : IF) : Nat → Int → Int
  | 0, _ => 0
  | k + 1, v => lsum rs root g k v + (if clm g k v = root then 0 else ((road rs (stp g (clm g k v)) (clm g k v)).map (·.l)).getD 0)
theorem lsum_stop {rs : List R4} {root : Int} {g : IF} (hr : g root = none) {v : Int} {k : Nat} (h : clm g k v = root) : ∀ j, lsum rs root g (k + j) v = lsum rs root g k v
  | 0 => rfl
  | j + 1 => by
    show lsum rs root g (k + j) v + _ = _
    rw [lsum_stop hr h j, if_pos (show clm g (k.add j) v = root from clm_root hr h j), Int.add_zero]
/-- what is told, key by key -/
def latF (rs : List R4) (root : Int) (g : IF) (m : Nat) (l : List (Key × V)) : IF := l.foldl (fun f p => match p.1 with | .inl v => put f v (lsum rs root g m v) | .inr _ => f) (ini root)
theorem latF_take {rs : List R4} {root : Int} {g : IF} {m : Nat} {kvs : List (Key × V)} {i : Nat} {v : Int} {x : V} (h : kvs[i]? = some (Sum.inl v, x)) : latF rs root g m (kvs.take (i + 1)) = put (latF rs root g m (kvs.take i)) v (lsum rs root g m v) := by
  unfold latF
  rw [List.take_add_one, h, List.foldl_append]
  rfl
section
variable {P : Program} {w : World} {K : PySem.W.Frag} {mg : Str → Option Value} {base : Heap}
/-- the latenesses of one way -/
def spUp (K : PySem.W.Frag) : Sp := fun vs H Q _ => ∃ (D : Addr) (ts : List (List Key × V)) (rs : List R4) (root : Int) (p : Addr) (kvs : List (Key × V)) (g : IF) (v : Int), vs = [.ref D, .int root, .ref p, .int v] ∧ H D = some (.dT ts) ∧ TabP (·.l) rs ts ∧ Rd H p (.dK kvs) ∧ DI kvs g ∧
  g root = none ∧ (∀ v x, g v = some x → (road rs x v).isSome = true) ∧ clm g kvs.length v = root ∧ ∀ H', K0 H H' → Q (.int (lsum rs root g kvs.length v)) H'
end
end HK

set_option Elab.async false
set_option linter.all false
set_option maxRecDepth 100000
set_option maxHeartbeats 4000000
namespace HK
open PySem PySem.Spec PyProof.Rows L2 GAl GxR
open Evl (pss_cut)
/-! ### latenesses along a tree, found by rounds through the roads -/
theorem clm_sft (g : IF) (v : Int) : ∀ m, clm g (m + 1) v = clm g m (stp g v)
  | 0 => rfl
  | m + 1 => by
    show stp g (clm g (m + 1) v) = stp g (clm g m (stp g v))
    rw [clm_sft g v m]
section
variable {rs : List R4} {root : Int} {g : IF} {m : Nat}
theorem lsum_sft (v : Int) : ∀ m, lsum rs root g (m + 1) v = (if v = root then 0 else ((road rs (stp g v) v).map (·.l)).getD 0) + lsum rs root g m (stp g v)
  | 0 => by
    show (0 : Int) + (if v = root then 0 else ((road rs (stp g v) v).map (·.l)).getD 0) = (if v = root then 0 else ((road rs (stp g v) v).map (·.l)).getD 0) + 0
    omega
  | m + 1 => by
    show lsum rs root g (m + 1) v + (if clm g (m + 1) v = root then 0 else ((road rs (stp g (clm g (m + 1) v)) (clm g (m + 1) v)).map (·.l)).getD 0) = _
    rw [lsum_sft v m, clm_sft g v m]
    show _ = _ + (lsum rs root g m (stp g v) + (if clm g m (stp g v) = root then 0 else ((road rs (stp g (clm g m (stp g v))) (clm g m (stp g v))).map (·.l)).getD 0))
    omega
theorem lat_step (hT : TreeP rs root g m) (up : rs.Pairwise R4.lt) {r : R4} (hr : r ∈ rs) (e : g r.e = some r.s) : lsum rs root g m r.e = lsum rs root g m r.s + r.l := by
  have ne : r.e ≠ root := fun z => by
    rw [z, hT.1] at e
    cases e
  have h1 := lsum_sft (rs := rs) (root := root) (g := g) r.e m
  rw [if_neg ne, stp_some e, road_of up hr] at h1
  have h2 := lsum_stop (rs := rs) hT.1 (hT.2.2 _ _ e) 1
  have h3 : ((some r).map (·.l)).getD 0 = r.l := rfl
  omega
theorem lsum_root (hr : g root = none) : lsum rs root g m root = 0 := by
  have := lsum_stop (rs := rs) (k := 0) (v := root) hr rfl m
  rw [Nat.zero_add] at this
  exact this
open Classical in
theorem latF_v {g : IF} {m : Nat} (l : List (Key × V)) (v : Int) : latF rs root g m l v = if (Sum.inl v : Key) ∈ l.map (fun p : Key × V => p.1) then some (lsum rs root g m v) else ini root v := by
  have gen : ∀ (l : List (Key × V)) (f0 : IF), l.foldl (fun f p => match p.1 with | .inl v => put f v (lsum rs root g m v) | .inr _ => f) f0 v = if (Sum.inl v : Key) ∈ l.map (fun p : Key × V => p.1) then some (lsum rs root g m v) else f0 v := fun l => by
    induction l with
    | nil => intro f0; rw [if_neg (fun z => by cases z)]; rfl
    | cons p l ih =>
      intro f0
      rw [List.foldl_cons, ih]
      by_cases hm : (Sum.inl v : Key) ∈ l.map (fun p : Key × V => p.1)
      · rw [if_pos hm, if_pos (by rw [List.map_cons]; exact List.mem_cons_of_mem _ hm)]
      · rw [if_neg hm]
        obtain ⟨pk, pv⟩ := p
        cases pk with
        | inl u =>
          show put f0 u _ v = _
          unfold put
          by_cases hv : v = u
          · subst hv
            rw [if_pos rfl, if_pos (by rw [List.map_cons]; exact List.mem_cons_self ..)]
          · rw [if_neg hv, if_neg (by
              rw [List.map_cons, List.mem_cons]
              rintro (h | h)
              · cases h; exact hv rfl
              · exact hm h)]
        | inr s =>
          rw [if_neg (by
            rw [List.map_cons, List.mem_cons]
            rintro (h | h)
            · cases h
            · exact hm h)]
  exact gen l (ini root)
theorem lat_iff {kvs : List (Key × V)} (hD : DI kvs g) (hr : g root = none) (v : Int) : latF rs root g m kvs v = if v = root ∨ (g v).isSome = true then some (lsum rs root g m v) else none := by
  rw [latF_v]
  by_cases hk : (Sum.inl v : Key) ∈ kvs.map (·.1)
  · rw [if_pos hk, if_pos (.inr ((hD.mem v).mp hk))]
  · rw [if_neg hk]
    have hn : ¬ (g v).isSome = true := fun z => hk ((hD.mem v).mpr z)
    unfold ini put
    by_cases hv : v = root
    · rw [if_pos (Or.inl hv), hv, lsum_root hr]
      simp
    · rw [if_neg (show ¬ (v = root ∨ (g v).isSome = true) from fun z => z.elim hv hn)]
      simp [hv]
def Sub (f T : IF) : Prop := ∀ v x, f v = some x → T v = some x
def lst (g f : IF) (r : R4) : IF := if g r.e = some r.s then (match f r.s with | none => f | some a => put f r.e (a + r.l)) else f
def lrd (g : IF) (rs : List R4) (f : IF) : IF := rs.foldl (lst g) f
theorem lst_no {f : IF} {r : R4} (e : ¬ g r.e = some r.s) : lst g f r = f := if_neg e
theorem lst_none {f : IF} {r : R4} (e : g r.e = some r.s) (h : f r.s = none) : lst g f r = f := by
  unfold lst
  rw [if_pos e, h]
theorem lst_some {f : IF} {r : R4} {a : Int} (e : g r.e = some r.s) (h : f r.s = some a) : lst g f r = put f r.e (a + r.l) := by
  unfold lst
  rw [if_pos e, h]
theorem lst_dom {f : IF} {r : R4} {v : Int} (h : (f v).isSome = true) : (lst g f r v).isSome = true := by
  by_cases e : g r.e = some r.s
  · cases hs : f r.s with
    | none => rw [lst_none e hs]; exact h
    | some a =>
      rw [lst_some e hs]
      unfold put
      split
      · rfl
      · exact h
  · rw [lst_no e]; exact h
theorem lst_has {f : IF} {r : R4} (e : g r.e = some r.s) (h : (f r.s).isSome = true) : (lst g f r r.e).isSome = true := by
  obtain ⟨x, ex⟩ := Option.isSome_iff_exists.mp h
  rw [lst_some e ex]
  unfold put
  rw [if_pos rfl]
  rfl
theorem lst_sub {f T : IF} {r : R4} (hS : Sub f T) (hT : g r.e = some r.s → ∀ a, T r.s = some a → T r.e = some (a + r.l)) : Sub (lst g f r) T := by
  intro v x h
  by_cases e : g r.e = some r.s
  · cases hs : f r.s with
    | none => rw [lst_none e hs] at h; exact hS v x h
    | some a =>
      rw [lst_some e hs] at h
      unfold put at h
      split at h
      · next ev =>
        cases h
        rw [ev]
        exact hT e a (hS _ _ hs)
      · exact hS v x h
  · rw [lst_no e] at h; exact hS v x h
theorem lrd_all {T : IF} : ∀ (l : List R4) (f : IF), (∀ r ∈ l, g r.e = some r.s → ∀ a, T r.s = some a → T r.e = some (a + r.l)) → Sub f T →
    Sub (lrd g l f) T ∧ (∀ v, (f v).isSome = true → (lrd g l f v).isSome = true) ∧ ∀ r ∈ l, g r.e = some r.s → (f r.s).isSome = true → (lrd g l f r.e).isSome = true
  | [], f, _, hS => ⟨hS, fun _ h => h, fun r h => by cases h⟩
  | r :: l, f, hT, hS => by
    obtain ⟨h1, h2, h3⟩ := lrd_all l (lst g f r) (fun q hq => hT q (List.mem_cons_of_mem _ hq)) (lst_sub hS (hT r (List.mem_cons_self ..)))
    refine ⟨h1, fun v h => h2 v (lst_dom h), fun q hq e h => ?_⟩
    rcases List.mem_cons.mp hq with rfl | hq
    · exact h2 _ (lst_has e h)
    · exact h3 q hq e (lst_dom h)
theorem lat_rounds {kvs : List (Key × V)} (hD : DI kvs g) (hT : TreeP rs root g kvs.length) (up : rs.Pairwise R4.lt) : iter (lrd g rs) kvs.length (ini root) = latF rs root g kvs.length kvs := by
  have hst : ∀ r ∈ rs, g r.e = some r.s → ∀ a, latF rs root g kvs.length kvs r.s = some a → latF rs root g kvs.length kvs r.e = some (a + r.l) := fun r hr e a h => by
    rw [lat_iff hD hT.1] at h ⊢
    split at h
    · cases h
      rw [if_pos (.inr (by rw [e]; rfl)), lat_step hT up hr e]
    · cases h
  have key : ∀ k, Sub (iter (lrd g rs) k (ini root)) (latF rs root g kvs.length kvs) ∧ (iter (lrd g rs) k (ini root) root).isSome = true ∧ ∀ v, clm g k v = root → (iter (lrd g rs) k (ini root) v).isSome = true := fun k => by
    induction k with
    | zero =>
      refine ⟨fun v x h => ?_, ?_, fun v hv => ?_⟩
      · rw [lat_iff hD hT.1]
        have h : ini root v = some x := h
        unfold ini put at h
        by_cases hv : v = root
        · rw [if_pos (Or.inl hv), hv, lsum_root hT.1]
          simp [hv] at h
          rw [← h]
        · simp [hv] at h
      · show (ini root root).isSome = true
        unfold ini put; simp
      · have hv : v = root := hv
        show (ini root v).isSome = true
        unfold ini put; simp [hv]
    | succ k ih =>
      obtain ⟨i1, i2, i3⟩ := ih
      obtain ⟨h1, h2, h3⟩ := lrd_all rs (iter (lrd g rs) k (ini root)) hst i1
      refine ⟨h1, h2 _ i2, fun v hv => ?_⟩
      cases e : g v with
      | none =>
        have := clm_fix (i := 0) (v := v) (g := g) e (k + 1)
        rw [Nat.zero_add] at this
        rw [this] at hv
        have hv : v = root := hv
        rw [hv]
        exact h2 _ i2
      | some x =>
        obtain ⟨r, er⟩ := Option.isSome_iff_exists.mp (hT.2.1 v x e)
        obtain ⟨r1, r2, r3⟩ := road_some er
        rw [clm_sft, stp_some e] at hv
        have := h3 r r1 (by rw [r3, r2]; exact e) (by rw [r2]; exact i3 x hv)
        rw [r3] at this
        exact this
  obtain ⟨h1, h2, h3⟩ := key kvs.length
  funext v
  cases e : iter (lrd g rs) kvs.length (ini root) v with
  | some x => exact (h1 v x e).symm
  | none =>
    rw [lat_iff hD hT.1, if_neg]
    rintro (h | h)
    · rw [h] at e; rw [e] at h2; cases h2
    · obtain ⟨x, ex⟩ := Option.isSome_iff_exists.mp h
      have := h3 v (hT.2.2 v x ex)
      rw [e] at this; cases this
theorem lrd_take {f : IF} {j : Nat} {r : R4} (h : rs[j]? = some r) : lrd g (rs.take (j + 1)) f = lst g (lrd g (rs.take j) f) r := by
  have : rs.take (j + 1) = rs.take j ++ [r] := by rw [List.take_add_one, h]; rfl
  rw [this]
  unfold lrd
  rw [List.foldl_append]
  rfl
end
section
variable {P : Program} {w : World} {K : PySem.W.Frag} {mg : Str → Option Value} {base : Heap}
def spALates (K : PySem.W.Frag) : Sp := fun vs H Q _ => ∃ (a : Addr) (n : Int) (rs : List R4) (root : Int) (p : Addr) (kvs : List (Key × V)) (g : IF), vs = [.ref a, .int root, .ref p] ∧ NetAt K H a n rs ∧ Good n rs ∧ rs.length ≤ 156 ∧
  H p = some (.dK kvs) ∧ DI kvs g ∧ kvs.length ≤ 30 ∧ TreeP rs root g kvs.length ∧ ∀ (q : Addr) (ls : List (Key × V)) (H' : Hp), K0 H H' → H q = none → H' q = some (.dK ls) → DI ls (latF rs root g kvs.length kvs) → ls.length ≤ 5000 → Q (.ref q) H'
end
end HK

set_option Elab.async false
set_option linter.all false
set_option maxRecDepth 100000
set_option maxHeartbeats 4000000
namespace HK
open PySem PySem.Spec PyProof.Rows L2 GAl GxR
open Evl (pss_cut)
def Bd (f : IF) (N : Int) : Prop := ∀ v x, f v = some x → x ≤ N
theorem Bd.le {f : IF} {N M : Int} (h : Bd f N) (l : N ≤ M) : Bd f M := fun v x e => Int.le_trans (h v x e) l
theorem Bd.put {f : IF} {N : Int} {i x : Int} (h : Bd f N) (hx : x ≤ N) : Bd (put f i x) N := fun v y e => by
  unfold HK.put at e
  split at e
  · cases e; exact hx
  · exact h v y e
section
variable {P : Program} {w : World} {K : PySem.W.Frag} {mg : Str → Option Value} {base : Heap}
def spAEarly (K : PySem.W.Frag) : Sp := fun vs H Q _ => ∃ (a : Addr) (n : Int) (rs : List R4) (root : Int), vs = [.ref a, .int root] ∧ NetAt K H a n rs ∧ Good n rs ∧ rs.length ≤ 156 ∧ 0 ≤ root ∧ root < n ∧
  ∀ (p : Addr) (kvs : List (Key × V)) (H' : Hp), K0 H H' → H p = none → H' p = some (.dK kvs) → DI kvs (due n rs root) → kvs.length ≤ 2000 → Q (.ref p) H'
end
end HK

set_option Elab.async false
set_option linter.all false
set_option maxRecDepth 100000
set_option maxHeartbeats 4000000
namespace HK
open PySem PySem.Spec PyProof.Rows L2 GAl GxR DTu
open Evl (pss_cut)
section
variable {P : Program} {w : World} {K : PySem.W.Frag} {mg : Str → Option Value} {base : Heap}
def spLateness (K : PySem.W.Frag) (Pn Pr Pp Pg : Addr) : Sp := fun vs H Q _ => ∃ (a : Addr) (n : Int) (rs : List R4) (root : Int) (p : Addr) (kvs : List (Key × V)) (g : IF), vs = [.ref a, .int root, .ref p] ∧ NetAt K H a n rs ∧ Good n rs ∧ rs.length ≤ 156 ∧ 0 ≤ root ∧ root < n ∧
  H p = some (.dK kvs) ∧ DI kvs g ∧ kvs.length ≤ 5000 ∧ TreeP rs root g kvs.length ∧ TbL H [Pn, Pr, Pp, Pg] ∧ ∀ (q : Addr) (ls : List (Key × V)) (H' : Hp), K0 H H' → H q = none → H' q = some (.dK ls) → DI ls (latF rs root g kvs.length kvs) → ls.length ≤ 1 + kvs.length → Q (.ref q) H'
end
end HK

set_option Elab.async false
set_option linter.all false
set_option maxRecDepth 100000
set_option maxHeartbeats 4000000
namespace HK
open PySem PySem.Spec PyProof.Rows L2 GAl GxR
open Evl (pss_cut)
/-! ### a tree of earliest ways -/
def tight (f : IF) (r : R4) : Bool := match f r.s with
  | none => false
  | some a => decide (f r.e = some (a + r.l))
def wayF (f : IF) (l : List R4) : IF := l.foldl (fun h r => if tight f r = true then put h r.e r.s else h) (fun _ => none)
theorem wayF_snoc {f : IF} {l : List R4} {r : R4} : wayF f (l ++ [r]) = if tight f r = true then put (wayF f l) r.e r.s else wayF f l := by
  unfold wayF
  rw [List.foldl_append]
  rfl
theorem wayF_take {f : IF} {rs : List R4} {j : Nat} {r : R4} (h : rs[j]? = some r) : wayF f (rs.take (j + 1)) = if tight f r = true then put (wayF f (rs.take j)) r.e r.s else wayF f (rs.take j) := by
  rw [List.take_add_one, h]
  exact wayF_snoc
theorem wayF_some {f : IF} (l : List R4) : (∀ v x, wayF f l v = some x → ∃ r ∈ l, r.e = v ∧ r.s = x ∧ tight f r = true) ∧ (∀ r ∈ l, tight f r = true → (wayF f l r.e).isSome = true) := by
  have gen : ∀ (l : List R4) (h0 : IF), (∀ v x, l.foldl (fun h r => if tight f r = true then put h r.e r.s else h) h0 v = some x → h0 v = some x ∨ ∃ r ∈ l, r.e = v ∧ r.s = x ∧ tight f r = true) ∧
      (∀ v, ((h0 v).isSome = true ∨ ∃ r ∈ l, r.e = v ∧ tight f r = true) → (l.foldl (fun h r => if tight f r = true then put h r.e r.s else h) h0 v).isSome = true) := fun l => by
    induction l with
    | nil => exact fun h0 => ⟨fun v x e => .inl e, fun v h => h.elim id fun ⟨r, hr, _⟩ => by cases hr⟩
    | cons r l ih =>
      intro h0
      obtain ⟨i1, i2⟩ := ih (if tight f r = true then put h0 r.e r.s else h0)
      refine ⟨fun v x e => ?_, fun v h => i2 v ?_⟩
      · rcases i1 v x e with h | ⟨r', h1, h2⟩
        · by_cases ht : tight f r = true
          · rw [if_pos ht] at h
            unfold put at h
            by_cases hv : v = r.e
            · rw [if_pos hv] at h
              cases h
              exact .inr ⟨r, List.mem_cons_self .., hv.symm, rfl, ht⟩
            · rw [if_neg hv] at h
              exact .inl h
          · rw [if_neg ht] at h
            exact .inl h
        · exact .inr ⟨r', List.mem_cons_of_mem _ h1, h2⟩
      · rcases h with h | ⟨r', h1, h2, h3⟩
        · left
          by_cases ht : tight f r = true
          · rw [if_pos ht]
            unfold put
            by_cases hv : v = r.e
            · rw [if_pos hv]; rfl
            · rw [if_neg hv]; exact h
          · rw [if_neg ht]; exact h
        · rcases List.mem_cons.mp h1 with rfl | h1
          · left
            rw [if_pos h3]
            unfold put
            rw [if_pos h2.symm]
            rfl
          · exact .inr ⟨r', h1, h2, h3⟩
  obtain ⟨g1, g2⟩ := gen l (fun _ => none)
  exact ⟨fun v x e => (g1 v x e).resolve_left (fun z => by cases z), fun r hr ht => g2 r.e (.inr ⟨r, hr, rfl, ht⟩)⟩
theorem tight_iff {f : IF} {r : R4} : tight f r = true ↔ ∃ a, f r.s = some a ∧ f r.e = some (a + r.l) := by
  unfold tight
  cases e : f r.s with
  | none => exact ⟨fun z => (by cases z), fun ⟨a, h, _⟩ => by cases h⟩
  | some a =>
    show decide _ = true ↔ _
    rw [decide_eq_true_iff]
    exact ⟨fun h => ⟨a, rfl, h⟩, fun ⟨b, h1, h2⟩ => by cases h1; exact h2⟩
section
variable {n root : Int} {rs : List R4} {f : IF}
theorem way_step (hok : ∀ r ∈ rs, RoadOk n r) (I : IInv n rs root f) {v x : Int} (e : wayF f rs v = some x) : ∃ r ∈ rs, r.e = v ∧ r.s = x ∧ ∃ a, f x = some a ∧ f v = some (a + r.l) ∧ 0 ≤ a ∧ 1 ≤ r.l := by
  obtain ⟨r, hr, h1, h2, ht⟩ := (wayF_some rs).1 v x e
  obtain ⟨a, h3, h4⟩ := tight_iff.mp ht
  subst h1 h2
  exact ⟨r, hr, rfl, rfl, a, h3, h4, (I.rng _ _ h3).2.2, (hok r hr).l0⟩
theorem way_root (hok : ∀ r ∈ rs, RoadOk n r) (I : IInv n rs root f) : wayF f rs root = none := by
  cases e : wayF f rs root with
  | none => rfl
  | some x =>
    obtain ⟨r, _, _, _, a, _, h, h0, h1⟩ := way_step hok I e
    rw [I.rt0] at h
    have := Option.some.inj h
    omega
theorem way_has (I : IInv n rs root f) (C : Closed rs f) {v b : Int} (e : f v = some b) (hv : v ≠ root) : ∃ x, wayF f rs v = some x := by
  rcases I.wt v b e with h | ⟨r, hr, h1, a, h2, h3⟩
  · exact absurd h hv
  · obtain ⟨b', h4, h5⟩ := C r hr a h2
    rw [h1, e] at h4
    cases h4
    have : tight f r = true := tight_iff.mpr ⟨a, h2, by rw [h1, e]; congr 1; omega⟩
    have := (wayF_some rs).2 r hr this
    rw [h1] at this
    exact Option.isSome_iff_exists.mp this
theorem way_dom (hok : ∀ r ∈ rs, RoadOk n r) (I : IInv n rs root f) (C : Closed rs f) (v : Int) : (wayF f rs v).isSome = true ↔ v ≠ root ∧ (f v).isSome = true := by
  constructor
  · intro h
    obtain ⟨x, e⟩ := Option.isSome_iff_exists.mp h
    obtain ⟨r, _, _, _, a, _, h4, _⟩ := way_step hok I e
    refine ⟨fun z => ?_, by rw [h4]; rfl⟩
    rw [z, way_root hok I] at e
    cases e
  · intro ⟨h1, h2⟩
    obtain ⟨b, e⟩ := Option.isSome_iff_exists.mp h2
    obtain ⟨x, ex⟩ := way_has I C e h1
    rw [ex]; rfl
theorem way_up (hok : ∀ r ∈ rs, RoadOk n r) (I : IInv n rs root f) (C : Closed rs f) : ∀ (m : Nat) (v b : Int), f v = some b → b.toNat ≤ m → ∃ k, clm (wayF f rs) k v = root
  | m, v, b, e, hm => by
    by_cases hv : v = root
    · exact ⟨0, hv⟩
    · obtain ⟨x, ex⟩ := way_has I C e hv
      obtain ⟨r, _, _, _, a, h3, h4, h5, h6⟩ := way_step hok I ex
      rw [e] at h4
      have hb := Option.some.inj h4
      match m, hm with
      | 0, hm => exact absurd hm (by omega)
      | m + 1, hm =>
        obtain ⟨k, hk⟩ := way_up hok I C m x a h3 (by omega)
        refine ⟨k + 1, ?_⟩
        have sh : ∀ k, clm (wayF f rs) (k + 1) v = clm (wayF f rs) k (stp (wayF f rs) v) := fun k => by
          induction k with
          | zero => rfl
          | succ k ih => show stp _ (clm _ (k + 1) v) = stp _ (clm _ k _); rw [ih]
        rw [sh, stp_some ex]
        exact hk
theorem way_tree {kvs : List (Key × V)} (up : rs.Pairwise R4.lt) (hok : ∀ r ∈ rs, RoadOk n r) (I : IInv n rs root f) (C : Closed rs f) (hD : DI kvs (wayF f rs)) : TreeP rs root (wayF f rs) kvs.length := by
  refine ⟨way_root hok I, fun v x e => ?_, fun v x e => ?_⟩
  · obtain ⟨r, hr, h1, h2, _⟩ := way_step hok I e
    rw [← h1, ← h2, road_of up hr]
    rfl
  · obtain ⟨r, hr, h1, h2, a, h3, h4, _⟩ := way_step hok I e
    obtain ⟨k, hk⟩ := way_up hok I C _ v _ h4 (Nat.le_refl _)
    exact clm_len hD (way_root hok I) hk
theorem way_sum (up : rs.Pairwise R4.lt) (hok : ∀ r ∈ rs, RoadOk n r) (I : IInv n rs root f) (C : Closed rs f) {v b : Int} (e : f v = some b) : ∀ k, ∃ c, f (clm (wayF f rs) k v) = some c ∧ lsum rs root (wayF f rs) k v = b - c
  | 0 => ⟨b, e, by show (0 : Int) = b - b; omega⟩
  | k + 1 => by
    obtain ⟨c, h1, h2⟩ := way_sum up hok I C e k
    by_cases hc : clm (wayF f rs) k v = root
    · refine ⟨c, ?_, ?_⟩
      · rw [show clm (wayF f rs) (k + 1) v = clm (wayF f rs) k v from stp_none (by rw [hc]; exact way_root hok I)]
        exact h1
      · show lsum rs root (wayF f rs) k v + (if clm (wayF f rs) k v = root then 0 else _) = _
        rw [if_pos hc, h2]
        omega
    · obtain ⟨x, ex⟩ := way_has I C h1 hc
      obtain ⟨r, hr, h3, h4, a, h5, h6, _⟩ := way_step hok I ex
      rw [h1] at h6
      have hcc := Option.some.inj h6
      refine ⟨a, ?_, ?_⟩
      · rw [show clm (wayF f rs) (k + 1) v = x from stp_some ex]
        exact h5
      · show lsum rs root (wayF f rs) k v + (if clm (wayF f rs) k v = root then 0 else _) = _
        rw [if_neg hc, stp_some ex, ← h4, ← h3, road_of up hr, h2]
        show b - c + r.l = b - a
        omega
theorem way_late {kvs : List (Key × V)} (up : rs.Pairwise R4.lt) (hok : ∀ r ∈ rs, RoadOk n r) (I : IInv n rs root f) (C : Closed rs f) (hD : DI kvs (wayF f rs)) {v b : Int} (e : f v = some b) : lsum rs root (wayF f rs) kvs.length v = b := by
  obtain ⟨c, h1, h2⟩ := way_sum up hok I C e kvs.length
  have hroot : clm (wayF f rs) kvs.length v = root := by
    obtain ⟨k, hk⟩ := way_up hok I C _ v _ e (Nat.le_refl _)
    exact clm_len hD (way_root hok I) hk
  rw [hroot, I.rt0] at h1
  cases h1
  rw [h2]
  omega
open Classical in
theorem latF_val {g : IF} {m : Nat} (l : List (Key × V)) (v : Int) : latF rs root g m l v = if (Sum.inl v : Key) ∈ l.map (fun p : Key × V => p.1) then some (lsum rs root g m v) else ini root v := by
  have gen : ∀ (l : List (Key × V)) (f0 : IF), l.foldl (fun f p => match p.1 with | .inl v => put f v (lsum rs root g m v) | .inr _ => f) f0 v = if (Sum.inl v : Key) ∈ l.map (fun p : Key × V => p.1) then some (lsum rs root g m v) else f0 v := fun l => by
    induction l with
    | nil => intro f0; rw [if_neg (fun z => by cases z)]; rfl
    | cons p l ih =>
      intro f0
      rw [List.foldl_cons, ih]
      by_cases hm : (Sum.inl v : Key) ∈ l.map (fun p : Key × V => p.1)
      · rw [if_pos hm, if_pos (by rw [List.map_cons]; exact List.mem_cons_of_mem _ hm)]
      · rw [if_neg hm]
        obtain ⟨pk, pv⟩ := p
        cases pk with
        | inl u =>
          show put f0 u _ v = _
          unfold put
          by_cases hv : v = u
          · subst hv
            rw [if_pos rfl, if_pos (by rw [List.map_cons]; exact List.mem_cons_self ..)]
          · rw [if_neg hv, if_neg (by
              rw [List.map_cons, List.mem_cons]
              rintro (h | h)
              · cases h; exact hv rfl
              · exact hm h)]
        | inr s =>
          rw [if_neg (by
            rw [List.map_cons, List.mem_cons]
            rintro (h | h)
            · cases h
            · exact hm h)]
  exact gen l (ini root)
theorem way_lates {kvs : List (Key × V)} (up : rs.Pairwise R4.lt) (hok : ∀ r ∈ rs, RoadOk n r) (I : IInv n rs root f) (C : Closed rs f) (hD : DI kvs (wayF f rs)) : latF rs root (wayF f rs) kvs.length kvs = f := by
  funext v
  rw [latF_val]
  by_cases hk : (Sum.inl v : Key) ∈ kvs.map (·.1)
  · rw [if_pos hk]
    have := (way_dom hok I C v).mp ((hD.mem v).mp hk)
    obtain ⟨b, e⟩ := Option.isSome_iff_exists.mp this.2
    rw [e, way_late up hok I C hD e]
  · rw [if_neg hk]
    have hn : ¬ (wayF f rs v).isSome = true := fun z => hk ((hD.mem v).mpr z)
    unfold ini put
    by_cases hv : v = root
    · rw [if_pos hv, hv, I.rt0]
    · rw [if_neg hv]
      cases e : f v with
      | none => rfl
      | some b => exact absurd ((way_dom hok I C v).mpr ⟨hv, by rw [e]; rfl⟩) hn
end
theorem strict_ext : ∀ {a b : List Int}, a.Pairwise (· < ·) → b.Pairwise (· < ·) → (∀ x, x ∈ a ↔ x ∈ b) → a = b
  | [], [], _, _, _ => rfl
  | [], y :: b, _, _, h => by have := (h y).mpr (List.mem_cons_self ..); cases this
  | x :: a, [], _, _, h => by have := (h x).mp (List.mem_cons_self ..); cases this
  | x :: a, y :: b, ha, hb, h => by
    have ha' := List.pairwise_cons.mp ha
    have hb' := List.pairwise_cons.mp hb
    have exy : x = y := by
      rcases List.mem_cons.mp ((h x).mp (List.mem_cons_self ..)) with e | e
      · exact e
      · rcases List.mem_cons.mp ((h y).mpr (List.mem_cons_self ..)) with e' | e'
        · exact e'.symm
        · have := hb'.1 x e
          have := ha'.1 y e'
          omega
    subst exy
    congr 1
    refine strict_ext ha'.2 hb'.2 fun z => ?_
    constructor
    · intro hz
      rcases List.mem_cons.mp ((h z).mp (List.mem_cons_of_mem _ hz)) with e | e
      · subst e; exact absurd (ha'.1 _ hz) (Int.lt_irrefl _)
      · exact e
    · intro hz
      rcases List.mem_cons.mp ((h z).mpr (List.mem_cons_of_mem _ hz)) with e | e
      · subst e; exact absurd (hb'.1 _ hz) (Int.lt_irrefl _)
      · exact e
section
variable {P : Program} {w : World} {K : PySem.W.Frag} {mg : Str → Option Value} {base : Heap}
def spWays (K : PySem.W.Frag) (Pn Pr : Addr) : Sp := fun vs H Q _ => ∃ (a : Addr) (n : Int) (rs : List R4) (root : Int), vs = [.ref a, .int root] ∧ NetAt K H a n rs ∧ Good n rs ∧ rs.length ≤ 156 ∧ 0 ≤ root ∧ root < n ∧ TabG H Pn ∧ TabG H Pr ∧
  ∀ (p : Addr) (kvs : List (Key × V)) (H' : Hp), K0 H H' → H p = none → H' p = some (.dK kvs) → DI kvs (wayF (due n rs root) rs) → kvs.length ≤ 12 → Q (.ref p) H'
end
end HK

set_option Elab.async false
set_option linter.all false
set_option maxRecDepth 100000
set_option maxHeartbeats 4000000
namespace HK
open PySem PySem.Spec PyProof.Rows L2 GAl GxR
open Evl (pss_cut)
/-! ### the roads on time -/
noncomputable def onT (n : Int) (rs : List R4) (root : Int) : List R4 := rs.filter (tight (due n rs root))
theorem tight_none {f : IF} {r : R4} (h : f r.s = none) : tight f r = false := by unfold tight; rw [h]
theorem tight_some {f : IF} {r : R4} {a b : Int} (h : f r.s = some a) (h2 : f r.e = some b) : tight f r = decide (a + r.l = b) := by
  unfold tight
  rw [h, h2, Bool.eq_iff_iff]
  simp [eq_comm]
theorem filter_take {α : Type} {p : α → Bool} {l : List α} {j : Nat} {x : α} (h : l[j]? = some x) : (l.take (j + 1)).filter p = (l.take j).filter p ++ (if p x = true then [x] else []) := by
  rw [List.take_add_one, h, List.filter_append]
  congr 1
  show [x].filter p = _
  cases hp : p x <;> simp [List.filter, hp]
section
variable {P : Program} {w : World} {K : PySem.W.Frag} {mg : Str → Option Value} {base : Heap}
def spAOn (K : PySem.W.Frag) : Sp := fun vs H Q _ => ∃ (a : Addr) (n : Int) (rs : List R4) (root : Int), vs = [.ref a, .int root] ∧ NetAt K H a n rs ∧ Good n rs ∧ rs.length ≤ 156 ∧ 0 ≤ root ∧ root < n ∧
  ∀ (q : Addr) (ys : List V) (H' : Hp), K0 H H' → SqT K H' q ys → Roads K H' ys (onT n rs root) → Q (.ref q) H'
def spOnTime (K : PySem.W.Frag) (Pn Pr : Addr) : Sp := fun vs H Q _ => ∃ (a : Addr) (n : Int) (rs : List R4) (root : Int), vs = [.ref a, .int root] ∧ NetAt K H a n rs ∧ Good n rs ∧ rs.length ≤ 156 ∧ 0 ≤ root ∧ root < n ∧ TabG H Pn ∧ TabG H Pr ∧
  ∀ (q : Addr) (H' : Hp), K0 H H' → NetAt K H' q n (onT n rs root) → Q (.ref q) H'
end
end HK

set_option Elab.async false
set_option linter.all false
set_option maxRecDepth 100000
set_option maxHeartbeats 4000000
namespace HK
open PySem PySem.Spec PyProof.Rows L2 GAl GxR
/-! ### trees on time -/
section
variable {n root : Int} {rs : List R4} {g : IF} {m : Nat}
/-- a tree that serves hearers, each with its least lateness -/
def OnTP (n : Int) (rs : List R4) (root : Int) (g : IF) (m : Nat) (kvs : List (Key × V)) (ns : List Int) : Prop := TreeP rs root g m ∧ ServP root g ns ∧ ∀ v ∈ ns, latF rs root g m kvs v = due n rs root v
theorem tree_due (hT : TreeP rs root g m) (hG : Good n rs) (r0 : 0 ≤ root) (r1 : root < n) : ∀ (k : Nat) (v : Int), clm g k v = root → ∃ a, due n rs root v = some a ∧ a ≤ lsum rs root g k v
  | 0, v, h => by
    have h : v = root := h
    subst h
    exact ⟨0, (due_inv hG.ok r0 r1).rt0, Int.le_refl _⟩
  | k + 1, v, h => by
    cases e : g v with
    | none =>
      have := clm_fix (i := 0) (v := v) (g := g) e (k + 1)
      rw [Nat.zero_add] at this
      rw [this] at h
      have h : v = root := h
      rw [h, lsum_root hT.1]
      exact ⟨0, (due_inv hG.ok r0 r1).rt0, Int.le_refl _⟩
    | some x =>
      have hv : v ≠ root := fun z => by
        rw [z, hT.1] at e
        cases e
      obtain ⟨r, er⟩ := Option.isSome_iff_exists.mp (hT.2.1 v x e)
      obtain ⟨q1, q2, q3⟩ := road_some er
      rw [clm_sft, stp_some e] at h
      obtain ⟨a, ha, hal⟩ := tree_due hT hG r0 r1 k x h
      obtain ⟨b, hb, hbl⟩ := due_closed hG.ok r0 r1 r q1 a (by rw [q2]; exact ha)
      rw [q3] at hb
      refine ⟨b, hb, ?_⟩
      rw [lsum_sft, if_neg hv, stp_some e, er]
      show b ≤ r.l + lsum rs root g k x
      omega
theorem onT_road (up : rs.Pairwise R4.lt) {r : R4} {x v : Int} (er : road rs x v = some r) : (road (onT n rs root) x v).isSome = true ↔ tight (due n rs root) r = true := by
  obtain ⟨q1, q2, q3⟩ := road_some er
  constructor
  · intro h
    obtain ⟨r', er'⟩ := Option.isSome_iff_exists.mp h
    obtain ⟨p1, p2, p3⟩ := road_some er'
    obtain ⟨p1, p4⟩ := List.mem_filter.mp p1
    have : road rs r'.s r'.e = some r' := road_of up p1
    rw [p2, p3, er] at this
    cases this
    exact p4
  · intro h
    have hm : r ∈ onT n rs root := List.mem_filter.mpr ⟨q1, h⟩
    cases e : road (onT n rs root) x v with
    | none => exact absurd ⟨q2, q3⟩ (road_none e r hm)
    | some _ => rfl
theorem ontime_iff (hT : TreeP rs root g m) (hG : Good n rs) (r0 : 0 ≤ root) (r1 : root < n) : ∀ (k : Nat) (v : Int), clm g k v = root → (due n rs root v = some (lsum rs root g k v) ↔ ∀ i, i < k → ∀ x, g (clm g i v) = some x → (road (onT n rs root) x (clm g i v)).isSome = true)
  | 0, v, h => by
    have h : v = root := h
    subst h
    exact ⟨fun _ i hi => absurd hi (Nat.not_lt_zero _), fun _ => (due_inv hG.ok r0 r1).rt0⟩
  | k + 1, v, h => by
    cases e : g v with
    | none =>
      have fix : ∀ j, clm g j v = v := fun j => by
        have := clm_fix (i := 0) (v := v) (g := g) e j
        rw [Nat.zero_add] at this
        exact this
      rw [fix] at h
      subst h
      rw [lsum_root hT.1]
      refine ⟨fun _ i hi x hx => ?_, fun _ => (due_inv hG.ok r0 r1).rt0⟩
      rw [fix, e] at hx
      cases hx
    | some x =>
      have hv : v ≠ root := fun z => by
        rw [z, hT.1] at e
        cases e
      obtain ⟨r, er⟩ := Option.isSome_iff_exists.mp (hT.2.1 v x e)
      obtain ⟨q1, q2, q3⟩ := road_some er
      have hs : ∀ i, clm g (i + 1) v = clm g i x := fun i => by rw [clm_sft, stp_some e]
      rw [hs] at h
      obtain ⟨a, ha, hal⟩ := tree_due hT hG r0 r1 k x h
      have ha' : due n rs root r.s = some a := by rw [q2]; exact ha
      obtain ⟨b, hb, hbl⟩ := due_closed hG.ok r0 r1 r q1 a ha'
      have ih := ontime_iff hT hG r0 r1 k x h
      have el : lsum rs root g (k + 1) v = r.l + lsum rs root g k x := by
        rw [lsum_sft, if_neg hv, stp_some e, er]
        rfl
      have ht := onT_road (n := n) (root := root) hG.up er
      rw [tight_some ha' hb, decide_eq_true_iff] at ht
      have hb' : due n rs root v = some b := by rw [← q3]; exact hb
      rw [hb', el]
      constructor
      · intro hq
        have hq : b = r.l + lsum rs root g k x := Option.some.inj hq
        have h1 : a = lsum rs root g k x := by omega
        intro i hi y hy
        cases i with
        | zero =>
          have hy : g v = some y := hy
          rw [e] at hy
          cases hy
          exact ht.mpr (by omega)
        | succ i =>
          rw [hs] at hy ⊢
          exact ih.mp (by rw [ha, h1]) i (by omega) y hy
      · intro hq
        have h0 := ht.mp (hq 0 (by omega) x e)
        have h1 := ih.mpr fun i hi y hy => by
          have := hq (i + 1) (by omega) y (by rw [hs]; exact hy)
          rw [hs] at this
          exact this
        rw [ha] at h1
        have h1 := Option.some.inj h1
        rw [← h1, ← h0, Int.add_comm]
theorem served {v : Int} (hT : TreeP rs root g m) (h : v = root ∨ (g v).isSome = true) : clm g m v = root := by
  rcases h with h | h
  · subst h
    have := clm_root (i := 0) (v := v) hT.1 rfl m
    rwa [Nat.zero_add] at this
  · obtain ⟨x, e⟩ := Option.isSome_iff_exists.mp h
    exact hT.2.2 v x e
/-- told by the roads -/
theorem ontp_roads {kvs : List (Key × V)} {ns : List Int} (hD : DI kvs g) (hG : Good n rs) (r0 : 0 ≤ root) (r1 : root < n) : OnTP n rs root g kvs.length kvs ns ↔ TreeP rs root g kvs.length ∧ ∀ v ∈ ns, (v = root ∨ (g v).isSome = true) ∧ ∀ i, i < kvs.length → ∀ x, g (clm g i v) = some x → (road (onT n rs root) x (clm g i v)).isSome = true := by
  constructor
  · rintro ⟨hT, hS, hL⟩
    refine ⟨hT, fun v hv => ⟨hS v hv, ?_⟩⟩
    have := hL v hv
    rw [lat_iff hD hT.1, if_pos (hS v hv)] at this
    exact (ontime_iff hT hG r0 r1 _ v (served hT (hS v hv))).mp this.symm
  · rintro ⟨hT, h⟩
    refine ⟨hT, fun v hv => (h v hv).1, fun v hv => ?_⟩
    rw [lat_iff hD hT.1, if_pos (h v hv).1]
    exact ((ontime_iff hT hG r0 r1 _ v (served hT (h v hv).1)).mpr (h v hv).2).symm
end
end HK

set_option Elab.async false
set_option linter.all false
set_option maxRecDepth 100000
set_option maxHeartbeats 8000000
namespace HK
open PySem PySem.Spec PyProof.Rows L2 GAl GxR HkN
open Evl (pss_cut)
/-! ### what is told, and the least of all trees gone through -/
/-- a tree that serves -/
def STree (rs : List R4) (root : Int) (hs : List Int) (g : IF) : Prop := ∃ m, TreeP rs root g m ∧ ServP root g hs
def ToldP (nn : Nat) (rs : List R4) (root : Int) (hs : List Int) (t : Option Int) : Prop := (t = none ∧ ¬ ∀ h ∈ hs, (due nn rs root h).isSome = true) ∨ ∃ (y : Int) (T : TF) (S : SF) (g : IF), t = some y ∧ (∀ h ∈ hs, (due nn rs root h).isSome = true) ∧ (∀ s ∈ compsN hs, RowOK rs nn T S s) ∧ T hs root = some y ∧ GoodG nn rs root g ∧ STree rs root hs g ∧ prG g rs = y
theorem STree.reached {nn : Nat} {rs : List R4} {root : Int} {hs : List Int} {g : IF} (hg : Good (nn : Int) rs) (r0 : 0 ≤ root) (r1 : root < nn) (h : STree rs root hs g) : ∀ v ∈ hs, (due nn rs root v).isSome = true := fun v hv => by
  obtain ⟨m, hT, hS⟩ := h
  obtain ⟨y, ey, _⟩ := tree_due hT hg r0 r1 _ v (served hT (hS v hv))
  rw [ey]; rfl
theorem ToldP.low {nn : Nat} {rs : List R4} {root : Int} {hs : List Int} {t : Option Int} {g : IF} (hg : Good (nn : Int) rs) (r0 : 0 ≤ root) (r1 : root < nn) (hA : AreP nn hs) (hne : hs ≠ []) (h : ToldP nn rs root hs t) (hS : STree rs root hs g) : ∃ y, t = some y ∧ y ≤ prG g rs := by
  rcases h with ⟨_, hn⟩ | ⟨y, T, S, g', e, _, hRow, hT, _⟩
  · exact absurd (hS.reached hg r0 r1) hn
  · obtain ⟨m, h1, h2⟩ := hS
    obtain ⟨z, ez, hz⟩ := low_bound hg h1 h2 (hA.2.imp fun a => Int.ne_of_lt a) hne hA.1 hRow r0 r1
    rw [hT] at ez
    cases ez
    exact ⟨_, e, hz⟩
theorem ToldP.att {nn : Nat} {rs : List R4} {root : Int} {hs : List Int} {t : Option Int} (h : ToldP nn rs root hs t) {y : Int} (e : t = some y) : ∃ g, GoodG nn rs root g ∧ STree rs root hs g ∧ prG g rs = y := by
  rcases h with ⟨e2, _⟩ | ⟨z, T, S, g, e2, _, _, _, h1, h2, h3⟩
  · rw [e2] at e; cases e
  · rw [e2] at e
    cases e
    exact ⟨g, h1, h2, h3⟩
section
variable {P : Program} {w : World} {K : PySem.W.Frag} {mg : Str → Option Value} {base : Heap}
def spAToldC (P : Program) (w : World) (K : PySem.W.Frag) (Pn Pr Pa Pp Pg : Addr) : Sp := fun vs H Q _ => ∃ (a : Addr) (nn : Nat) (rs : List R4) (root : Int) (p : Addr) (hs : List Int), vs = [.ref a, .int root, .ref p] ∧ NetAt K H a nn rs ∧ Good nn rs ∧ rs.length ≤ 156 ∧ 0 ≤ root ∧ root < nn ∧ SqT K H p (iV hs) ∧ AreP nn hs ∧ hs ≠ [] ∧ hs.length ≤ 6 ∧ TbL H [Pn, Pr, Pa, Pp, Pg] ∧
  ∀ (t : Option Int) (H' : Hp), K0 H H' → ToldP nn rs root hs t → Q (nV t) H'
def spAllDicts (K : PySem.W.Frag) : Sp := fun vs H Q _ => ∃ (a : Addr) (nn : Nat) (rs : List R4) (root : Int), vs = [.ref a, .int root] ∧ NetAt K H a nn rs ∧ Good nn rs ∧ (nn : Int) ≤ 4 ∧
  ∀ (l : Addr) (bs : List Addr) (gs : List IF) (H' : Hp), K0 H H' → H' l = some (.lst (bs.map V.ref)) → RowsAt H' bs gs → (∀ g, GoodG nn rs root g → g ∈ gs) → RngG nn gs → Q (.ref l) H'
end
end HK

set_option Elab.async false
set_option linter.all false
set_option maxRecDepth 100000
set_option maxHeartbeats 4000000
namespace HK
open PySem PySem.Spec PyProof.Rows L2 GAl GxR HkN
/-! ### sends beside each other: more that keep a number; a net with all roads -/
theorem stands_keys {kps kps' : KpL} (h : kps'.map (·.1) = kps.map (·.1)) : stands kps' = stands kps := by
  funext r
  unfold stands
  rw [h]
theorem prG_imp {g g' : IF} : ∀ {rs : List R4}, (∀ r ∈ rs, 0 ≤ r.c) → (∀ r ∈ rs, g r.e = some r.s → g' r.e = some r.s) → prG g rs ≤ prG g' rs
  | [], _, _ => Int.le_refl _
  | r :: rs, hc, h => by
    have ih := prG_imp (g := g) (g' := g') (rs := rs) (fun q hq => hc q (List.mem_cons_of_mem _ hq)) (fun q hq => h q (List.mem_cons_of_mem _ hq))
    have c0 := hc r (List.mem_cons_self ..)
    show (if g r.e = some r.s then r.c else 0) + prG g rs ≤ (if g' r.e = some r.s then r.c else 0) + prG g' rs
    by_cases e : g r.e = some r.s
    · rw [if_pos e, if_pos (h r (List.mem_cons_self ..) e)]
      omega
    · rw [if_neg e]
      split <;> omega
theorem prG_filter {g : IF} {p : R4 → Bool} : ∀ {rs : List R4}, (∀ r ∈ rs, 0 ≤ r.c) → prG g (rs.filter p) ≤ prG g rs
  | [], _ => Int.le_refl _
  | r :: rs, hc => by
    have ih := prG_filter (g := g) (p := p) (rs := rs) (fun q hq => hc q (List.mem_cons_of_mem _ hq))
    have c0 := hc r (List.mem_cons_self ..)
    have e2 : prG g (r :: rs) = (if g r.e = some r.s then r.c else 0) + prG g rs := rfl
    rw [e2, List.filter_cons]
    have h0 : (0 : Int) ≤ (if g r.e = some r.s then r.c else 0) := by split <;> omega
    split
    · show (if g r.e = some r.s then r.c else 0) + prG g (rs.filter p) ≤ _
      omega
    · omega
/-- the tree of a send, where more keep the number -/
theorem tree_up {n : Int} {rs : List R4} {kps kps' : KpL} {ks ks' ls ls' : List Int} {h : IF} {M : Nat} (hg : Good n rs) (hn : n < 12) (hA : AreP n ks') (hkeys : kps'.map (·.1) = kps.map (·.1)) (hsub : ∀ v ∈ ks, v ∈ ks') (hl : ∀ v ∈ ls', v ∈ ls) (hd : ∀ v ∈ ls', v ∉ ks')
    (ok : SendOk rs kps ks ls h M) : TreeP (sendK n rs kps' ks') n (upN n ks' h) (M + 1) ∧ ServP n (upN n ks' h) ls' ∧ prG (upN n ks' h) (sendK n rs kps' ks') ≤ prG h rs := by
  have hk : n ∉ ks' := fun z => by have := hA.1 n z; omega
  have hnn : h n = none := by
    cases e : h n with
    | none => rfl
    | some x =>
      obtain ⟨r, hr, _, h2, _⟩ := ok.road n x e
      have := (hg.ok r hr).e1
      omega
  have hG := sendK_good (kps := kps') hg hn hA
  have hst := stands_keys hkeys
  have up0 : upN n ks' h n = none := by unfold upN; rw [if_neg hk]; exact hnn
  have upk : ∀ v ∈ ks', upN n ks' h v = some n := fun v hv => if_pos hv
  have upo : ∀ v, v ∉ ks' → upN n ks' h v = h v := fun v hv => if_neg hv
  have trk : ∀ v j, clm (upN n ks' h) j v = clm h j v ∨ clm (upN n ks' h) j v = n := fun v j => by
    induction j with
    | zero => exact .inl rfl
    | succ j ih =>
      rcases ih with ih | ih
      · by_cases hm : clm h j v ∈ ks'
        · right
          show stp (upN n ks' h) (clm (upN n ks' h) j v) = n
          rw [ih, stp_some (upk _ hm)]
        · left
          show stp (upN n ks' h) (clm (upN n ks' h) j v) = stp h (clm h j v)
          rw [ih]
          unfold stp
          rw [upo _ hm]
      · right
        show stp (upN n ks' h) (clm (upN n ks' h) j v) = n
        rw [ih, stp_none up0]
  refine ⟨⟨up0, fun v x e => ?_, fun v x e => ?_⟩, fun v hv => .inr (by rw [upo v (hd v hv)]; exact ok.all v (hl v hv)), ?_⟩
  · by_cases hm : v ∈ ks'
    · rw [upk v hm] at e
      cases e
      have hmem : (⟨n, v, 0, 1⟩ : R4) ∈ sendK n rs kps' ks' := sendK_mem.mpr (.inr ⟨v, hm, rfl⟩)
      rw [road_of hG.up hmem]
      rfl
    · rw [upo v hm] at e
      obtain ⟨r, hr, h1, h2, h3⟩ := ok.road v x e
      have hmem : r ∈ sendK n rs kps' ks' := sendK_mem.mpr (.inl ⟨hr, by rw [hst]; exact h3⟩)
      have := road_of hG.up hmem
      rw [h1, h2] at this
      rw [this]
      rfl
  · by_cases hm : v ∈ ks'
    · have h1 : clm (upN n ks' h) 1 v = n := by
        show stp (upN n ks' h) v = n
        exact stp_some (upk v hm)
      have := clm_root up0 h1 M
      rwa [Nat.add_comm] at this
    · rw [upo v hm] at e
      have hend := hsub _ (ok.ends v x e)
      show stp (upN n ks' h) (clm (upN n ks' h) M v) = n
      rcases trk v M with ht | ht
      · rw [ht, stp_some (upk _ hend)]
      · rw [ht, stp_none up0]
  · have hc : ∀ r ∈ rs, 0 ≤ r.c := fun r hr => (hg.ok r hr).c0
    have e1 : prG (upN n ks' h) (sendK n rs kps' ks') = prG (upN n ks' h) (rs.filter (stands kps')) := by
      unfold sendK
      rw [prG_append, prG_star]
      omega
    rw [e1]
    refine Int.le_trans (prG_imp (g' := h) (fun r hr => hc r (List.mem_filter.mp hr).1) fun r hr e => ?_) (prG_filter hc)
    have hs := (hg.ok r (List.mem_filter.mp hr).1).s1
    by_cases hm : r.e ∈ ks'
    · rw [upk _ hm] at e
      have := Option.some.inj e
      omega
    · rw [upo _ hm] at e
      exact e
/-- a net with all roads, each of price 1 -/
def AllR (nn : Nat) (rs : List R4) : Prop := (∀ r ∈ rs, r.c = 1) ∧ ∀ i j : Int, 0 ≤ i → i < nn → 0 ≤ j → j < nn → i ≠ j → ∃ r ∈ rs, r.s = i ∧ r.e = j
/-- all sent by one of those that keep it -/
def starF (k : Int) (ls : List Int) : IF := fun v => if v ∈ ls then some k else none
theorem star_ok {nn : Nat} {rs : List R4} {kps : KpL} {ks ls : List Int} {k : Int} (hg : Good (nn : Int) rs) (hR : AllR nn rs) (hkl : ∀ v ∈ ks, v ∈ kps.map (·.1)) (hll : ∀ v ∈ ls, v ∈ kps.map (·.1)) (hA : AreP nn ks) (hL : AreP nn ls) (hd : ∀ v ∈ ls, v ∉ ks) (hk : k ∈ ks) : SendOk rs kps ks ls (starF k ls) 1 := by
  have he : ∀ v x, starF k ls v = some x → v ∈ ls ∧ x = k := fun v x e => by
    unfold starF at e
    by_cases h : v ∈ ls
    · rw [if_pos h] at e
      exact ⟨h, (Option.some.inj e).symm⟩
    · rw [if_neg h] at e; cases e
  refine ⟨fun v x e => ?_, fun v x e => hd v (he v x e).1, fun v x e => ?_, fun v x e => .inl (he v x e).1, fun v hv => by unfold starF; rw [if_pos hv]; rfl⟩
  · obtain ⟨h1, rfl⟩ := he v x e
    have a1 := hA.1 _ hk
    have a2 := hL.1 _ h1
    obtain ⟨r, hr, e1, e2⟩ := hR.2 x v a1.1 a1.2 a2.1 a2.2 (fun z => hd v h1 (by rw [← z]; exact hk))
    refine ⟨r, hr, e1, e2, ?_⟩
    unfold stands
    rw [e1, e2, decide_eq_true (hkl _ hk), decide_eq_true (hll _ h1)]
    rfl
  · show stp (starF k ls) v ∈ ks
    rw [stp_some e, (he v x e).2]
    exact hk
theorem prG_ones {g : IF} {rs : List R4} (h1 : ∀ r ∈ rs, r.c = 1) : prG g rs = ((rs.filter fun r => decide (g r.e = some r.s)).length : Nat) := by
  rw [prG_sumC (fun r hr => by rw [h1 r hr]; decide)]
  congr 1
  have : ∀ l : List R4, (∀ r ∈ l, r.c = 1) → sumC l = l.length := fun l => by
    induction l with
    | nil => intro _; rfl
    | cons r l ih =>
      intro h
      have := ih fun q hq => h q (List.mem_cons_of_mem _ hq)
      unfold sumC at this ⊢
      rw [List.map_cons, List.sum_cons, this, h r (List.mem_cons_self ..), List.length_cons]
      show 1 + l.length = _
      omega
  exact this _ fun r hr => h1 r (List.mem_filter.mp hr).1
theorem star_price {nn : Nat} {rs : List R4} {k : Int} {ls : List Int} (hg : Good (nn : Int) rs) (h1 : ∀ r ∈ rs, r.c = 1) : prG (starF k ls) rs ≤ (ls.length : Nat) := by
  rw [prG_ones h1]
  refine Int.ofNat_le.mpr ?_
  have hn : ((rs.filter fun r => decide (starF k ls r.e = some r.s)).map (·.e)).Nodup := by
    refine List.pairwise_map.mpr ((List.Pairwise.imp_of_mem (fun {a b} ha hb h => ?_) (hg.up.sublist List.filter_sublist)))
    have ea := of_decide_eq_true (List.mem_filter.mp ha).2
    have eb := of_decide_eq_true (List.mem_filter.mp hb).2
    have sk : ∀ r : R4, starF k ls r.e = some r.s → r.s = k := fun r e => by
      unfold starF at e
      by_cases h : r.e ∈ ls
      · rw [if_pos h] at e; exact (Option.some.inj e).symm
      · rw [if_neg h] at e; cases e
    have e1 := sk a ea
    have e2 := sk b eb
    intro z
    rcases h with h | ⟨_, h⟩
    · omega
    · have z : a.e = b.e := z
      omega
  have := sub_lenG hn (ks := ls) fun v hv => by
    obtain ⟨r, hr, rfl⟩ := List.mem_map.mp hv
    have e := of_decide_eq_true (List.mem_filter.mp hr).2
    by_cases h : r.e ∈ ls
    · exact h
    · unfold starF at e
      rw [if_neg h] at e; cases e
  rw [List.length_map] at this
  exact this
/-- in a net with all roads just those that lack it are sent it -/
theorem all_count {nn : Nat} {rs : List R4} {kps wps : KpL} {m : Int} {h : IF} {lst : List (Key × V)} (hg : Good (nn : Int) rs) (hn : nn < 12) (hR : AllR nn rs) (hO : KpOk nn kps) (hW : KpOk nn wps) (hsub : ∀ p ∈ wps, p.1 ∈ kps.map (·.1)) (ok : MendOk nn rs kps wps m h) (hk : hasK kps m = true) (hD : DI lst h) : lst.length = (lackL kps wps m).length := by
  obtain ⟨⟨M, so⟩, _, T, S, hRow, hT⟩ := ok
  have hAk := keep_areP hO m
  have hAl := lack_areP (kps := kps) hW m
  have hdis : ∀ v ∈ lackL kps wps m, v ∉ keepK kps m := fun v hv hv2 => by
    obtain ⟨_, _, _, h3⟩ := lack_mem.mp hv
    obtain ⟨ns, h4, h5⟩ := keep_mem.mp hv2
    exact h3 ns h4 h5
  obtain ⟨ks, nk, lk, mk, _⟩ := hD.keys
  -- all that lack it are keys
  have h1 : (lackL kps wps m).length ≤ lst.length := by
    rw [← lk]
    exact sub_lenG (hAl.2.imp fun a => Int.ne_of_lt a) fun v hv => (mk v).mpr (so.all v hv)
  by_cases hne : lackL kps wps m = []
  · have : ks = [] := by
      cases e : ks with
      | nil => rfl
      | cons v r =>
        exfalso
        have hv : (h v).isSome = true := (mk v).mp (by rw [e]; exact List.mem_cons_self ..)
        -- somebody at the end is nobody's ahead
        have noone : ∀ j : Nat, ∀ v, (h v).isSome = true → ∃ u, (h u).isSome = true ∧ clm h j u = v := fun j => by
          induction j with
          | zero => intro v hv; exact ⟨v, hv, rfl⟩
          | succ j ih =>
            intro v hv
            obtain ⟨x, ex⟩ := Option.isSome_iff_exists.mp hv
            rcases so.trim v x ex with hl | ⟨u, hu⟩
            · rw [hne] at hl; cases hl
            · obtain ⟨z, hz, ez⟩ := ih u (by rw [hu]; rfl)
              refine ⟨z, hz, ?_⟩
              show stp h (clm h j z) = v
              rw [ez, stp_some hu]
        obtain ⟨u, hu, eu⟩ := noone M v hv
        obtain ⟨x, ex⟩ := Option.isSome_iff_exists.mp hu
        have := so.ends u x ex
        rw [eu] at this
        obtain ⟨y, ey⟩ := Option.isSome_iff_exists.mp hv
        exact so.notk v y ey this
    rw [this] at lk
    rw [hne]
    exact lk.symm
  obtain ⟨k, hkk⟩ : ∃ k, k ∈ keepK kps m := by
    cases e : keepK kps m with
    | nil => exact absurd e (of_decide_eq_true hk)
    | cons k r => exact ⟨k, List.mem_cons_self ..⟩
  have hkl : ∀ v ∈ keepK kps m, v ∈ kps.map (·.1) := fun v hv => by
    obtain ⟨ms, h1, _⟩ := keep_mem.mp hv
    exact List.mem_map.mpr ⟨_, h1, rfl⟩
  have hll : ∀ v ∈ lackL kps wps m, v ∈ kps.map (·.1) := fun v hv => by
    obtain ⟨ms, h1, _⟩ := lack_mem.mp hv
    exact hsub _ h1
  have st := star_ok hg hR hkl hll hAk hAl hdis hkk
  obtain ⟨t1, t2, t3⟩ := st.tree hg (by omega) hAk hdis
  have hG9 := sendK_good (kps := kps) hg (by omega) hAk
  obtain ⟨y, ey, ly⟩ := low_bound (nn := nn + 1) hG9 t1 t2 (hAl.2.imp fun a => Int.ne_of_lt a) hne (fun v hv => by have := hAl.1 v hv; omega) hRow (by omega) (by omega)
  rw [hT] at ey
  have ey := Option.some.inj ey
  have l2 := star_price (k := k) (ls := lackL kps wps m) hg hR.1
  have h2 : (lst.length : Int) ≤ prG h rs := by
    rw [prG_ones hR.1]
    refine Int.ofNat_le.mpr ?_
    rw [← lk, ← List.length_map (f := fun r : R4 => r.e)]
    refine sub_lenG nk fun v hv => ?_
    obtain ⟨x, ex⟩ := Option.isSome_iff_exists.mp ((mk v).mp hv)
    obtain ⟨r, hr, e1, e2, _⟩ := so.road v x ex
    exact List.mem_map.mpr ⟨r, List.mem_filter.mpr ⟨hr, decide_eq_true (by rw [e1, e2]; exact ex)⟩, e2⟩
  omega
end HK

set_option Elab.async false
set_option linter.all false
set_option maxRecDepth 100000
set_option maxHeartbeats 2000000
/-! sorted(xs), xs a tuple of whole numbers: along the library's rule for lists -/
namespace PyProof.Rows
open PySem
section
variable {prog : Program} {w : World} {A : Around} {E : Value → Shared → Prop} {s : Shared}
theorem hk_collectT {l : Addr} {vs : List Value} {Q : List Value → Shared → Prop} (hl : s.heap.IsTuple l vs.toArray)
    (h : Q vs { s with heap := (s.heap.push (seqObj "list" #[] 0)).update s.heap.objs.size (Obj.mapSeq (· ++ vs.toArray)) }) (hsz : vs.length ≤ sizeLine) :
    wpAny (model prog w) A (collect (.ref l)) Q E s := by
  obtain ⟨o, ho, hc, n, hd⟩ := id hl
  unfold collect
  refine wpAny_bind (wpAny_runValue (codeAny_builtin entry_proto_collect' ?_))
  show wpAny _ _ (do again (.builtin "list.__iadd__" ⟨[← newList [], .ref l], []⟩)) _ _ s
  refine wpAny_bind (wpAny_newList (wpAny_pure ⟨Code.quiet_builtin _ (by decide +kernel), codeAny_builtin entry_list_iadd' ?_⟩))
  show wpAny _ _ (Builtin.List.listExtendWith (.ref s.heap.objs.size) (.ref l) (.ref s.heap.objs.size)) _ _ { s with heap := s.heap.push (seqObj "list" #[] 0) }
  unfold Builtin.List.listExtendWith
  have ho' : (s.heap.push (seqObj "list" #[] 0)).get? l = some o := Heap.get?_push_of_some _ ho
  refine wpAny_bind (wpAny_typeOf (T := "tuple") ⟨o, ho', hc⟩ ?_)
  have ht : (Value.type "tuple" == Value.type "tuple") = true := by rfl
  rw [if_pos (by rw [ht]; simp)]
  refine wpAny_bind (listItems_at ho' hd ?_)
  refine wpAny_bind (listItems_at (xs := #[]) (n := 0) (Heap.get?_push_size _ rfl) rfl ?_)
  rw [if_neg (by simp)]
  refine wpAny_bind (listUpdate_at (xs := #[]) (n := 0) (Heap.get?_push_size _ rfl) rfl ?_ (Nat.zero_le _) (by show (#[] ++ vs.toArray).size ≤ sizeLine + 1; simp only [Array.size_append, List.size_toArray, List.length_nil]; omega))
  refine wpAny_pure ?_
  show wpAny (model prog w) A (do
      let o ← load s.heap.objs.size
      match o.data with
      | .seq xs _ => pure xs.toList
      | _ => unsupported "internal:collect") Q E { s with heap := (s.heap.push (seqObj "list" #[] 0)).update s.heap.objs.size (Obj.mapSeq (· ++ vs.toArray)) }
  refine wpAny_bind (wpAny_load (get?_update_seq (Heap.get?_push_size _ rfl) _) ?_)
  show wpAny _ _ (pure ((#[] : Array Value) ++ vs.toArray).toList) Q E _
  rw [show ((#[] : Array Value) ++ vs.toArray).toList = vs by simp]
  exact wpAny_pure h
theorem hk_sortedT {l : Addr} {vs : List Value} {ns : List Int} {Q : Value → Shared → Prop} (hl : s.heap.IsTuple l vs.toArray) (hI : IntsAre vs ns) (h64 : vs.length < 64)
    (h : ∀ (out : Array Value) (ns' : List Int), IntsAre out.toList ns' → ns'.Perm ns → ns'.Pairwise (· ≤ ·) → Q (.ref (s.heap.objs.size + 1)) { s with heap := sortedAll s.heap vs out }) :
    wpAny (model prog w) A (call (.builtin "sorted") [.ref l]) Q E s := by
  refine Calls.call_function_entry kind_sorted plain_sorted entry_sorted (args_sorted1 _) ?_
  unfold Builtin.«sorted»
  refine wpAny_bind (m := checkCount "sorted" 1 1 _) (wpAny_pure ?_)
  refine wpAny_bind (hk_collectT hl ?_ (by rw [sizeLine_eq]; omega))
  refine wpAny_bind (wpAny_newList ?_)
  have hsz : ((s.heap.push (seqObj "list" #[] 0)).update s.heap.objs.size (Obj.mapSeq (· ++ vs.toArray))).objs.size = s.heap.objs.size + 1 := by
    rw [Heap.size_update, size_push']
  have hoL : (((s.heap.push (seqObj "list" #[] 0)).update s.heap.objs.size (Obj.mapSeq (· ++ vs.toArray))).push (seqObj "list" vs.toArray 0)).get? (s.heap.objs.size + 1) = some (seqObj "list" vs.toArray 0) := by
    rw [← hsz]; exact Heap.get?_push_size _ rfl
  show wpAny _ _ _ _ _ { s with heap := ((s.heap.push (seqObj "list" #[] 0)).update s.heap.objs.size (Obj.mapSeq (· ++ vs.toArray))).push (seqObj "list" vs.toArray 0) }
  rw [hsz]
  refine wpAny_bind (wpAny_holding (wpAny_call_entry slot_list_sort ⟨_, hoL, rfl⟩ entry_list_sort (list_sort_tree hoL hI h64 fun out ns' a1 a2 a3 => ⟨_, rfl, ?_⟩) (args_list_sort _)))
  exact wpAny_pure ⟨_, rfl, h out ns' a1 a2 a3⟩
end
end PyProof.Rows
namespace HkT
open PySem PySem.Spec PyProof.Rows L2
section
variable {X : Cx}
def rSortedTi (K : PySem.W.Frag) : List V → Hp → VK → Prop := fun vs H Q => ∃ (a : Addr) (ns : List Int), vs = [V.ref a] ∧ SqT K H a (ns.map V.int) ∧ ns.length < 64 ∧
  ∀ (ns' : List Int) (p : Addr), ns'.Perm ns → ns'.Pairwise (· ≤ ·) → H p = none → Q (.ref p) (upd H p (.lst (ns'.map V.int)))
theorem cr_sortedTi : CallR X (.builtin "sorted") (rSortedTi X.K) := by
  intro pins s σ H vs us Q I r h
  obtain ⟨a, ns, rfl, hs, h64, q⟩ := h
  obtain ⟨its, rv, hl, _⟩ := I.tuple hs
  rw [Vals.ref1 r]
  have hi := rv.ints
  refine PyProof.Rows.hk_sortedT hl hi (by rw [hi.length]; exact h64) fun out ns' h1 h2 h3 => ?_
  obtain ⟨ep, he'⟩ := PyProof.Rows.sortedAll_at s.heap its out
  have hlen : (ns'.map V.int).length ≤ sizeLine := by rw [List.length_map, h2.length_eq]; exact small64 h64
  exact ⟨.ref _, upd H (s.heap.objs.size + 1) (.lst (ns'.map V.int)), I.laid (t' := s.toks) (fun _ _ => PyProof.Rows.sortedAll_old) (Nat.le_succ _) ⟨hlen, out.toList, ep, vals_of_ints h1, he'⟩, rfl, q ns' _ h2 h3 (I.hok.fresh (Nat.le_succ _))⟩
end
end HkT

set_option Elab.async false
set_option linter.all false
set_option maxRecDepth 100000
set_option maxHeartbeats 8000000
namespace HK
open PySem PySem.Spec PyProof.Rows L2 GAl GxR HkN
open Evl (pss_cut)
abbrev sACarried : Stmt := topS 60
abbrev N_scACarried : List Str := ["kept", "number", "ahead", "found", "taken", "turn", "place"]
theorem scACarried : FnScope N_scACarried ["kept", "number", "ahead"] (defScope sACarried) := ⟨rfl, rfl, rfl, by decide +kernel, rfl, by decide +kernel, by decide +kernel⟩
/-! ### a send carried out -/
def HasM (kps : KpL) (m p : Int) : Prop := ∃ ms, (p, ms) ∈ kps ∧ m ∈ ms
theorem hasM_keep {kps : KpL} {m p : Int} : HasM kps m p ↔ p ∈ keepK kps m := keep_mem.symm
/-- one place's numbers put otherwise -/
def setK (kps : KpL) (v : Int) (ms : List Int) : KpL := kps.map fun p => if p.1 = v then (p.1, ms) else p
theorem setK_keys (kps : KpL) (v : Int) (ms : List Int) : (setK kps v ms).map (·.1) = kps.map (·.1) := by
  unfold setK
  rw [List.map_map]
  refine List.map_congr_left fun p _ => ?_
  show (if p.1 = v then (p.1, ms) else p).1 = p.1
  split <;> rfl
theorem setK_mem {kps : KpL} {v p : Int} {ms ns : List Int} : (p, ns) ∈ setK kps v ms ↔ (p ≠ v ∧ (p, ns) ∈ kps) ∨ (p = v ∧ ns = ms ∧ v ∈ kps.map (·.1)) := by
  unfold setK
  constructor
  · intro h
    obtain ⟨⟨q, us⟩, hq, e⟩ := List.mem_map.mp h
    by_cases hv : q = v
    · have e : (if q = v then (q, ms) else (q, us)) = (p, ns) := e
      rw [if_pos hv] at e
      cases e
      exact .inr ⟨hv, rfl, List.mem_map.mpr ⟨_, hq, hv⟩⟩
    · have e : (if q = v then (q, ms) else (q, us)) = (p, ns) := e
      rw [if_neg hv] at e
      cases e
      exact .inl ⟨hv, hq⟩
  · rintro (⟨h1, h2⟩ | ⟨rfl, rfl, h⟩)
    · exact List.mem_map.mpr ⟨_, h2, if_neg h1⟩
    · obtain ⟨⟨q, us⟩, hq, rfl⟩ := List.mem_map.mp h
      exact List.mem_map.mpr ⟨_, hq, if_pos rfl⟩
theorem KpOk.set {n : Int} {kps : KpL} {v : Int} {ms : List Int} (h : KpOk n kps) (h1 : ms.Pairwise (· < ·)) (h2 : ∀ u ∈ ms, 0 ≤ u) (h3 : ms.length ≤ 10) : KpOk n (setK kps v ms) := by
  have key : ∀ p ∈ setK kps v ms, (p ∈ kps) ∨ (p.2 = ms ∧ p.1 ∈ kps.map (·.1)) := fun p hp => by
    rcases setK_mem.mp (show (p.1, p.2) ∈ _ from hp) with ⟨_, h⟩ | ⟨e, h, hv⟩
    · exact .inl h
    · exact .inr ⟨h, by rw [e]; exact hv⟩
  refine ⟨by rw [setK_keys]; exact h.up, fun p hp => ?_, fun p hp => ?_, fun p hp => ?_, fun p hp => ?_⟩
  · rcases key p hp with h' | ⟨_, h'⟩
    · exact h.inn p h'
    · obtain ⟨q, hq, e⟩ := List.mem_map.mp h'
      rw [← e]
      exact h.inn q hq
  · rcases key p hp with h' | ⟨e, _⟩
    · exact h.up2 p h'
    · rw [e]; exact h1
  · rcases key p hp with h' | ⟨e, _⟩
    · exact h.nn p h'
    · rw [e]; exact h2
  · rcases key p hp with h' | ⟨e, _⟩
    · exact h.few p h'
    · rw [e]; exact h3
theorem KVs.set {K : PySem.W.Frag} {H : Hp} {kvs : List (Key × V)} {kps : KpL} {v : Int} {ms : List Int} {q : Addr} (h : KVs K H kvs kps) (hv : v ∈ kps.map (·.1)) (hq : SqT K H q (ms.map V.int)) : KVs K H (putK kvs (.inl v) (.ref q)) (setK kps v ms) := by
  have hs : (valV kvs (.inl v)).isSome = true := by
    cases e : valV kvs (.inl v) with
    | some x => rfl
    | none =>
      have := valV_not e
      rw [h.keysI] at this
      exact absurd (List.mem_map.mpr ⟨v, hv, rfl⟩) this
  have ep : putK kvs (.inl v) (.ref q) = kvs.map fun kv => if kv.1 = .inl v then (kv.1, .ref q) else kv := by
    unfold putK
    rw [valV_any, hs]
    rfl
  rw [ep]
  refine ⟨by unfold setK; rw [List.length_map, List.length_map]; exact h.1, fun i p ns e => ?_⟩
  unfold setK at e
  rw [List.getElem?_map] at e
  obtain ⟨⟨p0, us⟩, e0, e1⟩ := Option.map_eq_some_iff.mp e
  obtain ⟨q0, f1, f2⟩ := h.2 i p0 us e0
  rw [List.getElem?_map, f1]
  have e1 : (if p0 = v then (p0, ms) else (p0, us)) = (p, ns) := e1
  by_cases hv : p0 = v
  · rw [if_pos hv] at e1
    cases e1
    refine ⟨q, ?_, hq⟩
    show some (if (Sum.inl p : Key) = Sum.inl v then _ else _) = _
    rw [if_pos (congrArg Sum.inl hv)]
  · rw [if_neg hv] at e1
    cases e1
    refine ⟨q0, ?_, f2⟩
    show some (if (Sum.inl p : Key) = Sum.inl v then _ else _) = _
    rw [if_neg (fun z => hv (Sum.inl.inj z))]
theorem clm_comm (g : IF) : ∀ (j : Nat) (v : Int), clm g (j + 1) v = clm g j (stp g v)
  | 0, _ => rfl
  | j + 1, v => by
    show stp g (clm g (j + 1) v) = stp g (clm g j (stp g v))
    rw [clm_comm g j v]
/-- a rising list below a number is short -/
theorem up_few {ms : List Int} {B : Int} (h1 : ms.Pairwise (· < ·)) (h2 : ∀ u ∈ ms, 0 ≤ u ∧ u < B) (hB : B ≤ 10) : ms.length ≤ 10 := by
  have : ms.length ≤ (fromN 0 10).length := sub_lenG (h1.imp fun a => Int.ne_of_lt a) fun v hv => by
    have := h2 v hv
    exact fromN_mem.mpr (by omega)
  rw [fromN_len] at this
  exact this
theorem sorted_up {ns' ms : List Int} {m : Int} (hp : ns'.Perm (ms ++ [m])) (hs : ns'.Pairwise (· ≤ ·)) (h1 : ms.Pairwise (· < ·)) (hm : m ∉ ms) : ns'.Pairwise (· < ·) ∧ ∀ u, u ∈ ns' ↔ u ∈ ms ∨ u = m := by
  have nd : (ms ++ [m]).Nodup := List.nodup_append.mpr ⟨h1.imp fun a => Int.ne_of_lt a, List.nodup_cons.mpr ⟨List.not_mem_nil, List.nodup_nil⟩, fun a ha b hb e => by
    rw [List.mem_singleton.mp hb] at e
    rw [e] at ha
    exact hm ha⟩
  have nd2 : ns'.Nodup := hp.nodup_iff.mpr nd
  refine ⟨(List.pairwise_and_iff.mpr ⟨hs, nd2⟩).imp fun ⟨h1, h2⟩ => by omega, fun u => ?_⟩
  rw [hp.mem_iff, List.mem_append, List.mem_singleton]
/-- the same places, the number more for these -/
structure Carr (kps kps' : KpL) (m : Int) (X : Int → Prop) : Prop where
  keys : kps'.map (·.1) = kps.map (·.1)
  mem : ∀ p ms ms', (p, ms) ∈ kps → (p, ms') ∈ kps' → ∀ u, u ∈ ms' ↔ u ∈ ms ∨ (u = m ∧ X p)
theorem Carr.refl {n : Int} {kps : KpL} (h : KpOk n kps) {m : Int} {X : Int → Prop} (hX : ∀ p, ¬ X p) : Carr kps kps m X := ⟨rfl, fun p ms ms' h1 h2 u => by
  rw [h.same h1 h2]
  exact ⟨.inl, fun z => z.elim id fun z => absurd z.2 (hX p)⟩⟩
theorem kp_of {kps : KpL} {p : Int} (h : p ∈ kps.map (·.1)) : ∃ ms, (p, ms) ∈ kps := by
  obtain ⟨⟨q, ms⟩, hq, rfl⟩ := List.mem_map.mp h
  exact ⟨ms, hq⟩
theorem catZ {K : PySem.W.Frag} {H : Hp} {p q : Addr} {l m : List Int} {Q : VK} (h : SqT K H p (l.map V.int)) (g : SqT K H q (m.map V.int)) (hz : l.length + m.length ≤ 5000) (hq : ∀ (b : Addr) (H' : Hp), K0 H H' → SqT K H' b ((l ++ m).map V.int) → Q (.ref b) H') : rCatA K (.ref p) (.ref q) H Q := by
  refine ⟨p, q, _, _, rfl, rfl, h, g, by rw [List.length_map, List.length_map, sizeLine_eq]; omega, fun e => ?_, fun _ e => ?_, fun _ _ b nb => ?_⟩
  · have e := List.map_eq_nil_iff.mp e
    subst e
    exact hq q H (K0.refl _) g
  · have e := List.map_eq_nil_iff.mp e
    subst e
    exact hq p H (K0.refl _) (by rw [List.append_nil]; exact h)
  · exact hq b _ (K0.new nb) (by rw [List.map_append]; exact .inl (.inl upd_same))
theorem DI.get_some {kvs : List (Key × V)} {f : IF} (h : DI kvs f) {i : Nat} {v : Int} {us : List Int} (hm : ∀ i, i ∈ us ↔ (f i).isSome = true) (e : us[i]? = some v) : ∃ x, f v = some x := Option.isSome_iff_exists.mp ((hm v).mp (List.mem_of_getElem? e))
section
variable {P : Program} {w : World} {K : PySem.W.Frag} {mg : Str → Option Value} {base : Heap}
def spACarried (K : PySem.W.Frag) : Sp := fun vs H Q _ => ∃ (d b : Addr) (kvs kvg : List (Key × V)) (kps : KpL) (n m B : Int) (g : IF), vs = [.ref d, .int m, .ref b] ∧ H d = some (.dK kvs) ∧ KVs K H kvs kps ∧ KpOk n kps ∧ n ≤ 12 ∧ H b = some (.dK kvg) ∧ DI kvg g ∧ kvg.length ≤ 12 ∧ 0 ≤ m ∧ m < B ∧ B ≤ 10 ∧ (∀ p ∈ kps, ∀ u ∈ p.2, u < B) ∧
  (∀ v x, g v = some x → v ∈ kps.map (·.1) ∧ x ∈ kps.map (·.1) ∧ ¬ HasM kps m v ∧ HasM kps m (clm g kvg.length v)) ∧
  ∀ (D : Addr) (ls : List (Key × V)) (kps' : KpL) (H' : Hp), K0 H H' → H' D = some (.dK ls) → KVs K H' ls kps' → KpOk n kps' → (∀ p ∈ kps', ∀ u ∈ p.2, u < B) → Carr kps kps' m (fun p => (g p).isSome = true) → Q (.ref D) H'
theorem ok_acarried {f : Addr} {fd : FuncData} (F : Fun K "_law_acarried" "_law_acarried" sACarried f fd) (m_dict : mg "dict" = none) (m_range : mg "range" = none) (m_len : mg "len" = none) (m_sorted : mg "sorted" = none) (m_tuple : mg "tuple" = none) : FnOk P w K mg base CX0 1 f fd ["kept", "number", "ahead"] (spACarried K) := by
  refine F.ok scACarried (fun vs H Q E h => ?_) (fun cdv A outer s H vs Q E hr h => ?_)
  · obtain ⟨d, b, kvs, kvg, kps, n, m, B, g, rfl, _⟩ := h
    rfl
  · obtain ⟨d, b, kvs, kvg, kps, n, m, B, g, rfl, hd, hK, hO, hn, hb, hD, hgl, m0, mB, B10, hB, hg, q⟩ := h
    have hu := hu_of hr
    refine ⟨_, (pss_cons (ps_set (i := 3) scACarried.nd rfl (.inl rfl) (pe_callTy call_dictD (by rfl) m_dict (by decide +kernel) (pa_cons (pv 0) pa_nil)))
      (pss_cut (ps_set (i := 4) scACarried.nd rfl (.inl rfl) (pe_lst pa_nil))
      (pss_cut (ps_for PassesOwn.never rfl (pi_range1 (by rfl) m_range (pa_cons (pe_callB call_lenR (by rfl) m_len PySem.boot_len (pa_cons (pv 2) pa_nil)) pa_nil)) (pg_name (i := 5) scACarried.nd rfl (.inl rfl))
      (pss_one (ps_for PassesOwn.never rfl (pi_list (pe_callB (call_sortedDI rfl) (by rfl) m_sorted boot_sorted (pa_cons (pv 2) pa_nil))) (pg_name (i := 6) scACarried.nd rfl (.inl rfl))
      (pss_one (ps_if (PW.pt (pw_and (pt_cmpR op_notIn_seq (pv 1) (pe_dget hu (pv 3) (pv 6) (fun _ _ => rfl)) rfl) (pw_and1 (pt_cmpR op_in_seq (pv 1) (pe_dget hu (pv 3) (pe_dget hu (pv 2) (pv 6) (fun _ _ => rfl)) (fun _ _ => rfl)) rfl)))) (pss_cons (ps_dput hu (pv 3) (pv 6) (pe_callTy call_tuple_fz (by rfl) m_tuple (by decide +kernel) (pa_cons (pe_callB HkT.cr_sortedTi (by rfl) m_sorted boot_sorted (pa_cons (pe_op op_catA (pe_dget hu (pv 3) (pv 6) (fun _ _ => rfl)) (pe_tup (pa_cons (pv 1) pa_nil))) pa_nil)) pa_nil)) rfl)
      (pss_one (ps_expr (pe_bm PySem.F.plainAttrs_list PySem.F.slot_list_append PySem.F.type_list_append mt_append (pv 4) (pa_cons (pv 6) pa_nil))))) pss_nil)))))
      (pss_cons (ps_if (pt_cmpR op_ne (pe_callB call_len_seq (by rfl) m_len PySem.boot_len (pa_cons (pv 4) pa_nil)) (pe_callB call_lenR (by rfl) m_len PySem.boot_len (pa_cons (pv 2) pa_nil)) (nomark _)) (pss_one (ps_ret pe_non)) pss_nil)
      (pss_one (ps_ret (pv 3))))))), ?_⟩
    have hkl := hO.len hn
    have flat : ∀ l : List Int, (l.map V.int).all flatV = true := fun l => by
      rw [List.all_map]
      exact List.all_eq_true.mpr fun _ _ => rfl
    obtain ⟨gs, gnd, glen, gmem, gkeys⟩ := hD.keys
    refine ⟨_, rfl, d, kvs, rfl, .inl hd, fun D nD => ?_⟩
    have k1 := K0.new nD (o := .dK kvs)
    have hD1 : upd H D (.dK kvs) D = some (.dK kvs) := upd_same
    generalize upd H D (.dK kvs) = H1 at k1 hD1 ⊢
    refine ⟨fun σ' H2 => ∃ T0, σ' = [some (.ref d), some (.int m), some (.ref b), some (.ref D), some (.ref T0), none, none] ∧ K0 H1 H2 ∧ H1 T0 = none ∧ H2 T0 = some (.lst []), ?_, ?_⟩
    · exact ⟨few_nm (xs := []) (by simp), fun T0 nT => ⟨T0, rfl, K0.new nT, nT, upd_same⟩⟩
    rintro σ' H2 ⟨T0, rfl, k2, nT, hT2⟩
    have nDT : D ≠ T0 := fun z => by rw [z, nT] at hD1; cases hD1
    have nHT : H T0 = none := k1.dom _ nT
    have k02 := k1.trans k2
    have hb2 := k02.oth b _ hb (fun _ z => by cases z)
    have hD2 := k2.oth D _ hD1 (fun _ z => by cases z)
    refine ⟨fun σ' H3 => ∃ (y5 y6 : Option V) (ls : List (Key × V)) (kps' : KpL) (T : List Int), σ' = [some (.ref d), some (.int m), some (.ref b), some (.ref D), some (.ref T0), y5, y6] ∧ K0 H H3 ∧ H3 D = some (.dK ls) ∧ H3 T0 = some (.lst (T.map V.int)) ∧ KVs K H3 ls kps' ∧ KpOk n kps' ∧ (∀ p ∈ kps', ∀ u ∈ p.2, u < B) ∧ Carr kps kps' m (· ∈ T) ∧ T.Nodup ∧ (∀ v ∈ T, (g v).isSome = true) ∧ ∀ v x, g v = some x → v ∈ T, ?_, ?_⟩
    · refine ⟨_, rfl, b, kvg, rfl, .inl hb2, ((kvg.length : Nat) : Int), rfl, by omega, by omega, for_range (lo := 0) (n := kvg.length) (fun i σ' G => ∃ (y5 y6 : Option V) (ls : List (Key × V)) (kps' : KpL) (T : List Int), σ' = [some (.ref d), some (.int m), some (.ref b), some (.ref D), some (.ref T0), y5, y6] ∧ K0 H G ∧ G D = some (.dK ls) ∧ G T0 = some (.lst (T.map V.int)) ∧ KVs K G ls kps' ∧ KpOk n kps' ∧ (∀ p ∈ kps', ∀ u ∈ p.2, u < B) ∧ Carr kps kps' m (· ∈ T) ∧ T.Nodup ∧ (∀ v ∈ T, (g v).isSome = true) ∧ ∀ v x, g v = some x → HasM kps m (clm g i v) → v ∈ T)
        ⟨none, none, kvs, kps, [], rfl, k02, hD2, hT2, hK.k0 k02, hO, hB, Carr.refl hO (fun p z => by cases z), List.nodup_nil, (fun v z => by cases z), fun v x e z => absurd z (hg v x e).2.2.1⟩ (fun i σ' G hi h => ?_) (fun σ' G h => ?_)⟩
      · obtain ⟨y5, y6, ls, kps', T, rfl, kG, hDG, hTG, hKG, hOG, hBG, hC, hTn, hTg, hTi⟩ := h
        have hbG := kG.oth b _ hb (fun _ z => by cases z)
        refine ⟨_, rfl, b, kvg, gs, rfl, .inl hbG, gkeys, by omega, fun us sp perm up nsp => ?_⟩
        have ks := K0.new nsp (o := .lst (us.map V.int))
        have hS : upd G sp (.lst (us.map V.int)) sp = some (.lst (us.map V.int)) := upd_same
        have usm : ∀ v, v ∈ us ↔ (g v).isSome = true := fun v => perm.mem_iff.trans (gmem v)
        have nsD : sp ≠ D := fun z => by rw [z, hDG] at nsp; cases nsp
        have nsT : sp ≠ T0 := fun z => by rw [z, hTG] at nsp; cases nsp
        have hDG1 := ks.oth D _ hDG (fun _ z => by cases z)
        have hTG1 := ks.oth T0 _ hTG (fun _ z => by cases z)
        have kG1 := kG.trans ks
        have hKG1 := hKG.k0 ks
        generalize upd G sp (.lst (us.map V.int)) = G1 at ks hS hDG1 hTG1 kG1 hKG1 ⊢
        refine ⟨sp, rfl, ⟨_, .inl (.inl hS)⟩, for_list (K := K) (a := sp) (xs := us.map V.int) (fun k σ' G2 => ∃ (y6 : Option V) (ls : List (Key × V)) (kps' : KpL) (T : List Int), σ' = [some (.ref d), some (.int m), some (.ref b), some (.ref D), some (.ref T0), some (.int (0 + (i : Int))), y6] ∧ K0 H G2 ∧ G2 sp = some (.lst (us.map V.int)) ∧ G2 D = some (.dK ls) ∧ G2 T0 = some (.lst (T.map V.int)) ∧ KVs K G2 ls kps' ∧ KpOk n kps' ∧ (∀ p ∈ kps', ∀ u ∈ p.2, u < B) ∧ Carr kps kps' m (· ∈ T) ∧ T.Nodup ∧ (∀ v ∈ T, (g v).isSome = true) ∧ (∀ v x, g v = some x → HasM kps m (clm g i v) → v ∈ T) ∧ ∀ v ∈ us.take k, HasM kps m (clm g (i + 1) v) → v ∈ T)
          ⟨_, ls, kps', T, rfl, kG1, hS, hDG1, hTG1, hKG1, hOG, hBG, hC, hTn, hTg, hTi, fun v hv => by rw [List.take_zero] at hv; cases hv⟩ (fun k σ' G2 _ h => ?_) (fun k x σ' G2 hx h => ?_) (fun σ' G2 h => ?_)⟩
        · obtain ⟨_, _, _, _, _, _, hs, _⟩ := h
          exact .inl (.inl hs)
        · clear hDG hTG hKG hOG hBG hC hTn hTg hTi hDG1 hTG1 hKG1 kG1 kG hbG hS ks ls kps' T nsp
          obtain ⟨y6, ls, kps', T, rfl, kG, hS, hDG, hTG, hKG, hOG, hBG, hC, hTn, hTg, hTi, hTk⟩ := h
          rw [List.getElem?_map] at hx
          obtain ⟨v, hv, rfl⟩ := Option.map_eq_some_iff.mp hx
          obtain ⟨x, ex⟩ := hD.get_some usm hv
          obtain ⟨g1, g2, g3, g4⟩ := hg v x ex
          have htk : us.take (k + 1) = us.take k ++ [v] := by rw [List.take_add_one, hv]; rfl
          obtain ⟨ms, hms⟩ := kp_of g1
          obtain ⟨mx, hmx⟩ := kp_of g2
          obtain ⟨ms', hms'⟩ := kp_of (kps := kps') (by rw [hC.keys]; exact g1)
          obtain ⟨mx', hmx'⟩ := kp_of (kps := kps') (by rw [hC.keys]; exact g2)
          obtain ⟨q1, e1, hq1⟩ := hKG.val hOG.nodup hms'
          obtain ⟨q2, e2, hq2⟩ := hKG.val hOG.nodup hmx'
          have iv : m ∈ ms' ↔ v ∈ T := by
            rw [hC.mem v ms ms' hms hms' m]
            exact ⟨fun z => z.elim (fun z => absurd ⟨ms, hms, z⟩ g3) fun z => z.2, fun z => .inr ⟨rfl, z⟩⟩
          have ix : m ∈ mx' ↔ HasM kps m x ∨ x ∈ T := by
            rw [hC.mem x mx mx' hmx hmx' m]
            exact ⟨fun z => z.elim (fun z => .inl ⟨mx, hmx, z⟩) fun z => .inr z.2, fun z => z.elim (fun ⟨m2, h1, h2⟩ => .inl (by rw [hO.same hmx h1]; exact h2)) fun z => .inr ⟨rfl, z⟩⟩
          have hbG := kG.oth b _ hb (fun _ z => by cases z)
          have dv : DGet G2 D (.int v) (some (.ref q1)) := .inl ⟨ls, .inl v, .inl hDG, rfl, e1.symm⟩
          have dx : DGet G2 D (.int x) (some (.ref q2)) := .inl ⟨ls, .inl x, .inl hDG, rfl, e2.symm⟩
          have stay : (HasM kps m (clm g (i + 1) v) → v ∈ T) → ∃ (y6 : Option V) (ls' : List (Key × V)) (kps'' : KpL) (T' : List Int), [some (.ref d), some (.int m), some (.ref b), some (.ref D), some (.ref T0), some (.int (0 + (i : Int))), some (.int v)] = [some (.ref d), some (.int m), some (.ref b), some (.ref D), some (.ref T0), some (.int (0 + (i : Int))), y6] ∧ K0 H G2 ∧ G2 sp = some (.lst (us.map V.int)) ∧ G2 D = some (.dK ls') ∧ G2 T0 = some (.lst (T'.map V.int)) ∧ KVs K G2 ls' kps'' ∧ KpOk n kps'' ∧ (∀ p ∈ kps'', ∀ u ∈ p.2, u < B) ∧ Carr kps kps'' m (· ∈ T') ∧ T'.Nodup ∧ (∀ v ∈ T', (g v).isSome = true) ∧ (∀ v x, g v = some x → HasM kps m (clm g i v) → v ∈ T') ∧ ∀ v ∈ us.take (k + 1), HasM kps m (clm g (i + 1) v) → v ∈ T' := fun hh =>
            ⟨_, ls, kps', T, rfl, kG, hS, hDG, hTG, hKG, hOG, hBG, hC, hTn, hTg, hTi, fun u hu => by
              rw [htk] at hu
              rcases List.mem_append.mp hu with hu | hu
              · exact hTk u hu
              · rw [List.mem_singleton.mp hu]; exact hh⟩
          refine ⟨_, rfl, _, rfl, _, rfl, D, .ref q1, rfl, dv, q1, _, rfl, .inr hq1, rfl, flat ms', _, rfl, ?_⟩
          show if (!inV (V.int m) (ms'.map V.int)) = true then _ else _
          rw [inI]
          by_cases hm1 : m ∈ ms'
          · rw [decide_eq_true hm1]
            exact iteF (iteF (stay fun _ => iv.mp hm1))
          rw [decide_eq_false hm1]
          refine iteT ⟨_, rfl, _, rfl, _, rfl, _, rfl, b, .int x, rfl, dget hbG hD ex, D, .ref q2, rfl, dx, q2, _, rfl, .inr hq2, rfl, flat mx', _, rfl, ?_⟩
          show if inV (V.int m) (mx'.map V.int) = true then _ else _
          rw [inI]
          have nv : v ∉ T := fun z => hm1 (iv.mpr z)
          by_cases hm2 : m ∈ mx'
          · rw [decide_eq_true hm2]
            refine iteT ⟨_, rfl, _, rfl, D, .ref q1, rfl, dv, _, rfl, few_nm (xs := [.int m]) (by simp), fun b1 nb1 => ?_⟩
            have kb := K0.new nb1 (o := .tup [.int m])
            refine catZ (l := ms') (m := [m]) (kb.sqT hq1) (.inl (.inl upd_same)) (by have := hOG.few _ hms'; show ms'.length + 1 ≤ 5000; have h10 : ms'.length ≤ 10 := this; omega) fun b2 G3 k3 hb2' => ?_
            have h10 : ms'.length ≤ 10 := hOG.few _ hms'
            refine ⟨b2, ms' ++ [m], rfl, hb2', by rw [List.length_append]; show ms'.length + 1 < 64; omega, fun ns' b3 hperm hsort nb3 => ?_⟩
            have k4 := K0.new nb3 (o := .lst (ns'.map V.int))
            obtain ⟨hup, hmem⟩ := sorted_up hperm hsort (hOG.up2 _ hms') hm1
            refine ⟨b3, _, rfl, .inl (.inl upd_same), fun b4 ob nb4 _ _ => ?_⟩
            have k5 := K0.new nb4 (o := .frz ob (.tup (ns'.map V.int)))
            have kk := ((kb.trans k3).trans k4).trans k5
            have hb4 : SqT K (upd (upd G3 b3 (.lst (ns'.map V.int))) b4 (.frz ob (.tup (ns'.map V.int)))) b4 (ns'.map V.int) := .inl (.inr ⟨ob, upd_same⟩)
            generalize upd (upd G3 b3 (.lst (ns'.map V.int))) b4 (.frz ob (.tup (ns'.map V.int))) = G5 at kk hb4 ⊢
            have hD5 := kk.oth D _ hDG (fun _ z => by cases z)
            have hT5 := kk.oth T0 _ hTG (fun _ z => by cases z)
            have hS5 := kk.oth sp _ hS (fun _ z => by cases z)
            have kG5 := kG.trans kk
            have hls : ls.length ≤ 12 := by
              rw [hKG.1]
              exact hOG.len hn
            refine ⟨_, rfl, _, rfl, D, _, rfl, DPut.k (k := Sum.inl v) hD5 (Nat.lt_of_le_of_lt (m := 12) hls (by decide)), ?_⟩
            have kd : Kt D G5 (upd G5 D (.dK (putK ls (.inl v) (.ref b4)))) := (Kt.refl D G5).setD hD5
            have hKV := (hKG.k0 kk).kt kd |>.set (v := v) (ms := ns') (by rw [hC.keys]; exact g1) (kd.sqT hb4)
            have hnn : ∀ u ∈ ns', 0 ≤ u ∧ u < B := fun u hu => by
              rcases (hmem u).mp hu with h | rfl
              · exact ⟨hOG.nn _ hms' u h, hBG _ hms' u h⟩
              · exact ⟨m0, mB⟩
            have hT6 : upd G5 D (.dK (putK ls (.inl v) (.ref b4))) T0 = some (.lst (T.map V.int)) := by rw [upd_ne (Ne.symm nDT)]; exact hT5
            have hTl : T.length ≤ 12 := by
              have := sub_lenG hTn (ks := gs) fun u hu => (gmem u).mpr (hTg u hu)
              omega
            refine ⟨_, rfl, .inl ⟨rfl, _, .inl (.inl hT6)⟩, _, rfl, T0, _, _, rfl, rfl, hT6, Nat.lt_of_le_of_lt (m := 12) (by rw [List.length_map]; exact hTl) (by decide), ?_⟩
            have kt : Kt T0 (upd G5 D (.dK (putK ls (.inl v) (.ref b4)))) (upd (upd G5 D (.dK (putK ls (.inl v) (.ref b4)))) T0 (.lst (T.map V.int ++ [.int v]))) := Kt.set hT6
            refine ⟨_, putK ls (.inl v) (.ref b4), setK kps' v ns', T ++ [v], rfl, (kG5.mut nD).mut nHT, by rw [upd_ne nsT, upd_ne nsD]; exact hS5, by rw [upd_ne nDT, upd_same], by rw [upd_same, List.map_append]; rfl, hKV.kt kt, hOG.set hup (fun u hu => (hnn u hu).1) (up_few hup hnn B10), fun p hp u hu => ?_, ⟨(setK_keys _ _ _).trans hC.keys, fun p a1 a2 h1 h2 u => ?_⟩, ?_, fun u hu => ?_, fun u y hu hh => List.mem_append_left _ (hTi u y hu hh), fun u hu hh => ?_⟩
            · rcases setK_mem.mp (show (p.1, p.2) ∈ _ from hp) with ⟨_, h⟩ | ⟨_, h, _⟩
              · exact hBG p h u hu
              · rw [h] at hu
                exact (hnn u hu).2
            · rcases setK_mem.mp h2 with ⟨hpv, h⟩ | ⟨rfl, rfl, _⟩
              · rw [hC.mem p a1 a2 h1 h u, List.mem_append]
                exact or_congr Iff.rfl (and_congr Iff.rfl ⟨.inl, fun z => z.elim id fun z => absurd (List.mem_singleton.mp z) hpv⟩)
              · rw [hmem u, hC.mem p a1 ms' h1 hms' u]
                constructor
                · rintro ((z | z) | rfl)
                  · exact .inl z
                  · exact absurd z.2 nv
                  · exact .inr ⟨rfl, List.mem_append_right _ (List.mem_singleton.mpr rfl)⟩
                · rintro (z | ⟨rfl, _⟩)
                  · exact .inl (.inl z)
                  · exact .inr rfl
            · exact List.nodup_append.mpr ⟨hTn, List.nodup_cons.mpr ⟨List.not_mem_nil, List.nodup_nil⟩, fun a ha b hb e => by
                rw [List.mem_singleton.mp hb] at e
                rw [e] at ha
                exact nv ha⟩
            · rcases List.mem_append.mp hu with hu | hu
              · exact hTg u hu
              · rw [List.mem_singleton.mp hu, ex]; rfl
            · rw [htk] at hu
              rcases List.mem_append.mp hu with hu | hu
              · exact List.mem_append_left _ (hTk u hu hh)
              · exact List.mem_append_right _ hu
          · rw [decide_eq_false hm2]
            refine iteF (stay fun hh => ?_)
            exfalso
            rw [clm_comm, stp_some ex] at hh
            cases eg : g x with
            | none =>
              have : clm g i x = x := by
                have h0 : g (clm g 0 x) = none := eg
                have := clm_fix h0 i
                rwa [Nat.zero_add] at this
              rw [this] at hh
              exact hm2 (ix.mpr (.inl hh))
            | some y => exact hm2 (ix.mpr (.inr (hTi x y eg hh)))
        · obtain ⟨y6', ls', kps'', T', rfl, k3, _, h1, h2, h3, h4, h5, h6, h7, h8, h9, h10⟩ := h
          refine ⟨_, _, ls', kps'', T', rfl, k3, h1, h2, h3, h4, h5, h6, h7, h8, fun v x e hh => h10 v ?_ hh⟩
          rw [List.length_map, List.take_length]
          exact (usm v).mpr (by rw [e]; rfl)
      · obtain ⟨y5, y6, ls, kps', T, rfl, kG, hDG, hTG, hKG, hOG, hBG, hC, hTn, hTg, hTi⟩ := h
        exact ⟨_, _, ls, kps', T, rfl, kG, hDG, hTG, hKG, hOG, hBG, hC, hTn, hTg, fun v x e => hTi v x e (hg v x e).2.2.2⟩
    rintro σ' H3 ⟨y5, y6, ls, kps', T, rfl, kG, hDG, hTG, hKG, hOG, hBG, hC, hTn, hTg, hTi⟩
    have hb3 := kG.oth b _ hb (fun _ z => by cases z)
    have htl : T.length = kvg.length := by
      have h1 := sub_lenG hTn (ks := gs) fun u hu => (gmem u).mpr (hTg u hu)
      have h2 := sub_lenG gnd (ks := T) fun u hu => by
        obtain ⟨x, ex⟩ := Option.isSome_iff_exists.mp ((gmem u).mp hu)
        exact hTi u x ex
      omega
    refine ⟨_, rfl, T0, _, rfl, .inl (.inl (.inl hTG)), _, rfl, b, kvg, rfl, .inl hb3, rfl, _, rfl, ?_⟩
    rw [List.length_map, htl, decide_eq_true (show V.int ((kvg.length : Nat) : Int) = V.int ((kvg.length : Nat) : Int) from rfl)]
    refine iteF ⟨_, rfl, q D ls kps' _ kG hDG hKG hOG hBG ⟨hC.keys, fun p a1 a2 h1 h2 u => ?_⟩⟩
    rw [hC.mem p a1 a2 h1 h2 u]
    exact or_congr Iff.rfl (and_congr Iff.rfl ⟨hTg p, fun z => by
      obtain ⟨x, ex⟩ := Option.isSome_iff_exists.mp z
      exact hTi p x ex⟩)
end
end HK

set_option Elab.async false
set_option linter.all false
set_option maxRecDepth 100000
set_option maxHeartbeats 8000000
namespace HK
open PySem PySem.Spec PyProof.Rows L2 GAl GxR HkN
open Evl (pss_cut)
abbrev sAAfter : Stmt := topS 61
abbrev N_scAAfter : List Str := ["kept", "sends", "found", "number"]
theorem scAAfter : FnScope N_scAAfter ["kept", "sends"] (defScope sAAfter) := ⟨rfl, rfl, rfl, by decide +kernel, rfl, by decide +kernel, by decide +kernel⟩
abbrev sAHasAll : Stmt := topS 62
abbrev N_scAHasAll : List Str := ["after", "wants", "lost", "place", "number"]
theorem scAHasAll : FnScope N_scAHasAll ["after", "wants", "lost"] (defScope sAHasAll) := ⟨rfl, rfl, rfl, by decide +kernel, rfl, by decide +kernel, by decide +kernel⟩
/-- behind these sends -/
structure Aft (kps kps' : KpL) (xs : List (Int × IF)) : Prop where
  keys : kps'.map (·.1) = kps.map (·.1)
  mem : ∀ p ms ms', (p, ms) ∈ kps → (p, ms') ∈ kps' → ∀ u, u ∈ ms' ↔ u ∈ ms ∨ ∃ h, (u, h) ∈ xs ∧ (h p).isSome = true
theorem Aft.hasM {kps kps' : KpL} {xs : List (Int × IF)} (h : Aft kps kps' xs) {m : Int} (hm : m ∉ xs.map (·.1)) {p : Int} : HasM kps' m p ↔ HasM kps m p := by
  have no : ∀ f, (m, f) ∉ xs := fun f z => hm (List.mem_map.mpr ⟨_, z, rfl⟩)
  constructor
  · rintro ⟨ms', h1, h2⟩
    obtain ⟨ms, h3⟩ := kp_of (kps := kps) (p := p) (by rw [← h.keys]; exact List.mem_map.mpr ⟨_, h1, rfl⟩)
    rcases (h.mem p ms ms' h3 h1 m).mp h2 with z | ⟨f, z, _⟩
    · exact ⟨ms, h3, z⟩
    · exact absurd z (no f)
  · rintro ⟨ms, h1, h2⟩
    obtain ⟨ms', h3⟩ := kp_of (kps := kps') (p := p) (by rw [h.keys]; exact List.mem_map.mpr ⟨_, h1, rfl⟩)
    exact ⟨ms', h3, (h.mem p ms ms' h1 h3 m).mpr (.inl h2)⟩
theorem sqT_unlock {K : PySem.W.Frag} {H : Hp} {a p : Addr} {xs : List V} {kvs : List (Key × V)} {od : Obj} {o : HO} (h : SqT K H a xs) (hp : H p = some (.frz od (.dK kvs))) : SqT K (upd H p o) a xs := by
  rcases h with (h | ⟨o', h⟩) | h
  · exact .inl (.inl (by rw [upd_ne (ne_of h hp (fun z => by cases z))]; exact h))
  · exact .inl (.inr ⟨o', by rw [upd_ne (ne_of h hp (fun z => by cases z))]; exact h⟩)
  · exact .inr h
/-- what may be carried out -/
def Sendable (kps : KpL) (m : Int) (g : IF) (L : Nat) : Prop := ∀ v x, g v = some x → v ∈ kps.map (·.1) ∧ x ∈ kps.map (·.1) ∧ ¬ HasM kps m v ∧ HasM kps m (clm g L v)
section
variable {P : Program} {w : World} {K : PySem.W.Frag} {mg : Str → Option Value} {base : Heap}
def spAAfter (K : PySem.W.Frag) : Sp := fun vs H Q _ => ∃ (d b : Addr) (kvs kvb : List (Key × V)) (kps : KpL) (n B : Int) (xs : List (Int × IF)), vs = [.ref d, .ref b] ∧ H d = some (.dK kvs) ∧ KVs K H kvs kps ∧ KpOk n kps ∧ n ≤ 12 ∧ B ≤ 10 ∧ (∀ p ∈ kps, ∀ u ∈ p.2, u < B) ∧ H b = some (.dK kvb) ∧ kvb.length = xs.length ∧ (xs.map (·.1)).Nodup ∧
  (∀ (i : Nat) (m : Int) (h : IF), xs[i]? = some (m, h) → 0 ≤ m ∧ m < B ∧ ∃ (c : Addr) (ls : List (Key × V)), kvb[i]? = some (.inl m, .ref c) ∧ H c = some (.dK ls) ∧ c ≠ b ∧ DI ls h ∧ ls.length ≤ 12 ∧ Sendable kps m h ls.length) ∧
  ∀ (D : Addr) (ls : List (Key × V)) (kps' : KpL) (H' : Hp), K0 H H' → H' D = some (.dK ls) → KVs K H' ls kps' → KpOk n kps' → (∀ p ∈ kps', ∀ u ∈ p.2, u < B) → Aft kps kps' xs → Q (.ref D) H'
theorem ok_aafter {f : Addr} {fd : FuncData} {f_acarried : Addr} {fd_acarried : FuncData} (F : Fun K "_law_aafter" "_law_aafter" sAAfter f fd) (k_acarried : PySem.W.keepIn K (.ref f_acarried) = true) (b_acarried : Binds K fd_acarried ["kept", "number", "ahead"] []) (g_acarried : mg "_law_acarried" = some (.ref f_acarried)) (G_acarried : FnOk P w K mg base CX0 1 f_acarried fd_acarried ["kept", "number", "ahead"] (spACarried K)) (m_dict : mg "dict" = none) : FnOk P w K mg base CX0 2 f fd ["kept", "sends"] (spAAfter K) := by
  refine F.ok scAAfter (fun vs H Q E h => ?_) (fun cdv A outer s H vs Q E hr h => ?_)
  · obtain ⟨d, b, kvs, kvb, kps, n, B, xs, rfl, _⟩ := h
    rfl
  · obtain ⟨d, b, kvs, kvb, kps, n, B, xs, rfl, hd, hK, hO, hn, B10, hB, hb, hbl, hxn, hx, q⟩ := h
    have hu := hu_of hr
    refine ⟨_, (pss_cut (ps_set (i := 2) scAAfter.nd rfl (.inl rfl) (pe_callTy call_dictD (by rfl) m_dict (by decide +kernel) (pa_cons (pv 0) pa_nil)))
      (pss_cons (ps_lock (ps_for PassesOwn.never rfl (pi_keys (pv 1)) (pg_name (i := 3) scAAfter.nd rfl (.inl rfl))
      (pss_cut (ps_set (i := 2) scAAfter.nd rfl (.inl rfl) (pe_call G_acarried (hr.mono (by decide)) (by rfl) g_acarried k_acarried b_acarried .nil pass0 (pa_cons (pv 2) (pa_cons (pv 3) (pa_cons (pe_dget hu (pv 1) (pv 3) (fun _ _ => rfl)) pa_nil)))))
      (pss_one (ps_if (pt_cmp (pc_isN (pv 2))) (pss_one (ps_ret pe_non)) pss_nil)))))
      (pss_one (ps_ret (pv 2))))), ?_⟩
    refine ⟨fun σ' H1 => ∃ D, σ' = [some (.ref d), some (.ref b), some (.ref D), none] ∧ K0 H H1 ∧ H D = none ∧ H1 D = some (.dK kvs), ?_, ?_⟩
    · exact ⟨_, rfl, d, kvs, rfl, .inl hd, fun D nD => ⟨D, rfl, K0.new nD, nD, upd_same⟩⟩
    rintro σ' H1 ⟨D0, rfl, k1, nD0, hD0⟩
    have hb1 := k1.oth b _ hb (fun _ z => by cases z)
    have hD0b : D0 ≠ b := fun z => by rw [z, hb] at nD0; cases nD0
    refine ⟨b, _, hb1, trivial, fun ob => ⟨_, rfl, b, ob, rfl, .inl ⟨kvb, upd_same, ?_⟩⟩⟩
    have hbl1 : (upd H1 b (.frz ob (.dK kvb))) b = some (.frz ob (.dK kvb)) := upd_same
    have hKl : KVs K (upd H1 b (.frz ob (.dK kvb))) kvs kps := (hK.k0 k1).upd hb1
    have hDl : (upd H1 b (.frz ob (.dK kvb))) D0 = some (.dK kvs) := by rw [upd_ne hD0b]; exact hD0
    have hcl : ∀ c ls, H c = some (.dK ls) → c ≠ b → (upd H1 b (.frz ob (.dK kvb))) c = some (.dK ls) := fun c ls e ne => by
      rw [upd_ne ne]
      exact k1.oth c _ e (fun _ z => by cases z)
    generalize hHL : upd H1 b (.frz ob (.dK kvb)) = HL at hbl1 hKl hDl hcl ⊢
    refine for_it walk_keys (fun i σ' G => ∃ (y3 : Option V) (D : Addr) (ls : List (Key × V)) (kps' : KpL), σ' = [some (.ref d), some (.ref b), some (.ref D), y3] ∧ K0 HL G ∧ G D = some (.dK ls) ∧ D ≠ b ∧ KVs K G ls kps' ∧ KpOk n kps' ∧ (∀ p ∈ kps', ∀ u ∈ p.2, u < B) ∧ Aft kps kps' (xs.take i))
      ⟨none, D0, kvs, kps, rfl, K0.refl _, hDl, hD0b, hKl, hO, hB, rfl, fun p ms ms' h1 h2 u => by
        rw [hO.same h1 h2]
        exact ⟨.inl, fun z => z.elim id fun ⟨h, z, _⟩ => by (rw [List.take_zero] at z; cases z)⟩⟩ (fun i σ' G _ h => ?_) (fun i x σ' G G' hi h y => ?_) (fun σ' G h => ?_)
    · obtain ⟨_, _, _, _, _, k, _⟩ := h
      exact k.oth b _ hbl1 (fun _ z => by cases z)
    · obtain ⟨y3, D, ls, kps', rfl, k, hDG, hDb, hKG, hOG, hBG, hA⟩ := h
      obtain ⟨rfl, kk, v, hkv, rfl⟩ := y
      have hil : i < xs.length := by rw [← hbl]; exact (List.getElem?_eq_some_iff.mp hkv).1
      obtain ⟨m, h, hmh⟩ : ∃ m h, xs[i] = (m, h) := ⟨_, _, rfl⟩
      have exi : xs[i]? = some (m, h) := by rw [List.getElem?_eq_getElem hil, hmh]
      obtain ⟨m0, mB, c, lc, e1, e2, e3, e4, e5, e6⟩ := hx i m h exi
      rw [hkv] at e1
      cases e1
      have hbG := k.oth b _ hbl1 (fun _ z => by cases z)
      have hcG := k.oth c _ (hcl c lc e2 e3) (fun _ z => by cases z)
      have hnin : m ∉ (xs.take i).map (·.1) := fun z => by
        have nd := hxn
        rw [← List.take_append_drop (i + 1) xs, List.take_add_one, exi, List.map_append, List.map_append] at nd
        exact (List.nodup_append.mp (List.nodup_append.mp nd).1).2.2 _ z _ (List.mem_singleton.mpr rfl) rfl
      have nodk : (kvb.map (·.1)).Nodup := by
        have : kvb.map (·.1) = (xs.map (·.1)).map Sum.inl := by
          refine List.ext_getElem? fun j => ?_
          rw [List.getElem?_map, List.getElem?_map, List.getElem?_map]
          cases e0 : xs[j]? with
          | none => rw [List.getElem?_eq_none_iff.mpr (show kvb.length ≤ j by rw [hbl]; exact List.getElem?_eq_none_iff.mp e0)]; rfl
          | some p0 =>
            obtain ⟨_, _, c0, l0, z1, _⟩ := hx j p0.1 p0.2 e0
            rw [z1]; rfl
        rw [this]
        exact List.pairwise_map.mpr (hxn.imp fun a z => a (Sum.inl.inj z))
      have hval : some (V.ref c) = valV kvb (.inl m) := (valV_mem (p := ((.inl m : Key), V.ref c)) nodk (List.mem_of_getElem? hkv)).symm
      refine ⟨fun σ' G2 => ∃ (D : Addr) (ls : List (Key × V)) (kps' : KpL), σ' = [some (.ref d), some (.ref b), some (.ref D), some (.int m)] ∧ K0 HL G2 ∧ G2 D = some (.dK ls) ∧ D ≠ b ∧ KVs K G2 ls kps' ∧ KpOk n kps' ∧ (∀ p ∈ kps', ∀ u ∈ p.2, u < B) ∧ Aft kps kps' (xs.take (i + 1)), ?_, ?_⟩
      · refine ⟨_, rfl, _, rfl, _, rfl, _, rfl, b, _, rfl, .inl ⟨kvb, .inl m, .inr ⟨ob, hbG⟩, rfl, hval⟩, D, c, ls, lc, kps', n, m, B, h, rfl, hDG, hKG, hOG, hn, hcG, e4, e5, m0, mB, B10, hBG, fun v x ex => ?_, fun D2 l2 kps2 G2 k2 hD2 hK2 hO2 hB2 hC => ?_⟩
        · obtain ⟨a1, a2, a3, a4⟩ := e6 v x ex
          exact ⟨by rw [hA.keys]; exact a1, by rw [hA.keys]; exact a2, fun z => a3 ((hA.hasM hnin).mp z), (hA.hasM hnin).mpr a4⟩
        · have hD2b : D2 ≠ b := fun z => by
            rw [z, k2.oth b _ hbG (fun _ z => by cases z)] at hD2
            cases hD2
          refine ⟨D2, l2, kps2, rfl, k.trans k2, hD2, hD2b, hK2, hO2, hB2, hC.keys.trans hA.keys, fun p ms ms2 h1 h2 u => ?_⟩
          obtain ⟨ms1, h3⟩ := kp_of (kps := kps') (p := p) (by rw [hA.keys]; exact List.mem_map.mpr ⟨_, h1, rfl⟩)
          rw [hC.mem p ms1 ms2 h3 h2 u, hA.mem p ms ms1 h1 h3 u, List.take_add_one, exi]
          constructor
          · rintro ((z | ⟨f, z1, z2⟩) | ⟨rfl, z⟩)
            · exact .inl z
            · exact .inr ⟨f, List.mem_append_left _ z1, z2⟩
            · exact .inr ⟨h, List.mem_append_right _ (List.mem_singleton.mpr rfl), z⟩
          · rintro (z | ⟨f, z1, z2⟩)
            · exact .inl (.inl z)
            · rcases List.mem_append.mp z1 with z1 | z1
              · exact .inl (.inr ⟨f, z1, z2⟩)
              · have := List.mem_singleton.mp z1
                cases this
                exact .inr ⟨rfl, z2⟩
      rintro σ' G2 ⟨D2, l2, kps2, rfl, k2, hD2, hD2b, hK2, hO2, hB2, hA2⟩
      refine ⟨_, rfl, _, rfl, ?_⟩
      rw [decide_eq_false (show ¬ V.ref D2 = V.non from fun z => by cases z)]
      exact iteF ⟨_, D2, l2, kps2, rfl, k2, hD2, hD2b, hK2, hO2, hB2, hA2⟩
    · obtain ⟨y3, D, ls, kps', rfl, k, hDG, hDb, hKG, hOG, hBG, hA⟩ := h
      have hbG := k.oth b _ hbl1 (fun _ z => by cases z)
      rw [hbl, List.take_length] at hA
      subst hHL
      have kk := k1.trans (K0.lock hb1 (fun _ z => by cases z) k)
      refine ⟨hbG, _, rfl, q D ls kps' _ kk (by rw [upd_ne hDb]; exact hDG) ⟨hKG.1, fun i p ms e => by
        obtain ⟨q1, z1, z2⟩ := hKG.2 i p ms e
        exact ⟨q1, z1, sqT_unlock z2 hbG⟩⟩ hOG hBG hA⟩
def spAHasAll (K : PySem.W.Frag) : Sp := fun vs H Q _ => ∃ (d e l : Addr) (kvs kvw : List (Key × V)) (kps wps : KpL) (n : Int) (lost : List Int), vs = [.ref d, .ref e, .ref l] ∧ H d = some (.dK kvs) ∧ KVs K H kvs kps ∧ H e = some (.dK kvw) ∧ KVs K H kvw wps ∧ KpOk n kps ∧ KpOk n wps ∧ (∀ p ∈ wps, p.1 ∈ kps.map (·.1)) ∧ n ≤ 12 ∧ H l = some (.lst (lost.map V.int)) ∧
  (∀ p ms, (p, ms) ∈ wps → ∀ v ∈ ms, HasM kps v p ∨ v ∈ lost) ∧ ∀ H', K0 H H' → Q (.bl true) H'
theorem ok_ahasall {f : Addr} {fd : FuncData} (F : Fun K "_law_ahas_all" "_law_ahas_all" sAHasAll f fd) : FnOk P w K mg base CX0 1 f fd ["after", "wants", "lost"] (spAHasAll K) := by
  refine F.ok scAHasAll (fun vs H Q E h => ?_) (fun cdv A outer s H vs Q E hr h => ?_)
  · obtain ⟨d, e, l, kvs, kvw, kps, wps, n, lost, rfl, _⟩ := h
    rfl
  · obtain ⟨d, e, l, kvs, kvw, kps, wps, n, lost, rfl, hd, hK, he, hKw, hO, hW, hsub, hn, hl, hall, q⟩ := h
    have hu := hu_of hr
    refine ⟨_, (pss_cons (ps_lock (ps_for PassesOwn.never rfl (pi_keys (pv 1)) (pg_name (i := 3) scAHasAll.nd rfl (.inr rfl))
      (pss_one (ps_if (pt_cmpR (op_neD hr.units) (pe_lc (own := [("number", 4)]) (g := (gName 4)) (tt := (tAnd (tTest (tOp (rIn K true) (tVar 4) (tDGet (tVar 0) (tVar 3)))) (tTest (tOp (rIn K true) (tVar 4) (tVar 2))))) (te := (tVar 4)) rfl scAHasAll.nd (pi_tup (pe_dget hu (pv 1) (pv 3) (fun _ _ => rfl))) (blkOk_by (N := N_scAHasAll) (sc := defScope sAHasAll) (by decide +kernel)) (fun _ _ _ _ _ => (pg_name (i := 4) scAHasAll.nd rfl (.inl rfl))) (fun _ _ _ _ _ => (pts_one (PW.pt (pw_and (pt_cmpR op_notIn_seq (pv 4) (pe_dget hu (pv 0) (pv 3) (fun _ _ => rfl)) rfl) (pw_and1 (pt_cmpR op_notIn_seq (pv 4) (pv 2) rfl)))))) (fun _ _ _ _ _ => (pv 4))) (pe_lst pa_nil) (nomark _)) (pss_one (ps_ret pe_bl)) pss_nil))))
      (pss_one (ps_ret pe_bl))), ?_⟩
    have flat : ∀ l : List Int, (l.map V.int).all flatV = true := fun l => by
      rw [List.all_map]
      exact List.all_eq_true.mpr fun _ _ => rfl
    have hwl := hW.len hn
    have nle : l ≠ e := fun z => by rw [z, he] at hl; cases hl
    refine ⟨e, _, he, trivial, fun oe => ⟨_, rfl, e, oe, rfl, .inl ⟨kvw, upd_same, ?_⟩⟩⟩
    have hel : (upd H e (.frz oe (.dK kvw))) e = some (.frz oe (.dK kvw)) := upd_same
    have hKl : KVs K (upd H e (.frz oe (.dK kvw))) kvs kps := hK.upd he
    have hKwl : KVs K (upd H e (.frz oe (.dK kvw))) kvw wps := hKw.upd he
    have hll : (upd H e (.frz oe (.dK kvw))) l = some (.lst (lost.map V.int)) := by rw [upd_ne nle]; exact hl
    have hdl : Rd (upd H e (.frz oe (.dK kvw))) d (.dK kvs) := rd_lock he (.inl hd)
    generalize hHL : upd H e (.frz oe (.dK kvw)) = HL at hel hKl hKwl hll hdl ⊢
    refine for_it walk_keys (fun i σ' G => ∃ y3 : Option V, σ' = [some (.ref d), some (.ref e), some (.ref l), y3, none] ∧ K0 HL G) ⟨none, rfl, K0.refl _⟩ (fun i σ' G _ h => ?_) (fun i x σ' G G' hi h y => ?_) (fun σ' G h => ?_)
    · obtain ⟨_, _, k⟩ := h
      exact k.oth e _ hel (fun _ z => by cases z)
    · obtain ⟨y3, rfl, k⟩ := h
      obtain ⟨rfl, kk, v0, hkv, rfl⟩ := y
      obtain ⟨p, ms, q1, e1, e2, hq⟩ := (hKwl.k0 k).at_ hkv
      cases e2
      have hmm := List.mem_of_getElem? e1
      obtain ⟨ms2, hms2⟩ := kp_of (hsub _ hmm)
      have heG := k.oth e _ hel (fun _ z => by cases z)
      obtain ⟨q2, e3, hq2⟩ := (hKl.k0 k).val hO.nodup hms2
      have hval : some (V.ref q1) = valV kvw (.inl p) := (valV_mem (p := ((.inl p : Key), V.ref q1)) (hKwl.nd hW.nodup) (List.mem_of_getElem? hkv)).symm
      refine ⟨_, rfl, _, rfl, e, .ref q1, rfl, .inl ⟨kvw, .inl p, .inr ⟨oe, heG⟩, rfl, hval⟩, q1, rfl, ⟨_, hq⟩, fun D nD => ?_⟩
      refine lc_tup (xs := ms.map V.int) (fun j G2 => K0 G' G2 ∧ G2 D = some (.lst [])) ⟨K0.new nD, upd_same⟩ (fun j G2 _ h => h.1.sqT hq) (fun j x G2 hx h => ?_) (fun G2 h => ?_)
      · obtain ⟨k2, hDG⟩ := h
        rw [List.getElem?_map] at hx
        obtain ⟨v, hv, rfl⟩ := Option.map_eq_some_iff.mp hx
        have kk := k.trans k2
        refine ⟨rfl, _, rfl, _, rfl, _, rfl, d, .ref q2, rfl, .inl ⟨kvs, .inl p, kk.rd hdl, rfl, e3.symm⟩, q2, _, rfl, .inr (k2.sqT hq2), rfl, flat ms2, _, rfl, ?_⟩
        show if (!inV (V.int v) (ms2.map V.int)) = true then _ else _
        rw [inI]
        by_cases hm : v ∈ ms2
        · rw [decide_eq_true hm]
          exact iteF (iteF ⟨k2, hDG⟩)
        rw [decide_eq_false hm]
        have hlost : v ∈ lost := by
          rcases hall p ms hmm v (List.mem_of_getElem? hv) with ⟨ms3, h1, h2⟩ | h
          · rw [hO.same h1 hms2] at h2
            exact absurd h2 hm
          · exact h
        refine iteT ⟨_, rfl, _, rfl, l, _, rfl, .inl (.inl (.inl (kk.oth l _ hll (fun _ z => by cases z)))), rfl, flat lost, _, rfl, ?_⟩
        show if (!inV (V.int v) (lost.map V.int)) = true then _ else _
        rw [inI, decide_eq_true hlost]
        exact iteF ⟨k2, hDG⟩
      · obtain ⟨k2, hDG⟩ := h
        refine ⟨Nat.zero_le _, fun pe npe => ?_⟩
        have ke := K0.new npe (o := .lst [])
        refine ⟨.list [], .list [], .lst (.inl (.inl (ke.oth D _ hDG (fun _ z => by cases z)))) .nil, .lst (.inl (.inl upd_same)) .nil, canLay_ints [], canLay_ints [], _, rfl, ?_⟩
        rw [show PyData.eqv (.list ([] : List PyData)) (.list []) = true from rfl]
        exact iteF ⟨_, rfl, k.trans (k2.trans ke)⟩
    · obtain ⟨y3, rfl, k⟩ := h
      have heG := k.oth e _ hel (fun _ z => by cases z)
      subst hHL
      exact ⟨heG, q _ (K0.lock he (fun _ z => by cases z) k)⟩
end
end HK

set_option Elab.async false
set_option linter.all false
set_option maxRecDepth 100000
set_option maxHeartbeats 4000000
namespace HK
open PySem PySem.Spec PyProof.Rows L2 GAl GxR HkN
theorem cutV_sub {xs : List V} {lo hi : Option Int} : ∀ x ∈ cutV xs lo hi, x ∈ xs := fun x hx => by
  unfold cutV at hx
  exact List.mem_of_mem_drop (List.mem_of_mem_take hx)
theorem cutV_int {l : List Int} {lo hi : Option Int} {i : Nat} {x : V} (h : (cutV (l.map V.int) lo hi)[i]? = some x) : ∃ v ∈ l, x = .int v := by
  obtain ⟨v, hv, e⟩ := List.mem_map.mp (cutV_sub x (List.mem_of_getElem? h))
  exact ⟨v, hv, e.symm⟩
theorem lackT_iff {kps wps : KpL} {m : Int} : Lck kps wps m ↔ lackL kps wps m ≠ [] := by
  constructor
  · rintro ⟨p, ms, h1, h2, h3⟩ z
    have : p ∈ lackL kps wps m := lack_mem.mpr ⟨ms, h1, h2, h3⟩
    rw [z] at this; cases this
  · intro h
    cases e : lackL kps wps m with
    | nil => exact absurd e h
    | cons p l =>
      have : p ∈ lackL kps wps m := by rw [e]; exact List.mem_cons_self ..
      obtain ⟨ms, h1, h2, h3⟩ := lack_mem.mp this
      exact ⟨p, ms, h1, h2, h3⟩
theorem hasK_iff {kps : KpL} {m : Int} : hasK kps m = true ↔ ∃ p, HasM kps m p := by
  unfold hasK
  rw [decide_eq_true_iff]
  constructor
  · intro h
    cases e : keepK kps m with
    | nil => exact absurd e h
    | cons p l => exact ⟨p, hasM_keep.mpr (by rw [e]; exact List.mem_cons_self ..)⟩
  · rintro ⟨p, h⟩ z
    have := hasM_keep.mp h
    rw [z] at this; cases this
/-- a send may be carried out -/
theorem sendable_of {n : Int} {rs : List R4} {kps : KpL} {m : Int} {ls : List Int} {h : IF} {M : Nat} {lst : List (Key × V)} (ok : SendOk rs kps (keepK kps m) ls h M) (hD : DI lst h) : Sendable kps m h lst.length := fun v x e => by
  obtain ⟨r, hr, h1, h2, h3⟩ := ok.road v x e
  unfold stands at h3
  rw [Bool.and_eq_true, decide_eq_true_iff, decide_eq_true_iff, h1, h2] at h3
  refine ⟨h3.2, h3.1, fun z => ok.notk v x e (hasM_keep.mp z), hasM_keep.mpr ?_⟩
  have hc := ok.ends v x e
  have hn : h (clm h M v) = none := by
    cases e2 : h (clm h M v) with
    | none => rfl
    | some y => exact absurd hc (ok.notk _ y e2)
  rw [clm_len hD hn rfl]
  exact hc
section
variable {nn : Nat} {rs : List R4} {kps kpm wps : KpL} {place num : Int}
/-- what is lacked where one keeps one number more -/
theorem more_sub (hC : Carr kps kpm num (· = place)) {m p : Int} (h : p ∈ lackL kpm wps m) (hp : p ∈ kps.map (·.1)) : p ∈ lackL kps wps m := by
  obtain ⟨ms, h1, h2, h3⟩ := lack_mem.mp h
  refine lack_mem.mpr ⟨ms, h1, h2, fun ns hn hm => ?_⟩
  obtain ⟨ns', hn'⟩ := kp_of (kps := kpm) (p := p) (by rw [hC.keys]; exact hp)
  exact h3 ns' hn' ((hC.mem p ns ns' hn hn' m).mpr (.inl hm))
theorem more_keep (hC : Carr kps kpm num (· = place)) {m p : Int} (h : p ∈ keepK kps m) : p ∈ keepK kpm m := by
  obtain ⟨ms, h1, h2⟩ := keep_mem.mp h
  obtain ⟨ms', h3⟩ := kp_of (kps := kpm) (p := p) (by rw [hC.keys]; exact List.mem_map.mpr ⟨_, h1, rfl⟩)
  exact keep_mem.mpr ⟨ms', h3, (hC.mem p ms ms' h1 h3 m).mpr (.inl h2)⟩
theorem more_has (hC : Carr kps kpm num (· = place)) (hn : hasK kps num = true) {m : Int} (h : hasK kpm m = true) : hasK kps m = true := by
  obtain ⟨p, ms', h1, h2⟩ := hasK_iff.mp h
  obtain ⟨ms, h3⟩ := kp_of (kps := kps) (p := p) (by rw [← hC.keys]; exact List.mem_map.mpr ⟨_, h1, rfl⟩)
  rcases (hC.mem p ms ms' h3 h1 m).mp h2 with z | ⟨rfl, _⟩
  · exact hasK_iff.mpr ⟨p, ms, h3, z⟩
  · exact hn
/-- the tree of the send as it was serves those that lack it still -/
theorem more_tree (hg : Good (nn : Int) rs) (hn : nn < 12) (hOm : KpOk nn kpm) (hsub : ∀ p ∈ wps, p.1 ∈ kps.map (·.1)) (hC : Carr kps kpm num (· = place)) {m : Int} {h : IF} {M : Nat} (ok : SendOk rs kps (keepK kps m) (lackL kps wps m) h M) :
    TreeP (sendK nn rs kpm (keepK kpm m)) nn (upN nn (keepK kpm m) h) (M + 1) ∧ ServP nn (upN nn (keepK kpm m) h) (lackL kpm wps m) ∧ prG (upN nn (keepK kpm m) h) (sendK nn rs kpm (keepK kpm m)) ≤ prG h rs := by
  have hdis : ∀ v ∈ lackL kpm wps m, v ∉ keepK kpm m := fun v hv hv2 => by
    obtain ⟨_, _, _, h3⟩ := lack_mem.mp hv
    obtain ⟨ns, h4, h5⟩ := keep_mem.mp hv2
    exact h3 ns h4 h5
  refine tree_up hg (by omega) (keep_areP hOm m) hC.keys (fun v hv => more_keep hC hv) (fun v hv => ?_) hdis ok
  obtain ⟨ms, h1, _⟩ := lack_mem.mp hv
  exact more_sub hC hv (hsub _ h1)
theorem more_rch (hg : Good (nn : Int) rs) (hn : nn < 12) (hOm : KpOk nn kpm) (hsub : ∀ p ∈ wps, p.1 ∈ kps.map (·.1)) (hC : Carr kps kpm num (· = place)) {m : Int} {h : IF} (ok : MendOk nn rs kps wps m h) : RchA nn rs kpm (keepK kpm m) (lackL kpm wps m) := by
  obtain ⟨⟨M, so⟩, _⟩ := ok
  obtain ⟨t1, t2, _⟩ := more_tree hg hn hOm hsub hC so
  exact STree.reached (nn := nn + 1) (sendK_good hg (by omega) (keep_areP hOm m)) (by omega) (by omega) ⟨_, t1, t2⟩
theorem more_price (hg : Good (nn : Int) rs) (hn : nn < 12) (hOm : KpOk nn kpm) (hW : KpOk nn wps) (hsub : ∀ p ∈ wps, p.1 ∈ kps.map (·.1)) (hC : Carr kps kpm num (· = place)) {m : Int} {h h2 : IF} (ok : MendOk nn rs kps wps m h) (ok2 : MendOk nn rs kpm wps m h2) (hne : lackL kpm wps m ≠ []) : prG h2 rs ≤ prG h rs := by
  obtain ⟨⟨M, so⟩, _⟩ := ok
  obtain ⟨t1, t2, t3⟩ := more_tree hg hn hOm hsub hC so
  obtain ⟨_, _, T, S, hRow, hT⟩ := ok2
  have hAl := lack_areP (kps := kpm) hW m
  obtain ⟨y, ey, ly⟩ := low_bound (nn := nn + 1) (sendK_good hg (by omega) (keep_areP hOm m)) t1 t2 (hAl.2.imp fun a => Int.ne_of_lt a) hne (fun v hv => by have := hAl.1 v hv; omega) hRow (by omega) (by omega)
  rw [hT] at ey
  have := Option.some.inj ey
  omega
end
/-! all roads -/
def rowW (n i : Nat) : List R4 := ((List.range n).filter fun j => decide (i ≠ j)).map fun j => ⟨(i : Nat), (j : Nat), 1, 1⟩
def rowsW (n k : Nat) : List R4 := (List.range k).flatMap (rowW n)
theorem rowW_mem {n i : Nat} {r : R4} : r ∈ rowW n i ↔ ∃ j, j < n ∧ i ≠ j ∧ r = ⟨(i : Nat), (j : Nat), 1, 1⟩ := by
  unfold rowW
  rw [List.mem_map]
  constructor
  · rintro ⟨j, hj, rfl⟩
    obtain ⟨h1, h2⟩ := List.mem_filter.mp hj
    exact ⟨j, List.mem_range.mp h1, of_decide_eq_true h2, rfl⟩
  · rintro ⟨j, h1, h2, rfl⟩
    exact ⟨j, List.mem_filter.mpr ⟨List.mem_range.mpr h1, decide_eq_true h2⟩, rfl⟩
theorem rowsW_mem {n k : Nat} {r : R4} : r ∈ rowsW n k ↔ ∃ i j, i < k ∧ j < n ∧ i ≠ j ∧ r = ⟨(i : Nat), (j : Nat), 1, 1⟩ := by
  unfold rowsW
  rw [List.mem_flatMap]
  constructor
  · rintro ⟨i, hi, hr⟩
    obtain ⟨j, h1, h2, h3⟩ := rowW_mem.mp hr
    exact ⟨i, j, List.mem_range.mp hi, h1, h2, h3⟩
  · rintro ⟨i, j, h1, h2, h3, h4⟩
    exact ⟨i, List.mem_range.mpr h1, rowW_mem.mpr ⟨j, h2, h3, h4⟩⟩
theorem rowsW_good {n : Nat} (h1 : 1 ≤ n) (h2 : n ≤ 12) : Good (n : Int) (rowsW n n) := by
  refine ⟨by omega, by omega, fun r hr => ?_, ?_⟩
  · obtain ⟨i, j, a1, a2, a3, rfl⟩ := rowsW_mem.mp hr
    exact ⟨by show (0 : Int) ≤ i; omega, by show (i : Int) < n; omega, by show (0 : Int) ≤ j; omega, by show (j : Int) < n; omega, by show (i : Int) ≠ j; omega, by show (0 : Int) ≤ 1; omega, by show (1 : Int) ≤ 1000; omega, by show (1 : Int) ≤ 1; omega, by show (1 : Int) ≤ 1000; omega⟩
  · unfold rowsW
    rw [List.pairwise_flatMap]
    refine ⟨fun i _ => ?_, List.pairwise_lt_range.imp fun {a b} hab x hx y hy => ?_⟩
    · unfold rowW
      refine List.pairwise_map.mpr ((List.pairwise_lt_range.sublist List.filter_sublist).imp fun {a b} hab => .inr ⟨rfl, ?_⟩)
      show (a : Int) < b
      omega
    · obtain ⟨j, _, _, rfl⟩ := rowW_mem.mp hx
      obtain ⟨k, _, _, rfl⟩ := rowW_mem.mp hy
      exact .inl (by show (a : Int) < b; omega)
theorem rowsW_all (n : Nat) : AllR n (rowsW n n) := by
  refine ⟨fun r hr => ?_, fun i j i0 i1 j0 j1 ne => ?_⟩
  · obtain ⟨i, j, _, _, _, rfl⟩ := rowsW_mem.mp hr
    rfl
  · refine ⟨⟨i, j, 1, 1⟩, rowsW_mem.mpr ⟨i.toNat, j.toNat, by omega, by omega, by omega, ?_⟩, rfl, rfl⟩
    rw [Int.toNat_of_nonneg i0, Int.toNat_of_nonneg j0]
theorem rowsW_succ (n k : Nat) : rowsW n (k + 1) = rowsW n k ++ rowW n k := by
  unfold rowsW
  rw [List.range_succ, List.flatMap_append]
  simp
/-- in a net with all roads all that lack it can be reached -/
theorem all_rch {nn : Nat} {rs : List R4} {kps wps : KpL} {m : Int} (hg : Good (nn : Int) rs) (hn : nn < 12) (hR : AllR nn rs) (hO : KpOk nn kps) (hW : KpOk nn wps) (hsub : ∀ p ∈ wps, p.1 ∈ kps.map (·.1)) (hk : hasK kps m = true) : RchA nn rs kps (keepK kps m) (lackL kps wps m) := by
  have hAk := keep_areP hO m
  have hAl := lack_areP (kps := kps) hW m
  have hdis : ∀ v ∈ lackL kps wps m, v ∉ keepK kps m := fun v hv hv2 => by
    obtain ⟨_, _, _, h3⟩ := lack_mem.mp hv
    obtain ⟨ns, h4, h5⟩ := keep_mem.mp hv2
    exact h3 ns h4 h5
  obtain ⟨k, hkk⟩ := hasK_iff.mp hk
  have hkk := hasM_keep.mp hkk
  have hkl : ∀ v ∈ keepK kps m, v ∈ kps.map (·.1) := fun v hv => by
    obtain ⟨ms, h1, _⟩ := keep_mem.mp hv
    exact List.mem_map.mpr ⟨_, h1, rfl⟩
  have hll : ∀ v ∈ lackL kps wps m, v ∈ kps.map (·.1) := fun v hv => by
    obtain ⟨ms, h1, _⟩ := lack_mem.mp hv
    exact hsub _ h1
  obtain ⟨t1, t2, _⟩ := (star_ok hg hR hkl hll hAk hAl hdis hkk).tree hg (by omega) hAk hdis
  exact STree.reached (nn := nn + 1) (sendK_good hg (by omega) hAk) (by omega) (by omega) ⟨_, t1, t2⟩
end HK

set_option Elab.async false
set_option linter.all false
set_option maxRecDepth 100000
set_option maxHeartbeats 4000000
namespace HK
open PySem PySem.Spec PyProof.Rows L2 GAl GxR
theorem shapedR (ts : List R4) : SeqAt.shaped (.list (ts.map R4.d)) = true := by
  have h1 : ∀ ts : List R4, PyData.canLayAll0 (ts.map R4.d) = true := fun ts => by
    induction ts with
    | nil => rfl
    | cons t r ih => rw [List.map_cons]; simp only [PyData.canLayAll0, ih, R4.d, PyData.canLay0, Bool.and_true]
  have h2 : ∀ ts : List R4, PyData.depthAll (ts.map R4.d) ≤ 2 := fun ts => by
    induction ts with
    | nil => decide
    | cons t r ih =>
      rw [List.map_cons]
      simp only [PyData.depthAll, R4.d, PyData.depth]
      omega
  show (PyData.canLay0 (.list (ts.map R4.d)) && decide (PyData.depth (.list (ts.map R4.d)) ≤ 64)) = true
  rw [Bool.and_eq_true, decide_eq_true_iff]
  refine ⟨by simp only [PyData.canLay0]; exact h1 ts, ?_⟩
  have := h2 ts
  simp only [PyData.depth]
  omega
theorem eqv_nilR (ts : List R4) : PyData.eqv (.list (ts.map R4.d)) (.list []) = ts.isEmpty := by
  cases ts <;> simp [PyData.eqv, PyData.eqvAll]
theorem flat_ints (L : List Int) : (L.map V.int).all flatV = true := by
  rw [List.all_map, List.all_eq_true]
  exact fun _ _ => rfl
theorem inV_iff (i : Int) (L : List Int) : inV (.int i) (L.map V.int) = decide (i ∈ L) := by
  rw [Bool.eq_iff_iff, decide_eq_true_iff]
  constructor
  · intro h
    unfold inV at h
    rw [List.any_map, List.any_eq_true] at h
    obtain ⟨j, hj, e⟩ := h
    have : j = i := by simpa [eqV] using e
    rw [← this]; exact hj
  · exact fun h => inV_mem h
section
variable {P : Program} {w : World} {K : PySem.W.Frag} {mg : Str → Option Value} {base : Heap}
theorem roads_snoc {H : Hp} {q : Addr} {t : R4} (hq : SqT K H q t.vs) : ∀ {xs : List V} {ts : List R4}, Roads K H xs ts → Roads K H (xs ++ [.ref q]) (ts ++ [t])
  | _, [], .nil => .cons (r4_dp hq) .nil
  | _, r :: ts, .cons a b => .cons a (roads_snoc hq (ts := ts) b)
end
end HK

set_option Elab.async false
set_option linter.all false
set_option maxRecDepth 100000
set_option maxHeartbeats 2000000
/-! xs == ys, xs != ys of two tuples whose items are equal, dicts among them -/
namespace PySem.SeqAt
open AutoSeq1 (wpAny_loadPart')
open MeetsSeq MeetsSeq2 MeetsSeq3 SeqRoads2
section
variable {prog : Program} {w : World}
theorem hk_neTups (l b : Addr) (us ws : Array Value) (n n2 : Nat) (dd dd2 : Option Addr) (sl sl2 : Array (Option Value)) (hsz : us.size = ws.size) :
    MeetsIn prog w (Builtin.«tuple.__ne__» ⟨[.ref l, .ref b], []⟩) (fun A R s => (s.heap.get? l = some { cls := .type "tuple", dict := dd, data := .seq us n, slots := sl }) ∧
      (s.heap.get? b = some { cls := .type "tuple", dict := dd2, data := .seq ws n2, slots := sl2 }) ∧ (∀ j (h1 : j < us.size) (h2 : j < ws.size), EqP prog w A.in1 s us[j] ws[j] true) ∧ R (.ok (.ret (.bool false))) s) := by
  intro A R ⟨hp, g, d, tk, os⟩ ⟨hl, hb, he, h⟩
  have f2 := AutoSeq1.sub_tuple_tuple
  have hZ : (us.toList.zip ws.toList).length = us.size := by simp [hsz]
  wp_walk using wpAny_loadPart' hl, wpAny_loadPart' hb, wpAny_forIn_list _ (fun rest b s' => b.1 = none ∧ s' = ⟨hp, g, d, tk, os⟩ ∧ ∃ i, rest = (us.toList.zip ws.toList).drop i) _
  case turn =>
    rintro ⟨y, x⟩ rest b s' ⟨hb', rfl, i, hz⟩
    have hlt : i < (us.toList.zip ws.toList).length := by
      rcases Nat.lt_or_ge i (us.toList.zip ws.toList).length with h' | h'
      · exact h'
      · rw [List.drop_of_length_le h'] at hz; cases hz
    have h1 : i < us.size := hZ ▸ hlt
    have h2 : i < ws.size := hsz ▸ h1
    rw [List.drop_eq_getElem_cons hlt] at hz
    injection hz with hyx hrest
    have hy : y = us[i] := by have := congrArg Prod.fst hyx; simpa using this
    have hx : x = ws[i] := by have := congrArg Prod.snd hyx; simpa using this
    subst hy hx
    refine wpAny_bind (he i h1 h2 _ _ ?_)
    wp_walk
    exact ⟨rfl, rfl, i + 1, hrest⟩
  case fin =>
    rintro ⟨b1, b2⟩ s' ⟨hb', rfl, i, hz⟩
    simp only at hb'
    subst hb'
    wp_walk
    simpa [Builtin.Tuple.tupleCompareSizes, bne, hsz] using h
  case h =>
    exact ⟨rfl, rfl, 0, rfl⟩
theorem hk_eqTups (l b : Addr) (us ws : Array Value) (n n2 : Nat) (dd dd2 : Option Addr) (sl sl2 : Array (Option Value)) (hsz : us.size = ws.size) :
    MeetsIn prog w (Builtin.«tuple.__eq__» ⟨[.ref l, .ref b], []⟩) (fun A R s => (s.heap.get? l = some { cls := .type "tuple", dict := dd, data := .seq us n, slots := sl }) ∧
      (s.heap.get? b = some { cls := .type "tuple", dict := dd2, data := .seq ws n2, slots := sl2 }) ∧ (∀ j (h1 : j < us.size) (h2 : j < ws.size), EqP prog w A.in1 s us[j] ws[j] true) ∧ R (.ok (.ret (.bool true))) s) := by
  intro A R ⟨hp, g, d, tk, os⟩ ⟨hl, hb, he, h⟩
  have f2 := AutoSeq1.sub_tuple_tuple
  have hZ : (us.toList.zip ws.toList).length = us.size := by simp [hsz]
  wp_walk using wpAny_loadPart' hl, wpAny_loadPart' hb, wpAny_forIn_list _ (fun rest b s' => b.1 = none ∧ s' = ⟨hp, g, d, tk, os⟩ ∧ ∃ i, rest = (us.toList.zip ws.toList).drop i) _
  case turn =>
    rintro ⟨y, x⟩ rest b s' ⟨hb', rfl, i, hz⟩
    have hlt : i < (us.toList.zip ws.toList).length := by
      rcases Nat.lt_or_ge i (us.toList.zip ws.toList).length with h' | h'
      · exact h'
      · rw [List.drop_of_length_le h'] at hz; cases hz
    have h1 : i < us.size := hZ ▸ hlt
    have h2 : i < ws.size := hsz ▸ h1
    rw [List.drop_eq_getElem_cons hlt] at hz
    injection hz with hyx hrest
    have hy : y = us[i] := by have := congrArg Prod.fst hyx; simpa using this
    have hx : x = ws[i] := by have := congrArg Prod.snd hyx; simpa using this
    subst hy hx
    refine wpAny_bind (he i h1 h2 _ _ ?_)
    wp_walk
    exact ⟨rfl, rfl, i + 1, hrest⟩
  case fin =>
    rintro ⟨b1, b2⟩ s' ⟨hb', rfl, i, hz⟩
    simp only at hb'
    subst hb'
    wp_walk
    simpa [Builtin.Tuple.tupleCompareSizes, hsz] using h
  case h =>
    exact ⟨rfl, rfl, 0, rfl⟩
end
end PySem.SeqAt
namespace HkT
open PySem PySem.Spec PyProof.Rows L2
section
variable {X : Cx}
/-- two tuples of equal items -/
def rEqT (K : PySem.W.Frag) (r : Bool) : R2 := fun x y H Q => ∃ (n : Nat) (a b : Addr) (xs ys : List V), n ≤ 50 ∧ x = .ref a ∧ y = .ref b ∧ SqT K H a xs ∧ SqT K H b ys ∧ Paired (EqV K H n) xs ys ∧ Q (.bl r) H
theorem op_neT (hu : X.A.units + 64 < cLine) : OpR X (compareOp .NotEq) (rEqT X.K false) := by
  intro pins s σ H x y v u Q I rx ry h
  obtain ⟨n, a, b, xs, ys, hn, rfl, rfl, ha, hb, hp, q⟩ := h
  cases (show v = Value.ref a from rx)
  cases (show u = Value.ref b from ry)
  obtain ⟨us, r1, p1, _⟩ := I.tuple ha
  obtain ⟨ws, r2, p2, _⟩ := I.tuple hb
  obtain ⟨⟨cls, dd, data, sl⟩, ho, hc, m, hd⟩ := id p1
  obtain ⟨⟨cls2, dd2, data2, sl2⟩, ho2, hc2, m2, hd2⟩ := id p2
  simp only at hc hd hc2 hd2
  subst hc hd hc2 hd2
  have hsz : us.toArray.size = ws.toArray.size := by
    rw [List.size_toArray, List.size_toArray, ← r1.length, ← r2.length]
    exact Paired.length hp
  have ta : s.TypeIs (.ref a) "tuple" := ⟨_, ho, rfl⟩
  have tb : s.TypeIs (.ref b) "tuple" := ⟨_, ho2, rfl⟩
  refine wpAny_richCompare_same_room (op := .NotEq) ta tb F.slot_tuple_ne (call_meetsIn F.slot_tuple_ne ta F.entry_tuple_ne (F.args_tuple_ne_2 _ _) (SeqAt.hk_neTups a b us.toArray ws.toArray m m2 dd dd2 sl sl2 hsz)
    ⟨ho, ho2, fun j h1 h2 => ?_, show Value.bool false ≠ Value.notImplemented ∧ EP X pins σ Q (.bool false) s from ⟨(fun x => nomatch x), ⟨.bl false, H, I, rfl, q⟩⟩⟩) (by omega)
  have k := items_run (eqV_run I n X.A.in1 (by show X.A.units + 1 + n < cLine; omega)) hp r1 r2 j (by simpa using h1) (by simpa using h2)
  simpa using k
theorem op_eqT (hu : X.A.units + 64 < cLine) : OpR X (compareOp .Eq) (rEqT X.K true) := by
  intro pins s σ H x y v u Q I rx ry h
  obtain ⟨n, a, b, xs, ys, hn, rfl, rfl, ha, hb, hp, q⟩ := h
  cases (show v = Value.ref a from rx)
  cases (show u = Value.ref b from ry)
  obtain ⟨us, r1, p1, _⟩ := I.tuple ha
  obtain ⟨ws, r2, p2, _⟩ := I.tuple hb
  obtain ⟨⟨cls, dd, data, sl⟩, ho, hc, m, hd⟩ := id p1
  obtain ⟨⟨cls2, dd2, data2, sl2⟩, ho2, hc2, m2, hd2⟩ := id p2
  simp only at hc hd hc2 hd2
  subst hc hd hc2 hd2
  have hsz : us.toArray.size = ws.toArray.size := by
    rw [List.size_toArray, List.size_toArray, ← r1.length, ← r2.length]
    exact Paired.length hp
  have ta : s.TypeIs (.ref a) "tuple" := ⟨_, ho, rfl⟩
  have tb : s.TypeIs (.ref b) "tuple" := ⟨_, ho2, rfl⟩
  refine wpAny_richCompare_same_room (op := .Eq) ta tb F.slot_tuple_eq (call_meetsIn F.slot_tuple_eq ta F.entry_tuple_eq (F.args_tuple_eq_2 _ _) (SeqAt.hk_eqTups a b us.toArray ws.toArray m m2 dd dd2 sl sl2 hsz)
    ⟨ho, ho2, fun j h1 h2 => ?_, show Value.bool true ≠ Value.notImplemented ∧ EP X pins σ Q (.bool true) s from ⟨(fun x => nomatch x), ⟨.bl true, H, I, rfl, q⟩⟩⟩) (by omega)
  have k := items_run (eqV_run I n X.A.in1 (by show X.A.units + 1 + n < cLine; omega)) hp r1 r2 j (by simpa using h1) (by simpa using h2)
  simpa using k
end
end HkT

set_option Elab.async false
set_option linter.all false
set_option maxRecDepth 100000
set_option maxHeartbeats 8000000
namespace HK
open PySem PySem.Spec PyProof.Rows L2 GAl GxR HkN
open Evl (pss_cut)
abbrev sLaw : Stmt := topS 63
abbrev N_scLaw : List Str := ["script", "start", "tape", "net", "many", "kept", "wants", "found", "after", "number", "place", "more", "again", "roads", "i", "wide", "j"]
theorem scLaw : FnScope N_scLaw ["script"] (defScope sLaw) := ⟨rfl, rfl, rfl, by decide +kernel, rfl, by decide +kernel, by decide +kernel⟩
/-- mended, as told -/
def MdAt (K : PySem.W.Frag) (F : Addr → Prop) (H : Hp) (q : Addr) (nn : Nat) (rs : List R4) (kps wps : KpL) (nums : List Int) (S L : Addr) (xs : List (Int × IF)) : Prop :=
  SqT K H q [.str "mended", .ref S, .ref L] ∧ nums.Pairwise (· < ·) ∧ (∀ v, v ∈ nums ↔ Lck kps wps v) ∧ SendsAt H S F xs ∧ (∀ c, ¬ F c → c ≠ S) ∧ xs.map (·.1) = nums.filter (hasK kps) ∧ (∀ p ∈ xs, MendOk nn rs kps wps p.1 p.2) ∧ H L = some (.lst ((nums.filter fun m => !hasK kps m).map V.int))
theorem MdAt.k0 {K : PySem.W.Frag} {F : Addr → Prop} {H H' : Hp} {q : Addr} {nn : Nat} {rs : List R4} {kps wps : KpL} {nums : List Int} {S L : Addr} {xs : List (Int × IF)} (h : MdAt K F H q nn rs kps wps nums S L xs) (k : K0 H H') : MdAt K F H' q nn rs kps wps nums S L xs := by
  obtain ⟨h1, h2, h3, h4, h5, h6, h7, h8⟩ := h
  refine ⟨k.sqT h1, h2, h3, ?_, h5, h6, h7, k.oth L _ h8 (fun _ z => by cases z)⟩
  obtain ⟨kx, a, b, c⟩ := h4
  exact ⟨kx, k.oth S _ a (fun _ z => by cases z), b, fun i m h e => by
    obtain ⟨x, ls, c1, c2, c3⟩ := c i m h e
    exact ⟨x, ls, c1, k.oth x _ c2 (fun _ z => by cases z), c3⟩⟩
theorem SendsAt.keysI {H : Hp} {S : Addr} {F : Addr → Prop} {xs : List (Int × IF)} {kx : List (Key × V)} (h : kx.length = xs.length) (c : ∀ (i : Nat) (m : Int) (h : IF), xs[i]? = some (m, h) → ∃ (b : Addr) (ls : List (Key × V)), kx[i]? = some (.inl m, .ref b) ∧ H b = some (.dK ls) ∧ DI ls h ∧ ls.length ≤ 12 ∧ ¬ F b) : kx.map (·.1) = (xs.map (·.1)).map Sum.inl := by
  refine List.ext_getElem? fun i => ?_
  rw [List.getElem?_map, List.getElem?_map, List.getElem?_map]
  cases e0 : xs[i]? with
  | none => rw [List.getElem?_eq_none_iff.mpr (show kx.length ≤ i by rw [h]; exact List.getElem?_eq_none_iff.mp e0)]; rfl
  | some p0 =>
    obtain ⟨x, l1, e1, _⟩ := c i p0.1 p0.2 e0
    rw [e1]; rfl
/-- a number's send, looked up -/
theorem SendsAt.get {H : Hp} {S : Addr} {F : Addr → Prop} {xs : List (Int × IF)} {kx : List (Key × V)} (nd : (xs.map (·.1)).Nodup) (h : kx.length = xs.length) (c : ∀ (i : Nat) (m : Int) (h : IF), xs[i]? = some (m, h) → ∃ (b : Addr) (ls : List (Key × V)), kx[i]? = some (.inl m, .ref b) ∧ H b = some (.dK ls) ∧ DI ls h ∧ ls.length ≤ 12 ∧ ¬ F b) {m : Int} (hm : m ∈ xs.map (·.1)) : ∃ (f : IF) (b : Addr) (ls : List (Key × V)), (m, f) ∈ xs ∧ valV kx (.inl m) = some (.ref b) ∧ H b = some (.dK ls) ∧ DI ls f ∧ ls.length ≤ 12 := by
  obtain ⟨⟨m', f⟩, hmf, rfl⟩ := List.mem_map.mp hm
  obtain ⟨i, hi⟩ := List.getElem?_of_mem hmf
  obtain ⟨b, ls, e1, e2, e3, e4, _⟩ := c i m' f hi
  have ndk : (kx.map (·.1)).Nodup := by
    rw [SendsAt.keysI (S := S) h c]
    exact List.pairwise_map.mpr (nd.imp fun a z => a (Sum.inl.inj z))
  exact ⟨f, b, ls, hmf, valV_mem (p := ((.inl m' : Key), V.ref b)) ndk (List.mem_of_getElem? e1), e2, e3, e4⟩
theorem SendsAt.no {H : Hp} {S : Addr} {F : Addr → Prop} {xs : List (Int × IF)} {kx : List (Key × V)} (h : kx.length = xs.length) (c : ∀ (i : Nat) (m : Int) (h : IF), xs[i]? = some (m, h) → ∃ (b : Addr) (ls : List (Key × V)), kx[i]? = some (.inl m, .ref b) ∧ H b = some (.dK ls) ∧ DI ls h ∧ ls.length ≤ 12 ∧ ¬ F b) {m : Int} (hm : m ∉ xs.map (·.1)) : valV kx (.inl m) = none := by
  cases e : valV kx (.inl m) with
  | none => rfl
  | some v =>
    have := valV_in e
    rw [SendsAt.keysI (S := S) h c] at this
    obtain ⟨u, hu, eu⟩ := List.mem_map.mp this
    cases eu
    exact absurd hu hm
section
variable {P : Program} {w : World} {K : PySem.W.Frag} {mg : Str → Option Value} {base : Heap}
def spLaw (K : PySem.W.Frag) (Pn Pr Pu Ph Ps Pf Pk Pl Pa Pp Pg Pm : Addr) : Sp := fun vs H Q _ => ∃ (a : Addr) (ns : List Int), vs = [.ref a] ∧ SqL K H a (ns.map V.int) ∧ TabG H Pn ∧ TabG H Pr ∧ TabG H Pu ∧ TabG H Ph ∧ TabG H Ps ∧ TabG H Pf ∧ TabG H Pk ∧ TabG H Pl ∧ TabG H Pa ∧ TabG H Pp ∧ TabG H Pg ∧ TabG H Pm ∧ ∀ H', Q (.bl true) H'
theorem ok_law {f : Addr} {fd : FuncData} {f_atape f_anet f_adigit f_akept f_awants f_mend f_aafter f_ahasall f_aprice f_alacking : Addr} {fd_atape fd_anet fd_adigit fd_akept fd_awants fd_mend fd_aafter fd_ahasall fd_aprice fd_alacking : FuncData} {Pn Pr Pu Ph Ps Pf Pk Pl Pa Pp Pg Pm : Addr} (F : Fun K "law" "law" sLaw f fd)
    (k_atape : PySem.W.keepIn K (.ref f_atape) = true) (b_atape : Binds K fd_atape ["script", "k"] []) (g_atape : mg "_law_atape" = some (.ref f_atape)) (G_atape : FnOk P w K mg base CX0 2 f_atape fd_atape ["script", "k"] (spATape K))
    (k_anet : PySem.W.keepIn K (.ref f_anet) = true) (b_anet : Binds K fd_anet ["tape", "most"] []) (g_anet : mg "_law_anet" = some (.ref f_anet)) (G_anet : FnOk P w K mg base CX0 2 f_anet fd_anet ["tape", "most"] (spANet K))
    (k_adigit : PySem.W.keepIn K (.ref f_adigit) = true) (b_adigit : Binds K fd_adigit ["tape", "many"] []) (g_adigit : mg "_law_adigit" = some (.ref f_adigit)) (G_adigit : FnOk P w K mg base CX0 1 f_adigit fd_adigit ["tape", "many"] (spADigit))
    (k_akept : PySem.W.keepIn K (.ref f_akept) = true) (b_akept : Binds K fd_akept ["tape", "n", "many"] []) (g_akept : mg "_law_akept" = some (.ref f_akept)) (G_akept : FnOk P w K mg base CX0 2 f_akept fd_akept ["tape", "n", "many"] (spAKept K))
    (k_awants : PySem.W.keepIn K (.ref f_awants) = true) (b_awants : Binds K fd_awants ["tape", "kept", "many"] []) (g_awants : mg "_law_awants" = some (.ref f_awants)) (G_awants : FnOk P w K mg base CX0 2 f_awants fd_awants ["tape", "kept", "many"] (spAWants K))
    (k_mend : PySem.W.keepIn K (.ref f_mend) = true) (b_mend : Binds K fd_mend ["net", "kept", "wants"] []) (g_mend : mg "mend" = some (.ref f_mend)) (G_mend : FnOk P w K mg base CX0 9 f_mend fd_mend ["net", "kept", "wants"] (spMend P w K Pn Pr Pu Ph Ps Pf Pk Pl Pa Pp Pg Pm))
    (k_aafter : PySem.W.keepIn K (.ref f_aafter) = true) (b_aafter : Binds K fd_aafter ["kept", "sends"] []) (g_aafter : mg "_law_aafter" = some (.ref f_aafter)) (G_aafter : FnOk P w K mg base CX0 2 f_aafter fd_aafter ["kept", "sends"] (spAAfter K))
    (k_ahasall : PySem.W.keepIn K (.ref f_ahasall) = true) (b_ahasall : Binds K fd_ahasall ["after", "wants", "lost"] []) (g_ahasall : mg "_law_ahas_all" = some (.ref f_ahasall)) (G_ahasall : FnOk P w K mg base CX0 1 f_ahasall fd_ahasall ["after", "wants", "lost"] (spAHasAll K))
    (k_aprice : PySem.W.keepIn K (.ref f_aprice) = true) (b_aprice : Binds K fd_aprice ["net", "ahead"] []) (g_aprice : mg "_law_aprice" = some (.ref f_aprice)) (G_aprice : FnOk P w K mg base CX0 1 f_aprice fd_aprice ["net", "ahead"] (spAPrice K))
    (k_alacking : PySem.W.keepIn K (.ref f_alacking) = true) (b_alacking : Binds K fd_alacking ["kept", "wants", "number"] []) (g_alacking : mg "_law_alacking" = some (.ref f_alacking)) (G_alacking : FnOk P w K mg base CX0 1 f_alacking fd_alacking ["kept", "wants", "number"] (spALack K))
    (m_len : mg "len" = none) (m_range : mg "range" = none) (m_max : mg "max" = none) (m_min : mg "min" = none) (m_sorted : mg "sorted" = none) (m_dict : mg "dict" = none) (m_tuple : mg "tuple" = none) (m_set : mg "set" = none) : FnOk P w K mg base CX0 10 f fd ["script"] (spLaw K Pn Pr Pu Ph Ps Pf Pk Pl Pa Pp Pg Pm) := by
  refine F.ok scLaw (fun vs H Q E h => ?_) (fun cdv A outer st H vs Q E hr h => ?_)
  · obtain ⟨a, ns, rfl, _⟩ := h
    rfl
  · obtain ⟨a, ns, rfl, hS, z1, z2, z3, z4, z5, z6, z7, z8, z9, z10, z11, z12, q⟩ := h
    have tb : TbL H [Pn, Pr, Pu, Ph, Ps, Pf, Pk, Pl, Pa, Pp, Pg, Pm] := fun P hP => by
      simp at hP
      rcases hP with h | h | h | h | h | h | h | h | h | h | h | h <;> subst h <;> assumption
    have hu := hu_of hr
    refine ⟨_, (pss_cons (ps_for PassesOwn.never rfl (pi_range2 (by rfl) m_range (pa_cons pe_int (pa_cons (pe_callB (call_max2 rfl) (by rfl) m_max (by decide +kernel) (pa_cons pe_int (pa_cons (pe_callB (call_min2 rfl) (by rfl) m_min (by decide +kernel) (pa_cons pe_int (pa_cons (pe_callB call_len_seq (by rfl) m_len PySem.boot_len (pa_cons (pv 0) pa_nil)) pa_nil))) pa_nil))) pa_nil))) (pg_name (i := 1) scLaw.nd rfl (.inl rfl))
      (pss_cut (ps_set (i := 2) scLaw.nd rfl (.inl rfl) (pe_call G_atape (hr.mono (by decide)) (by rfl) g_atape k_atape b_atape .nil pass0 (pa_cons (pv 0) (pa_cons (pv 1) pa_nil))))
      (pss_cut (ps_set (i := 3) scLaw.nd rfl (.inl rfl) (pe_call G_anet (hr.mono (by decide)) (by rfl) g_anet k_anet b_anet .nil pass0 (pa_cons (pv 2) (pa_cons pe_int pa_nil))))
      (pss_cut (ps_set (i := 4) scLaw.nd rfl (.inl rfl) (pe_call G_adigit (hr.mono (by decide)) (by rfl) g_adigit k_adigit b_adigit .nil pass0 (pa_cons (pv 2) (pa_cons pe_int pa_nil))))
      (pss_cut (ps_set (i := 5) scLaw.nd rfl (.inl rfl) (pe_call G_akept (hr.mono (by decide)) (by rfl) g_akept k_akept b_akept .nil pass0 (pa_cons (pv 2) (pa_cons (pe_ix ix_tup (pv 3) pe_int (fun _ _ => rfl)) (pa_cons (pv 4) pa_nil)))))
      (pss_cut (ps_set (i := 6) scLaw.nd rfl (.inl rfl) (pe_call G_awants (hr.mono (by decide)) (by rfl) g_awants k_awants b_awants .nil pass0 (pa_cons (pv 2) (pa_cons (pv 5) (pa_cons (pv 4) pa_nil)))))
      (pss_cut (ps_set (i := 7) scLaw.nd rfl (.inl rfl) (pe_call G_mend (hr.mono (by decide)) (by rfl) g_mend k_mend b_mend .nil pass0 (pa_cons (pv 3) (pa_cons (pv 5) (pa_cons (pv 6) pa_nil)))))
      (pss_cut (ps_if (pt_cmpR op_eq (pe_ix ix_tup (pv 7) pe_int (fun _ _ => rfl)) pe_str (nomark _)) (pss_cut (ps_set (i := 8) scLaw.nd rfl (.inl rfl) (pe_call G_aafter (hr.mono (by decide)) (by rfl) g_aafter k_aafter b_aafter .nil pass0 (pa_cons (pv 5) (pa_cons (pe_ix ix_tup (pv 7) pe_int (fun _ _ => rfl)) pa_nil))))
      (pss_cut (ps_if (PW.pt (pw_or (pt_cmp (pc_isN (pv 8))) (pw_or1 (pt_not (pt_val (pe_call G_ahasall (hr.mono (by decide)) (by rfl) g_ahasall k_ahasall b_ahasall .nil pass0 (pa_cons (pv 8) (pa_cons (pv 6) (pa_cons (pe_ix ix_tup (pv 7) pe_int (fun _ _ => rfl)) pa_nil))))))))) (pss_one (ps_ret pe_bl)) pss_nil)
      (pss_cut (ps_if (pt_cmpR (HkT.op_neT hr.units) (pe_call G_mend (hr.mono (by decide)) (by rfl) g_mend k_mend b_mend .nil pass0 (pa_cons (pv 3) (pa_cons (pv 8) (pa_cons (pv 6) pa_nil)))) (pe_tup (pa_cons pe_str (pa_cons pe_dnewK (pa_cons (pe_ix ix_tup (pv 7) pe_int (fun _ _ => rfl)) pa_nil)))) (nomark _)) (pss_one (ps_ret pe_bl)) pss_nil)
      (pss_one (ps_for PassesOwn.never rfl (pi_list (pe_slice sl_list (pe_callB (call_sortedDI rfl) (by rfl) m_sorted boot_sorted (pa_cons (pe_ix ix_tup (pv 7) pe_int (fun _ _ => rfl)) pa_nil)) po_none (po_some pe_int))) (pg_name (i := 9) scLaw.nd rfl (.inl rfl))
      (pss_one (ps_for PassesOwn.never rfl (pi_list (pe_slice sl_list (pe_callB (call_sortedDI rfl) (by rfl) m_sorted boot_sorted (pa_cons (pv 5) pa_nil)) po_none (po_some pe_int))) (pg_name (i := 10) scLaw.nd rfl (.inl rfl))
      (pss_cut (ps_set (i := 11) scLaw.nd rfl (.inl rfl) (pe_callTy call_dictD (by rfl) m_dict (by decide +kernel) (pa_cons (pv 5) pa_nil)))
      (pss_cons (ps_dput hu (pv 11) (pv 10) (pe_callTy call_tuple_fz (by rfl) m_tuple (by decide +kernel) (pa_cons (pe_callB (cr_sortedSet rfl) (by rfl) m_sorted boot_sorted (pa_cons (pe_callTy (HkL.cr_setT rfl) (by rfl) m_set (by decide +kernel) (pa_cons (pe_op op_catA (pe_dget hu (pv 5) (pv 10) (fun _ _ => rfl)) (pe_tup (pa_cons (pv 9) pa_nil))) pa_nil)) pa_nil)) pa_nil)) rfl)
      (pss_cut (ps_set (i := 12) scLaw.nd rfl (.inl rfl) (pe_call G_mend (hr.mono (by decide)) (by rfl) g_mend k_mend b_mend .nil pass0 (pa_cons (pv 3) (pa_cons (pv 11) (pa_cons (pv 6) pa_nil)))))
      (pss_cut (ps_if (pt_cmpR op_ne (pe_ix ix_tup (pv 12) pe_int (fun _ _ => rfl)) pe_str (nomark _)) (pss_one (ps_ret pe_bl)) pss_nil)
      (pss_one (ps_if (pt_cmp (pc_din hu (pv 9) (pe_ix ix_tup (pv 12) pe_int (fun _ _ => rfl)))) (pss_one (ps_if (pt_cmpR op_gt (pe_call G_aprice (hr.mono (by decide)) (by rfl) g_aprice k_aprice b_aprice .nil pass0 (pa_cons (pv 3) (pa_cons (pe_dget hu (pe_ix ix_tup (pv 12) pe_int (fun _ _ => rfl)) (pv 9) (fun _ _ => rfl)) pa_nil))) (pe_call G_aprice (hr.mono (by decide)) (by rfl) g_aprice k_aprice b_aprice .nil pass0 (pa_cons (pv 3) (pa_cons (pe_dget hu (pe_ix ix_tup (pv 7) pe_int (fun _ _ => rfl)) (pv 9) (fun _ _ => rfl)) pa_nil))) (nomark _)) (pss_one (ps_ret pe_bl)) pss_nil)) pss_nil))))))))))))) pss_nil)
      (pss_cut (ps_set (i := 13) scLaw.nd rfl (.inl rfl) (pe_lst pa_nil))
      (pss_cut (ps_for PassesOwn.never rfl (pi_range1 (by rfl) m_range (pa_cons (pe_ix ix_tup (pv 3) pe_int (fun _ _ => rfl)) pa_nil)) (pg_name (i := 14) scLaw.nd rfl (.inr rfl))
      (pss_one (ps_expr (pe_bm PySem.F.plainAttrs_list PySem.F.slot_list_extend PySem.F.type_list_extend mt_extend (pv 13) (pa_cons (pe_lc (own := [("j", 16)]) (g := (gName 16)) (tt := (tTest (tOp rNe (tVar 14) (tVar 16)))) (te := (tTup (tCons (tVar 14) (tCons (tVar 16) (tCons (tC (.int 1)) (tCons (tC (.int 1)) tNil)))))) rfl scLaw.nd (pi_range1 (by rfl) m_range (pa_cons (pe_ix ix_tup (pv 3) pe_int (fun _ _ => rfl)) pa_nil)) (blkOk_by (N := N_scLaw) (sc := defScope sLaw) (by decide +kernel)) (fun _ _ _ _ _ => (pg_name (i := 16) scLaw.nd rfl (.inl rfl))) (fun _ _ _ _ _ => (pts_one (pt_cmpR op_ne (pv 14) (pv 16) (nomark _)))) (fun _ _ _ _ _ => (pe_tup (pa_cons (pv 14) (pa_cons (pv 16) (pa_cons pe_int (pa_cons pe_int pa_nil))))))) pa_nil)))))
      (pss_cut (ps_set (i := 15) scLaw.nd rfl (.inl rfl) (pe_call G_mend (hr.mono (by decide)) (by rfl) g_mend k_mend b_mend .nil pass0 (pa_cons (pe_tup (pa_cons (pe_ix ix_tup (pv 3) pe_int (fun _ _ => rfl)) (pa_cons (pe_callTy call_tuple_fz (by rfl) m_tuple (by decide +kernel) (pa_cons (pv 13) pa_nil)) pa_nil))) (pa_cons (pv 5) (pa_cons (pv 6) pa_nil)))))
      (pss_cut (ps_if (pt_cmpR op_ne (pe_ix ix_tup (pv 15) pe_int (fun _ _ => rfl)) pe_str (nomark _)) (pss_one (ps_ret pe_bl)) pss_nil)
      (pss_one (ps_lock (ps_for PassesOwn.never rfl (pi_keys (pe_ix ix_tup (pv 15) pe_int (fun _ _ => rfl))) (pg_name (i := 9) scLaw.nd rfl (.inl rfl))
      (pss_one (ps_if (pt_cmpR op_ne (pe_callB call_lenR (by rfl) m_len PySem.boot_len (pa_cons (pe_dget hu (pe_ix ix_tup (pv 15) pe_int (fun _ _ => rfl)) (pv 9) (fun _ _ => rfl)) pa_nil)) (pe_callB call_len_seq (by rfl) m_len PySem.boot_len (pa_cons (pe_call G_alacking (hr.mono (by decide)) (by rfl) g_alacking k_alacking b_alacking .nil pass0 (pa_cons (pv 5) (pa_cons (pv 6) (pa_cons (pv 9) pa_nil)))) pa_nil)) (nomark _)) (pss_one (ps_ret pe_bl)) pss_nil)))))))))))))))))
      (pss_one (ps_ret pe_bl))), ?_⟩
    refine ⟨_, rfl, a, _, rfl, .inl hS, _, _, rfl, _, _, rfl, 0, _, rfl, ⟨by decide, by decide, ?_, ?_⟩, ?_⟩
    · split <;> split <;> omega
    · split <;> split <;> omega
    refine for_range (lo := 0) (fun i σ' H' => ∃ y1 y2 y3 y4 y5 y6 y7 y8 y9 y10 y11 y12 y13 y14 y15, σ' = [some (.ref a), y1, y2, y3, y4, y5, y6, y7, y8, y9, y10, y11, y12, y13, y14, y15, none] ∧ K0 H H') ⟨none, none, none, none, none, none, none, none, none, none, none, none, none, none, none, rfl, K0.refl _⟩ (fun i σ' H' hi h => ?_) (fun σ' H' h => q _)
    obtain ⟨y1, y2, y3, y4, y5, y6, y7, y8, y9, y10, y11, y12, y13, y14, y15, rfl, k0⟩ := h
    refine ⟨fun σ' H1 => ∃ t, σ' = [some (.ref a), some (.int (0 + (i : Int))), some (.ref t), y3, y4, y5, y6, y7, y8, y9, y10, y11, y12, y13, y14, y15, none] ∧ H' t = none ∧ K0 H' H1 ∧ TpA H1 t, ?_, ?_⟩
    · exact ⟨_, rfl, _, rfl, a, ns, _, rfl, k0.sqL hS, by omega, fun t H1 nt0 k1 T1 => ⟨t, rfl, nt0, k1, T1⟩⟩
    rintro σ' H1 ⟨t, rfl, nt0, k1, T1⟩
    refine ⟨fun σ' H2 => ∃ na n rs, σ' = [some (.ref a), some (.int (0 + (i : Int))), some (.ref t), some (.ref na), y4, y5, y6, y7, y8, y9, y10, y11, y12, y13, y14, y15, none] ∧ Kt t H1 H2 ∧ TpA H2 t ∧ NetAt K H2 na n rs ∧ n ≤ 7 ∧ Good n rs, ?_, ?_⟩
    · exact ⟨_, rfl, t, 7, rfl, T1, by omega, by omega, fun na n rs H2 k2 T2 hN hn7 G hlen => ⟨na, n, rs, rfl, k2, T2, hN, hn7, G⟩⟩
    rintro σ' H2 ⟨na, n, rs, rfl, k2, T2, hN, hn7, hg⟩
    have n1 := hg.n1
    obtain ⟨nn, rfl⟩ := Int.eq_ofNat_of_zero_le (show 0 ≤ n by omega)
    have hn12 : nn < 12 := by omega
    refine ⟨fun σ' H3 => ∃ many : Int, σ' = [some (.ref a), some (.int (0 + (i : Int))), some (.ref t), some (.ref na), some (.int many), y5, y6, y7, y8, y9, y10, y11, y12, y13, y14, y15, none] ∧ Kt t H1 H3 ∧ TpA H3 t ∧ NetAt K H3 na nn rs ∧ 0 ≤ many ∧ many < 6, ?_, ?_⟩
    · exact ⟨_, rfl, t, 6, rfl, T2, by omega, by omega, fun many H3 m0 m1 k3 T3 => ⟨many, rfl, k2.trans k3, T3, hN.kt k3, by omega, by omega⟩⟩
    clear hN T2 k2
    rintro σ' H3 ⟨many, rfl, k3, T3, hN, m0, m1⟩
    refine ⟨fun σ' H4 => ∃ d kvs kps, σ' = [some (.ref a), some (.int (0 + (i : Int))), some (.ref t), some (.ref na), some (.int many), some (.ref d), y6, y7, y8, y9, y10, y11, y12, y13, y14, y15, none] ∧ Kt t H1 H4 ∧ TpA H4 t ∧ NetAt K H4 na nn rs ∧ H4 d = some (.dK kvs) ∧ KVs K H4 kvs kps ∧ KpOk nn kps ∧ ∀ p ∈ kps, ∀ v ∈ p.2, v < many, ?_, ?_⟩
    · obtain ⟨r, xs, o, h1, _⟩ := id hN
      exact ⟨_, rfl, _, rfl, na, _, 0, .int nn, rfl, rfl, h1, atI_nat (j := 0) rfl, _, rfl, t, nn, many, rfl, T3, n1, by omega, by omega, by omega, fun d kvs kps H4 k4 T4 nd hd hK hO hB => ⟨d, kvs, kps, rfl, k3.trans k4, T4, hN.kt k4, hd, hK, hO, hB⟩⟩
    clear hN T3 k3
    rintro σ' H4 ⟨d, kvs, kps, rfl, k4, T4, hN, hd, hK, hO, hB⟩
    refine ⟨fun σ' H6 => ∃ e kvw wps, σ' = [some (.ref a), some (.int (0 + (i : Int))), some (.ref t), some (.ref na), some (.int many), some (.ref d), some (.ref e), y7, y8, y9, y10, y11, y12, y13, y14, y15, none] ∧ KW K H1 H6 t na d e nn rs kvs kvw kps wps ∧ WOk nn many kps wps, ?_, ?_⟩
    · refine ⟨_, rfl, _, rfl, _, rfl, t, d, kvs, kps, nn, many, rfl, T4, hd, tp_ne T4 hd, hK, hO, by omega, by omega, by omega, fun D ls wps H6 k6 T6 nD hD hL hWO => ?_⟩
      exact ⟨D, ls, wps, rfl, ⟨k4.trans k6, T6, hN.kt k6, k6.oth d _ hd (tp_ne T4 hd) (fun _ z => by cases z), hK.kt k6, hD, hL⟩, hWO⟩
    clear hN T4 k4 hd hK H4
    rintro σ' H6 ⟨e, kvw, wps, rfl, W6, hWO⟩
    have hW := hWO.ok
    have hsub := hWO.sub
    have hw6 : wps.length ≤ 6 := by have := hWO.few; omega
    have hbd := hWO.bd
    have hM : ∀ p ∈ wps, ∀ v ∈ p.2, v ∈ fromN 0 many.toNat := fun p hp v hv => by
      have h1 := hW.nn p hp v hv
      have h2 := hbd p hp v hv
      exact fromN_mem.mpr (by omega)
    have hMl : (fromN 0 many.toNat).length < 64 := by rw [fromN_len]; omega
    have up : ∀ {Hx}, Kt t H1 Hx → K0 H Hx := fun k => k0.trans (k1.withTm nt0 k)
    have k06 := up W6.kt
    have hN6 := W6.net
    have hd6 := W6.hd
    have hK6 := W6.kv
    have he6 := W6.he
    have hKw6 := W6.kw
    have hkl := hO.len (by omega)
    clear W6 hWO
    have tbx : ∀ {Hx}, K0 H6 Hx → TbL Hx [Pn, Pr, Pu, Ph, Ps, Pf, Pk, Pl, Pa, Pp, Pg, Pm] := fun k P hP => (k06.trans k).tab P (tb P hP)
    -- found
    refine ⟨fun σ' H7 => ∃ q0, σ' = [some (.ref a), some (.int (0 + (i : Int))), some (.ref t), some (.ref na), some (.int many), some (.ref d), some (.ref e), some (.ref q0), y8, y9, y10, y11, y12, y13, y14, y15, none] ∧ K0 H6 H7 ∧ ((∃ F nums S L xs, MdAt K F H7 q0 nn rs kps wps nums S L xs) ∨ ∃ (m : Int) (b : Addr), SqT K H7 q0 [.str "parted", .int m, .ref b]), ?_, ?_⟩
    · refine ⟨_, rfl, _, rfl, _, rfl, na, d, e, nn, rs, kvs, kvw, kps, wps, fromN 0 many.toNat, rfl, hN6, hg, hn12, hd6, hK6, hO, he6, hKw6, hW, hsub, hw6, hMl, hM, tbx (K0.refl _), ?_, ?_⟩
      · intro q1 S L xs nums H7 k7 nS nL nSL hq hup mem hs hx hok hL
        exact ⟨q1, rfl, k7, .inl ⟨_, nums, S, L, xs, hq, hup, mem, hs, fun c hc z => hc (.inr (.inl z)), hx, hok, hL⟩⟩
      · intro q1 b1 m ms nums H7 k7 hq hb _ mem hm hh hall hn hA hms
        exact ⟨q1, rfl, k7, .inr ⟨m, b1, hq⟩⟩
    rintro σ' H7 ⟨q0, rfl, k7, hres⟩
    have hN7 := hN6.k0 k7
    have hK7 := hK6.k0 k7
    have hKw7 := hKw6.k0 k7
    have hd7 := k7.oth d _ hd6 (fun _ z => by cases z)
    have he7 := k7.oth e _ he6 (fun _ z => by cases z)
    obtain ⟨ra, xsn, on, hn1, hn2, _⟩ := id hN7
    -- where it is mended
    refine ⟨fun σ' H8 => ∃ y8 y9 y10 y11 y12, σ' = [some (.ref a), some (.int (0 + (i : Int))), some (.ref t), some (.ref na), some (.int many), some (.ref d), some (.ref e), some (.ref q0), y8, y9, y10, y11, y12, y13, y14, y15, none] ∧ K0 H7 H8, ?_, ?_⟩
    · rcases hres with ⟨FF, nums, S, L, xs, md⟩ | ⟨m, b1, hq⟩
      rotate_left
      · refine ⟨_, rfl, q0, _, 0, .str "parted", rfl, rfl, hq, atI_nat (j := 0) rfl, rfl, _, rfl, ?_⟩
        rw [decide_eq_false (show ¬ V.str "parted" = V.str (Str.ofString "mended") from by decide)]
        exact iteF ⟨_, _, _, _, _, rfl, K0.refl _⟩
      obtain ⟨hq, hup, hmem, hs, hFS, hx, hok, hL⟩ := id md
      refine ⟨_, rfl, q0, _, 0, .str "mended", rfl, rfl, hq, atI_nat (j := 0) rfl, rfl, _, rfl, ?_⟩
      rw [decide_eq_true (show V.str "mended" = V.str (Str.ofString "mended") from rfl)]
      refine iteT ?_
      obtain ⟨kx, hSx, hxl, hxs⟩ := id hs
      have hxup : (xs.map (·.1)).Pairwise (· < ·) := by rw [hx]; exact hup.sublist List.filter_sublist
      have hxn : (xs.map (·.1)).Nodup := hxup.imp fun a => Int.ne_of_lt a
      have xnum : ∀ m ∈ xs.map (·.1), m ∈ nums ∧ hasK kps m = true := fun m hm => by
        rw [hx] at hm
        exact List.mem_filter.mp hm
      have numb : ∀ m ∈ nums, 0 ≤ m ∧ m < many := fun m hm => by
        obtain ⟨p, ms, h1, h2, _⟩ := (hmem m).mp hm
        exact ⟨hW.nn _ h1 m h2, hbd _ h1 m h2⟩
      -- after
      refine ⟨fun σ' H8 => ∃ af la kpa, σ' = [some (.ref a), some (.int (0 + (i : Int))), some (.ref t), some (.ref na), some (.int many), some (.ref d), some (.ref e), some (.ref q0), some (.ref af), y9, y10, y11, y12, y13, y14, y15, none] ∧ K0 H7 H8 ∧ H8 af = some (.dK la) ∧ KVs K H8 la kpa ∧ KpOk nn kpa ∧ Aft kps kpa xs, ?_, ?_⟩
      · refine ⟨_, rfl, _, rfl, q0, _, 1, .ref S, rfl, rfl, hq, atI_nat (j := 1) rfl, d, S, kvs, kx, kps, nn, many, xs, rfl, hd7, hK7, hO, by omega, by omega, hB, hSx, hxl, hxn, fun j m h e => ?_, fun D ls kpa H8 k8 hD hKa hOa hBa hA => ⟨D, ls, kpa, rfl, k8, hD, hKa, hOa, hA⟩⟩
        obtain ⟨c, ls, e1, e2, e3, e4, e5⟩ := hxs j m h e
        have hmx : m ∈ xs.map (·.1) := List.mem_map.mpr ⟨_, List.mem_of_getElem? e, rfl⟩
        obtain ⟨b0, b1⟩ := numb m (xnum m hmx).1
        obtain ⟨⟨M, so⟩, _⟩ := hok _ (List.mem_of_getElem? e)
        exact ⟨b0, b1, c, ls, e1, e2, hFS c e5, e3, e4, sendable_of (n := (nn : Int)) so e3⟩
      rintro σ' H8 ⟨af, la, kpa, rfl, k8, hA8, hKa, hOa, hAft⟩
      have k08 := k7.trans k8
      have md8 := md.k0 k8
      have hasA : ∀ {m p : Int}, HasM kps m p → HasM kpa m p := fun {m p} ⟨ms, h1, h2⟩ => by
        obtain ⟨ms', h3⟩ := kp_of (kps := kpa) (p := p) (by rw [hAft.keys]; exact List.mem_map.mpr ⟨_, h1, rfl⟩)
        exact ⟨ms', h3, (hAft.mem p ms ms' h1 h3 m).mpr (.inl h2)⟩
      have hsubA : ∀ p ∈ wps, p.1 ∈ kpa.map (·.1) := fun p hp => by rw [hAft.keys]; exact hsub p hp
      -- who lacks what is kept is sent it
      have sentA : ∀ {p m : Int} {ms : List Int}, (p, ms) ∈ wps → m ∈ ms → HasM kpa m p ∨ (m ∈ nums ∧ hasK kps m = false) := fun {p m ms} h1 h2 => by
        by_cases hh : HasM kps m p
        · exact .inl (hasA hh)
        · have hl : p ∈ lackL kps wps m := lack_mem.mpr ⟨ms, h1, h2, fun ns hn hm => hh ⟨ns, hn, hm⟩⟩
          have hnm : m ∈ nums := (hmem m).mpr (lackT_iff.mpr fun z => by rw [z] at hl; cases hl)
          cases hk : hasK kps m with
          | false => exact .inr ⟨hnm, rfl⟩
          | true =>
            left
            have hmx : m ∈ xs.map (·.1) := by rw [hx]; exact List.mem_filter.mpr ⟨hnm, hk⟩
            obtain ⟨⟨m', h⟩, hmh, rfl⟩ := List.mem_map.mp hmx
            obtain ⟨⟨M, so⟩, _⟩ := hok _ hmh
            obtain ⟨ns, hns⟩ := kp_of (hsub _ h1)
            obtain ⟨ns', hns'⟩ := kp_of (kps := kpa) (p := p) (by rw [hAft.keys]; exact hsub _ h1)
            exact ⟨ns', hns', (hAft.mem p ns ns' hns hns' m').mpr (.inr ⟨h, hmh, so.all p hl⟩)⟩
      have hL8 := md8.2.2.2.2.2.2.2
      have hq8 := md8.1
      refine ⟨fun σ' H9 => σ' = [some (.ref a), some (.int (0 + (i : Int))), some (.ref t), some (.ref na), some (.int many), some (.ref d), some (.ref e), some (.ref q0), some (.ref af), y9, y10, y11, y12, y13, y14, y15, none] ∧ K0 H8 H9, ?_, ?_⟩
      · refine ⟨_, rfl, _, rfl, ?_⟩
        rw [decide_eq_false (show ¬ V.ref af = V.non from fun z => by cases z)]
        refine iteF ⟨_, rfl, _, rfl, _, rfl, q0, _, 2, .ref L, rfl, rfl, hq8, atI_nat (j := 2) rfl, af, e, L, la, kvw, kpa, wps, nn, nums.filter (fun m => !hasK kps m), rfl, hA8, hKa, k8.oth e _ he7 (fun _ z => by cases z), hKw7.k0 k8, hOa, hW, hsubA, by omega, hL8, fun p ms h1 m h2 => ?_, fun H9 k9 => ⟨_, rfl, iteF ⟨rfl, k9⟩⟩⟩
        rcases sentA h1 h2 with h | ⟨h, h'⟩
        · exact .inl h
        · exact .inr (List.mem_filter.mpr ⟨h, by rw [h']; rfl⟩)
      rintro σ' H9 ⟨rfl, k9⟩
      have k79 := k8.trans k9
      have k69 := k7.trans k79
      have md9 := md8.k0 k9
      have hA9 := k9.oth af _ hA8 (fun _ z => by cases z)
      have hKa9 := hKa.k0 k9
      -- mended again
      refine ⟨fun σ' H10 => σ' = [some (.ref a), some (.int (0 + (i : Int))), some (.ref t), some (.ref na), some (.int many), some (.ref d), some (.ref e), some (.ref q0), some (.ref af), y9, y10, y11, y12, y13, y14, y15, none] ∧ K0 H9 H10, ?_, ?_⟩
      · have noK : ∀ v, Lck kpa wps v → v ∈ nums ∧ hasK kps v = false ∧ hasK kpa v = false := fun v hv => by
          obtain ⟨p, ms, h1, h2, h3⟩ := hv
          rcases sentA h1 h2 with ⟨ns, hn, hm⟩ | ⟨h, h'⟩
          · exact absurd hm (h3 ns hn)
          · refine ⟨h, h', ?_⟩
            cases hk : hasK kpa v with
            | false => rfl
            | true =>
              obtain ⟨p2, hp2⟩ := hasK_iff.mp hk
              have hnx : v ∉ xs.map (·.1) := fun z => by
                have := (xnum v z).2
                rw [h'] at this; cases this
              have := hasK_iff.mpr ⟨p2, (hAft.hasM hnx).mp hp2⟩
              rw [h'] at this; cases this
        refine ⟨_, rfl, _, rfl, _, rfl, na, af, e, nn, rs, la, kvw, kpa, wps, fromN 0 many.toNat, rfl, hN6.k0 k69, hg, hn12, hA9, hKa9, hOa, k79.oth e _ he7 (fun _ z => by cases z), hKw6.k0 k69, hW, hsubA, hw6, hMl, hM, tbx k69, ?_, ?_⟩
        · intro q1 S2 L2 xs2 nums2 H10 k10 nS2 nL2 nSL2 hq2 up2 mem2 hs2 hx2 hok2 hL2
          have e2 : nums2.filter (hasK kpa) = [] := List.filter_eq_nil_iff.mpr fun v hv => by
            rw [(noK v ((mem2 v).mp hv)).2.2]
            exact Bool.false_ne_true
          have x2 : xs2 = [] := List.map_eq_nil_iff.mp (hx2.trans e2)
          subst x2
          obtain ⟨ky, hy1, hy2, _⟩ := hs2
          have ky0 : ky = [] := List.length_eq_zero_iff.mp hy2
          subst ky0
          have el : nums2.filter (fun m => !hasK kpa m) = nums.filter (fun m => !hasK kps m) := by
            refine asc_eq (up2.sublist List.filter_sublist) (hup.sublist List.filter_sublist) fun v => ?_
            rw [List.mem_filter, List.mem_filter]
            constructor
            · rintro ⟨h, _⟩
              obtain ⟨a1, a2, _⟩ := noK v ((mem2 v).mp h)
              exact ⟨a1, by rw [a2]; rfl⟩
            · rintro ⟨h, h'⟩
              obtain ⟨p, ms, h1, h2, h3⟩ := (hmem v).mp h
              have hf : hasK kps v = false := by
                cases hk : hasK kps v with
                | false => rfl
                | true => rw [hk] at h'; cases h'
              have hnx : v ∉ xs.map (·.1) := fun z => by
                have := (xnum v z).2
                rw [hf] at this; cases this
              have hlk : Lck kpa wps v := by
                refine ⟨p, ms, h1, h2, fun ns hns hm => ?_⟩
                obtain ⟨ns0, hn0, hm0⟩ := (hAft.hasM hnx).mp ⟨ns, hns, hm⟩
                exact h3 ns0 hn0 hm0
              exact ⟨(mem2 v).mpr hlk, by rw [(noK v hlk).2.2]; rfl⟩
          rw [el] at hL2
          have md10 := md9.k0 k10
          refine fun d0 nd0 => ⟨_, rfl, q0, _, 2, .ref L, rfl, rfl, (K0.new nd0).sqT md10.1, atI_nat (j := 2) rfl, few_nm (xs := [.str "mended", .ref d0, .ref L]) (by simp), fun b nb => ?_⟩
          have kd := K0.new nd0 (o := .dK [])
          have kb := K0.new nb (o := .tup [.str "mended", .ref d0, .ref L])
          have kk := kd.trans kb
          refine ⟨3, q1, b, _, _, by decide, rfl, rfl, kk.sqT hq2, .inl (.inl upd_same), ?_, _, rfl, iteF ⟨rfl, k10.trans kk⟩⟩
          refine .cons (.inl ⟨rfl, rfl⟩) (.cons (.inr (.inr (.inr ⟨S2, d0, [], [], rfl, rfl, kk.oth S2 _ hy1 (fun _ z => by cases z), kb.oth d0 _ upd_same (fun _ z => by cases z), rfl, fun p hp => by cases hp⟩))) (.cons (.inr (.inr (.inl ⟨L2, L, _, _, rfl, rfl, .inl (.inl (kk.oth L2 _ hL2 (fun _ z => by cases z))), .inl (.inl (kk.oth L _ md10.2.2.2.2.2.2.2 (fun _ z => by cases z))), ?_⟩))) .nil))
          have pi : ∀ l : List Int, Paired (EqV K (upd (upd H10 d0 (.dK [])) b (.tup [.str "mended", .ref d0, .ref L])) 2) (l.map V.int) (l.map V.int) := fun l => by
            induction l with
            | nil => exact .nil
            | cons v r ih => exact .cons (.inl ⟨rfl, rfl⟩) ih
          exact pi _
        · intro q1 b1 m ms nums2 H10 k10 hq2 hb2 up2 mem2 hm hh hall hn hA hms
          have := (noK m ((mem2 m).mp hm)).2.2
          rw [hh] at this; cases this
      rintro σ' H10 ⟨rfl, k10⟩
      have k710 := k79.trans k10
      have md10 := md9.k0 k10
      obtain ⟨kx', hSx', _⟩ := md10.2.2.2.1
      have hS10 := (k710).oth S _ hSx (fun _ z => by cases z)
      have hkeys := SendsAt.keysI (S := S) hxl hxs
      have hx60 : (xs.map (·.1)).length < 64 := by
        have h1 := congrArg List.length hx
        have h2 := List.length_filter_le (hasK kps) nums
        have h3 : nums.length ≤ (fromN 0 many.toNat).length := sub_lenG (hup.imp fun a => Int.ne_of_lt a) fun m hm => by
          have := numb m hm
          exact fromN_mem.mpr (by omega)
        rw [fromN_len] at h3
        omega
      refine ⟨_, rfl, q0, _, 1, .ref S, rfl, rfl, md10.1, atI_nat (j := 1) rfl, S, kx, xs.map (·.1), rfl, .inl hS10, hkeys, hx60, fun us sp perm usp nsp => ⟨2, rfl, sp, _, rfl, .inl (.inl upd_same), fun sp2 nsp2 => ?_⟩⟩
      have ks := K0.new nsp (o := .lst (us.map V.int))
      have ks2 := K0.new nsp2 (o := .lst (cutV (us.map V.int) none (some 2)))
      have hsp2 : upd (upd H10 sp (.lst (us.map V.int))) sp2 (.lst (cutV (us.map V.int) none (some 2))) sp2 = some (.lst (cutV (us.map V.int) none (some 2))) := upd_same
      have k11 := ks.trans ks2
      generalize upd (upd H10 sp (.lst (us.map V.int))) sp2 (.lst (cutV (us.map V.int) none (some 2))) = H11 at hsp2 k11 ⊢
      have k711 := k710.trans k11
      refine ⟨sp2, rfl, ⟨_, .inl (.inl hsp2)⟩, for_list (K := K) (a := sp2) (xs := cutV (us.map V.int) none (some 2)) (fun j σ' G => ∃ y9 y10 y11 y12, σ' = [some (.ref a), some (.int (0 + (i : Int))), some (.ref t), some (.ref na), some (.int many), some (.ref d), some (.ref e), some (.ref q0), some (.ref af), y9, y10, y11, y12, y13, y14, y15, none] ∧ K0 H11 G)
        ⟨_, _, _, _, rfl, K0.refl _⟩ (fun j σ' G _ h => ?_) (fun j x σ' G hxj h => ?_) (fun σ' G h => ?_)⟩
      · obtain ⟨_, _, _, _, _, k⟩ := h
        exact .inl (.inl (k.oth sp2 _ hsp2 (fun _ z => by cases z)))
      · obtain ⟨y9, y10, y11, y12, rfl, kG⟩ := h
        obtain ⟨num, hnum, rfl⟩ := cutV_int hxj
        have hnx : num ∈ xs.map (·.1) := perm.mem_iff.mp hnum
        obtain ⟨hnn, hnk⟩ := xnum num hnx
        obtain ⟨nb0, nb1⟩ := numb num hnn
        have k7G := k711.trans kG
        refine ⟨_, rfl, d, kvs, kps.map (·.1), rfl, .inl (k7G.oth d _ hd7 (fun _ z => by cases z)), hK7.keysI, by rw [List.length_map]; omega, fun us2 sp3 perm2 usp2 nsp3 => ⟨1, rfl, sp3, _, rfl, .inl (.inl upd_same), fun sp4 nsp4 => ?_⟩⟩
        have ks3 := K0.new nsp3 (o := .lst (us2.map V.int))
        have ks4 := K0.new nsp4 (o := .lst (cutV (us2.map V.int) none (some 1)))
        have hsp4 : upd (upd G sp3 (.lst (us2.map V.int))) sp4 (.lst (cutV (us2.map V.int) none (some 1))) sp4 = some (.lst (cutV (us2.map V.int) none (some 1))) := upd_same
        have k12 := ks3.trans ks4
        generalize upd (upd G sp3 (.lst (us2.map V.int))) sp4 (.lst (cutV (us2.map V.int) none (some 1))) = H12 at hsp4 k12 ⊢
        have k712 := k7G.trans k12
        refine ⟨sp4, rfl, ⟨_, .inl (.inl hsp4)⟩, for_list (K := K) (a := sp4) (xs := cutV (us2.map V.int) none (some 1)) (fun j σ' G => ∃ y10 y11 y12, σ' = [some (.ref a), some (.int (0 + (i : Int))), some (.ref t), some (.ref na), some (.int many), some (.ref d), some (.ref e), some (.ref q0), some (.ref af), some (.int num), y10, y11, y12, y13, y14, y15, none] ∧ K0 H12 G)
          ⟨_, _, _, rfl, K0.refl _⟩ (fun j σ' G _ h => ?_) (fun j x σ' G hxj h => ?_) (fun σ' G h => ?_)⟩
        · obtain ⟨_, _, _, _, k⟩ := h
          exact .inl (.inl (k.oth sp4 _ hsp4 (fun _ z => by cases z)))
        · have kGo := kG
          obtain ⟨y10, y11, y12, rfl, kG⟩ := h
          obtain ⟨place, hplace, rfl⟩ := cutV_int hxj
          have hpk : place ∈ kps.map (·.1) := perm2.mem_iff.mp hplace
          obtain ⟨ms, hms⟩ := kp_of hpk
          have k7G := k712.trans kG
          have hdG := k7G.oth d _ hd7 (fun _ z => by cases z)
          have hKG := hK7.k0 k7G
          refine ⟨fun σ' G2 => ∃ D2, σ' = [some (.ref a), some (.int (0 + (i : Int))), some (.ref t), some (.ref na), some (.int many), some (.ref d), some (.ref e), some (.ref q0), some (.ref af), some (.int num), some (.int place), some (.ref D2), y12, y13, y14, y15, none] ∧ K0 G G2 ∧ G D2 = none ∧ G2 D2 = some (.dK kvs), ?_, ?_⟩
          · exact ⟨_, rfl, d, kvs, rfl, .inl hdG, fun D2 nD => ⟨D2, rfl, K0.new nD, nD, upd_same⟩⟩
          rintro σ' G2 ⟨D2, rfl, k2, nD2, hD2⟩
          have k7G2 := k7G.trans k2
          obtain ⟨q1, e1, hq1⟩ := (hK7.k0 k7G2).val hO.nodup hms
          have h10 : ms.length ≤ 10 := hO.few _ hms
          refine ⟨_, rfl, _, rfl, d, .ref q1, rfl, .inl ⟨kvs, .inl place, .inl (k7G2.oth d _ hd7 (fun _ z => by cases z)), rfl, e1.symm⟩, _, rfl, few_nm (xs := [.int num]) (by simp), fun b1 nb1' => ?_⟩
          have kb := K0.new nb1' (o := .tup [.int num])
          refine catZ (l := ms) (m := [num]) (kb.sqT hq1) (.inl (.inl upd_same)) (by show ms.length + 1 ≤ 5000; omega) fun b2 G3 k3 hb2 => ?_
          refine ⟨b2, ms ++ [num], rfl, hb2, by rw [List.length_append]; show ms.length + 1 ≤ 1000; omega, fun p c np hc => ?_⟩
          generalize hso : SetO (cxOf CX0 P w K mg base N_scLaw (Str.ofString "law") (defScope sLaw) f cdv A outer st H E).nox.w p (fun j => decide (j ∈ ms ++ [num])) c = so
          have kp := K0.new np (o := so)
          refine ⟨p, (fun j => decide (j ∈ ms ++ [num])), c, rfl, by rw [upd_same, ← hso], by rw [List.length_append] at hc; have : c ≤ ms.length + 1 := hc; omega, fun ns p2 nup nmem nlen np2 => ?_⟩
          have kp2 := K0.new np2 (o := .lst (ns.map V.int))
          refine ⟨p2, _, rfl, .inl (.inl upd_same), fun b4 ob nb4 _ _ => ?_⟩
          have kb4 := K0.new nb4 (o := .frz ob (.tup (ns.map V.int)))
          have kk := (((kb.trans k3).trans kp).trans kp2).trans kb4
          have hb4 : upd (upd (upd G3 p so) p2 (.lst (ns.map V.int))) b4 (.frz ob (.tup (ns.map V.int))) b4 = some (.frz ob (.tup (ns.map V.int))) := upd_same
          have k7G5 := k7G2.trans kk
          have hD5 := kk.oth D2 _ hD2 (fun _ z => by cases z)
          have kG5 := k2.trans kk
          generalize upd (upd (upd G3 p so) p2 (.lst (ns.map V.int))) b4 (.frz ob (.tup (ns.map V.int))) = G5 at kk hb4 k7G5 hD5 kG5 ⊢
          have hb4' : SqT K G5 b4 (ns.map V.int) := .inl (.inr ⟨ob, hb4⟩)
          have nmem' : ∀ u, u ∈ ns ↔ u ∈ ms ∨ u = num := fun u => by
            rw [nmem u, decide_eq_true_iff, List.mem_append, List.mem_singleton]
          have hnsb : ∀ u ∈ ns, 0 ≤ u ∧ u < many := fun u hu => by
            rcases (nmem' u).mp hu with h | rfl
            · exact ⟨hO.nn _ hms u h, hB _ hms u h⟩
            · exact ⟨nb0, nb1⟩
          refine ⟨_, rfl, _, rfl, D2, _, rfl, DPut.k (k := Sum.inl place) hD5 (Nat.lt_of_le_of_lt (m := 12) (by rw [hK7.1]; exact hkl) (by decide)), ?_⟩
          have kd : Kt D2 G5 (upd G5 D2 (.dK (putK kvs (.inl place) (.ref b4)))) := (Kt.refl D2 G5).setD hD5
          have hKm := ((hK7.k0 k7G5).kt kd).set hpk (kd.sqT hb4')
          have kG6 : K0 G (upd G5 D2 (.dK (putK kvs (.inl place) (.ref b4)))) := kG5.mut nD2
          have hD6 : upd G5 D2 (.dK (putK kvs (.inl place) (.ref b4))) D2 = some (.dK (putK kvs (.inl place) (.ref b4))) := upd_same
          generalize upd G5 D2 (.dK (putK kvs (.inl place) (.ref b4))) = G6 at hKm kG6 hD6 ⊢
          have hOm := hO.set (v := place) nup (fun u hu => (hnsb u hu).1) (up_few nup hnsb (by omega))
          have hC : Carr kps (setK kps place ns) num (· = place) := ⟨setK_keys _ _ _, fun p a1 a2 h1 h2 u => by
            rcases setK_mem.mp h2 with ⟨hpv, h⟩ | ⟨rfl, rfl, _⟩
            · rw [hO.same h1 h]
              exact ⟨.inl, fun z => z.elim id fun z => absurd z.2 hpv⟩
            · rw [nmem' u, hO.same h1 hms]
              exact or_congr Iff.rfl ⟨fun z => ⟨z, rfl⟩, fun z => z.1⟩⟩
          generalize setK kps place ns = kpm at hKm hOm hC
          generalize putK kvs (.inl place) (.ref b4) = kvm at hKm hD6
          have hsubm : ∀ p ∈ wps, p.1 ∈ kpm.map (·.1) := fun p hp => by rw [hC.keys]; exact hsub p hp
          have k7G6 := k7G.trans kG6
          -- again
          refine ⟨fun σ' G7 => ∃ q2, σ' = [some (.ref a), some (.int (0 + (i : Int))), some (.ref t), some (.ref na), some (.int many), some (.ref d), some (.ref e), some (.ref q0), some (.ref af), some (.int num), some (.int place), some (.ref D2), some (.ref q2), y13, y14, y15, none] ∧ K0 G6 G7 ∧ ∃ F nums2 S2 L2 xs2, MdAt K F G7 q2 nn rs kpm wps nums2 S2 L2 xs2, ?_, ?_⟩
          · refine ⟨_, rfl, _, rfl, _, rfl, na, D2, e, nn, rs, kvm, kvw, kpm, wps, fromN 0 many.toNat, rfl, hN7.k0 k7G6, hg, hn12, hD6, hKm, hOm, k7G6.oth e _ he7 (fun _ z => by cases z), hKw7.k0 k7G6, hW, hsubm, hw6, hMl, hM, tbx (k7.trans k7G6), ?_, ?_⟩
            · intro q2 S2 L2 xs2 nums2 G7 k7' nS nL nSL hq2 up2 mem2 hs2 hx2 hok2 hL2
              exact ⟨q2, rfl, k7', _, nums2, S2, L2, xs2, hq2, up2, mem2, hs2, fun c hc z => hc (.inr (.inl z)), hx2, hok2, hL2⟩
            · intro q2 b1 m ms2 nums2 G7 k7' hq2 hb2 up2 mem2 hm hh hall hnr hA hms2
              exfalso
              apply hnr
              have hlk := (mem2 m).mp hm
              have hkk := more_has hC hnk hh
              have hmn : m ∈ nums := (hmem m).mpr (lackT_iff.mpr fun z => by
                have := lackT_iff.mp hlk
                cases e3 : lackL kpm wps m with
                | nil => exact this e3
                | cons p0 l0 =>
                  have hp0 : p0 ∈ lackL kpm wps m := by rw [e3]; exact List.mem_cons_self ..
                  obtain ⟨_, w1, _⟩ := lack_mem.mp hp0
                  have := more_sub hC hp0 (hsub _ w1)
                  rw [z] at this; cases this)
              have hmx : m ∈ xs.map (·.1) := by rw [hx]; exact List.mem_filter.mpr ⟨hmn, hkk⟩
              obtain ⟨⟨m', h⟩, hmh, rfl⟩ := List.mem_map.mp hmx
              exact more_rch hg hn12 hOm hsub hC (hok _ hmh)
          rintro σ' G7 ⟨q2, rfl, k67, F2, nums2, S2, L2, xs2, md2⟩
          have k7G7 := k7G6.trans k67
          have kGG7 := kG.trans (kG6.trans k67)
          obtain ⟨hq2, up2, mem2, hs2, _, hx2, hok2, _⟩ := id md2
          refine ⟨fun σ' G8 => σ' = [some (.ref a), some (.int (0 + (i : Int))), some (.ref t), some (.ref na), some (.int many), some (.ref d), some (.ref e), some (.ref q0), some (.ref af), some (.int num), some (.int place), some (.ref D2), some (.ref q2), y13, y14, y15, none] ∧ G8 = G7, ?_, ?_⟩
          · refine ⟨_, rfl, q2, _, 0, .str "mended", rfl, rfl, hq2, atI_nat (j := 0) rfl, rfl, _, rfl, ?_⟩
            rw [decide_eq_true (show V.str "mended" = V.str (Str.ofString "mended") from rfl)]
            exact iteF ⟨rfl, rfl⟩
          rintro σ' G8 ⟨rfl, rfl⟩
          obtain ⟨ky, hSy, hyl, hys⟩ := id hs2
          refine ⟨_, rfl, _, rfl, q2, _, 1, .ref S2, rfl, rfl, hq2, atI_nat (j := 1) rfl, S2, _, rfl, .inl ⟨ky, .inl num, .inl hSy, rfl, rfl⟩, _, rfl, ?_⟩
          by_cases hn2 : num ∈ xs2.map (·.1)
          · have up2' : (xs2.map (·.1)).Nodup := by
              rw [hx2]
              exact (up2.sublist List.filter_sublist).imp fun a => Int.ne_of_lt a
            obtain ⟨f2, c2, l2, m2, v2, g2, d2, _⟩ := SendsAt.get (S := S2) up2' hyl hys hn2
            obtain ⟨f1, c1, l1, m1', v1, g1, d1, _⟩ := SendsAt.get (S := S) hxn hxl hxs hnx
            rw [v2]
            have hSG := k7G7.oth S _ hSx (fun _ z => by cases z)
            have hcG := k7G7.oth c1 _ g1 (fun _ z => by cases z)
            have hq0G := k7G7.sqT hq
            refine iteT ⟨_, rfl, _, rfl, q2, _, 1, .ref S2, rfl, rfl, hq2, atI_nat (j := 1) rfl, _, rfl, S2, .ref c2, rfl, .inl ⟨ky, .inl num, .inl hSy, rfl, v2.symm⟩, na, nn, rs, c2, l2, f2, rfl, hN7.k0 k7G7, g2, d2, ?_⟩
            refine ⟨_, rfl, _, rfl, q0, _, 1, .ref S, rfl, rfl, hq0G, atI_nat (j := 1) rfl, _, rfl, S, .ref c1, rfl, .inl ⟨kx, .inl num, .inl hSG, rfl, v1.symm⟩, na, nn, rs, c1, l1, f1, rfl, hN7.k0 k7G7, hcG, d1, _, _, rfl, rfl, _, rfl, ?_⟩
            have hne : lackL kpm wps num ≠ [] := by
              rw [hx2] at hn2
              exact lackT_iff.mp ((mem2 num).mp (List.mem_filter.mp hn2).1)
            have hp := more_price (m := num) (h := f1) (h2 := f2) hg hn12 hOm hW hsub hC (hok _ m1') (hok2 _ m2) hne
            refine ite2 (fun z => ?_) (fun _ => ⟨_, _, _, rfl, kGG7⟩)
            have := of_decide_eq_true z
            omega
          · rw [SendsAt.no (S := S2) hyl hys hn2]
            exact iteF ⟨_, _, _, rfl, kGG7⟩
        · obtain ⟨y10, y11, y12, rfl, kG'⟩ := h
          exact ⟨_, _, _, _, rfl, kG.trans (k12.trans kG')⟩
      · obtain ⟨y9, y10, y11, y12, rfl, kG⟩ := h
        exact ⟨_, _, _, _, _, rfl, k711.trans kG⟩
    rintro σ' H8 ⟨y8, y9, y10, y11, y12, rfl, k8⟩
    clear hres
    have hN8 := hN7.k0 k8
    have hn18 := k8.sqT hn1
    have hd8 := k8.oth d _ hd7 (fun _ z => by cases z)
    have he8 := k8.oth e _ he7 (fun _ z => by cases z)
    have hK8 := hK7.k0 k8
    have hKw8 := hKw7.k0 k8
    have k68 := k7.trans k8
    clear hN7 hn1 hd7 he7 hK7 hKw7 hn2
    -- roads
    refine ⟨fun σ' H9 => ∃ R, σ' = [some (.ref a), some (.int (0 + (i : Int))), some (.ref t), some (.ref na), some (.int many), some (.ref d), some (.ref e), some (.ref q0), y8, y9, y10, y11, y12, some (.ref R), y14, y15, none] ∧ K0 H8 H9 ∧ H8 R = none ∧ H9 R = some (.lst []), ?_, ?_⟩
    · exact ⟨few_nm (xs := []) (by simp), fun R nR => ⟨R, rfl, K0.new nR, nR, upd_same⟩⟩
    rintro σ' H9 ⟨R, rfl, k9, nR, hR⟩
    refine ⟨fun σ' H10 => ∃ y14 ys, σ' = [some (.ref a), some (.int (0 + (i : Int))), some (.ref t), some (.ref na), some (.int many), some (.ref d), some (.ref e), some (.ref q0), y8, y9, y10, y11, y12, some (.ref R), y14, y15, none] ∧ K0 H8 H10 ∧ H10 R = some (.lst ys) ∧ Roads K H10 ys (rowsW nn nn), ?_, ?_⟩
    · refine ⟨_, rfl, na, _, 0, .int nn, rfl, rfl, k9.sqT hn18, atI_nat (j := 0) rfl, (nn : Int), rfl, by omega, by omega, for_range (lo := 0) (n := nn) (fun k σ' G => ∃ y14 ys, σ' = [some (.ref a), some (.int (0 + (i : Int))), some (.ref t), some (.ref na), some (.int many), some (.ref d), some (.ref e), some (.ref q0), y8, y9, y10, y11, y12, some (.ref R), y14, y15, none] ∧ K0 H8 G ∧ G R = some (.lst ys) ∧ Roads K G ys (rowsW nn k) ∧ ys.length ≤ 12 * k)
        ⟨_, [], rfl, k9, hR, .nil, Nat.le_refl _⟩ (fun k σ' G hk h => ?_) (fun σ' G h => ?_)⟩
      · obtain ⟨y14, ys, rfl, kG, hRG, hys, hyl⟩ := h
        refine ⟨_, rfl, .inl ⟨rfl, _, .inl (.inl hRG)⟩, ?_⟩
        have nRn : ∀ {D : Addr}, G D = none → D ≠ R := fun h z => by rw [z, hRG] at h; cases h
        refine ⟨_, rfl, na, _, 0, .int nn, rfl, rfl, kG.sqT hn18, atI_nat (j := 0) rfl, (nn : Int), rfl, by omega, by omega, fun D nD => ?_⟩
        refine lc_range (lo := 0) (n := nn) (fun j G2 => K0 G G2 ∧ ∃ zs, G2 D = some (.lst zs) ∧ Roads K G2 zs (rowW j k) ∧ zs.length ≤ j) ⟨K0.new nD, [], upd_same, .nil, Nat.le_refl _⟩ (fun j G2 hj h => ?_) (fun G2 h => ?_)
        · obtain ⟨k2, zs, hDG, hzs, hzl⟩ := h
          have hrow : rowW (j + 1) k = rowW j k ++ (if k ≠ j then [⟨(k : Nat), (j : Nat), 1, 1⟩] else []) := by
            unfold rowW
            rw [List.range_succ, List.filter_append, List.map_append]
            congr 1
            by_cases h : k = j
            · rw [if_neg (fun z => z h), List.filter_cons_of_neg (p := fun j => decide (k ≠ j)) (by rw [decide_eq_false (fun z => z h)]; exact Bool.false_ne_true)]
              rfl
            · rw [if_pos h, List.filter_cons_of_pos (p := fun j => decide (k ≠ j)) (decide_eq_true h)]
              rfl
          refine ⟨rfl, _, rfl, _, rfl, rfl, _, rfl, ?_⟩
          by_cases h : k = j
          · rw [decide_eq_true (show V.int (0 + (k : Int)) = V.int (0 + (j : Int)) from by rw [h])]
            refine iteF ⟨k2, zs, hDG, ?_, by omega⟩
            rw [hrow, if_neg (fun z => z h), List.append_nil]
            exact hzs
          · rw [decide_eq_false (show ¬ V.int (0 + (k : Int)) = V.int (0 + (j : Int)) from fun z => h (by have := V.int.inj z; omega))]
            refine iteT ⟨_, rfl, _, rfl, few_nm (xs := [.int (0 + (k : Int)), .int (0 + (j : Int)), .int 1, .int 1]) (by simp), fun T nT => ?_⟩
            have kT := K0.new nT (o := .tup [.int (0 + (k : Int)), .int (0 + (j : Int)), .int 1, .int 1])
            have hT : SqT K (upd G2 T (.tup [.int (0 + (k : Int)), .int (0 + (j : Int)), .int 1, .int 1])) T [.int (0 + (k : Int)), .int (0 + (j : Int)), .int 1, .int 1] := .inl (.inl upd_same)
            generalize upd G2 T (.tup [.int (0 + (k : Int)), .int (0 + (j : Int)), .int 1, .int 1]) = G3 at kT hT ⊢
            have hD3 := kT.oth D _ hDG (fun _ z => by cases z)
            have kD : Kt D G3 (upd G3 D (.lst (zs ++ [.ref T]))) := Kt.set hD3
            refine ⟨zs, hD3, by rw [sizeLine_eq]; omega, (k2.trans kT).mut nD, zs ++ [.ref T], upd_same, ?_, by rw [List.length_append]; show zs.length + 1 ≤ j + 1; omega⟩
            rw [hrow, if_pos h]
            refine kD.roads (roads_snoc (t := ⟨(k : Nat), (j : Nat), 1, 1⟩) ?_ ((kT.kt (t := 0)).roads hzs))
            rw [Int.zero_add, Int.zero_add] at hT
            exact hT
        · obtain ⟨k2, zs, hDG, hzs, hzl⟩ := h
          have hR2 := k2.oth R _ hRG (fun _ z => by cases z)
          refine ⟨R, D, ys, zs, rfl, rfl, hR2, hDG, by rw [sizeLine_eq]; omega, ?_⟩
          have kR : Kt R G2 (upd G2 R (.lst (ys ++ zs))) := Kt.set hR2
          refine ⟨_, ys ++ zs, rfl, (kG.trans k2).mut nR, upd_same, ?_, by rw [List.length_append]; omega⟩
          rw [rowsW_succ]
          have app : ∀ {ys zs : List V} {r1 r2 : List R4}, Roads K (upd G2 R (.lst (ys ++ zs))) ys r1 → Roads K (upd G2 R (.lst (ys ++ zs))) zs r2 → Roads K (upd G2 R (.lst (ys ++ zs))) (ys ++ zs) (r1 ++ r2) := fun {ys zs r1 r2} h1 h2 => by
            unfold Roads at h1 h2 ⊢
            rw [List.map_append]
            exact dpAll_app h1 h2
          exact app (kR.roads ((k2.kt (t := 0)).roads hys)) (kR.roads hzs)
      · obtain ⟨y14, ys, rfl, kG, hRG, hys, _⟩ := h
        exact ⟨_, ys, rfl, kG, hRG, hys⟩
    rintro σ' H10 ⟨y14, ys, rfl, k10, hR10, hys⟩
    have k610 := k68.trans k10
    have hgW := rowsW_good (n := nn) (by omega) (by omega)
    have hAll := rowsW_all nn
    -- wide
    refine ⟨fun σ' H11 => ∃ q3, σ' = [some (.ref a), some (.int (0 + (i : Int))), some (.ref t), some (.ref na), some (.int many), some (.ref d), some (.ref e), some (.ref q0), y8, y9, y10, y11, y12, some (.ref R), y14, some (.ref q3), none] ∧ K0 H10 H11 ∧ ∃ F nums S L xs, MdAt K F H11 q3 nn (rowsW nn nn) kps wps nums S L xs ∧ d ≠ S ∧ e ≠ S, ?_, ?_⟩
    · refine ⟨_, rfl, na, _, 0, .int nn, rfl, rfl, k10.sqT hn18, atI_nat (j := 0) rfl, _, rfl, R, ys, rfl, .inl (.inl hR10), fun qt ob nqt _ _ => ⟨few_nm (xs := [.int nn, .ref qt]) (by simp), fun wb nwb => ?_⟩⟩
      have kq := K0.new nqt (o := .frz ob (.tup ys))
      have kw := K0.new nwb (o := .tup [.int nn, .ref qt])
      have hqt : SqT K (upd (upd H10 qt (.frz ob (.tup ys))) wb (.tup [.int nn, .ref qt])) qt ys := kw.sqT (.inl (.inr ⟨ob, upd_same⟩))
      have hwb : SqT K (upd (upd H10 qt (.frz ob (.tup ys))) wb (.tup [.int nn, .ref qt])) wb [.int nn, .ref qt] := .inl (.inl upd_same)
      have kqw := kq.trans kw
      generalize upd (upd H10 qt (.frz ob (.tup ys))) wb (.tup [.int nn, .ref qt]) = H11 at hqt hwb kqw ⊢
      have k811 := k10.trans kqw
      have hNW : NetAt K H11 wb nn (rowsW nn nn) := ⟨qt, ys, (), hwb, hqt, trivial, trivial, (kqw.kt (t := 0)).roads hys⟩
      refine ⟨_, rfl, _, rfl, wb, d, e, nn, rowsW nn nn, kvs, kvw, kps, wps, fromN 0 many.toNat, rfl, hNW, hgW, hn12, k811.oth d _ hd8 (fun _ z => by cases z), hK8.k0 k811, hO, k811.oth e _ he8 (fun _ z => by cases z), hKw8.k0 k811, hW, hsub, hw6, hMl, hM, tbx (k610.trans kqw), ?_, ?_⟩
      · intro q3 S L xs nums H12 k12 nS nL nSL hq hup mem hs hx hok hL
        exact ⟨q3, rfl, kqw.trans k12, _, nums, S, L, xs, ⟨hq, hup, mem, hs, fun c hc z => hc (.inr (.inl z)), hx, hok, hL⟩, (fun z => by rw [← z, k811.oth d _ hd8 (fun _ z => by cases z)] at nS; cases nS), (fun z => by rw [← z, k811.oth e _ he8 (fun _ z => by cases z)] at nS; cases nS)⟩
      · intro q3 b1 m ms nums H12 k12 hq hb _ mem hm hh hall hnr hA hms
        exact absurd (all_rch hgW hn12 hAll hO hW hsub hh) hnr
    rintro σ' H11 ⟨q3, rfl, k11, FF, nums, S, L, xs, md, hdS, heS⟩
    obtain ⟨hq3, hup, hmem, hs, _, hx, hok, _⟩ := id md
    have k811 := k10.trans k11
    refine ⟨fun σ' G8 => σ' = [some (.ref a), some (.int (0 + (i : Int))), some (.ref t), some (.ref na), some (.int many), some (.ref d), some (.ref e), some (.ref q0), y8, y9, y10, y11, y12, some (.ref R), y14, some (.ref q3), none] ∧ G8 = H11, ?_, ?_⟩
    · refine ⟨_, rfl, q3, _, 0, .str "mended", rfl, rfl, hq3, atI_nat (j := 0) rfl, rfl, _, rfl, ?_⟩
      rw [decide_eq_true (show V.str "mended" = V.str (Str.ofString "mended") from rfl)]
      exact iteF ⟨rfl, rfl⟩
    rintro σ' G8 ⟨rfl, rfl⟩
    obtain ⟨kz, hSz, hzl, hzs⟩ := id hs
    have hkeys := SendsAt.keysI (S := S) hzl hzs
    have hxn : (xs.map (·.1)).Nodup := by rw [hx]; exact (hup.sublist List.filter_sublist).imp fun a => Int.ne_of_lt a
    refine ⟨S, _, hSz, trivial, fun od => ⟨_, rfl, q3, _, 1, .ref S, rfl, rfl, sqT_lock hq3 hSz, atI_nat (j := 1) rfl, S, od, rfl, .inl ⟨kz, upd_same, ?_⟩⟩⟩
    have hSl : (upd G8 S (.frz od (.dK kz))) S = some (.frz od (.dK kz)) := upd_same
    have kL : ∀ {c : Addr} {o : HO}, G8 c = some o → c ≠ S → (upd G8 S (.frz od (.dK kz))) c = some o := fun h n => by rw [upd_ne n]; exact h
    have hdG := k811.oth d _ hd8 (fun _ z => by cases z)
    have heG := k811.oth e _ he8 (fun _ z => by cases z)
    have hKl : KVs K (upd G8 S (.frz od (.dK kz))) kvs kps := (hK8.k0 k811).upd hSz
    have hKwl : KVs K (upd G8 S (.frz od (.dK kz))) kvw wps := (hKw8.k0 k811).upd hSz
    have hql : SqT K (upd G8 S (.frz od (.dK kz))) q3 [.str "mended", .ref S, .ref L] := sqT_lock hq3 hSz
    generalize hHL : upd G8 S (.frz od (.dK kz)) = HL at hSl hKl hKwl hql kL ⊢
    have hdl := kL hdG hdS
    have hel := kL heG heS
    have rdl : ∀ {c : Addr} {kv : List (Key × V)}, G8 c = some (.dK kv) → Rd HL c (.dK kv) := fun h => by
      rw [← hHL]
      exact rd_lock hSz (.inl h)
    refine for_it walk_keys (fun i2 σ' G => ∃ y9, σ' = [some (.ref a), some (.int (0 + (i : Int))), some (.ref t), some (.ref na), some (.int many), some (.ref d), some (.ref e), some (.ref q0), y8, y9, y10, y11, y12, some (.ref R), y14, some (.ref q3), none] ∧ K0 HL G) ⟨_, rfl, K0.refl _⟩ (fun i2 σ' G _ h => ?_) (fun i2 x σ' G G' hi2 h y => ?_) (fun σ' G h => ?_)
    · obtain ⟨_, _, k⟩ := h
      exact k.oth S _ hSl (fun _ z => by cases z)
    · obtain ⟨y9, rfl, k⟩ := h
      obtain ⟨rfl, kk, v0, hkv, rfl⟩ := y
      have hil : i2 < xs.length := by rw [← hzl]; exact (List.getElem?_eq_some_iff.mp hkv).1
      obtain ⟨m, h, hmh⟩ : ∃ m h, xs[i2] = (m, h) := ⟨_, _, rfl⟩
      have exi : xs[i2]? = some (m, h) := by rw [List.getElem?_eq_getElem hil, hmh]
      obtain ⟨c, lc, e1, e2, e3, e4, e5⟩ := hzs i2 m h exi
      rw [hkv] at e1
      cases e1
      have hmx : m ∈ xs.map (·.1) := List.mem_map.mpr ⟨_, List.mem_of_getElem? exi, rfl⟩
      have hmk : m ∈ nums ∧ hasK kps m = true := by
        rw [hx] at hmx
        exact List.mem_filter.mp hmx
      have ndk : (kz.map (·.1)).Nodup := by
        rw [hkeys]
        exact List.pairwise_map.mpr (hxn.imp fun a z => a (Sum.inl.inj z))
      have hval : some (V.ref c) = valV kz (.inl m) := (valV_mem (p := ((.inl m : Key), V.ref c)) ndk (List.mem_of_getElem? hkv)).symm
      have hSG := k.oth S _ hSl (fun _ z => by cases z)
      have hcount := all_count hgW hn12 hAll hO hW hsub (hok _ (List.mem_of_getElem? exi)) hmk.2 e3
      refine ⟨_, rfl, q3, _, 1, .ref S, rfl, rfl, k.sqT hql, atI_nat (j := 1) rfl, _, rfl, S, .ref c, rfl, .inl ⟨kz, .inl m, .inr ⟨od, hSG⟩, rfl, hval⟩, c, lc, rfl, k.rd (rdl e2), ?_⟩
      refine ⟨_, rfl, _, rfl, _, rfl, d, e, kvs, kvw, kps, wps, nn, m, rfl, k.oth d _ hdl (fun _ z => by cases z), hKl.k0 k, k.oth e _ hel (fun _ z => by cases z), hKwl.k0 k, hO, hW, hsub, by omega, fun ql H12 k12 hql2 => ⟨ql, _, rfl, .inr hql2, rfl, _, rfl, ?_⟩⟩
      rw [List.length_map, ← hcount, decide_eq_true (show V.int ((lc.length : Nat) : Int) = V.int ((lc.length : Nat) : Int) from rfl)]
      exact iteF ⟨_, rfl, k.trans k12⟩
    · obtain ⟨y9, rfl, k⟩ := h
      have hSG := k.oth S _ hSl (fun _ z => by cases z)
      subst hHL
      exact ⟨hSG, _, _, _, _, _, _, _, _, _, _, _, _, _, _, _, rfl, (k06.trans k68).trans (k811.trans (K0.lock hSz (fun _ z => by cases z) k))⟩
end
end HK

set_option Elab.async false
set_option linter.all false
set_option maxRecDepth 100000
set_option maxHeartbeats 2000000
namespace HK
open PySem PySem.Spec PyProof.Rows L2 GAl GxR
/-! ### what a head by facts says of a def, in our words -/
section
variable {K : PySem.W.Frag} {x qual : Str} {st : Stmt} {f : Addr} {fd : FuncData}
theorem fun_of (F : FunD K x qual (defArgs st) (defBody st) (defScope st) [] [] f fd) : Fun K x qual st f fd := by
  obtain ⟨⟨oc, od, dV, kV, doc, pm, an, cdv, ct, osl, e, l, hcd, hD, _⟩, kp⟩ := F
  rcases hD with ⟨_, rfl⟩ | ⟨n, _⟩
  · exact ⟨⟨oc, od, kV, doc, pm, an, cdv, ct, osl, e, l, hcd⟩, kp⟩
  · exact absurd rfl n
theorem funC_of {p : He.Defn} (F : FunD K x qual (defArgs st) (defBody st) (defScope st) [] [] (He.fAd K p) fd) : FunC K x qual st (He.fAd K p) fd (He.cT K p).1 := by
  obtain ⟨⟨oc, od, dV, kV, doc, pm, an, cdv, ct, osl, e, l, hcd, hD, _⟩, kp⟩ := F
  obtain ⟨c, rfl⟩ : ∃ c, cdv = .ref c := by
    cases cdv with
    | ref c => exact ⟨c, rfl⟩
    | _ => cases hcd
  have ec : (He.cT K p).1 = c := He.codeOf_eq l (by rw [e])
  rcases hD with ⟨_, rfl⟩ | ⟨n, _⟩
  · rw [ec]
    exact ⟨⟨oc, od, kV, doc, pm, an, ct, osl, e, l, hcd⟩, kp⟩
  · exact absurd rfl n
end
def dd (x : Str) (st : Stmt) : He.DefD := ⟨(x, none), x, x, defArgs st, defBody st, defScope st, [], []⟩
def dm (c m q : Str) (st : Stmt) : He.DefD := ⟨(c, some m), m, q, defArgs st, defBody st, defScope st, [], []⟩
end HK

set_option Elab.async false
set_option linter.all false
set_option maxRecDepth 100000
set_option maxHeartbeats 0
namespace HK
open PySem PySem.Spec PyProof.Rows L2 GAl GxR
abbrev RX : PySem.W.OpenRow := PySem.W.OpenLaw.row PySem.Challenge.rw_hearkenway_k34_whole_sent_once_to_each
abbrev qX : Program := PySem.W.view RX.prog [63]
def namesX : List Str := (["__name__", "HearError", "NoNet", "NoPlace", "NoKept", "TooMany", "is_whole", "is_within", "rises", "MOST_PLACES", "MOST_PRICE", "LEAST_LATE", "MOST_LATE", "is_net", "is_road", "is_place", "are_places", "need_net", "need_place", "need_hearers", "trimmed", "earliest", "undercuts", "MOST_HEARERS", "cheapest"] : List Str) ++ (["need_few_hearers", "together", "is_less", "companies", "partings", "greatest_table", "join_parts", "follow_roads", "tree_along", "mend", "cut_at_keepers", "send_net", "need_standing", "need_fall", "need_room", "has_numbers", "are_numbers", "lookup", "lacked_numbers", "keepers_of", "lackers_of", "_law_acell", "_law_atape", "_law_adigit", "_law_anet"] : List Str) ++ (["_law_aprice", "_law_akept", "_law_awants", "_law_alacking", "_law_acarried", "_law_aafter", "_law_ahas_all"] : List Str)
def fnX : List He.DefD := [dd "_law_acell" sACell, dd "_law_atape" sATape, dd "_law_adigit" sADigit, dd "_law_anet" sANet, dd "_law_akept" sAKept, dd "_law_awants" sAWants, dd "is_whole" sWhole, dd "is_within" sWithin, dd "is_road" sIsRoad, dd "rises" sRises, dd "is_net" sIsNet, dd "need_net" sNeedNet, dd "are_numbers" sNums, dd "has_numbers" sHasN, dd "is_place" sIsPlace, dd "need_standing" sNeedS, dd "need_room" sNeedRoom, dd "need_fall" sNeedFall, dd "lookup" sLookup, dd "lacked_numbers" sLacked, dd "keepers_of" sKeepers, dd "lackers_of" sLackers, dd "need_place" sNeedPlace, dd "are_places" sAreP, dd "need_hearers" sNeedH, dd "need_few_hearers" sNeedFew, dd "undercuts" sUnder, dd "earliest" sEarly, dd "companies" sComps, dd "partings" sParts, dd "together" sTogether, dd "is_less" sIsLess, dd "join_parts" sJoin, dd "follow_roads" sFollow, dd "greatest_table" sGreat, dd "tree_along" sAlong, dd "trimmed" sTrimmed, dd "cheapest" sCheap, dd "send_net" sSendNet, dd "cut_at_keepers" sCutK, dd "mend" sMend, dd "_law_acarried" sACarried, dd "_law_aafter" sAAfter, dd "_law_ahas_all" sAHasAll, dd "_law_aprice" sAPrice, dd "_law_alacking" sALack, dd "law" sLaw]
def faX : List He.Fa := [.glo "_law_acell", .glo "_law_atape", .glo "_law_adigit", .glo "_law_anet", .glo "_law_akept", .glo "_law_awants", .glo "is_whole", .glo "is_within", .glo "is_road", .glo "rises", .glo "is_net", .glo "need_net", .glo "are_numbers", .glo "has_numbers", .glo "is_place", .glo "need_standing", .glo "need_room", .glo "need_fall", .glo "lookup", .glo "lacked_numbers", .glo "keepers_of", .glo "lackers_of", .glo "need_place", .glo "are_places", .glo "need_hearers", .glo "need_few_hearers", .glo "undercuts", .glo "earliest", .glo "companies", .glo "partings", .glo "together", .glo "is_less", .glo "join_parts", .glo "follow_roads", .glo "greatest_table", .glo "tree_along", .glo "trimmed", .glo "cheapest", .glo "send_net", .glo "cut_at_keepers", .glo "mend", .glo "_law_acarried", .glo "_law_aafter", .glo "_law_ahas_all", .glo "_law_aprice", .glo "_law_alacking", .glo "law", .free "len", .free "range", .free "tuple", .free "sorted", .free "isinstance", .free "int", .free "bool", .free "zip", .free "all", .free "dict", .free "max", .free "min", .free "set", .int "MOST_PRICE" 1000, .int "LEAST_LATE" 1, .int "MOST_LATE" 1000, .int "MOST_PLACES" 12, .int "MOST_HEARERS" 6]
def tfX : List He.Defn := [("is_net", none), ("rises", none), ("are_numbers", none), ("has_numbers", none), ("need_standing", none), ("need_fall", none), ("keepers_of", none), ("lackers_of", none), ("are_places", none), ("partings", none), ("cheapest", none), ("mend", none)]
def exX : PySem.W.Frag → Bool := fun _ => true
def tsX : List He.Tab := []
abbrev hkX : PySem.W.Hook := He.hookX 4 faX fnX tsX tfX exX
def obX (s : PySem.W.SharedT) : He.AlX := He.obsX 4 faX fnX tsX tfX exX (HandSHeadRun.getT s)
theorem obX_eq (s : PySem.W.SharedT) : obX s = hkX.obs s.abs := He.obsX_eq (HandSHeadRun.getT_eq s)
theorem at_law {w : World} {h : Heap} {K : PySem.W.Frag} {mg : Str → Option Value} {fa : Addr} (X : K.In h) (G : h.Ns mainGlobals mg) (hfa : mg "law" = some (.ref fa)) (c : He.SaysX faX fnX tsX tfX exX w h K) : LamX.LawAtS PySem.Challenge.rw_hearkenway_k34_whole_sent_once_to_each w K CX0 10 63 "script" mg fa h := by
  have cd := c.t.d
  obtain ⟨fd1, D1⟩ := cd.def_ 0 (d := dd "_law_acell" sACell) rfl
  have F1 := fun_of (st := sACell) D1
  have b1 := F1.binds (ps := ["script", "k"]) fun _ _ _ _ _ _ us hl => match us, hl with | [_, _], _ => rfl
  have k1 := F1.kp
  have g1 := He.glo_ok X G (cd.fact 0 (f := .glo "_law_acell") rfl)
  obtain ⟨fd2, D2⟩ := cd.def_ 1 (d := dd "_law_atape" sATape) rfl
  have F2 := fun_of (st := sATape) D2
  have b2 := F2.binds (ps := ["script", "k"]) fun _ _ _ _ _ _ us hl => match us, hl with | [_, _], _ => rfl
  have k2 := F2.kp
  have g2 := He.glo_ok X G (cd.fact 1 (f := .glo "_law_atape") rfl)
  obtain ⟨fd3, D3⟩ := cd.def_ 2 (d := dd "_law_adigit" sADigit) rfl
  have F3 := fun_of (st := sADigit) D3
  have b3 := F3.binds (ps := ["tape", "many"]) fun _ _ _ _ _ _ us hl => match us, hl with | [_, _], _ => rfl
  have k3 := F3.kp
  have g3 := He.glo_ok X G (cd.fact 2 (f := .glo "_law_adigit") rfl)
  obtain ⟨fd4, D4⟩ := cd.def_ 3 (d := dd "_law_anet" sANet) rfl
  have F4 := fun_of (st := sANet) D4
  have b4 := F4.binds (ps := ["tape", "most"]) fun _ _ _ _ _ _ us hl => match us, hl with | [_, _], _ => rfl
  have k4 := F4.kp
  have g4 := He.glo_ok X G (cd.fact 3 (f := .glo "_law_anet") rfl)
  obtain ⟨fd5, D5⟩ := cd.def_ 4 (d := dd "_law_akept" sAKept) rfl
  have F5 := fun_of (st := sAKept) D5
  have b5 := F5.binds (ps := ["tape", "n", "many"]) fun _ _ _ _ _ _ us hl => match us, hl with | [_, _, _], _ => rfl
  have k5 := F5.kp
  have g5 := He.glo_ok X G (cd.fact 4 (f := .glo "_law_akept") rfl)
  obtain ⟨fd6, D6⟩ := cd.def_ 5 (d := dd "_law_awants" sAWants) rfl
  have F6 := fun_of (st := sAWants) D6
  have b6 := F6.binds (ps := ["tape", "kept", "many"]) fun _ _ _ _ _ _ us hl => match us, hl with | [_, _, _], _ => rfl
  have k6 := F6.kp
  have g6 := He.glo_ok X G (cd.fact 5 (f := .glo "_law_awants") rfl)
  obtain ⟨fd7, D7⟩ := cd.def_ 6 (d := dd "is_whole" sWhole) rfl
  have F7 := fun_of (st := sWhole) D7
  have b7 := F7.binds (ps := ["thing"]) fun _ _ _ _ _ _ us hl => match us, hl with | [_], _ => rfl
  have k7 := F7.kp
  have g7 := He.glo_ok X G (cd.fact 6 (f := .glo "is_whole") rfl)
  obtain ⟨fd8, D8⟩ := cd.def_ 7 (d := dd "is_within" sWithin) rfl
  have F8 := fun_of (st := sWithin) D8
  have b8 := F8.binds (ps := ["thing", "least", "greatest"]) fun _ _ _ _ _ _ us hl => match us, hl with | [_, _, _], _ => rfl
  have k8 := F8.kp
  have g8 := He.glo_ok X G (cd.fact 7 (f := .glo "is_within") rfl)
  obtain ⟨fd9, D9⟩ := cd.def_ 8 (d := dd "is_road" sIsRoad) rfl
  have F9 := fun_of (st := sIsRoad) D9
  have b9 := F9.binds (ps := ["many", "thing"]) fun _ _ _ _ _ _ us hl => match us, hl with | [_, _], _ => rfl
  have k9 := F9.kp
  have g9 := He.glo_ok X G (cd.fact 8 (f := .glo "is_road") rfl)
  obtain ⟨fd10, D10⟩ := cd.def_ 9 (d := dd "rises" sRises) rfl
  have F10 := funC_of (p := ("rises", none)) (st := sRises) D10
  have b10 := F10.toFun.binds (ps := ["row"]) fun _ _ _ _ _ _ us hl => match us, hl with | [_], _ => rfl
  have k10 := F10.kp
  have g10 := He.glo_ok X G (cd.fact 9 (f := .glo "rises") rfl)
  obtain ⟨fd11, D11⟩ := cd.def_ 10 (d := dd "is_net" sIsNet) rfl
  have F11 := funC_of (p := ("is_net", none)) (st := sIsNet) D11
  have b11 := F11.toFun.binds (ps := ["thing"]) fun _ _ _ _ _ _ us hl => match us, hl with | [_], _ => rfl
  have k11 := F11.kp
  have g11 := He.glo_ok X G (cd.fact 10 (f := .glo "is_net") rfl)
  obtain ⟨fd12, D12⟩ := cd.def_ 11 (d := dd "need_net" sNeedNet) rfl
  have F12 := fun_of (st := sNeedNet) D12
  have b12 := F12.binds (ps := ["net"]) fun _ _ _ _ _ _ us hl => match us, hl with | [_], _ => rfl
  have k12 := F12.kp
  have g12 := He.glo_ok X G (cd.fact 11 (f := .glo "need_net") rfl)
  obtain ⟨fd14, D14⟩ := cd.def_ 12 (d := dd "are_numbers" sNums) rfl
  have F14 := funC_of (p := ("are_numbers", none)) (st := sNums) D14
  have b14 := F14.toFun.binds (ps := ["thing"]) fun _ _ _ _ _ _ us hl => match us, hl with | [_], _ => rfl
  have k14 := F14.kp
  have g14 := He.glo_ok X G (cd.fact 12 (f := .glo "are_numbers") rfl)
  obtain ⟨fd15, D15⟩ := cd.def_ 13 (d := dd "has_numbers" sHasN) rfl
  have F15 := funC_of (p := ("has_numbers", none)) (st := sHasN) D15
  have b15 := F15.toFun.binds (ps := ["thing"]) fun _ _ _ _ _ _ us hl => match us, hl with | [_], _ => rfl
  have k15 := F15.kp
  have g15 := He.glo_ok X G (cd.fact 13 (f := .glo "has_numbers") rfl)
  obtain ⟨fd16, D16⟩ := cd.def_ 14 (d := dd "is_place" sIsPlace) rfl
  have F16 := fun_of (st := sIsPlace) D16
  have b16 := F16.binds (ps := ["net", "thing"]) fun _ _ _ _ _ _ us hl => match us, hl with | [_, _], _ => rfl
  have k16 := F16.kp
  have g16 := He.glo_ok X G (cd.fact 14 (f := .glo "is_place") rfl)
  obtain ⟨fd17, D17⟩ := cd.def_ 15 (d := dd "need_standing" sNeedS) rfl
  have F17 := funC_of (p := ("need_standing", none)) (st := sNeedS) D17
  have b17 := F17.toFun.binds (ps := ["net", "kept"]) fun _ _ _ _ _ _ us hl => match us, hl with | [_, _], _ => rfl
  have k17 := F17.kp
  have g17 := He.glo_ok X G (cd.fact 15 (f := .glo "need_standing") rfl)
  obtain ⟨fd18, D18⟩ := cd.def_ 16 (d := dd "need_room" sNeedRoom) rfl
  have F18 := fun_of (st := sNeedRoom) D18
  have b18 := F18.binds (ps := ["net"]) fun _ _ _ _ _ _ us hl => match us, hl with | [_], _ => rfl
  have k18 := F18.kp
  have g18 := He.glo_ok X G (cd.fact 16 (f := .glo "need_room") rfl)
  obtain ⟨fd19, D19⟩ := cd.def_ 17 (d := dd "need_fall" sNeedFall) rfl
  have F19 := funC_of (p := ("need_fall", none)) (st := sNeedFall) D19
  have b19 := F19.toFun.binds (ps := ["net", "kept", "wants"]) fun _ _ _ _ _ _ us hl => match us, hl with | [_, _, _], _ => rfl
  have k19 := F19.kp
  have g19 := He.glo_ok X G (cd.fact 17 (f := .glo "need_fall") rfl)
  obtain ⟨fd20, D20⟩ := cd.def_ 18 (d := dd "lookup" sLookup) rfl
  have F20 := fun_of (st := sLookup) D20
  have b20 := F20.binds (ps := ["things"]) fun _ _ _ _ _ _ us hl => match us, hl with | [_], _ => rfl
  have k20 := F20.kp
  have g20 := He.glo_ok X G (cd.fact 18 (f := .glo "lookup") rfl)
  obtain ⟨fd21, D21⟩ := cd.def_ 19 (d := dd "lacked_numbers" sLacked) rfl
  have F21 := fun_of (st := sLacked) D21
  have b21 := F21.binds (ps := ["kept", "wants"]) fun _ _ _ _ _ _ us hl => match us, hl with | [_, _], _ => rfl
  have k21 := F21.kp
  have g21 := He.glo_ok X G (cd.fact 19 (f := .glo "lacked_numbers") rfl)
  obtain ⟨fd22, D22⟩ := cd.def_ 20 (d := dd "keepers_of" sKeepers) rfl
  have F22 := funC_of (p := ("keepers_of", none)) (st := sKeepers) D22
  have b22 := F22.toFun.binds (ps := ["kept", "number"]) fun _ _ _ _ _ _ us hl => match us, hl with | [_, _], _ => rfl
  have k22 := F22.kp
  have g22 := He.glo_ok X G (cd.fact 20 (f := .glo "keepers_of") rfl)
  obtain ⟨fd23, D23⟩ := cd.def_ 21 (d := dd "lackers_of" sLackers) rfl
  have F23 := funC_of (p := ("lackers_of", none)) (st := sLackers) D23
  have b23 := F23.toFun.binds (ps := ["kept", "wants", "number"]) fun _ _ _ _ _ _ us hl => match us, hl with | [_, _, _], _ => rfl
  have k23 := F23.kp
  have g23 := He.glo_ok X G (cd.fact 21 (f := .glo "lackers_of") rfl)
  obtain ⟨fd24, D24⟩ := cd.def_ 22 (d := dd "need_place" sNeedPlace) rfl
  have F24 := fun_of (st := sNeedPlace) D24
  have b24 := F24.binds (ps := ["net", "place"]) fun _ _ _ _ _ _ us hl => match us, hl with | [_, _], _ => rfl
  have k24 := F24.kp
  have g24 := He.glo_ok X G (cd.fact 22 (f := .glo "need_place") rfl)
  obtain ⟨fd25, D25⟩ := cd.def_ 23 (d := dd "are_places" sAreP) rfl
  have F25 := funC_of (p := ("are_places", none)) (st := sAreP) D25
  have b25 := F25.toFun.binds (ps := ["net", "thing"]) fun _ _ _ _ _ _ us hl => match us, hl with | [_, _], _ => rfl
  have k25 := F25.kp
  have g25 := He.glo_ok X G (cd.fact 23 (f := .glo "are_places") rfl)
  obtain ⟨fd26, D26⟩ := cd.def_ 24 (d := dd "need_hearers" sNeedH) rfl
  have F26 := fun_of (st := sNeedH) D26
  have b26 := F26.binds (ps := ["net", "hearers"]) fun _ _ _ _ _ _ us hl => match us, hl with | [_, _], _ => rfl
  have k26 := F26.kp
  have g26 := He.glo_ok X G (cd.fact 24 (f := .glo "need_hearers") rfl)
  obtain ⟨fd27, D27⟩ := cd.def_ 25 (d := dd "need_few_hearers" sNeedFew) rfl
  have F27 := fun_of (st := sNeedFew) D27
  have b27 := F27.binds (ps := ["net", "hearers"]) fun _ _ _ _ _ _ us hl => match us, hl with | [_, _], _ => rfl
  have k27 := F27.kp
  have g27 := He.glo_ok X G (cd.fact 25 (f := .glo "need_few_hearers") rfl)
  obtain ⟨fd28, D28⟩ := cd.def_ 26 (d := dd "undercuts" sUnder) rfl
  have F28 := fun_of (st := sUnder) D28
  have b28 := F28.binds (ps := ["numbers", "start", "end", "more"]) fun _ _ _ _ _ _ us hl => match us, hl with | [_, _, _, _], _ => rfl
  have k28 := F28.kp
  have g28 := He.glo_ok X G (cd.fact 26 (f := .glo "undercuts") rfl)
  obtain ⟨fd29, D29⟩ := cd.def_ 27 (d := dd "earliest" sEarly) rfl
  have F29 := fun_of (st := sEarly) D29
  have b29 := F29.binds (ps := ["net", "root"]) fun _ _ _ _ _ _ us hl => match us, hl with | [_, _], _ => rfl
  have k29 := F29.kp
  have g29 := He.glo_ok X G (cd.fact 27 (f := .glo "earliest") rfl)
  obtain ⟨fd30, D30⟩ := cd.def_ 28 (d := dd "companies" sComps) rfl
  have F30 := fun_of (st := sComps) D30
  have b30 := F30.binds (ps := ["hearers"]) fun _ _ _ _ _ _ us hl => match us, hl with | [_], _ => rfl
  have k30 := F30.kp
  have g30 := He.glo_ok X G (cd.fact 28 (f := .glo "companies") rfl)
  obtain ⟨fd31, D31⟩ := cd.def_ 29 (d := dd "partings" sParts) rfl
  have F31 := funC_of (p := ("partings", none)) (st := sParts) D31
  have b31 := F31.toFun.binds (ps := ["some"]) fun _ _ _ _ _ _ us hl => match us, hl with | [_], _ => rfl
  have k31 := F31.kp
  have g31 := He.glo_ok X G (cd.fact 29 (f := .glo "partings") rfl)
  obtain ⟨fd32, D32⟩ := cd.def_ 30 (d := dd "together" sTogether) rfl
  have F32 := fun_of (st := sTogether) D32
  have b32 := F32.binds (ps := ["one", "other"]) fun _ _ _ _ _ _ us hl => match us, hl with | [_, _], _ => rfl
  have k32 := F32.kp
  have g32 := He.glo_ok X G (cd.fact 30 (f := .glo "together") rfl)
  obtain ⟨fd33, D33⟩ := cd.def_ 31 (d := dd "is_less" sIsLess) rfl
  have F33 := fun_of (st := sIsLess) D33
  have b33 := F33.binds (ps := ["one", "other"]) fun _ _ _ _ _ _ us hl => match us, hl with | [_, _], _ => rfl
  have k33 := F33.kp
  have g33 := He.glo_ok X G (cd.fact 31 (f := .glo "is_less") rfl)
  obtain ⟨fd34, D34⟩ := cd.def_ 32 (d := dd "join_parts" sJoin) rfl
  have F34 := fun_of (st := sJoin) D34
  have b34 := F34.binds (ps := ["net", "table", "steps", "some"]) fun _ _ _ _ _ _ us hl => match us, hl with | [_, _, _, _], _ => rfl
  have k34 := F34.kp
  have g34 := He.glo_ok X G (cd.fact 32 (f := .glo "join_parts") rfl)
  obtain ⟨fd35, D35⟩ := cd.def_ 33 (d := dd "follow_roads" sFollow) rfl
  have F35 := fun_of (st := sFollow) D35
  have b35 := F35.binds (ps := ["net", "table", "steps", "some"]) fun _ _ _ _ _ _ us hl => match us, hl with | [_, _, _, _], _ => rfl
  have k35 := F35.kp
  have g35 := He.glo_ok X G (cd.fact 33 (f := .glo "follow_roads") rfl)
  obtain ⟨fd36, D36⟩ := cd.def_ 34 (d := dd "greatest_table" sGreat) rfl
  have F36 := fun_of (st := sGreat) D36
  have b36 := F36.binds (ps := ["net", "hearers"]) fun _ _ _ _ _ _ us hl => match us, hl with | [_, _], _ => rfl
  have k36 := F36.kp
  have g36 := He.glo_ok X G (cd.fact 34 (f := .glo "greatest_table") rfl)
  obtain ⟨fd37, D37⟩ := cd.def_ 35 (d := dd "tree_along" sAlong) rfl
  have F37 := fun_of (st := sAlong) D37
  have b37 := F37.binds (ps := ["steps", "hearers", "root"]) fun _ _ _ _ _ _ us hl => match us, hl with | [_, _, _], _ => rfl
  have k37 := F37.kp
  have g37 := He.glo_ok X G (cd.fact 35 (f := .glo "tree_along") rfl)
  obtain ⟨fd38, D38⟩ := cd.def_ 36 (d := dd "trimmed" sTrimmed) rfl
  have F38 := fun_of (st := sTrimmed) D38
  have b38 := F38.binds (ps := ["hearers", "ahead"]) fun _ _ _ _ _ _ us hl => match us, hl with | [_, _], _ => rfl
  have k38 := F38.kp
  have g38 := He.glo_ok X G (cd.fact 36 (f := .glo "trimmed") rfl)
  obtain ⟨fd39, D39⟩ := cd.def_ 37 (d := dd "cheapest" sCheap) rfl
  have F39 := funC_of (p := ("cheapest", none)) (st := sCheap) D39
  have b39 := F39.toFun.binds (ps := ["net", "root", "hearers"]) fun _ _ _ _ _ _ us hl => match us, hl with | [_, _, _], _ => rfl
  have k39 := F39.kp
  have g39 := He.glo_ok X G (cd.fact 37 (f := .glo "cheapest") rfl)
  obtain ⟨fd40, D40⟩ := cd.def_ 38 (d := dd "send_net" sSendNet) rfl
  have F40 := fun_of (st := sSendNet) D40
  have b40 := F40.binds (ps := ["net", "kept", "number"]) fun _ _ _ _ _ _ us hl => match us, hl with | [_, _, _], _ => rfl
  have k40 := F40.kp
  have g40 := He.glo_ok X G (cd.fact 38 (f := .glo "send_net") rfl)
  obtain ⟨fd42, D42⟩ := cd.def_ 39 (d := dd "cut_at_keepers" sCutK) rfl
  have F42 := fun_of (st := sCutK) D42
  have b42 := F42.binds (ps := ["keepers", "lackers", "ahead"]) fun _ _ _ _ _ _ us hl => match us, hl with | [_, _, _], _ => rfl
  have k42 := F42.kp
  have g42 := He.glo_ok X G (cd.fact 39 (f := .glo "cut_at_keepers") rfl)
  obtain ⟨fd44, D44⟩ := cd.def_ 40 (d := dd "mend" sMend) rfl
  have F44 := funC_of (p := ("mend", none)) (st := sMend) D44
  have b44 := F44.toFun.binds (ps := ["net", "kept", "wants"]) fun _ _ _ _ _ _ us hl => match us, hl with | [_, _, _], _ => rfl
  have k44 := F44.kp
  have g44 := He.glo_ok X G (cd.fact 40 (f := .glo "mend") rfl)
  obtain ⟨fd45, D45⟩ := cd.def_ 41 (d := dd "_law_acarried" sACarried) rfl
  have F45 := fun_of (st := sACarried) D45
  have b45 := F45.binds (ps := ["kept", "number", "ahead"]) fun _ _ _ _ _ _ us hl => match us, hl with | [_, _, _], _ => rfl
  have k45 := F45.kp
  have g45 := He.glo_ok X G (cd.fact 41 (f := .glo "_law_acarried") rfl)
  obtain ⟨fd46, D46⟩ := cd.def_ 42 (d := dd "_law_aafter" sAAfter) rfl
  have F46 := fun_of (st := sAAfter) D46
  have b46 := F46.binds (ps := ["kept", "sends"]) fun _ _ _ _ _ _ us hl => match us, hl with | [_, _], _ => rfl
  have k46 := F46.kp
  have g46 := He.glo_ok X G (cd.fact 42 (f := .glo "_law_aafter") rfl)
  obtain ⟨fd47, D47⟩ := cd.def_ 43 (d := dd "_law_ahas_all" sAHasAll) rfl
  have F47 := fun_of (st := sAHasAll) D47
  have b47 := F47.binds (ps := ["after", "wants", "lost"]) fun _ _ _ _ _ _ us hl => match us, hl with | [_, _, _], _ => rfl
  have k47 := F47.kp
  have g47 := He.glo_ok X G (cd.fact 43 (f := .glo "_law_ahas_all") rfl)
  obtain ⟨fd48, D48⟩ := cd.def_ 44 (d := dd "_law_aprice" sAPrice) rfl
  have F48 := fun_of (st := sAPrice) D48
  have b48 := F48.binds (ps := ["net", "ahead"]) fun _ _ _ _ _ _ us hl => match us, hl with | [_, _], _ => rfl
  have k48 := F48.kp
  have g48 := He.glo_ok X G (cd.fact 44 (f := .glo "_law_aprice") rfl)
  obtain ⟨fd49, D49⟩ := cd.def_ 45 (d := dd "_law_alacking" sALack) rfl
  have F49 := fun_of (st := sALack) D49
  have b49 := F49.binds (ps := ["kept", "wants", "number"]) fun _ _ _ _ _ _ us hl => match us, hl with | [_, _, _], _ => rfl
  have k49 := F49.kp
  have g49 := He.glo_ok X G (cd.fact 45 (f := .glo "_law_alacking") rfl)
  obtain ⟨fd50, D50⟩ := cd.def_ 46 (d := dd "law" sLaw) rfl
  have F50 := fun_of (st := sLaw) D50
  have k50 := F50.kp
  have g50 := He.glo_ok X G (cd.fact 46 (f := .glo "law") rfl)
  have m0 := He.free_ok X G (cd.fact 47 (f := .free "len") rfl)
  have m1 := He.free_ok X G (cd.fact 48 (f := .free "range") rfl)
  have m2 := He.free_ok X G (cd.fact 49 (f := .free "tuple") rfl)
  have m3 := He.free_ok X G (cd.fact 50 (f := .free "sorted") rfl)
  have m4 := He.free_ok X G (cd.fact 51 (f := .free "isinstance") rfl)
  have m5 := He.free_ok X G (cd.fact 52 (f := .free "int") rfl)
  have m6 := He.free_ok X G (cd.fact 53 (f := .free "bool") rfl)
  have m7 := He.free_ok X G (cd.fact 54 (f := .free "zip") rfl)
  have m8 := He.free_ok X G (cd.fact 55 (f := .free "all") rfl)
  have m9 := He.free_ok X G (cd.fact 56 (f := .free "dict") rfl)
  have m10 := He.free_ok X G (cd.fact 57 (f := .free "max") rfl)
  have m11 := He.free_ok X G (cd.fact 58 (f := .free "min") rfl)
  have m12 := He.free_ok X G (cd.fact 59 (f := .free "set") rfl)
  obtain ⟨t0, u0⟩ := He.int_ok X G (cd.fact 60 (f := .int "MOST_PRICE" 1000) rfl)
  obtain ⟨t1, u1⟩ := He.int_ok X G (cd.fact 61 (f := .int "LEAST_LATE" 1) rfl)
  obtain ⟨t2, u2⟩ := He.int_ok X G (cd.fact 62 (f := .int "MOST_LATE" 1000) rfl)
  obtain ⟨t3, u3⟩ := He.int_ok X G (cd.fact 63 (f := .int "MOST_PLACES" 12) rfl)
  obtain ⟨t4, u4⟩ := He.int_ok X G (cd.fact 64 (f := .int "MOST_HEARERS" 6) rfl)
  have bl := FunD.bindsA (ps := ["script"]) D50 fun _ _ _ _ _ _ us hl => match us, hl with | [_], _ => rfl
  have e := hfa.symm.trans g50
  cases e
  have hcs : ∀ p ∈ [He.cT K ("is_net", none), He.cT K ("rises", none), He.cT K ("are_numbers", none), He.cT K ("has_numbers", none), He.cT K ("need_standing", none), He.cT K ("need_fall", none), He.cT K ("keepers_of", none), He.cT K ("lackers_of", none), He.cT K ("are_places", none), He.cT K ("partings", none), He.cT K ("cheapest", none), He.cT K ("mend", none)], ∃ d ∈ tfX, p = He.cT K d := fun p hp => by
    simp only [List.mem_cons, List.not_mem_nil, or_false] at hp
    rcases hp with rfl | rfl | rfl | rfl | rfl | rfl | rfl | rfl | rfl | rfl | rfl | rfl
    · exact ⟨("is_net", none), by simp [tfX], rfl⟩
    · exact ⟨("rises", none), by simp [tfX], rfl⟩
    · exact ⟨("are_numbers", none), by simp [tfX], rfl⟩
    · exact ⟨("has_numbers", none), by simp [tfX], rfl⟩
    · exact ⟨("need_standing", none), by simp [tfX], rfl⟩
    · exact ⟨("need_fall", none), by simp [tfX], rfl⟩
    · exact ⟨("keepers_of", none), by simp [tfX], rfl⟩
    · exact ⟨("lackers_of", none), by simp [tfX], rfl⟩
    · exact ⟨("are_places", none), by simp [tfX], rfl⟩
    · exact ⟨("partings", none), by simp [tfX], rfl⟩
    · exact ⟨("cheapest", none), by simp [tfX], rfl⟩
    · exact ⟨("mend", none), by simp [tfX], rfl⟩
  refine ⟨fd50, [He.cT K ("is_net", none), He.cT K ("rises", none), He.cT K ("are_numbers", none), He.cT K ("has_numbers", none), He.cT K ("need_standing", none), He.cT K ("need_fall", none), He.cT K ("keepers_of", none), He.cT K ("lackers_of", none), He.cT K ("are_places", none), He.cT K ("partings", none), He.cT K ("cheapest", none), He.cT K ("mend", none)], spLaw K (He.cT K ("is_net", none)).2 (He.cT K ("rises", none)).2 (He.cT K ("are_numbers", none)).2 (He.cT K ("has_numbers", none)).2 (He.cT K ("need_standing", none)).2 (He.cT K ("need_fall", none)).2 (He.cT K ("keepers_of", none)).2 (He.cT K ("lackers_of", none)).2 (He.cT K ("are_places", none)).2 (He.cT K ("partings", none)).2 (He.cT K ("cheapest", none)).2 (He.cT K ("mend", none)).2, fun p hp => ?_, fun p hp => ?_, fun p hp => ?_, fun s v => bl s [v] rfl, fun H a ns _ _ hH hS => ?_, fun base hK hN hB => ?_⟩
  · obtain ⟨d, hd, rfl⟩ := hcs p hp
    exact c.empty d hd
  · obtain ⟨d, hd, rfl⟩ := hcs p hp
    exact c.out d hd
  · obtain ⟨d, hd, rfl⟩ := hcs p hp
    exact PySem.W.codeHd_of_K X (c.hd d hd)
  · have tb0 : H (He.cT K ("is_net", none)).2 = some (.tbl #[]) := hH (He.cT K ("is_net", none)) (by simp)
    have tb1 : H (He.cT K ("rises", none)).2 = some (.tbl #[]) := hH (He.cT K ("rises", none)) (by simp)
    have tb2 : H (He.cT K ("are_numbers", none)).2 = some (.tbl #[]) := hH (He.cT K ("are_numbers", none)) (by simp)
    have tb3 : H (He.cT K ("has_numbers", none)).2 = some (.tbl #[]) := hH (He.cT K ("has_numbers", none)) (by simp)
    have tb4 : H (He.cT K ("need_standing", none)).2 = some (.tbl #[]) := hH (He.cT K ("need_standing", none)) (by simp)
    have tb5 : H (He.cT K ("need_fall", none)).2 = some (.tbl #[]) := hH (He.cT K ("need_fall", none)) (by simp)
    have tb6 : H (He.cT K ("keepers_of", none)).2 = some (.tbl #[]) := hH (He.cT K ("keepers_of", none)) (by simp)
    have tb7 : H (He.cT K ("lackers_of", none)).2 = some (.tbl #[]) := hH (He.cT K ("lackers_of", none)) (by simp)
    have tb8 : H (He.cT K ("are_places", none)).2 = some (.tbl #[]) := hH (He.cT K ("are_places", none)) (by simp)
    have tb9 : H (He.cT K ("partings", none)).2 = some (.tbl #[]) := hH (He.cT K ("partings", none)) (by simp)
    have tb10 : H (He.cT K ("cheapest", none)).2 = some (.tbl #[]) := hH (He.cT K ("cheapest", none)) (by simp)
    have tb11 : H (He.cT K ("mend", none)).2 = some (.tbl #[]) := hH (He.cT K ("mend", none)) (by simp)
    exact ⟨a, ns, rfl, hS, ⟨_, tb0, trivial⟩, ⟨_, tb1, trivial⟩, ⟨_, tb2, trivial⟩, ⟨_, tb3, trivial⟩, ⟨_, tb4, trivial⟩, ⟨_, tb5, trivial⟩, ⟨_, tb6, trivial⟩, ⟨_, tb7, trivial⟩, ⟨_, tb8, trivial⟩, ⟨_, tb9, trivial⟩, ⟨_, tb10, trivial⟩, ⟨_, tb11, trivial⟩, fun _ => rfl⟩
  · have B11 : GxR.TabB base mg (He.cT K ("is_net", none)).1 (He.cT K ("is_net", none)).2 := by
      obtain ⟨x1, x2, x3⟩ := hB (He.cT K ("is_net", none)) (by simp)
      exact ⟨x1, x2, x3⟩
    have B10 : GxR.TabB base mg (He.cT K ("rises", none)).1 (He.cT K ("rises", none)).2 := by
      obtain ⟨x1, x2, x3⟩ := hB (He.cT K ("rises", none)) (by simp)
      exact ⟨x1, x2, x3⟩
    have B14 : GxR.TabB base mg (He.cT K ("are_numbers", none)).1 (He.cT K ("are_numbers", none)).2 := by
      obtain ⟨x1, x2, x3⟩ := hB (He.cT K ("are_numbers", none)) (by simp)
      exact ⟨x1, x2, x3⟩
    have B15 : GxR.TabB base mg (He.cT K ("has_numbers", none)).1 (He.cT K ("has_numbers", none)).2 := by
      obtain ⟨x1, x2, x3⟩ := hB (He.cT K ("has_numbers", none)) (by simp)
      exact ⟨x1, x2, x3⟩
    have B17 : GxR.TabB base mg (He.cT K ("need_standing", none)).1 (He.cT K ("need_standing", none)).2 := by
      obtain ⟨x1, x2, x3⟩ := hB (He.cT K ("need_standing", none)) (by simp)
      exact ⟨x1, x2, x3⟩
    have B19 : GxR.TabB base mg (He.cT K ("need_fall", none)).1 (He.cT K ("need_fall", none)).2 := by
      obtain ⟨x1, x2, x3⟩ := hB (He.cT K ("need_fall", none)) (by simp)
      exact ⟨x1, x2, x3⟩
    have B22 : GxR.TabB base mg (He.cT K ("keepers_of", none)).1 (He.cT K ("keepers_of", none)).2 := by
      obtain ⟨x1, x2, x3⟩ := hB (He.cT K ("keepers_of", none)) (by simp)
      exact ⟨x1, x2, x3⟩
    have B23 : GxR.TabB base mg (He.cT K ("lackers_of", none)).1 (He.cT K ("lackers_of", none)).2 := by
      obtain ⟨x1, x2, x3⟩ := hB (He.cT K ("lackers_of", none)) (by simp)
      exact ⟨x1, x2, x3⟩
    have B25 : GxR.TabB base mg (He.cT K ("are_places", none)).1 (He.cT K ("are_places", none)).2 := by
      obtain ⟨x1, x2, x3⟩ := hB (He.cT K ("are_places", none)) (by simp)
      exact ⟨x1, x2, x3⟩
    have B31 : GxR.TabB base mg (He.cT K ("partings", none)).1 (He.cT K ("partings", none)).2 := by
      obtain ⟨x1, x2, x3⟩ := hB (He.cT K ("partings", none)) (by simp)
      exact ⟨x1, x2, x3⟩
    have B39 : GxR.TabB base mg (He.cT K ("cheapest", none)).1 (He.cT K ("cheapest", none)).2 := by
      obtain ⟨x1, x2, x3⟩ := hB (He.cT K ("cheapest", none)) (by simp)
      exact ⟨x1, x2, x3⟩
    have B44 : GxR.TabB base mg (He.cT K ("mend", none)).1 (He.cT K ("mend", none)).2 := by
      obtain ⟨x1, x2, x3⟩ := hB (He.cT K ("mend", none)) (by simp)
      exact ⟨x1, x2, x3⟩
    have O1 := ok_acell (P := PySem.Challenge.rw_hearkenway_k34_whole_sent_once_to_each.prog) (w := w) (mg := mg) (base := base) F1 m0
    have O2 := ok_atape (P := PySem.Challenge.rw_hearkenway_k34_whole_sent_once_to_each.prog) (w := w) (mg := mg) (base := base) F2 k1 b1 g1 O1 m1
    have O3 := ok_adigit (P := PySem.Challenge.rw_hearkenway_k34_whole_sent_once_to_each.prog) (w := w) (mg := mg) (base := base) F3
    have O4 := ok_anet (P := PySem.Challenge.rw_hearkenway_k34_whole_sent_once_to_each.prog) (w := w) (mg := mg) (base := base) F4 k3 b3 g3 O3 m1 m2
    have O5 := ok_akept (P := PySem.Challenge.rw_hearkenway_k34_whole_sent_once_to_each.prog) (w := w) (mg := mg) (base := base) F5 k3 b3 g3 O3 m1 m2
    have O6 := ok_awants (P := PySem.Challenge.rw_hearkenway_k34_whole_sent_once_to_each.prog) (w := w) (mg := mg) (base := base) F6 k3 b3 g3 O3 m1 m2 m3 m0
    have O7 := ok_whole (P := PySem.Challenge.rw_hearkenway_k34_whole_sent_once_to_each.prog) (w := w) (mg := mg) (base := base) F7 m4 m5 m6
    have O8 := ok_within (P := PySem.Challenge.rw_hearkenway_k34_whole_sent_once_to_each.prog) (w := w) (mg := mg) (base := base) F8 F7 b7 g7 O7
    have O9 := ok_road (P := PySem.Challenge.rw_hearkenway_k34_whole_sent_once_to_each.prog) (w := w) (mg := mg) (base := base) F9 F8 b8 g8 O8 m4 m2 m0 u0 u1 u2
    have O10 := ok_rises (P := PySem.Challenge.rw_hearkenway_k34_whole_sent_once_to_each.prog) (w := w) (mg := mg) (base := base) F10 B10 m7 m8
    have O11 := ok_isnet (P := PySem.Challenge.rw_hearkenway_k34_whole_sent_once_to_each.prog) (w := w) (mg := mg) (base := base) F11 B11 k8 b8 g8 O8 k9 b9 g9 O9 k10 b10 g10 O10 m4 m2 m0 m8 u3
    have O12 := ok_neednet (P := PySem.Challenge.rw_hearkenway_k34_whole_sent_once_to_each.prog) (w := w) (mg := mg) (base := base) F12 k11 b11 g11 O11
    have O13 := ok_risesI (P := PySem.Challenge.rw_hearkenway_k34_whole_sent_once_to_each.prog) (w := w) (mg := mg) (base := base) F10 B10 m7 m8
    have O14 := ok_nums (P := PySem.Challenge.rw_hearkenway_k34_whole_sent_once_to_each.prog) (w := w) (mg := mg) (base := base) F14 B14 k7 b7 g7 O7 k10 b10 g10 O13 m4 m2 m8
    have O15 := ok_hasn (P := PySem.Challenge.rw_hearkenway_k34_whole_sent_once_to_each.prog) (w := w) (mg := mg) (base := base) F15 B15 k7 b7 g7 O7 k14 b14 g14 O14 m4 m9 m8
    have O16 := ok_isplace (P := PySem.Challenge.rw_hearkenway_k34_whole_sent_once_to_each.prog) (w := w) (mg := mg) (base := base) F16 k8 b8 g8 O8
    have O17 := ok_needs (P := PySem.Challenge.rw_hearkenway_k34_whole_sent_once_to_each.prog) (w := w) (mg := mg) (base := base) F17 B17 k12 b12 g12 O12 k15 b15 g15 O15 k16 b16 g16 O16 m8
    have O18 := ok_needroom (P := PySem.Challenge.rw_hearkenway_k34_whole_sent_once_to_each.prog) (w := w) (mg := mg) (base := base) F18 u3
    have O19 := ok_needfall (P := PySem.Challenge.rw_hearkenway_k34_whole_sent_once_to_each.prog) (w := w) (mg := mg) (base := base) F19 B19 k17 b17 g17 O17 k15 b15 g15 O15 k18 b18 g18 O18 m8 m0 u4
    have O20 := ok_lookup (P := PySem.Challenge.rw_hearkenway_k34_whole_sent_once_to_each.prog) (w := w) (mg := mg) (base := base) F20
    have O21 := ok_lacked (P := PySem.Challenge.rw_hearkenway_k34_whole_sent_once_to_each.prog) (w := w) (mg := mg) (base := base) F21 m3
    have O22 := ok_keepers (P := PySem.Challenge.rw_hearkenway_k34_whole_sent_once_to_each.prog) (w := w) (mg := mg) (base := base) F22 B22 m2 m3
    have O23 := ok_lackers (P := PySem.Challenge.rw_hearkenway_k34_whole_sent_once_to_each.prog) (w := w) (mg := mg) (base := base) F23 B23 m2 m3
    have O24 := ok_needplace (P := PySem.Challenge.rw_hearkenway_k34_whole_sent_once_to_each.prog) (w := w) (mg := mg) (base := base) F24 k16 b16 g16 O16
    have O25 := ok_arep (P := PySem.Challenge.rw_hearkenway_k34_whole_sent_once_to_each.prog) (w := w) (mg := mg) (base := base) F25 B25 k16 b16 g16 O16 k10 b10 g10 O13 m4 m2 m8
    have O26 := ok_needh (P := PySem.Challenge.rw_hearkenway_k34_whole_sent_once_to_each.prog) (w := w) (mg := mg) (base := base) F26 k25 b25 g25 O25
    have O27 := ok_needfew (P := PySem.Challenge.rw_hearkenway_k34_whole_sent_once_to_each.prog) (w := w) (mg := mg) (base := base) F27 k26 b26 g26 O26 m0 u4
    have O28 := ok_under (P := PySem.Challenge.rw_hearkenway_k34_whole_sent_once_to_each.prog) (w := w) (mg := mg) (base := base) F28
    have O29 := ok_early (P := PySem.Challenge.rw_hearkenway_k34_whole_sent_once_to_each.prog) (w := w) (mg := mg) (base := base) F29 k12 b12 g12 O12 k24 b24 g24 O24 k28 b28 g28 O28 m1
    have O30 := ok_comps (P := PySem.Challenge.rw_hearkenway_k34_whole_sent_once_to_each.prog) (w := w) (mg := mg) (base := base) F30
    have O31 := ok_parts (P := PySem.Challenge.rw_hearkenway_k34_whole_sent_once_to_each.prog) (w := w) (mg := mg) (base := base) F31 B31 k30 b30 g30 O30 m2
    have O32 := ok_together (P := PySem.Challenge.rw_hearkenway_k34_whole_sent_once_to_each.prog) (w := w) (mg := mg) (base := base) F32
    have O33 := ok_isless (P := PySem.Challenge.rw_hearkenway_k34_whole_sent_once_to_each.prog) (w := w) (mg := mg) (base := base) F33
    have O34 := ok_join (P := PySem.Challenge.rw_hearkenway_k34_whole_sent_once_to_each.prog) (w := w) (mg := mg) (base := base) F34 k31 b31 g31 O31 k32 b32 g32 O32 k33 b33 g33 O33 m1
    have O35 := ok_follow (P := PySem.Challenge.rw_hearkenway_k34_whole_sent_once_to_each.prog) (w := w) (mg := mg) (base := base) F35 k32 b32 g32 O32 k33 b33 g33 O33
    have O36 := ok_great (P := PySem.Challenge.rw_hearkenway_k34_whole_sent_once_to_each.prog) (w := w) (mg := mg) (base := base) F36 k30 b30 g30 O30 k34 b34 g34 O34 k35 b35 g35 O35 m1 m0
    have O37 := ok_along (P := PySem.Challenge.rw_hearkenway_k34_whole_sent_once_to_each.prog) (w := w) (mg := mg) (base := base) F37
    have O38 := ok_trimmed (P := PySem.Challenge.rw_hearkenway_k34_whole_sent_once_to_each.prog) (w := w) (mg := mg) (base := base) F38
    have O39 := ok_cheap (P := PySem.Challenge.rw_hearkenway_k34_whole_sent_once_to_each.prog) (w := w) (mg := mg) (base := base) F39 B39 k12 b12 g12 O12 k24 b24 g24 O24 k27 b27 g27 O27 k29 b29 g29 O29 k36 b36 g36 O36 k37 b37 g37 O37 k38 b38 g38 O38 m8 m2 m3
    have O40 := ok_sendnet (P := PySem.Challenge.rw_hearkenway_k34_whole_sent_once_to_each.prog) (w := w) (mg := mg) (base := base) F40 k17 b17 g17 O17 k18 b18 g18 O18 k22 b22 g22 O22 m2
    have O41 := ok_trimmedF (P := PySem.Challenge.rw_hearkenway_k34_whole_sent_once_to_each.prog) (w := w) (mg := mg) (base := base) F38
    have O42 := ok_cutk (P := PySem.Challenge.rw_hearkenway_k34_whole_sent_once_to_each.prog) (w := w) (mg := mg) (base := base) F42 k38 b38 g38 O38 O41
    have O43 := ok_keepersL (P := PySem.Challenge.rw_hearkenway_k34_whole_sent_once_to_each.prog) (w := w) (mg := mg) (base := base) F22 B22 m2 m3
    have O44 := ok_mend (P := PySem.Challenge.rw_hearkenway_k34_whole_sent_once_to_each.prog) (w := w) (mg := mg) (base := base) F44 B44 k19 b19 g19 O19 k20 b20 g20 O20 k21 b21 g21 O21 k22 b22 g22 O22 k23 b23 g23 O23 k39 b39 g39 O39 k40 b40 g40 O40 k42 b42 g42 O42 O43 m2
    have O45 := ok_acarried (P := PySem.Challenge.rw_hearkenway_k34_whole_sent_once_to_each.prog) (w := w) (mg := mg) (base := base) F45 m9 m1 m0 m3 m2
    have O46 := ok_aafter (P := PySem.Challenge.rw_hearkenway_k34_whole_sent_once_to_each.prog) (w := w) (mg := mg) (base := base) F46 k45 b45 g45 O45 m9
    have O47 := ok_ahasall (P := PySem.Challenge.rw_hearkenway_k34_whole_sent_once_to_each.prog) (w := w) (mg := mg) (base := base) F47
    have O48 := ok_aprice (P := PySem.Challenge.rw_hearkenway_k34_whole_sent_once_to_each.prog) (w := w) (mg := mg) (base := base) F48
    have O49 := ok_alack (P := PySem.Challenge.rw_hearkenway_k34_whole_sent_once_to_each.prog) (w := w) (mg := mg) (base := base) F49 m2 m3
    exact ok_law F50 k2 b2 g2 O2 k4 b4 g4 O4 k3 b3 g3 O3 k5 b5 g5 O5 k6 b6 g6 O6 k44 b44 g44 O44 k46 b46 g46 O46 k47 b47 g47 O47 k48 b48 g48 O48 k49 b49 g49 O49 m0 m1 m10 m11 m3 m9 m2 m12
end HK

open PySem PySem.W PySem.Calls PyProof.Rows
set_option Elab.async false
set_option linter.all false
set_option maxRecDepth 100000
set_option maxHeartbeats 0
theorem HK.runX (w : World) : HandSHeadRun.RunEq HK.RX HK.qX HK.hkX HK.obX 40000 HK.namesX w := by
  intro os
  kernel_rfl
theorem PySem.Challenge.cw_hearkenway_k34_whole_sent_once_to_each_holds : PySem.Challenge.rw_hearkenway_k34_whole_sent_once_to_each.Holds := by
  w_on; o_law
  refine HandSHeadRun.head_any (r := OpenLaw.row PySem.Challenge.rw_hearkenway_k34_whole_sent_once_to_each) (q := HK.qX) (H := HK.hkX) (ob := HK.obX) (M := 40000) (loose := HK.namesX) (d := HandSHeadRun.topDef (OpenLaw.row PySem.Challenge.rw_hearkenway_k34_whole_sent_once_to_each).prog 63) (kwd := []) HK.obX_eq
    (by kernel_rfl) (fun s => by kernel_rfl) HK.runX (by kernel_rfl) (by kernel_rfl) (by kernel_rfl) (by rfl) (by first | assumption | decide +kernel) (by decide +kernel) ⟨rfl, rfl, rfl, rfl, rfl, by decide +kernel⟩ ?hw ?hc
  case hw => w_witness2
  case hc =>
    refine LamX.walk_ofTsE (l := PySem.Challenge.rw_hearkenway_k34_whole_sent_once_to_each) (n := 63) (k := 10) (x := "script") (CX := fun _ => L2.CX0) rfl (by decide) (by kernel_rfl) ⟨rfl, by decide, by decide⟩ ?F (fun _ _ _ _ _ h => h)
    intro w mg fa h Y G hmg0
    obtain ⟨K, KX, c⟩ := Y
    have hmg : mg ("law" : PySem.Str) = some (.ref fa) := by
      have e : (HandSHeadRun.topDef (OpenLaw.row PySem.Challenge.rw_hearkenway_k34_whole_sent_once_to_each).prog 63).name = ("law" : PySem.Str) := by kernel_rfl
      rw [← e]
      exact hmg0
    exact ⟨K, KX, HK.at_law KX G hmg c⟩
