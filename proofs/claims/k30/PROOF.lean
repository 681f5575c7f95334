import PyProof.Rows.All
import Wide.All
import OpenK.AllK
import Wide.FinOn
import HandS.AnyAll
import HandS.GenOver
import HandS.ForMost
import HandS.IsInst
import HandS.EndTab
import HandS.Wide
import HandS.Style
import HandS.Evl
import HandS.TupAny
import HandS.DictComp
import HandS.More
import HandS.Walk
import HandS.WordsDict
import KE.KDictList
import HandS.ListItems
import HandS.Conv
import HandS.SetFor
import HandS.Strs
import HandS.Zip
import HandS.SortKw
import HandS.DeepEq
import KE.DataMinMax
import PyProof.TupleOfGen
import PyProof.NeKinds
import HandS.Defaults
import HandS.Head0
import HandS.Head1
import HandS.Head2
import HandS.HeadEnd
import HandS.HeadHook1
import HandS.HeadHook2
import HandS.HeadHook3
import HandS.HeadHook4
import HandS.HeadWalk
import HandS.EndOwn
import PySem.Challenge.RW_hearkenway_k30_next_roots_and_send_nets
set_option Elab.async false
set_option linter.all false
set_option maxRecDepth 100000
set_option maxHeartbeats 2000000
namespace GAl
open PySem PySem.Spec PyProof.Rows L2 GxR
open Sem (wp)

theorem Inv.kall {X : Cx} {pins : List (Addr × Obj)} {σ : L2.St} {H : Hp} {s s'' : Shared} (I : Inv X pins σ H s) (ho : s''.os = s.os) (hb : AllBare s''.gens)
    (k : ∀ b o, s.heap.get? b = some o → s''.heap.get? b = some o) : Inv X pins σ H s'' := by
  obtain ⟨h', g', d', t', o'⟩ := s''
  have e : o' = s.os := ho
  subst e
  exact I.call (h' := h') (g' := g') (d' := d') (t' := t') (ch := []) (Un.kept k) (I.hok.kept k) hb (fun b z => absurd z (by simp))

theorem bare_set {s : Shared} {g : Nat} {x : GenState} (h : AllBare s.gens) (hx : x.bare = true) : AllBare (s.setGen g x).gens := by
  intro y hy
  simp only [Shared.setGen] at hy
  rcases Array.mem_or_eq_of_mem_setIfInBounds hy with z | z
  · exact h y z
  · rw [z]; exact hx

/-- the context of a generator expression's code -/
abbrev gcx (X : Cx) (A' : Around) (s : Shared) (H : Hp) (cenv : Env) (fp : List Addr) : Cx :=
  { X with A := A', s_0 := s, H_0 := H, env := cenv, outer := X.stack, stack := cenv :: X.stack, ex := fp, fn := fun _ => false, pn := [], xe := fun _ _ => False }

section
variable {X : Cx} {pins : List (Addr × Obj)} {σ : L2.St} {H : Hp} {s : Shared}

theorem gen_start {scope : Scope} {own : List (Str × Nat)} {fp : List Addr} {A' : Around} {cenv : Env} {code : Value} {m : Str → Option Value} {h5 : Heap} {g' : Array GenState} {t5 : Nat} {a : Addr} {oa : Obj}
    (I : Inv X pins σ H s) (ok : BlkOk X.N X.env.scope scope own) (hcell : ∀ y ∈ scope.names, y.2 ≠ .cell) (hN : X.N.Nodup)
    (hfp : ∀ b ∈ fp, FpOk X pins H b ∧ b < s.heap.objs.size)
    (hce : cenv = genEnv scope (cloFrom X.env.cells scope.names []) s.heap.objs.size code builtinsNs X.env)
    (hA : A'.frames = some (cenv :: X.stack)) (hh : A'.handled = none)
    (hns : h5.Ns s.heap.objs.size m) (kp : ∀ b o, s.heap.get? b = some o → h5.get? b = some o) (hb : AllBare g')
    (ha : h5.get? a = some oa) (hla : s.heap.objs.size < a) (hda : ∀ v, oa.data ≠ .cell v) :
    Inv (gcx X A' s H cenv fp) [(a, oa)] (wipe σ (own.map (·.2))) H { s with heap := h5, gens := g', toks := t5 } := by
  have hfree : ∀ y ∈ scope.names, y.2 = .free → ∃ c, X.env.cells.lookup y.1 = some c := fun y hy e => by
    rcases ok.free y hy e with k | k
    · exact I.ok.has _ (.inl k)
    · exact I.ok.has _ (.inr k)
  have hL : cenv.locals = s.heap.objs.size := by rw [hce]; rfl
  have hcl : cenv.cells = cloFrom X.env.cells scope.names [] := by rw [hce]; rfl
  have hsc : cenv.scope = scope := by rw [hce]; rfl
  have mem : ∀ {y c}, cenv.cells.lookup y = some c → X.env.cells.lookup y = some c ∧ c < s.heap.objs.size := fun {y c} e => by
    rw [hcl] at e
    rcases cloFrom_mem (PySem.mem_of_lookup e) with hm | ⟨h1, rfl⟩
    · cases hm
    · obtain ⟨c, hc⟩ := hfree _ h1 rfl
      rw [hc]
      obtain ⟨w, z⟩ := I.cell _ _ hc
      exact ⟨rfl, z.lt⟩
  have look : ∀ {y}, scope.names.lookup y = some .free → ∃ c, cenv.cells.lookup y = some c ∧ X.env.cells.lookup y = some c := fun {y} hl => by
    have hy : (y, NameKind.free) ∈ scope.names := PySem.mem_of_lookup hl
    obtain ⟨c', e'⟩ := mem_lookup (cloFrom_has (cells := X.env.cells) (acc := []) hy)
    rw [← hcl] at e'
    exact ⟨c', e', (mem e').1⟩
  have kfree : ∀ {y k}, cenv.kindOf y = some k → (k = .cell ∨ k = .free) → scope.names.lookup y = some .free := fun {y k} hk hk' => by
    unfold Env.kindOf at hk
    rw [hsc] at hk
    rcases hk' with rfl | rfl
    · exact absurd rfl (hcell _ (PySem.mem_of_lookup hk))
    · exact hk
  have okB : (gcx X A' s H cenv fp).Ok := by
    refine ⟨I.ok.mod, by show cenv.scope.kind = _; rw [hsc]; exact ok.kind, by show cenv.globals = _; rw [hce]; exact I.ok.glob, by show cenv.builtins = _; rw [hce]; rfl, by show s.heap.objs.size ≤ cenv.locals; rw [hL]; exact Nat.le_refl _,
      fun y z c e1 e2 => I.ok.inj y z c (mem e1).1 (mem e2).1, fun y hy => ?_, fun y c z e => (by cases z), fun _ => hh, hA, .inr ⟨rfl, by show cenv.frame = some cenv.locals; rw [hce]; rfl⟩, fun b hb => ⟨?_, fun y c e z => ?_⟩, I.bs, Nat.le_trans I.ok.bsz I.sz, fun b o e hb => ?_, fun b hb z => ?_, I.stack, I.stkFree⟩
    · rcases hy with hy | hy
      · obtain ⟨c, h1, _⟩ := look (kfree hy (.inl rfl)); exact ⟨c, h1⟩
      · obtain ⟨c, h1, _⟩ := look (kfree hy (.inr rfl)); exact ⟨c, h1⟩
    · show b ≠ cenv.locals
      rw [hL]; exact Nat.ne_of_lt (hfp b hb).2
    · exact (hfp b hb).1.2.2.2.2.1 y c (mem e).1 z
    · rcases (hfp b hb).1.2.2.2.1 with z | z
      · exact I.ok.noex b o e z
      · exact absurd (Nat.lt_of_lt_of_le (Heap.lt_size e) (Nat.le_trans I.ok.bsz z)) (Nat.lt_irrefl _)
    · rcases List.mem_cons.mp (I.stkSub b z) with z | z
      · exact (hfp b hb).1.2.1 z
      · exact (hfp b hb).1.2.2.1 z
  refine ⟨okB, rfl, hb, Un.kept kp, ⟨m, ?_, fun i y av e1 e2 e3 => ?_⟩, fun y c e => ?_, ?_, fun y c e => ?_, fun p hp => ?_, I.hok.kept kp, by rw [wipe_length]; exact I.len⟩
  · show Heap.Ns _ cenv.locals _
    rw [hL]
    exact hns
  · obtain ⟨e2, hne⟩ := wipe_some e2
    have hfr : scope.names.lookup y = some .free := by
      have key : ∀ k, scope.names.lookup y = some k → k = .local ∨ k = .cell ∨ k = .free → scope.names.lookup y = some .free := fun k hk hk' => by
        have no : ¬ (k = .local ∨ k = .cell) := fun hh => by
          rcases ok.own _ (PySem.mem_of_lookup hk) hh with e' | e'
          · obtain ⟨p, hp, hpy⟩ := List.mem_map.mp e'
            have e3 := ok.ix p hp
            have : p.1 = y := hpy
            rw [this] at e3
            exact hne (List.mem_map.mpr ⟨p, hp, nodup_ix hN e3 e1⟩)
          · exact e' (List.mem_of_getElem? e1)
        rcases hk' with rfl | rfl | rfl
        · exact absurd (.inl rfl) no
        · exact absurd (.inr rfl) no
        · exact hk
      have e3 : Vis cenv.scope y := e3
      rw [hsc] at e3
      rcases e3 with e3 | e3 | e3
      · exact key _ e3 (.inl rfl)
      · exact key _ e3 (.inr (.inl rfl))
      · exact key _ e3 (.inr (.inr rfl))
    obtain ⟨m, hn, hl⟩ := I.loc
    have hvis : Vis X.env.scope y := (ok.free _ (PySem.mem_of_lookup hfr) rfl).elim (fun k => .inr (.inl k)) (fun k => .inr (.inr k))
    obtain ⟨w, r, q⟩ := hl i y av e1 e2 hvis
    refine ⟨w, r, .inr ⟨.inr (by show cenv.scope.names.lookup y = _; rw [hsc]; exact hfr), ?_⟩⟩
    obtain ⟨c, h1, h2⟩ := look hfr
    rcases q with ⟨k, _⟩ | ⟨_, c', e', z⟩
    · have k : X.env.scope.names.lookup y = some .local := k
      rcases ok.free _ (PySem.mem_of_lookup hfr) rfl with k' | k' <;> rw [show X.env.scope.names.lookup y = _ from k'] at k <;> cases k
    · rw [h2] at e'; cases e'
      exact ⟨c, h1, z.keeps kp⟩
  · obtain ⟨w, z⟩ := I.cell y c (mem e).1
    exact ⟨w, z.keeps kp⟩
  · show H cenv.locals = none
    rw [hL]; exact I.hok.fresh (Nat.le_refl _)
  · exact I.freeC y c (mem e).1
  · have hp : p ∈ ([] : List (Addr × Obj)) ++ [(a, oa)] := hp
    simp only [List.nil_append, List.mem_singleton] at hp
    subst hp
    refine ⟨ha, I.hok.fresh (Nat.le_of_lt hla), ?_, ?_, hda⟩
    · show a ≠ cenv.locals
      rw [hL]; exact Nat.ne_of_gt hla
    · intro z
      have z : a ∈ frs X.stack := z
      obtain ⟨_, o, ho, _⟩ := I.stack.mem z
      exact absurd (Nat.lt_trans hla (Heap.lt_size ho)) (Nat.lt_irrefl _)
end
end GAl

set_option Elab.async false
set_option linter.all false
set_option maxRecDepth 100000
set_option maxHeartbeats 2000000
namespace GAl
open PySem PySem.Spec PyProof.Rows L2 GxR
open Sem (wp)

/-- the generator's end and what it hands out -/
def REnd (XG : Cx) (a : Addr) (oa : Obj) (σw : L2.St) (Qd : Hp → Prop) : Nat → Shared → Shared → Prop := fun _ _ s₁ => ∃ H4, Inv XG [(a, oa)] σw H4 s₁ ∧ Qd H4
def YOut (XG : Cx) (a : Addr) (oa : Obj) (stp : V → Hp → Prop → Prop) : Protocol := fun _ _ v s kap =>
  ∃ y H4 σ4, Inv XG [(a, oa)] σ4 H4 s ∧ RelV y v ∧ stp y H4 (∀ s'' : Shared, s''.os = s.os → AllBare s''.gens → (∀ b o, s.heap.get? b = some o → s''.heap.get? b = some o) → kap (.send .none) s'')

/-- what a turn asks (W by the turn and a measure) -/
def GTurn (J : It) (g : TG) (tt : TT) (te : TE) (vs : List Nat) (σw : L2.St) (Qd : Hp → Prop) (stp : V → Hp → Prop → Prop) (W : Nat → Nat → Hp → Prop) : Prop :=
  ∀ i m H, W i m H → (J.stop i H ∧ Qd H) ∨ (J.go i H ∧ ∃ Nx : Hp → Prop, (∀ H', Nx H' → ∃ m', m' < m ∧ W (i + 1) m' H') ∧ ∀ x H', J.yld i H x H' → g x σw H' fun σ2 H2 => wipe σ2 vs = σw ∧ tt σ2 H2 fun b H3 =>
    if b = true then te σ2 H3 fun y H4 => stp y H4 (Nx H4) else Nx H3)

section
variable {X : Cx} {σ : L2.St} {elt tg iter : Expr} {ifs : List Expr} {scope : Scope} {pos : Pos} {it a : Addr} {oa : Obj} {fp : List Addr} {cenv : Env} {AG : Around} {s4 : Shared} {Hs : Hp} {J : It} {tn : Nat → Heap → Prop}
  {g : TG} {tt : TT} {te : TE} {vs : List Nat} {σw : L2.St} {Qd : Hp → Prop} {stp : V → Hp → Prop → Prop} {W : Nat → Nat → Hp → Prop}

theorem gen_loop (hc : X.calm = true) (hco : cenv.scope.isCoroutine = false) (T : Turn X.prog X.w X.K tg J fp it tn) (hafp : ∀ b ∈ fp, a ≠ b)
    (hmono : ∀ y H (p q : Prop), (p → q) → stp y H p → stp y H q)
    (pg : PG (gcx X (AG.over (.compLoop (.GeneratorExp elt [⟨tg, iter, ifs, 0⟩] scope pos) 0 (.ref it) .none cenv) []) s4 Hs cenv fp) tg g)
    (pt : PTs (gcx X (AG.over (.compLoop (.GeneratorExp elt [⟨tg, iter, ifs, 0⟩] scope pos) 0 (.ref it) .none cenv) []) s4 Hs cenv fp) ifs tt)
    (pe : PE (gcx X (AG.over (.compLoop (.GeneratorExp elt [⟨tg, iter, ifs, 0⟩] scope pos) 0 (.ref it) .none cenv) []) s4 Hs cenv fp) elt te)
    (hW : GTurn J g tt te vs σw Qd stp W) :
    ∀ (m n i : Nat) (s₀ s : Shared) (H : Hp), m < n → W i m H → Inv (gcx X (AG.over (.compLoop (.GeneratorExp elt [⟨tg, iter, ifs, 0⟩] scope pos) 0 (.ref it) .none cenv) []) s4 Hs cenv fp) [(a, oa)] σw H s → tn i s.heap → (∀ b ∈ fp, H b = none) →
      Seg (model X.prog X.w) AG (fun n s₀ r s₁ => r = .ok .next ∧ REnd (gcx X (AG.over (.compLoop (.GeneratorExp elt [⟨tg, iter, ifs, 0⟩] scope pos) 0 (.ref it) .none cenv) []) s4 Hs cenv fp) a oa σw Qd n s₀ s₁)
        (YOut (gcx X (AG.over (.compLoop (.GeneratorExp elt [⟨tg, iter, ifs, 0⟩] scope pos) 0 (.ref it) .none cenv) []) s4 Hs cenv fp) a oa stp) n s₀
        (.compLoop (.GeneratorExp elt [⟨tg, iter, ifs, 0⟩] scope pos) 0 (.ref it) .none cenv)
        ((model X.prog X.w).den (.compLoop (.GeneratorExp elt [⟨tg, iter, ifs, 0⟩] scope pos) 0 (.ref it) .none cenv)) [] s := by
  generalize hXG : gcx X (AG.over (.compLoop (.GeneratorExp elt [⟨tg, iter, ifs, 0⟩] scope pos) 0 (.ref it) .none cenv) []) s4 Hs cenv fp = XG at pg pt pe ⊢
  have hA : XG.A = AG.over (.compLoop (.GeneratorExp elt [⟨tg, iter, ifs, 0⟩] scope pos) 0 (.ref it) .none cenv) [] := by rw [← hXG]
  have hP : XG.prog = X.prog := by rw [← hXG]
  have hw : XG.w = X.w := by rw [← hXG]
  have hK : XG.K = X.K := by rw [← hXG]
  have hcalm : XG.calm = true := by rw [← hXG]; exact hc
  have henv : XG.env = cenv := by rw [← hXG]
  have hxe : XG.xe = fun _ _ => False := by rw [← hXG]
  have hex : XG.ex = fp := by rw [← hXG]
  have hpn : XG.pn = [] := by rw [← hXG]
  have stat : ∀ {σ' : L2.St} {H' : Hp} {s' : Shared}, Inv XG [(a, oa)] σ' H' s' → (∀ b ∈ fp, H' b = none) → ∀ b ∈ fp, FpOk XG [(a, oa)] H' b := fun {σ' H' s'} I' hn b hb =>
    ⟨hn b hb, (I'.ok.exf b (by rw [hex]; exact hb)).1, I'.ok.exfs b (by rw [hex]; exact hb), .inl (by rw [hex]; exact hb), fun x c e => (I'.ok.exf b (by rw [hex]; exact hb)).2 x c e, fun p hp => by
      rw [hpn] at hp
      simp only [List.nil_append, List.mem_singleton] at hp
      subst hp
      exact hafp b hb⟩
  intro m
  induction m using Nat.strongRecOn with
  | ind m ih =>
    intro n i s₀ s H hmn w I st nH
    show Seg _ AG _ _ _ s₀ _ ((compTurn (.GeneratorExp elt [⟨tg, iter, ifs, 0⟩] scope pos) 0 (.ref it) .none cenv).onRaise (leaving cenv)) [] s
    rw [compTurn_gen, Sem.onRaise_eq_wrap]
    refine seg_bind_wrap (wpAny_standAt ?_)
    rcases hW i m H w with ⟨stop, qq⟩ | ⟨go, Nx, hNx, step⟩
    · have td := T.done XG hP hw hK hcalm i _ s _ H (fun _ _ => False) I (stat I nH) st stop
      rw [hA] at td
      refine seg_bind_wrap (thnF td fun r s1 ⟨hr, I1⟩ => ?_)
      subst hr
      exact seg_end (.ok .next) ⟨rfl, H, I1, qq⟩
    · have ti := T.item XG hP hw hK hcalm i _ s _ H (fun _ _ => False) I (stat I nH) st go
      rw [hA] at ti
      refine seg_bind_wrap (thnF ti fun r s1 ⟨u, hr, h1⟩ => ?_)
      subst hr
      refine seg_bind_wrap (thnF h1 fun _ s2 ⟨x, H2, I2, r2, y2, st2, n2⟩ => ?_)
      have I2' := I2.pinned (stat I2 n2) (T.obj _ _ st2)
      have rg := pg.run _ s2 _ H2 x u _ I2' r2 (step x H2 y2)
      rw [hA, hP, hw, henv, hxe] at rg
      refine seg_bind_wrap (thnF rg fun _ s3 ⟨σ3, H3, I3, hw3, q3⟩ => ?_)
      have rt := pt.run _ s3 σ3 H3 _ I3 q3
      rw [hA, hP, hw, henv, hxe] at rt
      refine seg_bind_wrap (thnF rt fun b s5 ⟨H5, I5, q5⟩ => ?_)
      have fin : ∀ {s' s'' : Shared} {H' : Hp}, Inv XG ([(a, oa)] ++ pinsAt fp s2.heap) σ3 H' s' → s''.os = s'.os → AllBare s''.gens → (∀ b o, s'.heap.get? b = some o → s''.heap.get? b = some o) → Nx H' →
          ∃ m', m' < m ∧ W (i + 1) m' H' ∧ Inv XG [(a, oa)] σw H' s'' ∧ tn (i + 1) s''.heap ∧ (∀ b ∈ fp, H' b = none) := fun {s' s'' H'} I' e1 e2 e3 nx => by
        obtain ⟨m', hm, w'⟩ := hNx H' nx
        have pin' : ∀ b ∈ fp, ∀ o, s2.heap.get? b = some o → s'.heap.get? b = some o ∧ H' b = none := fun b hb o e =>
          let z := I'.pin (b, o) (List.mem_append_right _ (List.mem_append_right _ (mem_pinsAt hb e)))
          ⟨z.1, z.2.1⟩
        have hl : σw.length = σ3.length := by rw [← hw3, wipe_length]
        refine ⟨m', hm, w', Inv.kall ((I'.unpinned (pins := [(a, oa)])).weak hl (fun j v e => ?_)) e1 e2 e3, T.keep _ _ _ st2 fun b hb o e => e3 b o (pin' b hb o e).1, fun b hb => ?_⟩
        · rw [← hw3] at e
          exact (wipe_some e).1
        · obtain ⟨o, e, _⟩ := T.obj _ _ st2 b hb
          exact (pin' b hb o e).2
      cases b with
      | false =>
        simp only [Bool.false_eq_true, if_false] at q5 ⊢
        obtain ⟨m', hm, w', I', st', n'⟩ := fin I5 rfl I5.bare (fun _ _ e => e) q5
        exact seg_again rfl (ih m' hm n (i + 1) s₀ s5 H5 (by omega) w' I' st' n')
      | true =>
        simp only [if_true] at q5 ⊢
        have hy : ∀ v, yieldOut cenv v = yieldValue v := fun v => by simp only [yieldOut, hco, Bool.false_eq_true, if_false]
        simp only [hy]
        rw [Sem.bind_eq_wrap', Sem.bind_eq_wrap', Sem.wrap_wrap, Sem.wrap_wrap]
        have re := pe.run _ s5 σ3 H5 _ I5 q5
        rw [hA, hP, hw, henv, hxe] at re
        refine seg_wrap (thnF re fun z s6 ⟨yv, H6, I6, r6, q6⟩ => ?_)
        cases n with
        | zero => exact absurd hmn (Nat.not_lt_zero _)
        | succ n =>
          refine seg_at (seg_yield rfl rfl rfl ⟨yv, H6, σ3, I6.unpinned (pins := [(a, oa)]), r6, hmono _ _ _ _ (fun nx s'' e1 e2 e3 => ?_) q6⟩)
          obtain ⟨m', hm, w', I', st', n'⟩ := fin I6 e1 e2 e3 nx
          exact seg_again rfl (ih m' hm n (i + 1) s'' s'' H6 (by omega) w' I' st' n')

theorem gen_begin (hc : X.calm = true) (hco : cenv.scope.isCoroutine = false) (T : Turn X.prog X.w X.K tg J fp it tn) (hafp : ∀ b ∈ fp, a ≠ b)
    (hmono : ∀ y H (p q : Prop), (p → q) → stp y H p → stp y H q)
    (pg : PG (gcx X (AG.over (.compLoop (.GeneratorExp elt [⟨tg, iter, ifs, 0⟩] scope pos) 0 (.ref it) .none cenv) []) s4 Hs cenv fp) tg g)
    (pt : PTs (gcx X (AG.over (.compLoop (.GeneratorExp elt [⟨tg, iter, ifs, 0⟩] scope pos) 0 (.ref it) .none cenv) []) s4 Hs cenv fp) ifs tt)
    (pe : PE (gcx X (AG.over (.compLoop (.GeneratorExp elt [⟨tg, iter, ifs, 0⟩] scope pos) 0 (.ref it) .none cenv) []) s4 Hs cenv fp) elt te)
    (hW : GTurn J g tt te vs σw Qd stp W) (m : Nat) (s₀ s : Shared) (H : Hp) (w : W 0 m H)
    (I : Inv (gcx X (AG.over (.compLoop (.GeneratorExp elt [⟨tg, iter, ifs, 0⟩] scope pos) 0 (.ref it) .none cenv) []) s4 Hs cenv fp) [(a, oa)] σw H s) (st : tn 0 s.heap) (nH : ∀ b ∈ fp, H b = none) :
      Seg (model X.prog X.w) AG (fun n s₀ r s₁ => r = .ok .next ∧ REnd (gcx X (AG.over (.compLoop (.GeneratorExp elt [⟨tg, iter, ifs, 0⟩] scope pos) 0 (.ref it) .none cenv) []) s4 Hs cenv fp) a oa σw Qd n s₀ s₁)
        (YOut (gcx X (AG.over (.compLoop (.GeneratorExp elt [⟨tg, iter, ifs, 0⟩] scope pos) 0 (.ref it) .none cenv) []) s4 Hs cenv fp) a oa stp) (m + 1) s₀
        (.compStart (.GeneratorExp elt [⟨tg, iter, ifs, 0⟩] scope pos) 0 (.ref it) .none cenv)
        ((model X.prog X.w).den (.compStart (.GeneratorExp elt [⟨tg, iter, ifs, 0⟩] scope pos) 0 (.ref it) .none cenv)) [] s := by
  have loop := gen_loop (a := a) (oa := oa) hc hco T hafp hmono pg pt pe hW m (m + 1) 0 s₀ s H (Nat.lt_succ_self _) w I st nH
  show Seg _ AG _ _ _ s₀ _ ((compStart (.GeneratorExp elt [⟨tg, iter, ifs, 0⟩] scope pos) 0 (.ref it) .none cenv).onRaise (leaving cenv)) [] s
  unfold compStart
  rw [Sem.onRaise_eq_wrap]
  show Seg _ AG _ _ _ s₀ _ ((ask >>= _).wrap _ _ _ _) [] s
  refine seg_bind_wrap (wpAny_askSetting ?_)
  split
  · exact seg_again rfl loop
  · first
      | exact seg_bind_wrap (wpAny_rule (seg_bind_wrap (wpAny_standAt (seg_bind_wrap (T.self _ 0 s _ _ st (seg_again rfl loop))))))
      | (refine seg_bind_wrap (wpAny_rule ?_); show Seg _ AG _ _ _ s₀ _ ((standAt iter.pos >>= _).wrap _ _ _ _) [] s; exact seg_bind_wrap (wpAny_standAt (seg_bind_wrap (T.self _ 0 s _ _ st (seg_again rfl loop)))))
end

/-! ### the consumer's side -/
section
variable {prog : Program} {w : World} {A : Around} {E : Value → Shared → Prop} {s : Shared}
theorem next_sz {a : Addr} {g n : Nat} {gs : GenState} {P : Nat → Shared → Shared → Prop} {Y : Protocol} {Q : Option Value → Shared → Prop} (hh : A.handled = none)
    (hl : s.heap.NoLimit) (hroom : A.depth < recursionLimit)
    (hg : s.heap.IsGen a g) (hgs : s.gens[g]? = some gs)
    (hgo : gs.Goes (model prog w) A.in1 (fun n s₀ r s₁ => r = .ok .next ∧ P n s₀ s₁) Y n (.send .none) (s.setGen g .running))
    (hY : ∀ v s₁ gs', s.gens.size ≤ s₁.gens.size → gs'.bare = true → Y (n - 1) (s.setGen g .running) v s₁ (fun r' s'' => match n with
        | 0 => False
        | m + 1 => gs'.Goes (model prog w) A.in1 (fun n s₀ r s₁ => r = .ok .next ∧ P n s₀ s₁) Y m r' s'') → Q (some v) (s₁.setGen g gs'))
    (hP : ∀ s₁, s.gens.size ≤ s₁.gens.size → P n (s.setGen g .running) s₁ → ∀ h', (∀ b o, s₁.heap.get? b = some o → h'.get? b = some o) → Q none { s₁.setGen g .finished with heap := h' }) :
    wpAny (model prog w) A (pyNext (.ref a)) Q E s := by
  refine GenW.wpAny_gsz (n := s.gens.size) (Nat.le_refl _) (wpAny_pyNext_genexpQ (E := fun e s' => s.gens.size ≤ s'.gens.size → E e s') (Q := fun r s' => s.gens.size ≤ s'.gens.size → Q r s') hh hl hroom hg hgs hgo
    (fun v s₁ gs' hb hv hz => hY v s₁ gs' (by rw [GenW.setGen_size] at hz; exact hz) hb hv)
    (fun s₁ hp h' hk hz => hP s₁ (by have z : s.gens.size ≤ (s₁.setGen g .finished).gens.size := hz; rw [GenW.setGen_size] at z; exact z) hp h' hk))
end
end GAl

set_option Elab.async false
set_option linter.all false
set_option maxRecDepth 100000
set_option maxHeartbeats 2000000
namespace GAl
open PySem PySem.Spec PyProof.Rows L2 GxR
open Sem (wp)

/-- the generator stands, ready for its next turn, at most n - 1 more are to come -/
def GSt (M : Model) (AG : Around) (P : Nat → Shared → Shared → Prop) (Y : Protocol) (a : Addr) (g n : Nat) (s : Shared) : Prop :=
  s.heap.IsGen a g ∧ s.heap.NoLimit ∧ ∃ gs, s.gens[g]? = some gs ∧ gs.Goes M AG (fun n s₀ r s₁ => r = .ok .next ∧ P n s₀ s₁) Y n (.send .none) (s.setGen g .running)

def stpAll (Qf : Hp → Prop) : V → Hp → Prop → Prop := fun y H N => ∃ c, y = .bl c ∧ (if c = true then N else Qf H)
def stpAny (Qt : Hp → Prop) : V → Hp → Prop → Prop := fun y H N => ∃ c, y = .bl c ∧ (if c = true then Qt H else N)
theorem stpAll_mono {Qf : Hp → Prop} : ∀ y H (p q : Prop), (p → q) → stpAll Qf y H p → stpAll Qf y H q := fun y H p q h ⟨c, e, k⟩ => ⟨c, e, by
  cases c with
  | true => simp only [if_true] at k ⊢; exact h k
  | false => simp only [Bool.false_eq_true, if_false] at k ⊢; exact k⟩
theorem stpAny_mono {Qf : Hp → Prop} : ∀ y H (p q : Prop), (p → q) → stpAny Qf y H p → stpAny Qf y H q := fun y H p q h ⟨c, e, k⟩ => ⟨c, e, by
  cases c with
  | false => simp only [Bool.false_eq_true, if_false] at k ⊢; exact h k
  | true => simp only [if_true] at k ⊢; exact k⟩

theorem gens_some {s : Shared} {g k : Nat} {gs : GenState} (h : s.gens[g]? = some gs) (hk : s.gens.size ≤ k) {s₁ : Shared} (e : s₁.gens.size = k) : ∃ x, s₁.gens[g]? = some x := by
  obtain ⟨hl, _⟩ := Array.getElem?_eq_some_iff.mp h
  exact ⟨_, Array.getElem?_eq_getElem (by omega)⟩

section
variable {X XG : Cx} {A : Around} {a : Addr} {oa : Obj} {g : Nat} {σw : L2.St} {Qd Qf : Hp → Prop} {R : Result → Shared → Prop}
theorem isgen_of {h h' : Heap} (hg : h.IsGen a g) (ho : h.get? a = some oa) (ho' : h'.get? a = some oa) : h'.IsGen a g := by
  obtain ⟨o, nm, qn, e, r⟩ := hg
  rw [ho] at e; cases e
  exact ⟨_, nm, qn, ho', r⟩

/-- all.loop over it -/
theorem all_loop (hprog : XG.prog = X.prog) (hw : XG.w = X.w) (hh : A.handled = none) (hroom : A.depth < recursionLimit) (hpn : XG.pn = [])
    (hfin : ∀ s' σ' H', Inv XG [(a, oa)] σ' H' s' → Qd H' → R (.ok (.ret (.bool true))) s')
    (hcut : ∀ s' σ' H', Inv XG [(a, oa)] σ' H' s' → Qf H' → R (.ok (.ret (.bool false))) s') :
    ∀ (n : Nat) (s : Shared), s.heap.get? a = some oa → GSt (model X.prog X.w) A.in1.in1 (REnd XG a oa σw Qd) (YOut XG a oa (stpAll Qf)) a g n s → codeAny (model X.prog X.w) A (.builtin "all.loop" ⟨[.ref a], []⟩) R s := by
  intro n
  induction n with
  | zero =>
    intro s hoa ⟨hg, hl, gs, hgs, hgo⟩
    refine codeAny_builtin F.entry_all_loop ?_
    rw [Around.under_plainId F.plain_all_loop _]
    show wpAny _ A.in1 (pyNext (.ref a) >>= _) _ _ s
    refine wpAny_bind (next_sz (A := A.in1) hh hl hroom hg hgs hgo (fun v s₁ gs' hsz hb hv => ?_) (fun s₁ hsz hp h' hk => ?_))
    · obtain ⟨y, H4, σ4, I4, r, c, e, k⟩ := hv
      subst e
      cases r
      refine wpAny_bind (wpAny_holding (wpAny_truthy_bool ?_))
      refine wpAny_bind (wpAny_letGo ?_)
      cases c with
      | true =>
        simp only [if_true] at k
        exact False.elim (k s₁ rfl I4.bare fun _ _ e => e)
      | false =>
        simp only [Bool.false_eq_true, if_false] at k ⊢
        refine wpAny_bind (wpAny_rule (wpAny_pure ?_))
        exact hcut _ σ4 H4 (Inv.kall I4 rfl (bare_set I4.bare hb) fun _ _ e => e) k
    · obtain ⟨H4, I4, q⟩ := hp
      refine wpAny_bind (wpAny_rule (wpAny_pure ?_))
      exact hfin _ σw H4 (Inv.kall I4 rfl (bare_set I4.bare rfl) hk) q
  | succ n ih =>
    intro s hoa ⟨hg, hl, gs, hgs, hgo⟩
    refine codeAny_builtin F.entry_all_loop ?_
    rw [Around.under_plainId F.plain_all_loop _]
    show wpAny _ A.in1 (pyNext (.ref a) >>= _) _ _ s
    refine wpAny_bind (next_sz (A := A.in1) hh hl hroom hg hgs hgo (fun v s₁ gs' hsz hb hv => ?_) (fun s₁ hsz hp h' hk => ?_))
    · obtain ⟨y, H4, σ4, I4, r, c, e, k⟩ := hv
      subst e
      cases r
      refine wpAny_bind (wpAny_holding (wpAny_truthy_bool ?_))
      refine wpAny_bind (wpAny_letGo ?_)
      cases c with
      | true =>
        simp only [if_true] at k ⊢
        have ha : s₁.heap.get? a = some oa := (I4.pin (a, oa) (by rw [hpn]; simp)).1
        obtain ⟨x, hx⟩ := gens_some hgs hsz rfl
        refine wpAny_pure ⟨plainId_quiet F.plain_all_loop _, ih (s₁.setGen g gs') ha ⟨isgen_of hg hoa ha, I4.nolimit, gs', setGen_self hx, ?_⟩⟩
        exact k ((s₁.setGen g gs').setGen g .running) rfl (bare_set (bare_set I4.bare hb) rfl) fun _ _ e => e
      | false =>
        simp only [Bool.false_eq_true, if_false] at k ⊢
        refine wpAny_bind (wpAny_rule (wpAny_pure ?_))
        exact hcut _ σ4 H4 (Inv.kall I4 rfl (bare_set I4.bare hb) fun _ _ e => e) k
    · obtain ⟨H4, I4, q⟩ := hp
      refine wpAny_bind (wpAny_rule (wpAny_pure ?_))
      exact hfin _ σw H4 (Inv.kall I4 rfl (bare_set I4.bare rfl) hk) q
/-- any.loop over it -/
theorem any_loop (hprog : XG.prog = X.prog) (hw : XG.w = X.w) (hh : A.handled = none) (hroom : A.depth < recursionLimit) (hpn : XG.pn = [])
    (hfin : ∀ s' σ' H', Inv XG [(a, oa)] σ' H' s' → Qd H' → R (.ok (.ret (.bool false))) s')
    (hcut : ∀ s' σ' H', Inv XG [(a, oa)] σ' H' s' → Qf H' → R (.ok (.ret (.bool true))) s') :
    ∀ (n : Nat) (s : Shared), s.heap.get? a = some oa → GSt (model X.prog X.w) A.in1.in1 (REnd XG a oa σw Qd) (YOut XG a oa (stpAny Qf)) a g n s → codeAny (model X.prog X.w) A (.builtin "any.loop" ⟨[.ref a], []⟩) R s := by
  intro n
  induction n with
  | zero =>
    intro s hoa ⟨hg, hl, gs, hgs, hgo⟩
    refine codeAny_builtin F.entry_any_loop ?_
    rw [Around.under_plainId F.plain_any_loop _]
    show wpAny _ A.in1 (pyNext (.ref a) >>= _) _ _ s
    refine wpAny_bind (next_sz (A := A.in1) hh hl hroom hg hgs hgo (fun v s₁ gs' hsz hb hv => ?_) (fun s₁ hsz hp h' hk => ?_))
    · obtain ⟨y, H4, σ4, I4, r, c, e, k⟩ := hv
      subst e
      cases r
      refine wpAny_bind (wpAny_holding (wpAny_truthy_bool ?_))
      refine wpAny_bind (wpAny_letGo ?_)
      cases c with
      | false =>
        simp only [Bool.false_eq_true, if_false] at k
        exact False.elim (k s₁ rfl I4.bare fun _ _ e => e)
      | true =>
        simp only [if_true] at k ⊢
        refine wpAny_bind (wpAny_rule (wpAny_pure ?_))
        exact hcut _ σ4 H4 (Inv.kall I4 rfl (bare_set I4.bare hb) fun _ _ e => e) k
    · obtain ⟨H4, I4, q⟩ := hp
      refine wpAny_bind (wpAny_rule (wpAny_pure ?_))
      exact hfin _ σw H4 (Inv.kall I4 rfl (bare_set I4.bare rfl) hk) q
  | succ n ih =>
    intro s hoa ⟨hg, hl, gs, hgs, hgo⟩
    refine codeAny_builtin F.entry_any_loop ?_
    rw [Around.under_plainId F.plain_any_loop _]
    show wpAny _ A.in1 (pyNext (.ref a) >>= _) _ _ s
    refine wpAny_bind (next_sz (A := A.in1) hh hl hroom hg hgs hgo (fun v s₁ gs' hsz hb hv => ?_) (fun s₁ hsz hp h' hk => ?_))
    · obtain ⟨y, H4, σ4, I4, r, c, e, k⟩ := hv
      subst e
      cases r
      refine wpAny_bind (wpAny_holding (wpAny_truthy_bool ?_))
      refine wpAny_bind (wpAny_letGo ?_)
      cases c with
      | false =>
        simp only [Bool.false_eq_true, if_false] at k ⊢
        have ha : s₁.heap.get? a = some oa := (I4.pin (a, oa) (by rw [hpn]; simp)).1
        obtain ⟨x, hx⟩ := gens_some hgs hsz rfl
        refine wpAny_pure ⟨plainId_quiet F.plain_any_loop _, ih (s₁.setGen g gs') ha ⟨isgen_of hg hoa ha, I4.nolimit, gs', setGen_self hx, ?_⟩⟩
        exact k ((s₁.setGen g gs').setGen g .running) rfl (bare_set (bare_set I4.bare hb) rfl) fun _ _ e => e
      | true =>
        simp only [if_true] at k ⊢
        refine wpAny_bind (wpAny_rule (wpAny_pure ?_))
        exact hcut _ σ4 H4 (Inv.kall I4 rfl (bare_set I4.bare hb) fun _ _ e => e) k
    · obtain ⟨H4, I4, q⟩ := hp
      refine wpAny_bind (wpAny_rule (wpAny_pure ?_))
      exact hfin _ σw H4 (Inv.kall I4 rfl (bare_set I4.bare rfl) hk) q
end
end GAl

set_option Elab.async false
set_option linter.all false
set_option maxRecDepth 100000
set_option maxHeartbeats 2000000
namespace GAl
open PySem PySem.Spec PyProof.Rows L2 GxR
open Sem (wp)

/-- the scope of a generator expression -/
structure GSc (N : List Str) (sc scope : Scope) (own : List (Str × Nat)) : Prop where
  blk : BlkOk N sc scope own
  co : scope.isCoroutine = false
  cell : ∀ y ∈ scope.names, y.2 ≠ .cell
  dot : scope.names.lookup (".0" : Str) = some NameKind.local
def gscC (N : List Str) (sc scope : Scope) (own : List (Str × Nat)) : Bool :=
  blkC N sc scope own && !scope.isCoroutine && (scope.names.all fun y => match y.2 with | .cell => false | _ => true) && (match scope.names.lookup (".0" : Str) with | some .local => true | _ => false)
theorem gsc_by {N : List Str} {sc scope : Scope} {own : List (Str × Nat)} (h : gscC N sc scope own = true) : GSc N sc scope own := by
  unfold gscC at h
  simp only [Bool.and_eq_true, List.all_eq_true, Bool.not_eq_true'] at h
  obtain ⟨⟨⟨h1, h2⟩, h3⟩, h4⟩ := h
  refine ⟨blkOk_by h1, h2, fun y hy e => ?_, ?_⟩
  · have q := h3 y hy
    rw [e] at q
    exact Bool.noConfusion q
  · split at h4
    · assumption
    · cases h4

/-- what a consumed generator expression asks: the walked thing, the def's table, the turns -/
def tGenB (P : Addr) (wi : TI) (g : TG) (tt : TT) (te : TE) (vs : List Nat) (stp : V → Hp → Prop → Prop) (Qd : Hp → Prop) : L2.St → Hp → Prop := fun σ H =>
  wi σ H fun J H1 => TabG H1 P ∧ ∀ H2, Tabbed P H1 H2 → ∃ W : Nat → Nat → Hp → Prop, (∃ m, W 0 m H2) ∧ GTurn J g tt te vs (wipe σ vs) Qd stp W
def tAllG (P : Addr) (wi : TI) (g : TG) (tt : TT) (te : TE) (vs : List Nat) : TE := fun σ H Q => tGenB P wi g tt te vs (stpAll (Q (.bl false))) (Q (.bl true)) σ H
def tAnyG (P : Addr) (wi : TI) (g : TG) (tt : TT) (te : TE) (vs : List Nat) : TE := fun σ H Q => tGenB P wi g tt te vs (stpAny (Q (.bl true))) (Q (.bl false)) σ H

section
variable {X : Cx} {pins : List (Addr × Obj)} {σ : L2.St} {H : Hp} {s : Shared}
theorem gen_make {c P : Addr} {elt tg iter : Expr} {ifs : List Expr} {gpos : Pos} {scope : Scope} {own : List (Str × Nat)} {wi : TI} {g : TG} {tt : TT} {te : TE} {k : Nat} {stp : V → Hp → Prop → Prop} {Qd : Hp → Prop} {Q' : Value → Shared → Prop}
    (hr : Room (k + 1) X.A) (hc : X.calm = true) (hN : X.N.Nodup) (TB : TabB X.base X.mg c P) (hcode : X.env.code = .ref c) (S : GSc X.N X.env.scope scope own) (hi : PI X tg iter wi)
    (hg : ∀ (A' : Around), Room k A' → ∀ (s : Shared) (H : Hp) (cl : List (Str × Addr)) (C : Addr) (code : Value) (fp : List Addr), PG (gcx X A' s H (genEnv scope cl C code builtinsNs X.env) fp) tg g)
    (ht : ∀ (A' : Around), Room k A' → ∀ (s : Shared) (H : Hp) (cl : List (Str × Addr)) (C : Addr) (code : Value) (fp : List Addr), PTs (gcx X A' s H (genEnv scope cl C code builtinsNs X.env) fp) ifs tt)
    (he : ∀ (A' : Around), Room k A' → ∀ (s : Shared) (H : Hp) (cl : List (Str × Addr)) (C : Addr) (code : Value) (fp : List Addr), PE (gcx X A' s H (genEnv scope cl C code builtinsNs X.env) fp) elt te)
    (hmono : ∀ y H (p q : Prop), (p → q) → stp y H p → stp y H q)
    (hs : ∀ v, genFold iter X.env v = pure v) (I : Inv X pins σ H s) (h : tGenB P wi g tt te (own.map (·.2)) stp Qd σ H)
    (hQ : ∀ (XG : Cx) (a : Addr) (oa : Obj) (gn n : Nat) (σw : L2.St) (s5 : Shared), XG.prog = X.prog → XG.w = X.w → XG.pn = [] → s5.heap.get? a = some oa →
      GSt (model X.prog X.w) X.A.in1.in1 (REnd XG a oa σw Qd) (YOut XG a oa stp) a gn n s5 → (∀ s' σ' H', Inv XG [(a, oa)] σ' H' s' → Inv X pins σ H' s') → Q' (.ref a) s5) :
    wpAny (model X.prog X.w) X.A (eval (.GeneratorExp elt [⟨tg, iter, ifs, 0⟩] scope gpos) X.env) Q' X.xe s := by
  have ok := S.blk
  have hfree : ∀ y ∈ scope.names, y.2 = .free → ∃ c, X.env.cells.lookup y.1 = some c := fun y hy e => by
    rcases ok.free y hy e with k | k
    · exact I.ok.has _ (.inl k)
    · exact I.ok.has _ (.inr k)
  refine wpAny_GeneratorExp_make S.co (closure_ok hfree) S.cell S.dot ok.kind (by have := hr.dp; omega) ?_ hs
  refine thn (hi.run pins s σ H _ I h) fun xv s1 hx => thn hx fun itv s2 h2 => ?_
  obtain ⟨it, fp, tn, J, H2, e, I2, T, st2, f2, ⟨ps, hP, hts⟩, q⟩ := h2
  subst e
  have hPs : s2.heap.get? P = some { cls := .none, data := .fields ps } := I2.hok P _ hP
  have cd : PySem.W.CodeHd s2.heap c P := TB.code.keeps fun b u e => I2.bk b u e
  have nP : ∀ b ∈ fp, b ≠ P := fun b hb z => by
    have := (f2 b hb).1
    rw [z, hP] at this; cases this
  have sz2 : ∀ b ∈ fp, b < s2.heap.objs.size := fun b hb => by
    obtain ⟨o, e, _⟩ := T.obj _ _ st2 b hb
    exact Heap.lt_size e
  have cont : ∀ (code : Value) (h3 : Heap) (tk : Nat) (ps' : Array Value), Heap.ExtBut P s2.heap h3 → s2.heap.objs.size ≤ h3.objs.size → h3.get? P = some { cls := .none, data := .fields ps' } → (∃ more, ps' = ps ++ more) → TriplesOk ps'.toList →
      wpAny (model X.prog X.w) X.A (builtinsFor X.env.globals X.env.builtins) (fun bi s₄ =>
        ∀ h', h'.Ns s₄.heap.objs.size (fun y => if y = ".0" then some (.ref it) else none) → Heap.SameBut s₄.heap.objs.size (s₄.heap.push { cls := .type "frame", data := .dict #[] }) h' →
          Q' (.ref h'.objs.size) { s₄ with
            gens := s₄.gens.push (.fresh (.compStart (.GeneratorExp elt [⟨tg, iter, ifs, 0⟩] scope gpos) 0 (.ref it) .none (genEnv scope (cloFrom X.env.cells scope.names []) s₄.heap.objs.size code bi X.env))),
            toks := s₄.toks + 1 + 1 + 1,
            heap := h'.push { cls := .type "generator", data := .fields #[.int s₄.gens.size 0, .str "<genexpr>" (s₄.toks + 1), .str (X.env.qual ++ "<genexpr>") (s₄.toks + 1 + 1)] } }) X.xe { s2 with heap := h3, toks := tk } := by
    intro code h3 tk ps' hx hsz hP3 hmore ht3
    obtain ⟨bm, ob, e1, e2, e3, e4, e5, e6, e7, e8⟩ := TB.bm
    have keep3 : ∀ b u, b ≠ P → s2.heap.get? b = some u → h3.get? b = some u := fun b u hb e => hx b u hb e
    refine wpAny_builtinsFor (m := X.mg) (by rw [I2.ok.glob]; exact (I2.mod.glob.keeps I2.bk).extBut hx TB.gP) e1 e2 (keep3 _ _ e4 (I2.bk _ _ e5)) e6 e7 e8 ?_
    intro h' hn' hs'
    obtain ⟨more, em⟩ := hmore
    have I3 : Inv X pins σ (upd H2 P (.tbl (ps ++ more))) { s2 with heap := h3, toks := tk } :=
      inv_tab (more := more) (h' := h3) (g' := s2.gens) (d' := s2.drawn) (t' := tk) I2 hP keep3 (by rw [← em]; exact hP3) I2.bare
    obtain ⟨W, ⟨m0, w0⟩, turn⟩ := q (upd H2 P (.tbl (ps ++ more))) ⟨⟨ps ++ more, upd_same, by rw [← em]; exact ht3⟩, fun b hb => upd_ne hb⟩
    generalize hH3 : upd H2 P (.tbl (ps ++ more)) = H3 at I3 w0
    generalize hs4 : ({ s2 with heap := h3, toks := tk } : Shared) = s4 at I3 hn' hs' ⊢
    have hh4 : s4.heap = h3 := by rw [← hs4]
    have st4 : tn 0 s4.heap := T.keep _ _ _ st2 fun b hb o e => by rw [hh4]; exact keep3 b o (nP b hb) e
    have f3 : ∀ b ∈ fp, FpOk X pins H3 b ∧ b < s4.heap.objs.size := fun b hb => by
      refine ⟨⟨?_, (f2 b hb).2⟩, by rw [hh4]; exact Nat.lt_of_lt_of_le (sz2 b hb) hsz⟩
      rw [← hH3, upd_ne (nP b hb)]
      exact (f2 b hb).1
    have hszh : h'.objs.size = s4.heap.objs.size + 1 := by rw [hs'.1, Heap.size_push]
    have keep' : ∀ b o, s4.heap.get? b = some o → h'.get? b = some o := fun b o e => hs'.extBut b o (Nat.ne_of_lt (Heap.lt_size e)) (Heap.get?_push_of_some _ e)
    generalize hoa : ({ cls := .type "generator", data := .fields #[.int s4.gens.size 0, .str "<genexpr>" (s4.toks + 1), .str (X.env.qual ++ "<genexpr>") (s4.toks + 1 + 1)] } : Obj) = oa
    have ga : (h'.push oa).get? h'.objs.size = some oa := Heap.get?_push_size _ (by rw [← hoa]; rfl)
    have isg : (h'.push oa).IsGen h'.objs.size s4.gens.size := by rw [← hoa]; exact ⟨_, _, _, Heap.get?_push_size _ rfl, rfl, rfl, rfl⟩
    generalize hce : genEnv scope (cloFrom X.env.cells scope.names []) s4.heap.objs.size code builtinsNs X.env = cenv
    generalize hA' : X.A.in1.in1.over (.compLoop (.GeneratorExp elt [⟨tg, iter, ifs, 0⟩] scope gpos) 0 (.ref it) .none cenv) [] = A'
    have hfr : A'.frames = some (cenv :: X.stack) := by
      rw [← hA']
      show pushEnvs [cenv] (pushEnvs [] X.A.frames) = _
      rw [I2.ok.frames]
      rfl
    have hdp : A'.depth = X.A.depth + 1 := by rw [← hA']; rfl
    have hun : A'.units = X.A.units + 5 := by rw [← hA']; rfl
    have hhd : A'.handled = none := by rw [← hA']; exact hr.hd
    have hr' : Room k A' := ⟨hhd, by rw [hdp]; have := hr.dp; omega, by rw [hun]; have := hr.un; omega⟩
    have bare5 : AllBare (s4.gens.push (.fresh (.compStart (.GeneratorExp elt [⟨tg, iter, ifs, 0⟩] scope gpos) 0 (.ref it) .none cenv))) := I3.bare.push rfl
    have I5 := gen_start (A' := A') (cenv := cenv) (code := code) (m := fun y => if y = ".0" then some (.ref it) else none) (h5 := h'.push oa) (g' := s4.gens.push (.fresh (.compStart (.GeneratorExp elt [⟨tg, iter, ifs, 0⟩] scope gpos) 0 (.ref it) .none cenv)))
      (t5 := s4.toks + 1 + 1 + 1) (a := h'.objs.size) (oa := oa) I3 ok S.cell hN f3 hce.symm hfr hhd (hn'.push _) (fun b o e => Heap.get?_push_of_some _ (keep' b o e)) bare5 ga (by omega) (by rw [← hoa]; intro v z; cases z)
    have back : ∀ s' σ' H', Inv (gcx X A' s4 H3 cenv fp) [(h'.objs.size, oa)] σ' H' s' → Inv X pins σ H' s' := fun s' σ' H' I' =>
      I3.call' (ch := fp) I'.os I'.base I'.hok I'.bare fun b hb => ⟨(f3 b hb).1.2.2.2.1, (f3 b hb).1.2.1, (f3 b hb).1.2.2.2.2.1, (f3 b hb).1.2.2.2.2.2⟩
    have pg : PG (gcx X A' s4 H3 cenv fp) tg g := by rw [← hce]; exact hg A' hr' _ _ _ _ _ _
    have pt : PTs (gcx X A' s4 H3 cenv fp) ifs tt := by rw [← hce]; exact ht A' hr' _ _ _ _ _ _
    have pe : PE (gcx X A' s4 H3 cenv fp) elt te := by rw [← hce]; exact he A' hr' _ _ _ _ _ _
    refine hQ (gcx X A' s4 H3 cenv fp) h'.objs.size oa s4.gens.size (m0 + 1) (wipe σ (own.map (·.2))) _ rfl rfl rfl ga ⟨isg, I5.nolimit, _, Array.getElem?_push_size .., ?_⟩ back
    refine ⟨rfl, ?_⟩
    subst hA'
    refine gen_begin hc (by rw [← hce]; exact S.co) T (fun b hb z => ?_) hmono pg pt pe turn m0 _ _ H3 w0 (Inv.kall I5 rfl (bare_set I5.bare rfl) fun _ _ e => e) ?_ (fun b hb => (f3 b hb).1.1)
    · have h9 := (f3 b hb).2
      rw [← z] at h9
      have h9 : h'.objs.size < s4.heap.objs.size := h9
      omega
    · exact T.keep _ _ _ st4 fun b hb o e => Heap.get?_push_of_some _ (keep' b o e)
  refine ⟨I2.nolimit, ?_⟩
  cases hf : codeAmong gpos ps.toList with
  | none =>
    refine wpAny_genexprCodeX hcode (cd.code hPs hts) (cd.tab hPs) hf fun c' h' tk hx hge hlt hco' _ htab' _ => ?_
    obtain ⟨o1, vs, f1, tf, fl, tg', inF, tx, tt', op, _, _, _, _, _, _, _, _, _, htr, _⟩ := hco'
    exact cont _ h' tk _ hx (Nat.le_trans hge (Nat.le_of_lt hlt)) htab'.2 ⟨_, rfl⟩ htr
  | some cv =>
    refine wpAny_genexprCode_hit hcode (cd.code hPs hts) hf ?_
    exact cont cv s2.heap s2.toks ps (Heap.ExtBut.refl _ _) (Nat.le_refl _) hPs ⟨#[], by simp⟩ hts

theorem pe_allG {c P : Addr} {elt tg iter : Expr} {ifs : List Expr} {p pos gpos : Pos} {scope : Scope} {own : List (Str × Nat)} {wi : TI} {g : TG} {tt : TT} {te : TE} {k : Nat}
    (hr : Room (k + 1) X.A) (hgl : Gl X "all") (hm : X.mg "all" = none) (hc : X.calm = true) (hN : X.N.Nodup) (TB : TabB X.base X.mg c P) (hcode : X.env.code = .ref c) (S : GSc X.N X.env.scope scope own) (hi : PI X tg iter wi)
    (hg : ∀ (A' : Around), Room k A' → ∀ (s : Shared) (H : Hp) (cl : List (Str × Addr)) (C : Addr) (code : Value) (fp : List Addr), PG (gcx X A' s H (genEnv scope cl C code builtinsNs X.env) fp) tg g)
    (ht : ∀ (A' : Around), Room k A' → ∀ (s : Shared) (H : Hp) (cl : List (Str × Addr)) (C : Addr) (code : Value) (fp : List Addr), PTs (gcx X A' s H (genEnv scope cl C code builtinsNs X.env) fp) ifs tt)
    (he : ∀ (A' : Around), Room k A' → ∀ (s : Shared) (H : Hp) (cl : List (Str × Addr)) (C : Addr) (code : Value) (fp : List Addr), PE (gcx X A' s H (genEnv scope cl C code builtinsNs X.env) fp) elt te)
    (hs : ∀ v, genFold iter X.env v = pure v := by intro _; rfl)
    (hst : starEach [.GeneratorExp elt [⟨tg, iter, ifs, 0⟩] scope gpos] X.env = (false, eval (.GeneratorExp elt [⟨tg, iter, ifs, 0⟩] scope gpos) X.env) :: starEach [] X.env := by rfl)
    (hb : bootBuiltins "all" = some (.builtin "all") := by decide +kernel) :
    PE X (.Call (.Name "all" p) [.GeneratorExp elt [⟨tg, iter, ifs, 0⟩] scope gpos] [] pos) (tAllG P wi g tt te (own.map (·.2))) := by
  refine ⟨fun pins s σ H Q I h => ?_⟩
  refine wpAny_Call_Name_kw (ld_blt I hgl hm hb ?_)
  refine PyProof.Rows.callWith_builtin1 ?_ hst (by rfl)
  rw [hst]
  show wpAny _ _ (spliced ((false, eval (.GeneratorExp elt [⟨tg, iter, ifs, 0⟩] scope gpos) X.env) :: backTo pos (starEach [] X.env))) _ _ s
  refine Calls.spliced_cons (gen_make hr hc hN TB hcode S hi hg ht he stpAll_mono hs I h fun XG a oa gn n σw s5 eP eW epn ha hG back => ?_)
  refine Calls.spliced_nil ?_
  refine call_function_tree F.kind_all F.plain_all F.entry_all (F.args_all1 _) ?_
  unfold Builtin.«all»
  refine wpAny_bind (m := oneArg "all" _) (wpAny_pure ?_)
  refine wpAny_bind (wpAny_pyIter_gen hG.1 ?_)
  refine wpAny_pure ⟨plainId_quiet F.plain_all_loop _, all_loop (X := X) (XG := XG) (σw := σw) (Qd := Q (.bl true)) (Qf := Q (.bl false)) eP eW hr.hd (by have := hr.dp; omega) epn (fun s' σ' H' I' q => ?_) (fun s' σ' H' I' q => ?_) n s5 ha hG⟩
  · exact ⟨.bl true, H', back s' σ' H' I', rfl, q⟩
  · exact ⟨.bl false, H', back s' σ' H' I', rfl, q⟩
theorem pe_anyG {c P : Addr} {elt tg iter : Expr} {ifs : List Expr} {p pos gpos : Pos} {scope : Scope} {own : List (Str × Nat)} {wi : TI} {g : TG} {tt : TT} {te : TE} {k : Nat}
    (hr : Room (k + 1) X.A) (hgl : Gl X "any") (hm : X.mg "any" = none) (hc : X.calm = true) (hN : X.N.Nodup) (TB : TabB X.base X.mg c P) (hcode : X.env.code = .ref c) (S : GSc X.N X.env.scope scope own) (hi : PI X tg iter wi)
    (hg : ∀ (A' : Around), Room k A' → ∀ (s : Shared) (H : Hp) (cl : List (Str × Addr)) (C : Addr) (code : Value) (fp : List Addr), PG (gcx X A' s H (genEnv scope cl C code builtinsNs X.env) fp) tg g)
    (ht : ∀ (A' : Around), Room k A' → ∀ (s : Shared) (H : Hp) (cl : List (Str × Addr)) (C : Addr) (code : Value) (fp : List Addr), PTs (gcx X A' s H (genEnv scope cl C code builtinsNs X.env) fp) ifs tt)
    (he : ∀ (A' : Around), Room k A' → ∀ (s : Shared) (H : Hp) (cl : List (Str × Addr)) (C : Addr) (code : Value) (fp : List Addr), PE (gcx X A' s H (genEnv scope cl C code builtinsNs X.env) fp) elt te)
    (hs : ∀ v, genFold iter X.env v = pure v := by intro _; rfl)
    (hst : starEach [.GeneratorExp elt [⟨tg, iter, ifs, 0⟩] scope gpos] X.env = (false, eval (.GeneratorExp elt [⟨tg, iter, ifs, 0⟩] scope gpos) X.env) :: starEach [] X.env := by rfl)
    (hb : bootBuiltins "any" = some (.builtin "any") := by decide +kernel) :
    PE X (.Call (.Name "any" p) [.GeneratorExp elt [⟨tg, iter, ifs, 0⟩] scope gpos] [] pos) (tAnyG P wi g tt te (own.map (·.2))) := by
  refine ⟨fun pins s σ H Q I h => ?_⟩
  refine wpAny_Call_Name_kw (ld_blt I hgl hm hb ?_)
  refine PyProof.Rows.callWith_builtin1 ?_ hst (by rfl)
  rw [hst]
  show wpAny _ _ (spliced ((false, eval (.GeneratorExp elt [⟨tg, iter, ifs, 0⟩] scope gpos) X.env) :: backTo pos (starEach [] X.env))) _ _ s
  refine Calls.spliced_cons (gen_make hr hc hN TB hcode S hi hg ht he stpAny_mono hs I h fun XG a oa gn n σw s5 eP eW epn ha hG back => ?_)
  refine Calls.spliced_nil ?_
  refine call_function_tree F.kind_any F.plain_any F.entry_any (F.args_any1 _) ?_
  unfold Builtin.«any»
  refine wpAny_bind (m := oneArg "any" _) (wpAny_pure ?_)
  refine wpAny_bind (wpAny_pyIter_gen hG.1 ?_)
  refine wpAny_pure ⟨plainId_quiet F.plain_any_loop _, any_loop (X := X) (XG := XG) (σw := σw) (Qd := Q (.bl false)) (Qf := Q (.bl true)) eP eW hr.hd (by have := hr.dp; omega) epn (fun s' σ' H' I' q => ?_) (fun s' σ' H' I' q => ?_) n s5 ha hG⟩
  · exact ⟨.bl false, H', back s' σ' H' I', rfl, q⟩
  · exact ⟨.bl true, H', back s' σ' H' I', rfl, q⟩
end
end GAl

set_option Elab.async false
set_option linter.all false
set_option maxRecDepth 100000
set_option maxHeartbeats 2000000
namespace HK
open PySem PySem.Spec PyProof.Rows L2 GAl GxR
/-! ### defs whose code object is known -/
structure FunC (K : PySem.W.Frag) (x qual : Str) (st : Stmt) (f : Addr) (fd : FuncData) (c : Addr) : Prop where
  ex : ∃ (oc : Value) (od : Option Addr) (kV doc pm : Value) (an : Option Addr) (ct : Value) (osl : Array (Option Value)),
    fd = PySem.W.fnOf x qual (defArgs st) (defBody st) (defScope st) .none kV doc pm an (.ref c) ct ∧ K.lookup f = some ⟨oc, od, .func fd, osl⟩ ∧ PySem.W.codeIn K (.ref c) qual = true
  kp : PySem.W.keepIn K (.ref f) = true
section
variable {P : Program} {w : World} {K : PySem.W.Frag} {mg : Str → Option Value} {base : Heap}
theorem FunC.toFun {x qual : Str} {st : Stmt} {f : Addr} {fd : FuncData} {c : Addr} (F : FunC K x qual st f fd c) : Fun K x qual st f fd := by
  obtain ⟨⟨oc, od, kV, doc, pm, an, ct, osl, e, l, h⟩, k⟩ := F
  exact ⟨⟨oc, od, kV, doc, pm, an, _, ct, osl, e, l, h⟩, k⟩
theorem FunC.ok {x qual : Str} {st : Stmt} {f : Addr} {fd : FuncData} {c : Addr} {N ps : List Str} {k : Nat} {sp : Sp} (F : FunC K x qual st f fd c) (S : FnScope N ps (defScope st)) (len : ∀ vs H Q E, sp vs H Q E → vs.length = ps.length)
    (hbody : ∀ (A : Around) (outer : List Env) (s : Shared) (H : Hp) (vs : List V) (Q : VK) (E : XK), Room k (A.deeper (envOfC qual (defScope st) s.heap.objs.size f (.ref c))) → sp vs H Q E →
      ∃ t, PSs (cxOf CX0 P w K mg base N qual (defScope st) f (.ref c) A outer s H E).nox (defBody st) t ∧ t { nx := fun _ H' => Q .non H', rt := Q } (start N vs) H) : FnOk P w K mg base CX0 (k + 1) f fd ps sp := by
  obtain ⟨oc, od, kV, doc, pm, an, ct, osl, rfl, lk, hcd⟩ := F.ex
  refine fn_of lk hcd S len fun A outer s H vs Q E hr hsp => ?_
  obtain ⟨t, h, q⟩ := hbody A outer s H vs Q E hr hsp
  exact ⟨t, h.nox, q⟩
theorem func_mk {x qual : Str} {st : Stmt} {f c : Addr} {oc : Value} {od an : Option Addr} {osl : Array (Option Value)} {kV doc pm ct : Value} (l : K.lookup f = some ⟨oc, od, .func (PySem.W.fnOf x qual (defArgs st) (defBody st) (defScope st) .none kV doc pm an (.ref c) ct), osl⟩)
    (h : PySem.W.codeIn K (.ref c) qual = true) (k : PySem.W.keepIn K (.ref f) = true) : FunC K x qual st f (PySem.W.fnOf x qual (defArgs st) (defBody st) (defScope st) .none kV doc pm an (.ref c) ct) c := ⟨⟨oc, od, kV, doc, pm, an, ct, osl, rfl, l, h⟩, k⟩
end

/-! ### what stays: everything but the list at t; tables stay tables -/
structure Kt (t : Addr) (H H' : Hp) : Prop where
  tup : ∀ b xs, H b = some (.tup xs) → H' b = some (.tup xs)
  frz : ∀ b o u, H b = some (.frz o u) → H' b = some (.frz o u)
  oth : ∀ b o, H b = some o → b ≠ t → (∀ ps, o ≠ .tbl ps) → H' b = some o
  tab : ∀ P, TabG H P → TabG H' P
  dom : ∀ b, H' b = none → H b = none
/-- everything; tables stay tables -/
structure K0 (H H' : Hp) : Prop where
  oth : ∀ b o, H b = some o → (∀ ps, o ≠ .tbl ps) → H' b = some o
  tab : ∀ P, TabG H P → TabG H' P
  dom : ∀ b, H' b = none → H b = none
theorem upd_none {H : Hp} {p b : Addr} {o : HO} (h : upd H p o b = none) : H b = none := by
  by_cases e : b = p
  · rw [e, upd_same] at h; cases h
  · rw [upd_ne e] at h; exact h
theorem K0.refl (H : Hp) : K0 H H := ⟨fun _ _ h _ => h, fun _ h => h, fun _ h => h⟩
theorem K0.trans {H H1 H2 : Hp} (a : K0 H H1) (b : K0 H1 H2) : K0 H H2 := ⟨fun x o h n => b.oth x o (a.oth x o h n) n, fun P h => b.tab P (a.tab P h), fun x h => a.dom x (b.dom x h)⟩
theorem K0.kt {t : Addr} {H H' : Hp} (a : K0 H H') : Kt t H H' := ⟨fun b xs h => a.oth b _ h (fun _ z => by cases z), fun b o u h => a.oth b _ h (fun _ z => by cases z), fun b o h _ n => a.oth b o h n, a.tab, a.dom⟩
theorem Kt.refl (t : Addr) (H : Hp) : Kt t H H := (K0.refl H).kt
theorem Kt.trans {t : Addr} {H H1 H2 : Hp} (a : Kt t H H1) (b : Kt t H1 H2) : Kt t H H2 := ⟨fun x xs h => b.tup x xs (a.tup x xs h), fun x o u h => b.frz x o u (a.frz x o u h), fun x o h n m => b.oth x o (a.oth x o h n m) n m, fun P h => b.tab P (a.tab P h), fun x h => a.dom x (b.dom x h)⟩
theorem tabG_upd {H : Hp} {p : Addr} {o : HO} (n : H p = none) {P : Addr} (h : TabG H P) : TabG (upd H p o) P := by
  obtain ⟨ps, e, ht⟩ := h
  exact ⟨ps, by rw [upd_ne (ne_of_none e n)]; exact e, ht⟩
theorem K0.new {H : Hp} {p : Addr} {o : HO} (n : H p = none) : K0 H (upd H p o) := ⟨fun b u e _ => by rw [upd_ne (ne_of_none e n)]; exact e, fun P h => tabG_upd n h, fun _ h => upd_none h⟩
theorem K0.tbd {P : Addr} {H H' : Hp} (h0 : TabG H P) (h : Tabbed P H H') : K0 H H' := ⟨fun b o e n => by
  have hb : b ≠ P := fun z => by
    obtain ⟨ps, e', _⟩ := h0
    rw [z, e'] at e
    exact n ps (Option.some.inj e).symm
  rw [h.2 b hb]; exact e, fun Q hq => by
  by_cases hQ : Q = P
  · rw [hQ]; exact h.1
  · obtain ⟨ps, e, ht⟩ := hq
    exact ⟨ps, by rw [h.2 Q hQ]; exact e, ht⟩, fun b e => by
  by_cases hb : b = P
  · obtain ⟨ps, e', _⟩ := h.1
    rw [hb, e'] at e; cases e
  · rw [h.2 b hb] at e; exact e⟩
/-- the list at t is written -/
theorem Kt.set {t : Addr} {H : Hp} {xs ys : List V} (h : H t = some (.lst xs)) : Kt t H (upd H t (.lst ys)) := ⟨fun b zs e => by
  rw [upd_ne (ne_of e h (fun z => by cases z))]; exact e, fun b o u e => by
  rw [upd_ne (ne_of e h (fun z => by cases z))]; exact e, fun b o e n _ => by rw [upd_ne n]; exact e, fun P hP => by
  obtain ⟨ps, e, ht⟩ := hP
  exact ⟨ps, by rw [upd_ne (ne_of e h (fun z => by cases z))]; exact e, ht⟩, fun _ e => upd_none e⟩
theorem Kt.sqT {K : PySem.W.Frag} {t a : Addr} {H H' : Hp} {xs : List V} (k : Kt t H H') (h : SqT K H a xs) : SqT K H' a xs := by
  rcases h with (h | ⟨o, h⟩) | h
  · exact .inl (.inl (k.tup _ _ h))
  · exact .inl (.inr ⟨o, k.frz _ _ _ h⟩)
  · exact .inr h
theorem K0.sqT {K : PySem.W.Frag} {a : Addr} {H H' : Hp} {xs : List V} (k : K0 H H') (h : SqT K H a xs) : SqT K H' a xs := (k.kt (t := 0)).sqT h
theorem K0.sqL {K : PySem.W.Frag} {a : Addr} {H H' : Hp} {xs : List V} (k : K0 H H') (h : SqL K H a xs) : SqL K H' a xs := by
  rcases h with (h | ⟨o, h⟩) | h
  · exact .inl (.inl (k.oth _ _ h (fun _ z => by cases z)))
  · exact .inl (.inr ⟨o, k.oth _ _ h (fun _ z => by cases z)⟩)
  · exact .inr h
theorem Kt.sqL {K : PySem.W.Frag} {t a : Addr} {H H' : Hp} {xs : List V} (k : Kt t H H') (n : a ≠ t) (h : SqL K H a xs) : SqL K H' a xs := by
  rcases h with (h | ⟨o, h⟩) | h
  · exact .inl (.inl (k.oth _ _ h n (fun _ z => by cases z)))
  · exact .inl (.inr ⟨o, k.frz _ _ _ h⟩)
  · exact .inr h
mutual
theorem K0.dp {K : PySem.W.Frag} {H H' : Hp} (k : K0 H H') : ∀ (d : PyData) (v : V), Dp K H v d → Dp K H' v d
  | .none, _, h => by cases h; exact .non
  | .bool _, _, h => by cases h; exact .bl _
  | .int _, _, h => by cases h; exact .int _
  | .str _, _, h => by cases h; exact .str _
  | .list ds, _, h => by cases h with | lst a b => exact .lst (k.sqL a) (K0.dpAll k ds _ b)
  | .tuple ds, _, h => by cases h with | tup a b => exact .tup (k.sqT a) (K0.dpAll k ds _ b)
  | .dict _, _, h => by cases h
theorem K0.dpAll {K : PySem.W.Frag} {H H' : Hp} (k : K0 H H') : ∀ (ds : List PyData) (vs : List V), DpAll K H vs ds → DpAll K H' vs ds
  | [], _, h => by cases h; exact .nil
  | d :: ds, _, h => by cases h with | cons a b => exact .cons (K0.dp k d _ a) (K0.dpAll k ds _ b)
end

/-! ### kinds -/
def tys : List String := ["NoneType", "bool", "int", "str", "list", "tuple", "dict"]
theorem tys_int {T : String} (h : T ∈ tys) : kitB T "int" = some (T == "int" || T == "bool") := by
  simp only [tys, List.mem_cons, List.not_mem_nil, or_false] at h
  rcases h with rfl | rfl | rfl | rfl | rfl | rfl | rfl <;> decide +kernel
theorem tys_bool {T : String} (h : T ∈ tys) : kitB T "bool" = some (T == "bool") := by
  simp only [tys, List.mem_cons, List.not_mem_nil, or_false] at h
  rcases h with rfl | rfl | rfl | rfl | rfl | rfl | rfl <;> decide +kernel
theorem tys_tuple {T : String} (h : T ∈ tys) : kitB T "tuple" = some (T == "tuple") := by
  simp only [tys, List.mem_cons, List.not_mem_nil, or_false] at h
  rcases h with rfl | rfl | rfl | rfl | rfl | rfl | rfl <;> decide +kernel
theorem tys_dict {T : String} (h : T ∈ tys) : kitB T "dict" = some (T == "dict") := by
  simp only [tys, List.mem_cons, List.not_mem_nil, or_false] at h
  rcases h with rfl | rfl | rfl | rfl | rfl | rfl | rfl <;> decide +kernel
theorem sqT_ty {K : PySem.W.Frag} {H : Hp} {a : Addr} {xs : List V} (h : SqT K H a xs) : TyX K H (.ref a) (.type "tuple") := by
  rcases h with (h | ⟨o, h⟩) | ⟨o, _, _, ho, h, _⟩
  · exact .base (.tup h)
  · exact .fTuple h
  · exact .kTuple ho h
theorem sqL_ty {K : PySem.W.Frag} {H : Hp} {a : Addr} {xs : List V} (h : SqL K H a xs) : TyX K H (.ref a) (.type "list") := by
  rcases h with (h | ⟨o, h⟩) | ⟨o, _, _, ho, h, _⟩
  · exact .base (.lst h)
  · exact .base (.frz h)
  · exact .kList ho h
def tyD : PyData → String
  | .none => "NoneType" | .bool _ => "bool" | .int _ => "int" | .str _ => "str" | .list _ => "list" | .tuple _ => "tuple" | .dict _ => "dict"
theorem tyD_mem (d : PyData) : tyD d ∈ tys := by cases d <;> simp [tyD, tys]
theorem dp_ty {K : PySem.W.Frag} {H : Hp} {v : V} {d : PyData} (h : Dp K H v d) : TyX K H v (.type (tyD d)) := by
  cases h with
  | non => exact .base .non
  | bl b => exact .base (.bl b)
  | int i => exact .base (.int i)
  | str x => exact .base (.str x)
  | lst a _ => exact sqL_ty a
  | tup a _ => exact sqT_ty a
def isWholeD : PyData → Bool
  | .int _ => true
  | _ => false
def withinD (d : PyData) (lo hi : Int) : Bool := match d with
  | .int i => decide (lo ≤ i) && decide (i ≤ hi)
  | _ => false
theorem whole_ty (d : PyData) : ((tyD d == "int" || tyD d == "bool") && !(tyD d == "bool")) = isWholeD d := by cases d <;> simp [tyD, isWholeD]
theorem dp_int {K : PySem.W.Frag} {H : Hp} {x : V} {d : PyData} (h : Dp K H x d) (e : isWholeD d = true) : ∃ i, x = .int i ∧ d = .int i := by
  cases h <;> first | exact ⟨_, rfl, rfl⟩ | cases e
end HK

set_option Elab.async false
set_option linter.all false
set_option maxRecDepth 100000
set_option maxHeartbeats 2000000
namespace HK
open PySem PySem.Spec PyProof.Rows L2 GAl GxR
def topS (i : Nat) : Stmt := PySem.Challenge.pw_hearkenway_k30_next_roots_and_send_nets.main.body.getD i (.Pass ⟨0, 0, 0, 0⟩)
abbrev sWhole : Stmt := topS 6
abbrev sWithin : Stmt := topS 7
abbrev sRises : Stmt := topS 8
abbrev sIsNet : Stmt := topS 14
abbrev sIsRoad : Stmt := topS 15
theorem scWhole : FnScope ["thing"] ["thing"] (defScope sWhole) := ⟨rfl, rfl, rfl, by decide +kernel, rfl, by decide +kernel, by decide +kernel⟩
theorem scWithin : FnScope ["thing", "least", "greatest"] ["thing", "least", "greatest"] (defScope sWithin) := ⟨rfl, rfl, rfl, by decide +kernel, rfl, by decide +kernel, by decide +kernel⟩
theorem scIsRoad : FnScope ["many", "thing", "start", "end", "cost", "late"] ["many", "thing"] (defScope sIsRoad) := ⟨rfl, rfl, rfl, by decide +kernel, rfl, by decide +kernel, by decide +kernel⟩

theorem qeq {Q : VK} {a b : Bool} {H : Hp} (q : Q (.bl a) H) (e : a = b) : Q (.bl b) H := e ▸ q
section
variable {P : Program} {w : World} {K : PySem.W.Frag} {mg : Str → Option Value} {base : Heap}
def spWhole (K : PySem.W.Frag) : Sp := fun vs H Q _ => ∃ x d, vs = [x] ∧ Dp K H x d ∧ Q (.bl (isWholeD d)) H
theorem ok_whole {f : Addr} {fd : FuncData} (F : Fun K "is_whole" "is_whole" sWhole f fd) (mi : mg "isinstance" = none) (mI : mg "int" = none) (mB : mg "bool" = none) : FnOk P w K mg base CX0 1 f fd ["thing"] (spWhole K) := by
  refine F.ok scWhole (fun vs H Q E h => ?_) (fun cdv A outer s H vs Q E hr h => ?_)
  · obtain ⟨x, d, rfl, _⟩ := h
    rfl
  · obtain ⟨x, d, rfl, hd, q⟩ := h
    refine ⟨_, pss_one (ps_ret (pe_and (pe_callB call_isi (by rfl) mi boot_isinstance (pa_cons (pv 0) (pa_cons (pe_bltn (v := .ty "int") (by rfl) mI (by decide +kernel) rfl) pa_nil)))
      (pe_one (pe_not (pe_callB call_isi (by rfl) mi boot_isinstance (pa_cons (pv 0) (pa_cons (pe_bltn (v := .ty "bool") (by rfl) mB (by decide +kernel) rfl) pa_nil))))))), ?_⟩
    refine ⟨x, rfl, x, .ty "int", _, _, _, rfl, .ty "int", dp_ty hd, kit_ty (tys_int (tyD_mem d)), _, rfl, ite2 (fun e => ?_) (fun e => ?_)⟩
    · refine ⟨x, rfl, x, .ty "bool", _, _, _, rfl, .ty "bool", dp_ty hd, kit_ty (tys_bool (tyD_mem d)), _, rfl, ?_⟩
      exact qeq q (by rw [← whole_ty d, e, Bool.true_and])
    · have e' : (tyD d == "int" || tyD d == "bool") = false := by simpa using e
      exact qeq q (by rw [← whole_ty d, e', Bool.false_and])
def spWithin (K : PySem.W.Frag) : Sp := fun vs H Q _ => ∃ x d lo hi, vs = [x, .int lo, .int hi] ∧ Dp K H x d ∧ Q (.bl (withinD d lo hi)) H
theorem ok_within {f fW : Addr} {fd fdW : FuncData} (F : Fun K "is_within" "is_within" sWithin f fd) (FW : Fun K "is_whole" "is_whole" sWhole fW fdW) (bW : Binds K fdW ["thing"] []) (gW : mg "is_whole" = some (.ref fW))
    (GW : FnOk P w K mg base CX0 1 fW fdW ["thing"] (spWhole K)) : FnOk P w K mg base CX0 2 f fd ["thing", "least", "greatest"] (spWithin K) := by
  refine F.ok scWithin (fun vs H Q E h => ?_) (fun cdv A outer s H vs Q E hr h => ?_)
  · obtain ⟨x, d, lo, hi, rfl, _⟩ := h
    rfl
  · obtain ⟨x, d, lo, hi, rfl, hd, q⟩ := h
    refine ⟨_, pss_one (ps_ret (pe_and (pe_call GW hr (by rfl) gW FW.kp bW .nil pass0 (pa_cons (pv 0) pa_nil)) (pe_one (pe_chain op_le op_le (pv 1) (pv 0) (pv 2))))), ?_⟩
    refine ⟨x, rfl, x, d, rfl, hd, _, rfl, ite2 (fun e => ?_) (fun e => ?_)⟩
    · obtain ⟨i, rfl, rfl⟩ := dp_int hd e
      refine ⟨_, rfl, _, rfl, _, _, rfl, rfl, _, rfl, ite2 (fun e1 => ?_) (fun e1 => ?_)⟩
      · refine ⟨_, rfl, _, _, rfl, rfl, ?_⟩
        exact qeq q (by show (decide (lo ≤ i) && decide (i ≤ hi)) = _; rw [e1, Bool.true_and])
      · exact qeq q (by show (decide (lo ≤ i) && decide (i ≤ hi)) = _; simp only [Bool.not_eq_true] at e1; rw [e1, Bool.false_and])
    · exact qeq q (by cases d <;> first | rfl | exact absurd rfl e)
end
end HK

set_option Elab.async false
set_option linter.all false
set_option maxRecDepth 100000
set_option maxHeartbeats 2000000
namespace HK
open PySem PySem.Spec PyProof.Rows L2 GAl GxR
def neD : PyData → PyData → Bool
  | .int a, .int b => !decide (a = b)
  | _, _ => false
def isRoadD (n : Int) : PyData → Bool
  | .tuple [s, e, c, l] => (withinD s 0 (n - 1) && withinD e 0 (n - 1) && neD s e) && (withinD c 0 1000 && withinD l 1 1000)
  | _ => false
theorem dpAll_len {K : PySem.W.Frag} {H : Hp} : ∀ {xs : List V} {ds : List PyData}, DpAll K H xs ds → xs.length = ds.length
  | _, _, .nil => rfl
  | _, _, .cons _ t => by rw [List.length_cons, List.length_cons, dpAll_len t]
theorem within_int {d : PyData} {lo hi : Int} (h : withinD d lo hi = true) : ∃ i, d = .int i ∧ lo ≤ i ∧ i ≤ hi := by
  cases d <;> simp only [withinD] at h <;> first | cases h | skip
  rename_i i
  simp only [Bool.and_eq_true, decide_eq_true_eq] at h
  exact ⟨i, rfl, h.1, h.2⟩
theorem dp_int' {K : PySem.W.Frag} {H : Hp} {x : V} {i : Int} (h : Dp K H x (.int i)) : x = .int i := by cases h; rfl
theorem dp_tup {K : PySem.W.Frag} {H : Hp} {x : V} {ds : List PyData} (h : Dp K H x (.tuple ds)) : ∃ a xs, x = .ref a ∧ SqT K H a xs ∧ DpAll K H xs ds := by cases h with | tup a b => exact ⟨_, _, rfl, a, b⟩

section
variable {P : Program} {w : World} {K : PySem.W.Frag} {mg : Str → Option Value} {base : Heap}
def spRoad (K : PySem.W.Frag) : Sp := fun vs H Q _ => ∃ (n : Int) (x : V) (d : PyData), vs = [.int n, x] ∧ Dp K H x d ∧ Q (.bl (isRoadD n d)) H
theorem ok_road {f fW : Addr} {fd fdW : FuncData} {t1 t2 t3 : Tok} (F : Fun K "is_road" "is_road" sIsRoad f fd) (FW : Fun K "is_within" "is_within" sWithin fW fdW) (bW : Binds K fdW ["thing", "least", "greatest"] []) (gW : mg "is_within" = some (.ref fW))
    (GW : FnOk P w K mg base CX0 2 fW fdW ["thing", "least", "greatest"] (spWithin K)) (mi : mg "isinstance" = none) (mT : mg "tuple" = none) (ml : mg "len" = none)
    (g1 : mg "MOST_PRICE" = some (.int 1000 t1)) (g2 : mg "LEAST_LATE" = some (.int 1 t2)) (g3 : mg "MOST_LATE" = some (.int 1000 t3)) : FnOk P w K mg base CX0 3 f fd ["many", "thing"] (spRoad K) := by
  refine F.ok scIsRoad (fun vs H Q E h => ?_) (fun cdv A outer s H vs Q E hr h => ?_)
  · obtain ⟨n, x, d, rfl, _⟩ := h
    rfl
  · obtain ⟨n, x, d, rfl, hd, q⟩ := h
    refine ⟨_, pss_cons (ps_if (pt_not (PW.pt (pw_and (pt_val (pe_callB call_isi (by rfl) mi boot_isinstance (pa_cons (pv 1) (pa_cons (pe_bltn (v := .ty "tuple") (by rfl) mT (by decide +kernel) rfl) pa_nil))))
        (pw_and1 (pt_cmpR op_eq (pe_callB call_len_seq (by rfl) ml PySem.boot_len (pa_cons (pv 1) pa_nil)) pe_int (nomark _)))))) (pss_one (ps_ret pe_bl)) pss_nil)
      (pss_cons (ps_asg (pv 1) (pg_tup rfl (pgs_cons (pg_name (i := 2) scIsRoad.nd rfl (.inl rfl)) (pgs_cons (pg_name (i := 3) scIsRoad.nd rfl (.inl rfl)) (pgs_cons (pg_name (i := 4) scIsRoad.nd rfl (.inl rfl)) (pgs_cons (pg_name (i := 5) scIsRoad.nd rfl (.inl rfl)) pgs_nil))))))
      (pss_cons (ps_if (pt_not (PW.pt (pw_and (pt_val (pe_call GW hr (by rfl) gW FW.kp bW .nil pass0 (pa_cons (pv 2) (pa_cons pe_int (pa_cons (pe_op op_sub (pv 0) pe_int) pa_nil)))))
        (pw_and (pt_val (pe_call GW hr (by rfl) gW FW.kp bW .nil pass0 (pa_cons (pv 3) (pa_cons pe_int (pa_cons (pe_op op_sub (pv 0) pe_int) pa_nil)))))
          (pw_and1 (pt_cmpR op_ne (pv 2) (pv 3) (nomark _))))))) (pss_one (ps_ret pe_bl)) pss_nil)
      (pss_one (ps_ret (pe_and (pe_call GW hr (by rfl) gW FW.kp bW .nil pass0 (pa_cons (pv 4) (pa_cons pe_int (pa_cons (pe_glob (v := .int 1000) (by rfl) g1 ⟨_, rfl⟩) pa_nil))))
        (pe_one (pe_call GW hr (by rfl) gW FW.kp bW .nil pass0 (pa_cons (pv 5) (pa_cons (pe_glob (v := .int 1) (by rfl) g2 ⟨_, rfl⟩) (pa_cons (pe_glob (v := .int 1000) (by rfl) g3 ⟨_, rfl⟩) pa_nil)))))))))), ?_⟩
    -- isinstance(thing, tuple) and len(thing) == 4
    refine ⟨x, rfl, x, .ty "tuple", _, _, _, rfl, .ty "tuple", dp_ty hd, kit_ty (tys_tuple (tyD_mem d)), _, rfl, ite2 (fun e => ?_) (fun e => ?_)⟩
    · obtain ⟨ds, rfl⟩ : ∃ ds, d = .tuple ds := by cases d <;> first | exact ⟨_, rfl⟩ | (simp [tyD] at e)
      obtain ⟨a, xs, rfl, hq, hall⟩ := dp_tup hd
      refine ⟨.ref a, rfl, a, xs, rfl, .inr hq, rfl, _, rfl, ?_⟩
      by_cases h4 : xs.length = 4
      · rw [decide_eq_true (show (V.int (xs.length : Int)) = .int 4 by rw [h4]; rfl)]
        refine iteF ?_
        have h4' : ds.length = 4 := by rw [← dpAll_len hall]; exact h4
        obtain ⟨s1, e1, c1, l1, rfl⟩ : ∃ s1 e1 c1 l1, ds = [s1, e1, c1, l1] := by
          match ds, h4' with
          | [a, b, c, d], _ => exact ⟨a, b, c, d, rfl⟩
        cases hall with
        | cons d1 hall => cases hall with
          | cons d2 hall => cases hall with
            | cons d3 hall => cases hall with
              | cons d4 hall =>
                cases hall
                rename_i v1 v2 v3 v4
                refine ⟨.ref a, rfl, a, _, rfl, hq, rfl, v1, _, rfl, v2, _, rfl, v3, _, rfl, v4, _, rfl, rfl, ?_⟩
                refine ⟨v1, rfl, .int n, rfl, n, 1, rfl, rfl, v1, s1, 0, n - 1, rfl, d1, _, rfl, ite2 (fun b1 => ?_) (fun b1 => ?_)⟩
                · refine ⟨v2, rfl, .int n, rfl, n, 1, rfl, rfl, v2, e1, 0, n - 1, rfl, d2, _, rfl, ite2 (fun b2 => ?_) (fun b2 => ?_)⟩
                  · obtain ⟨i, rfl, _⟩ := within_int b1
                    obtain ⟨j, rfl, _⟩ := within_int b2
                    obtain rfl := dp_int' d1
                    obtain rfl := dp_int' d2
                    refine ⟨_, rfl, _, rfl, rfl, _, rfl, ?_⟩
                    have hne : (!decide (V.int i = V.int j)) = neD (.int i) (.int j) := by
                      show (!decide (V.int i = V.int j)) = !decide (i = j)
                      congr 1
                      exact decide_eq_decide.mpr ⟨fun z => V.int.inj z, fun z => by rw [z]⟩
                    rw [hne]
                    cases b3 : neD (.int i) (.int j) with
                    | true =>
                      refine iteF ?_
                      refine ⟨v3, rfl, v3, c1, 0, 1000, rfl, d3, _, rfl, ite2 (fun b4 => ?_) (fun b4 => ?_)⟩
                      · refine ⟨v4, rfl, v4, l1, 1, 1000, rfl, d4, ?_⟩
                        exact qeq q (by show ((_ && _ && _) && (_ && _)) = _; rw [b1, b2, b3, b4]; rfl)
                      · simp only [Bool.not_eq_true] at b4
                        exact qeq q (by show ((_ && _ && _) && (_ && _)) = _; rw [b4, Bool.false_and, Bool.and_false])
                    | false =>
                      refine iteT ?_
                      exact qeq q (by show ((_ && _ && _) && (_ && _)) = _; rw [b3, Bool.and_false, Bool.false_and])
                  · simp only [Bool.not_eq_true] at b2
                    refine iteT ?_
                    exact qeq q (by show ((_ && _ && _) && (_ && _)) = _; rw [b2, Bool.and_false, Bool.false_and, Bool.false_and])
                · simp only [Bool.not_eq_true] at b1
                  refine iteT ?_
                  exact qeq q (by show ((_ && _ && _) && (_ && _)) = _; rw [b1, Bool.false_and, Bool.false_and, Bool.false_and])
      · rw [decide_eq_false (show ¬ (V.int (xs.length : Int)) = .int 4 from fun z => h4 (by have := V.int.inj z; omega))]
        refine iteT ?_
        refine qeq q ?_
        have h4' : ds.length ≠ 4 := by rw [← dpAll_len hall]; exact h4
        unfold isRoadD
        split
        · rename_i heq
          cases heq
          exact absurd rfl h4'
        · rfl
    · refine iteT ?_
      refine qeq q ?_
      cases d <;> first | rfl | (exact absurd rfl e)
end
end HK

set_option Elab.async false
set_option linter.all false
set_option maxRecDepth 100000
set_option maxHeartbeats 2000000
namespace HK
open PySem PySem.Spec PyProof.Rows L2 GAl GxR
theorem tyes {σ : L2.St} {H : Hp} {A B : Hp → Prop} (h : A H) : tYes σ H (fun b H3 => if b = true then A H3 else B H3) := by
  show (fun (b : Bool) (H3 : Hp) => if b = true then A H3 else B H3) true H
  simp only [if_true]
  exact h
def risesB (l : List (List Int)) : Bool := (List.range (l.length - 1)).all fun i => HT.lexLt (l.getD i []) (l.getD (i + 1) [])
theorem risesB_yes {l : List (List Int)} (h : ∀ j, j < l.length - 1 → HT.lexLt (l.getD j []) (l.getD (j + 1) []) = true) : risesB l = true := by
  unfold risesB
  rw [List.all_eq_true]
  exact fun j hj => h j (List.mem_range.mp hj)
theorem risesB_no {l : List (List Int)} {j : Nat} (hj : j < l.length - 1) (h : HT.lexLt (l.getD j []) (l.getD (j + 1) []) = false) : risesB l = false := by
  unfold risesB
  rw [Bool.eq_false_iff]
  intro z
  have := List.all_eq_true.mp z j (List.mem_range.mpr hj)
  rw [h] at this
  cases this
theorem cut1 (xs : List V) : cutV xs (some 1) none = xs.drop 1 := by
  unfold cutV
  rw [show HT.sIx xs.length 0 (some 1) = min 1 xs.length from HT.sIx_nat xs.length 0 1, HT.sIx_none]
  cases xs with
  | nil => rfl
  | cons x r =>
    rw [show min 1 (x :: r).length = 1 by
      rw [List.length_cons]
      omega]
    show (List.take ((x :: r).length - 1) r) = r
    rw [List.length_cons, Nat.add_sub_cancel]
    exact List.take_length
theorem scRises : FnScope ["row", "low", "high"] ["row"] (defScope sRises) := ⟨rfl, rfl, rfl, by decide +kernel, rfl, by decide +kernel, by decide +kernel⟩
section
variable {P : Program} {w : World} {K : PySem.W.Frag} {mg : Str → Option Value} {base : Heap}
/-- the list at a holds tuples of ints -/
def TupsAt (K : PySem.W.Frag) (H : Hp) (xs : List V) (l : List (List Int)) : Prop := xs.length = l.length ∧ ∀ (i : Nat) (x : V), xs[i]? = some x → ∃ t, x = .ref t ∧ SqT K H t ((l.getD i []).map V.int)
theorem TupsAt.k0 {H H' : Hp} {xs : List V} {l : List (List Int)} (h : TupsAt K H xs l) (k : K0 H H') : TupsAt K H' xs l := ⟨h.1, fun i x e => by
  obtain ⟨t, e, s⟩ := h.2 i x e
  exact ⟨t, e, k.sqT s⟩⟩
def spRises (K : PySem.W.Frag) (Pr : Addr) : Sp := fun vs H Q _ => ∃ (a : Addr) (xs : List V) (l : List (List Int)), vs = [.ref a] ∧ SqL K H a xs ∧ TupsAt K H xs l ∧ TabG H Pr ∧ ∀ H', K0 H H' → Q (.bl (risesB l)) H'
theorem ok_rises {f c Pr : Addr} {fd : FuncData} (F : FunC K "rises" "rises" sRises f fd c) (TB : TabB base mg c Pr) (mz : mg "zip" = none) (ma : mg "all" = none) : FnOk P w K mg base CX0 2 f fd ["row"] (spRises K Pr) := by
  refine F.ok scRises (fun vs H Q E h => ?_) (fun A outer s H vs Q E hr h => ?_)
  · obtain ⟨a, xs, l, rfl, _⟩ := h
    rfl
  · obtain ⟨a, xs, l, rfl, hS, hT, hP, q⟩ := h
    refine ⟨_, pss_one (ps_ret (pe_allG (own := [("low", 1), ("high", 2)]) (k := 0) (g := gTup K 2 (gCons (gName 1) (gCons (gName 2) gNil))) (tt := tYes) (te := tOp (rLtT K) (tVar 1) (tVar 2)) hr (by rfl) ma rfl scRises.nd TB rfl (gsc_by (N := ["row", "low", "high"]) (sc := defScope sRises) (by decide +kernel))
      (pi_zip (by rfl) mz (pa_cons (pv 0) (pa_cons (pe_slice sl_list (pv 0) (po_some pe_int) po_none) pa_nil)))
      (fun A' hr' _ _ _ _ _ _ => pg_tup rfl (pgs_cons (pg_name (i := 1) scRises.nd rfl (.inl rfl)) (pgs_cons (pg_name (i := 2) scRises.nd rfl (.inl rfl)) pgs_nil)))
      (fun A' hr' _ _ _ _ _ _ => pts_nil)
      (fun A' hr' _ _ _ _ _ _ => pe_cmpR (op_ltT hr'.units0) (pv 1) (pv 2) (nomark _)))), ?_⟩
    refine ⟨.ref a, rfl, .ref a, rfl, 1, rfl, a, xs, rfl, hS, fun c nc => ?_⟩
    have k1 : K0 H (upd H c (.lst (cutV xs (some 1) none))) := K0.new nc
    refine ⟨a, c, xs, _, rfl, k1.sqL hS, .inl (.inl upd_same), k1.tab _ hP, fun H2 hT2 => ?_⟩
    have k2 : K0 H H2 := k1.trans (K0.tbd (k1.tab _ hP) hT2)
    have hc2 : H2 c = some (.lst (xs.drop 1)) := by
      have := (K0.tbd (k1.tab _ hP) hT2).oth c _ upd_same (fun _ z => by cases z)
      rw [cut1] at this
      exact this
    refine ⟨fun i m H3 => i + m = xs.length - 1 ∧ K0 H H3 ∧ H3 c = some (.lst (xs.drop 1)) ∧ ∀ j, j < i → HT.lexLt (l.getD j []) (l.getD (j + 1) []) = true, ⟨xs.length - 1, by omega, k2, hc2, fun j hj => absurd hj (Nat.not_lt_zero _)⟩, fun i m H3 hW => ?_⟩
    obtain ⟨em, k3, ec, hlt⟩ := hW
    have hA : SqL K H3 a xs := k3.sqL hS
    have hC : SqL K H3 c (xs.drop 1) := .inl (.inl ec)
    by_cases hi : i < xs.length - 1
    · have h1 : i < xs.length := by omega
      have h2 : i + 1 < xs.length := by omega
      have g1 : xs[i]? = some xs[i] := List.getElem?_eq_getElem h1
      have g2 : (xs.drop 1)[i]? = some xs[i + 1] := by rw [List.getElem?_drop, Nat.add_comm 1 i]; exact List.getElem?_eq_getElem h2
      refine .inr ⟨⟨_, _, _, _, hA, hC, g1, g2⟩, fun H' => K0 H H' ∧ H' c = some (.lst (xs.drop 1)) ∧ HT.lexLt (l.getD i []) (l.getD (i + 1) []) = true, fun H' hN => ?_, fun x H' hy => ?_⟩
      · obtain ⟨k', ec', hl'⟩ := hN
        refine ⟨m - 1, by omega, by omega, k', ec', fun j hj => ?_⟩
        by_cases e : j = i
        · rw [e]; exact hl'
        · exact hlt j (by omega)
      · obtain ⟨T, x1, x2, rfl, nT, rfl, f1, f2⟩ := hy
        have ex1 : x1 = xs[i] := Option.some.inj ((f1 _ hA).symm.trans g1)
        have ex2 : x2 = xs[i + 1] := Option.some.inj ((f2 _ hC).symm.trans g2)
        have kT : K0 H3 (upd H3 T (.tup [x1, x2])) := K0.new nT
        obtain ⟨t1, e1, s1⟩ := hT.2 i x1 (by rw [ex1]; exact g1)
        obtain ⟨t2, e2, s2⟩ := hT.2 (i + 1) x2 (by rw [ex2]; exact List.getElem?_eq_getElem h2)
        refine ⟨T, [x1, x2], rfl, .inl (.inl upd_same), rfl, x1, [x2], rfl, x2, [], rfl, rfl, rfl, ?_⟩
        refine tyes ?_
        have k4 := k3.trans kT
        refine ⟨x1, rfl, x2, rfl, t1, t2, _, _, e1, e2, k4.sqT s1, k4.sqT s2, _, rfl, ?_⟩
        cases hb : HT.lexLt (l.getD i []) (l.getD (i + 1) []) with
        | true => exact iteT ⟨k4, kT.oth c _ ec (fun _ z => by cases z), rfl⟩
        | false => exact iteF (qeq (q _ k4) (risesB_no (by rw [← hT.1]; exact hi) hb))
    · refine .inl ⟨⟨_, _, hA, hC, .inr (by rw [List.length_drop]; omega)⟩, ?_⟩
      exact qeq (q _ k3) (risesB_yes fun j hj => hlt j (by rw [← hT.1] at hj; omega))
end
end HK

set_option Elab.async false
set_option linter.all false
set_option maxRecDepth 100000
set_option maxHeartbeats 2000000
namespace HK
open PySem PySem.Spec PyProof.Rows L2 GAl GxR
def pairD : PyData → List Int
  | .tuple (.int s :: .int e :: _) => [s, e]
  | _ => []
def isNetD : PyData → Bool
  | .tuple [.int m, .tuple rs] => (decide (1 ≤ m) && decide (m ≤ 12)) && (rs.all (isRoadD m) && risesB (rs.map pairD))
  | _ => false
theorem road_ints {n : Int} {d : PyData} (h : isRoadD n d = true) : ∃ s e c l : Int, d = .tuple [.int s, .int e, .int c, .int l] ∧ 0 ≤ s ∧ s ≤ n - 1 ∧ 0 ≤ e ∧ e ≤ n - 1 ∧ s ≠ e ∧ 0 ≤ c ∧ c ≤ 1000 ∧ 1 ≤ l ∧ l ≤ 1000 := by
  unfold isRoadD at h
  split at h
  · rename_i s e c l
    simp only [Bool.and_eq_true] at h
    obtain ⟨⟨⟨h1, h2⟩, h3⟩, h4, h5⟩ := h
    obtain ⟨i, rfl, a1, a2⟩ := within_int h1
    obtain ⟨j, rfl, b1, b2⟩ := within_int h2
    obtain ⟨k, rfl, c1, c2⟩ := within_int h4
    obtain ⟨q, rfl, d1, d2⟩ := within_int h5
    refine ⟨i, j, k, q, rfl, a1, a2, b1, b2, fun z => ?_, c1, c2, d1, d2⟩
    rw [z] at h3
    simp [neD] at h3
  · cases h
theorem dp_ints4 {K : PySem.W.Frag} {H : Hp} {x : V} {s e c l : Int} (h : Dp K H x (.tuple [.int s, .int e, .int c, .int l])) : ∃ a, x = .ref a ∧ SqT K H a [.int s, .int e, .int c, .int l] := by
  obtain ⟨a, xs, rfl, hq, hall⟩ := dp_tup h
  cases hall with
  | cons d1 hall => cases hall with
    | cons d2 hall => cases hall with
      | cons d3 hall => cases hall with
        | cons d4 hall =>
          cases hall
          obtain rfl := dp_int' d1
          obtain rfl := dp_int' d2
          obtain rfl := dp_int' d3
          obtain rfl := dp_int' d4
          exact ⟨a, rfl, hq⟩
theorem dpAll_get {K : PySem.W.Frag} {H : Hp} : ∀ {xs : List V} {ds : List PyData} {i : Nat} {x : V}, DpAll K H xs ds → xs[i]? = some x → ∃ d, ds[i]? = some d ∧ Dp K H x d
  | _, _, _, _, .nil, e => by simp at e
  | _, _, 0, _, .cons h _, e => by simp at e; subst e; exact ⟨_, rfl, h⟩
  | _, _, i + 1, x, .cons _ t, e => by
    obtain ⟨d, h1, h2⟩ := dpAll_get (i := i) (x := x) t (by simpa using e)
    exact ⟨d, by simpa using h1, h2⟩
theorem K0.mut {H H' : Hp} {p : Addr} {o : HO} (k : K0 H H') (n : H p = none) : K0 H (upd H' p o) := ⟨fun b u e m => by
  rw [upd_ne (ne_of_none e n)]; exact k.oth b u e m, fun P h => by
  obtain ⟨ps, e, ht⟩ := h
  obtain ⟨ps', e', ht'⟩ := k.tab P ⟨ps, e, ht⟩
  exact ⟨ps', by rw [upd_ne (ne_of_none e n)]; exact e', ht'⟩, fun b e => k.dom b (upd_none e)⟩
theorem TupsAt.kt {K : PySem.W.Frag} {t : Addr} {H H' : Hp} {xs : List V} {l : List (List Int)} (h : TupsAt K H xs l) (k : Kt t H H') : TupsAt K H' xs l := ⟨h.1, fun i x e => by
  obtain ⟨t, e, s⟩ := h.2 i x e
  exact ⟨t, e, k.sqT s⟩⟩
theorem TupsAt.snoc {K : PySem.W.Frag} {H : Hp} {xs : List V} {l : List (List Int)} {t : Addr} {ns : List Int} (h : TupsAt K H xs l) (s : SqT K H t (ns.map V.int)) : TupsAt K H (xs ++ [.ref t]) (l ++ [ns]) := by
  refine ⟨by simp [h.1], fun i x e => ?_⟩
  by_cases hi : i < xs.length
  · rw [List.getElem?_append_left hi] at e
    obtain ⟨t', e', s'⟩ := h.2 i x e
    refine ⟨t', e', ?_⟩
    have : (l ++ [ns]).getD i [] = l.getD i [] := by
      simp only [List.getD_eq_getElem?_getD]
      rw [List.getElem?_append_left (by rw [← h.1]; exact hi)]
    rw [this]; exact s'
  · have hx : i = xs.length := by
      have : i < (xs ++ [V.ref t]).length := (List.getElem?_eq_some_iff.mp e).1
      rw [List.length_append, List.length_singleton] at this
      omega
    subst hx
    rw [List.getElem?_append_right (Nat.le_refl _), Nat.sub_self] at e
    have e : V.ref t = x := Option.some.inj e
    refine ⟨t, e.symm, ?_⟩
    have : (l ++ [ns]).getD xs.length [] = ns := by
      simp only [List.getD_eq_getElem?_getD]
      rw [h.1, List.getElem?_append_right (Nat.le_refl _), Nat.sub_self]; rfl
    rw [this]; exact s
theorem scIsNet : FnScope ["thing", "many", "roads", "road"] ["thing"] (defScope sIsNet) := ⟨rfl, rfl, rfl, by decide +kernel, rfl, by decide +kernel, by decide +kernel⟩
theorem all_no {rs : List PyData} {p : PyData → Bool} {i : Nat} {d : PyData} (h : rs[i]? = some d) (hd : p d = false) : rs.all p = false := by
  rw [Bool.eq_false_iff]
  intro z
  have := List.all_eq_true.mp z d (List.mem_of_getElem? h)
  rw [hd] at this; cases this
theorem all_yes {rs : List PyData} {p : PyData → Bool} (h : ∀ (j : Nat) (d : PyData), rs[j]? = some d → p d = true) : rs.all p = true := by
  rw [List.all_eq_true]
  intro d hd
  obtain ⟨j, hj, e⟩ := List.getElem_of_mem hd
  exact h j d (by rw [← e]; exact List.getElem?_eq_getElem hj)

section
variable {P : Program} {w : World} {K : PySem.W.Frag} {mg : Str → Option Value} {base : Heap}
def NetAns (K : PySem.W.Frag) (H : Hp) (v : V) (b : Bool) : Prop := (∃ d, Dp K H v d ∧ (∀ m rs, d = .tuple [m, .tuple rs] → rs.length ≤ 1000) ∧ b = isNetD d) ∨ (∃ T, T ∈ tys ∧ TyX K H v (.type T) ∧ (T == "tuple") = false ∧ b = false)
def spIsNet (K : PySem.W.Frag) (Pn Pr : Addr) : Sp := fun vs H Q _ => ∃ (v : V) (b : Bool), vs = [v] ∧ NetAns K H v b ∧ TabG H Pn ∧ TabG H Pr ∧ ∀ H', K0 H H' → Q (.bl b) H'
theorem ok_isnet {f c Pn Pr fW fR fS : Addr} {fd fdW fdR fdS : FuncData} {t1 : Tok} (F : FunC K "is_net" "is_net" sIsNet f fd c) (TB : TabB base mg c Pn)
    (kW : PySem.W.keepIn K (.ref fW) = true) (bW : Binds K fdW ["thing", "least", "greatest"] []) (gW : mg "is_within" = some (.ref fW)) (GW : FnOk P w K mg base CX0 2 fW fdW ["thing", "least", "greatest"] (spWithin K))
    (kR : PySem.W.keepIn K (.ref fR) = true) (bR : Binds K fdR ["many", "thing"] []) (gR : mg "is_road" = some (.ref fR)) (GR : FnOk P w K mg base CX0 3 fR fdR ["many", "thing"] (spRoad K))
    (kS : PySem.W.keepIn K (.ref fS) = true) (bS : Binds K fdS ["row"] []) (gS : mg "rises" = some (.ref fS)) (GS : FnOk P w K mg base CX0 2 fS fdS ["row"] (spRises K Pr))
    (mi : mg "isinstance" = none) (mT : mg "tuple" = none) (ml : mg "len" = none) (ma : mg "all" = none) (g1 : mg "MOST_PLACES" = some (.int 12 t1)) : FnOk P w K mg base CX0 5 f fd ["thing"] (spIsNet K Pn Pr) := by
  refine F.ok scIsNet (fun vs H Q E h => ?_) (fun A outer s H vs Q E hr h => ?_)
  · obtain ⟨v, b, rfl, _⟩ := h
    rfl
  · obtain ⟨v, b, rfl, hA, hPn, hPr, q⟩ := h
    refine ⟨_, pss_cons (ps_if (pt_not (PW.pt (pw_and (pt_val (pe_callB call_isi (by rfl) mi boot_isinstance (pa_cons (pv 0) (pa_cons (pe_bltn (v := .ty "tuple") (by rfl) mT (by decide +kernel) rfl) pa_nil))))
        (pw_and1 (pt_cmpR op_eq (pe_callB call_len_seq (by rfl) ml PySem.boot_len (pa_cons (pv 0) pa_nil)) pe_int (nomark _)))))) (pss_one (ps_ret pe_bl)) pss_nil)
      (pss_cons (ps_asg (pv 0) (pg_tup rfl (pgs_cons (pg_name (i := 1) scIsNet.nd rfl (.inr rfl)) (pgs_cons (pg_name (i := 2) scIsNet.nd rfl (.inl rfl)) pgs_nil))))
      (pss_cons (ps_if (pt_not (PW.pt (pw_and (pt_val (pe_call GW (hr.mono (by decide)) (by rfl) gW kW bW .nil pass0 (pa_cons (pv 1) (pa_cons pe_int (pa_cons (pe_glob (v := .int 12) (by rfl) g1 ⟨_, rfl⟩) pa_nil)))))
        (pw_and1 (pt_val (pe_callB call_isi (by rfl) mi boot_isinstance (pa_cons (pv 2) (pa_cons (pe_bltn (v := .ty "tuple") (by rfl) mT (by decide +kernel) rfl) pa_nil)))))))) (pss_one (ps_ret pe_bl)) pss_nil)
      (pss_cons (ps_if (pt_not (pt_val (pe_allG (own := [("road", 3)]) (k := 3) (g := gName 3) (tt := tYes) (te := tCall (spRoad K) [] E0 (tCons (tVar 1) (tCons (tVar 3) tNil))) hr (by rfl) ma rfl scIsNet.nd TB rfl (gsc_by (N := ["thing", "many", "roads", "road"]) (sc := defScope sIsNet) (by decide +kernel))
          (pi_tup (pv 2)) (fun A' hr' _ _ _ _ _ _ => pg_name (i := 3) scIsNet.nd rfl (.inl rfl)) (fun A' hr' _ _ _ _ _ _ => pts_nil)
          (fun A' hr' _ _ _ _ _ _ => pe_call GR hr' (by rfl) gR kR bR .nil pass0 (pa_cons (pv 1) (pa_cons (pv 3) pa_nil)))))) (pss_one (ps_ret pe_bl)) pss_nil)
      (pss_one (ps_ret (pe_call GS (hr.mono (by decide)) (by rfl) gS kS bS .nil pass0 (pa_cons (pe_lc (own := [("road", 3)]) (g := gName 3) (tt := tYes) (te := tSl (rSlT K) (tVar 3) tNoPart (tPart (tC (.int 2)))) rfl scIsNet.nd (pi_tup (pv 2))
          (blkOk_by (N := ["thing", "many", "roads", "road"]) (sc := defScope sIsNet) (by decide +kernel)) (fun _ _ _ _ _ => pg_name (i := 3) scIsNet.nd rfl (Or.inl rfl)) (fun _ _ _ _ _ => pts_nil)
          (fun _ _ _ _ _ => pe_slice sl_tup (pv 3) po_none (po_some pe_int))) pa_nil))))))), ?_⟩
    rcases hA with ⟨d, hd, hsz, rfl⟩ | ⟨T, hT, hty, hne, rfl⟩
    · refine ⟨v, rfl, v, .ty "tuple", _, _, _, rfl, .ty "tuple", dp_ty hd, kit_ty (tys_tuple (tyD_mem d)), _, rfl, ite2 (fun e => ?_) (fun e => ?_)⟩
      · obtain ⟨ds, rfl⟩ : ∃ ds, d = .tuple ds := by cases d <;> first | exact ⟨_, rfl⟩ | (simp [tyD] at e)
        obtain ⟨a, xs, rfl, hq, hall⟩ := dp_tup hd
        refine ⟨.ref a, rfl, a, xs, rfl, .inr hq, rfl, _, rfl, ?_⟩
        by_cases h4 : xs.length = 2
        · rw [decide_eq_true (show (V.int (xs.length : Int)) = .int 2 by rw [h4]; rfl)]
          refine iteF ?_
          have h4' : ds.length = 2 := by rw [← dpAll_len hall]; exact h4
          obtain ⟨dm, dr, rfl⟩ : ∃ dm dr, ds = [dm, dr] := by
            match ds, h4' with
            | [a, b], _ => exact ⟨a, b, rfl⟩
          cases hall with
          | cons d1 hall => cases hall with
            | cons d2 hall =>
              cases hall
              rename_i v1 v2
              refine ⟨.ref a, rfl, a, _, rfl, hq, rfl, v1, _, rfl, v2, _, rfl, rfl, ?_⟩
              refine ⟨v1, rfl, v1, dm, 1, 12, rfl, d1, _, rfl, ite2 (fun b1 => ?_) (fun b1 => ?_)⟩
              · obtain ⟨m, rfl, m1, m2⟩ := within_int b1
                obtain rfl := dp_int' d1
                refine ⟨v2, rfl, v2, .ty "tuple", _, _, _, rfl, .ty "tuple", dp_ty d2, kit_ty (tys_tuple (tyD_mem dr)), _, rfl, ?_⟩
                cases hb2 : (tyD dr == "tuple") with
                | false =>
                  refine iteT (qeq (q _ (K0.refl _)) ?_)
                  cases dr <;> first | rfl | (simp [tyD] at hb2)
                | true =>
                  refine iteF ?_
                  obtain ⟨rs, rfl⟩ : ∃ ds, dr = .tuple ds := by cases dr <;> first | exact ⟨_, rfl⟩ | (simp [tyD] at hb2)
                  obtain ⟨r, ys, rfl, hqr, hallr⟩ := dp_tup d2
                  have hm : isNetD (.tuple [.int m, .tuple rs]) = (rs.all (isRoadD m) && risesB (rs.map pairD)) := by
                    show ((decide (1 ≤ m) && decide (m ≤ 12)) && _) = _
                    rw [decide_eq_true m1, decide_eq_true m2, Bool.true_and, Bool.true_and]
                  rw [hm] at q
                  have hlen : ys.length = rs.length := dpAll_len hallr
                  -- all(is_road(many, road) for road in roads)
                  refine ⟨.ref r, rfl, r, rfl, ⟨_, hqr⟩, hPn, fun H2 hT2 => ?_⟩
                  have k2 : K0 H H2 := K0.tbd hPn hT2
                  refine ⟨fun i mm H3 => i + mm = ys.length ∧ K0 H H3 ∧ ∀ (j : Nat) (d : PyData), j < i → rs[j]? = some d → isRoadD m d = true, ⟨ys.length, by omega, k2, fun j _ hj => absurd hj (Nat.not_lt_zero _)⟩, fun i mm H3 hW => ?_⟩
                  obtain ⟨em, k3, hlt⟩ := hW
                  have hY : SqT K H3 r ys := k3.sqT hqr
                  by_cases hi : i < ys.length
                  · have g1 : ys[i]? = some ys[i] := List.getElem?_eq_getElem hi
                    obtain ⟨di, hdi, hDi⟩ := dpAll_get hallr g1
                    refine .inr ⟨⟨_, _, hY, g1⟩, fun H' => K0 H H' ∧ isRoadD m di = true, fun H' hN => ?_, fun x H' hy => ?_⟩
                    · obtain ⟨k', hb'⟩ := hN
                      refine ⟨mm - 1, by omega, by omega, k', fun j d hj hd => ?_⟩
                      by_cases e : j = i
                      · subst e
                        rw [hdi] at hd; cases hd; exact hb'
                      · exact hlt j d (by omega) hd
                    · obtain ⟨rfl, fx⟩ := hy
                      have ex : x = ys[i] := Option.some.inj ((fx _ hY).symm.trans g1)
                      subst ex
                      refine ⟨rfl, tyes ?_⟩
                      refine ⟨.int m, rfl, _, rfl, m, _, di, rfl, K0.dp k3 di _ hDi, _, rfl, ?_⟩
                      cases hb3 : isRoadD m di with
                      | true => exact iteT ⟨k3, rfl⟩
                      | false =>
                        refine iteF ⟨_, rfl, iteT (qeq (q _ k3) ?_)⟩
                        rw [all_no hdi hb3, Bool.false_and]
                  · refine .inl ⟨⟨_, hY, by omega⟩, _, rfl, iteF ?_⟩
                    have hallR : ∀ (j : Nat) (d : PyData), rs[j]? = some d → isRoadD m d = true := fun j d hd => hlt j d (by
                      have := (List.getElem?_eq_some_iff.mp hd).1
                      omega) hd
                    have hat : rs.all (isRoadD m) = true := all_yes hallR
                    rw [hat, Bool.true_and] at q
                    -- rises([road[:2] for road in roads])
                    refine ⟨.ref r, rfl, r, rfl, ⟨_, hY⟩, fun D nD => lc_tup (K := K) (a := r) (xs := ys) (fun i H4 => K0 H3 H4 ∧ ∃ zs, H4 D = some (.lst zs) ∧ TupsAt K H4 zs ((rs.take i).map pairD)) ⟨K0.new nD, [], upd_same, rfl, fun i x e => by simp at e⟩ (fun i H4 _ h => h.1.sqT hY) (fun i x H4 hx h => ?_) (fun H4 h => ?_)⟩
                    · obtain ⟨k4, zs, ez, hz⟩ := h
                      obtain ⟨di, hdi, hDi⟩ := dpAll_get hallr hx
                      obtain ⟨s1, e1, c1, l1, rfl, _⟩ := road_ints (hallR i di hdi)
                      obtain ⟨ar, rfl, hqa⟩ := dp_ints4 (K0.dp (k3.trans k4) _ _ hDi)
                      refine ⟨rfl, tyes ?_⟩
                      refine ⟨.ref ar, rfl, 2, rfl, ar, _, rfl, hqa, fun z => absurd z.2 (by show ¬ (HT.sIx 4 4 (some 2) = 4); decide), fun p np => ?_⟩
                      have kp : K0 H4 (upd H4 p (.tup (cutV [.int s1, .int e1, .int c1, .int l1] none (some 2)))) := K0.new np
                      have ez' := kp.oth D _ ez (fun _ z => by cases z)
                      have hl : zs.length ≤ rs.length := by
                        rw [hz.1, List.length_map, List.length_take]; omega
                      refine ⟨zs, ez', small1000 (Nat.le_trans hl (hsz _ _ rfl)), ?_⟩
                      refine ⟨(k4.trans kp).mut nD, zs ++ [.ref p], upd_same, ?_⟩
                      have : (rs.take (i + 1)).map pairD = (rs.take i).map pairD ++ [[s1, e1]] := by
                        rw [List.take_add_one, hdi, List.map_append]; rfl
                      rw [this]
                      refine TupsAt.snoc ((hz.k0 kp).kt (Kt.set ez')) ?_
                      exact (Kt.set ez').sqT (.inl (.inl upd_same))
                    · obtain ⟨k4, zs, ez, hz⟩ := h
                      rw [hlen, List.take_length] at hz
                      exact ⟨D, zs, _, rfl, .inl (.inl ez), hz, (k3.trans k4).tab _ hPr, fun H5 k5 => q _ ((k3.trans k4).trans k5)⟩
              · simp only [Bool.not_eq_true] at b1
                refine iteT (qeq (q _ (K0.refl _)) ?_)
                unfold isNetD
                split
                · rename_i heq
                  cases heq
                  show (withinD (.int _) 1 12 && _) = false
                  rw [b1, Bool.false_and]
                · rfl
        · rw [decide_eq_false (show ¬ (V.int (xs.length : Int)) = .int 2 from fun z => h4 (by have := V.int.inj z; omega))]
          refine iteT (qeq (q _ (K0.refl _)) ?_)
          have h4' : ds.length ≠ 2 := by rw [← dpAll_len hall]; exact h4
          unfold isNetD
          split
          · rename_i heq
            cases heq
            exact absurd rfl h4'
          · rfl
      · refine iteT (qeq (q _ (K0.refl _)) ?_)
        cases d <;> first | rfl | (exact absurd rfl e)
    · refine ⟨v, rfl, v, .ty "tuple", _, _, _, rfl, .ty "tuple", hty, kit_ty (tys_tuple hT), _, rfl, ?_⟩
      rw [hne]
      exact iteF (iteT (q _ (K0.refl _)))
end
end HK

set_option Elab.async false
set_option linter.all false
set_option maxRecDepth 100000
set_option maxHeartbeats 2000000
namespace HK
open PySem PySem.Spec PyProof.Rows L2 GAl GxR
open Evl (pss_cut)
theorem dpInts {K : PySem.W.Frag} {H : Hp} : ∀ ns : List Int, DpAll K H (ns.map V.int) (ns.map PyData.int)
  | [] => .nil
  | n :: ns => .cons (.int n) (dpInts ns)
/-- the script, at s: written, locked, or a list apart from the tape's at t -/
def Scr (K : PySem.W.Frag) (t : Addr) (H : Hp) (s : Addr) (ns : List Int) : Prop := (H s = some (.lst (ns.map V.int)) ∧ s ≠ t) ∨ (∃ o, H s = some (.frz o (.lst (ns.map V.int)))) ∨
  ∃ (o : Obj) (its : Array Value) (n : Nat), K.lookup s = some o ∧ o.cls = .type "list" ∧ o.dict = none ∧ o.data = .seq its n ∧ its.size ≤ sizeLine ∧ Vals (ns.map V.int) its.toList
theorem Scr.sq {K : PySem.W.Frag} {t : Addr} {H : Hp} {s : Addr} {ns : List Int} (h : Scr K t H s ns) : SqL K H s (ns.map V.int) := by
  rcases h with ⟨h, _⟩ | h | h
  · exact .inl (.inl h)
  · exact .inl (.inr h)
  · exact .inr h
theorem Scr.kt {K : PySem.W.Frag} {t : Addr} {H H' : Hp} {s : Addr} {ns : List Int} (h : Scr K t H s ns) (k : Kt t H H') : Scr K t H' s ns := by
  rcases h with ⟨h, n⟩ | ⟨o, h⟩ | h
  · exact .inl ⟨k.oth _ _ h n (fun _ z => by cases z), n⟩
  · exact .inr (.inl ⟨o, k.frz _ _ _ h⟩)
  · exact .inr (.inr h)
theorem Scr.of {K : PySem.W.Frag} {t : Addr} {H : Hp} {s : Addr} {ns : List Int} {o : HO} (h : SqL K H s (ns.map V.int)) (n : H t = none) : Scr K t (upd H t o) s ns := by
  rcases h with (h | ⟨o', h⟩) | h
  · have z := ne_of_none h n
    exact .inl ⟨by rw [upd_ne z]; exact h, z⟩
  · have z := ne_of_none h n
    exact .inr (.inl ⟨o', by rw [upd_ne z]; exact h⟩)
  · exact .inr (.inr h)
/-- the tape: the script, the next place, what is left of the number -/
def TapeV (H : Hp) (t s : Addr) : Prop := ∃ p v : Int, H t = some (.lst [.ref s, .int p, .int v]) ∧ 0 ≤ p ∧ 0 ≤ v
structure Tape (K : PySem.W.Frag) (H : Hp) (t s : Addr) (ns : List Int) : Prop where
  v : TapeV H t s
  scr : Scr K t H s ns
theorem canLay_ints : ∀ ns : List Int, SeqAt.shaped (.list (ns.map PyData.int)) = true := PySem.W.shaped_ints
theorem eqv_nil (ns : List Int) : PyData.eqv (.list (ns.map PyData.int)) (.list []) = ns.isEmpty := by
  cases ns <;> simp [PyData.eqv, PyData.eqvAll]
section
variable {P : Program} {w : World} {K : PySem.W.Frag} {mg : Str → Option Value} {base : Heap}
def spSpread : Sp := fun vs H Q _ => ∃ cell place : Int, vs = [.int cell, .int place] ∧ 0 ≤ place ∧ ∀ v : Int, 0 ≤ v → Q (.int v) H
theorem mulR {i j : Int} (h : -(2 ^ 64) < j) (h2 : j < 2 ^ 64) : CMul i j := .inr ⟨h, h2⟩
theorem mulL {i j : Int} (h : -(2 ^ 64) < i) (h2 : i < 2 ^ 64) : CMul i j := .inl ⟨h, h2⟩
def spDigit (K : PySem.W.Frag) : Sp := fun vs H Q _ => ∃ (t sc : Addr) (many : Int) (ns : List Int), vs = [.ref t, .int many] ∧ Tape K H t sc ns ∧ 0 < many ∧ many ≤ 100000000000000000000 ∧
  ∀ (d : Int) (H' : Hp), 0 ≤ d → d < many → Kt t H H' → Tape K H' t sc ns → Q (.int d) H'
end
end HK

set_option Elab.async false
set_option linter.all false
set_option maxRecDepth 100000
set_option maxHeartbeats 2000000
namespace HK
open PySem PySem.Spec PyProof.Rows L2 GAl GxR
section
variable {X : Cx}
/-- tuple(xs) of a list: the new object is known -/
theorem call_tuple_fz : CallR X (.type "tuple") (fun xs H Q => ∃ p ys, xs = [.ref p] ∧ SqL X.K H p ys ∧ ∀ l o, H l = none → o.cls = .type "tuple" → o.dict = none → Q (.ref l) (upd H l (.frz o (.tup ys)))) := by
  intro pins s σ H xs us Q I r h
  obtain ⟨p, ys, rfl, hq, q⟩ := h
  obtain ⟨u, rfl, rx⟩ := vals1 r
  cases rx
  obtain ⟨its, r', pl, hz⟩ := I.list hq
  have hlen := r'.length
  refine call_tuple_list pl.isList (fun h' kp => ?_) (by simp only [List.size_toArray] <;> omega)
  have I1 : Inv X pins σ H { s with heap := h' } := I.kept (t' := s.toks) kp
  have hget : (h'.push { cls := .type "tuple", data := .seq its.toArray }).get? h'.objs.size = some { cls := .type "tuple", data := .seq its.toArray } := Heap.get?_push_size _ rfl
  have I2 : Inv X pins σ (upd H h'.objs.size (.frz { cls := .type "tuple", data := .seq its.toArray } (.tup ys))) { s with heap := h'.push { cls := .type "tuple", data := .seq its.toArray } } :=
    I1.laid (t' := s.toks) (fun b o e => Heap.get?_push_of_some _ e) (Nat.le_refl _) (show ObjOk X.prog X.w _ _ _ (.frz _ (.tup ys)) from ⟨hget, hz, its, r', IsTup.new _ _⟩)
  exact ⟨.ref h'.objs.size, _, I2, rfl, q _ _ (I1.hok.fresh (Nat.le_refl _)) rfl rfl⟩
/-- a method of a built-in type, of an object that is known -/
def tBMF (T : String) (r : V → List V → Hp → VK → Prop) (to : TE) (t : TA) : TE := fun σ H Q => to σ H fun x H1 => (∃ a ob u, x = .ref a ∧ H1 a = some (.frz ob u) ∧ ob.cls = .type T ∧ ob.dict = none) ∧ t σ H1 fun xs H2 => r x xs H2 Q
theorem pe_bmF {o e : Expr} {es : List Expr} {to : TE} {t : TA} {name : Str} {apos cpos : Pos} {T id : String} {r : V → List V → Hp → VK → Prop}
    (pa : PlainAttrs T) (slot : Slot T name id) (hty : typeOf (.builtin id) = pure (.type "method_descriptor")) (hm : MtR X id r) (ho : PE X o to) (ha : PA X (e :: es) t)
    (hbase : attributeBase o name X.env (eval o X.env) = eval o X.env := by rfl)
    (hfew : ((backTo cpos (starEach (e :: es) X.env)).all (fun x => !x.1) && (backToKw cpos (keywordEach [] X.env)).all (fun x => x.1.isSome)
      && decide ((e :: es).length + ([] : List Keyword).length + (if ([] : List Keyword).isEmpty then 0 else 1) < 30)) = true := by rfl)
    (hline : (apos.endLine == cpos.line) = true := by rfl) (hs : starEach (e :: es) X.env = (false, eval e X.env) :: starEach es X.env := by rfl) (hplain : (backTo cpos (starEach es X.env)).any (·.1) = false := by rfl) :
    PE X (.Call (.Attribute o name apos) (e :: es) [] cpos) (tBMF T r to t) := by
  refine ⟨fun pins s σ H Q I h => ?_⟩
  refine wpAny_Call_method_late hbase hfew hline rfl (thn (ho.run pins s σ H _ I h) fun v s1 ⟨x, H1, I1, r1, ⟨a, ob, u, ex, hob, hc, hd⟩, q1⟩ => ?_)
  subst ex
  have hget := (show ObjOk X.prog X.w H1 s1.heap a (.frz ob u) from I1.hok a _ hob).1
  have ev : v = .ref a := r1
  refine ⟨T, id, pa, slot, hty, by rw [ev]; exact ⟨ob, hget, hc⟩, fun b e2 => ?_, ?_⟩
  · rw [ev] at e2
    cases e2
    exact ⟨ob, hget, hd⟩
  have hA := ha.run cpos pins s1 σ H1 _ I1 q1
  rw [hs] at hA ⊢
  refine Calls.callWith_builtin (by show (false || (backTo cpos (starEach es X.env)).any (·.1)) = false; rw [hplain] <;> rfl) (Calls.evalArgs_plain ?_)
  exact thn hA fun us s2 ⟨vs, H2, I2, r2, q2⟩ => hm pins s2 σ H2 (.ref a) vs v us Q I2 r1 r2 q2
end
end HK

set_option Elab.async false
set_option linter.all false
set_option maxRecDepth 100000
set_option maxHeartbeats 2000000
namespace HK
open PySem PySem.Spec PyProof.Rows L2 GAl GxR
open Evl (pss_cut)
structure R4 where
  s : Int
  e : Int
  c : Int
  l : Int
def R4.vs (r : R4) : List V := [.int r.s, .int r.e, .int r.c, .int r.l]
def R4.d (r : R4) : PyData := .tuple [.int r.s, .int r.e, .int r.c, .int r.l]
structure RoadOk (n : Int) (r : R4) : Prop where
  s0 : 0 ≤ r.s
  s1 : r.s < n
  e0 : 0 ≤ r.e
  e1 : r.e < n
  ne : r.s ≠ r.e
  c0 : 0 ≤ r.c
  c1 : r.c ≤ 1000
  l0 : 1 ≤ r.l
  l1 : r.l ≤ 1000
def R4.lt (a b : R4) : Prop := a.s < b.s ∨ (a.s = b.s ∧ a.e < b.e)
structure Good (n : Int) (rs : List R4) : Prop where
  n1 : 1 ≤ n
  n2 : n ≤ 12
  ok : ∀ r ∈ rs, RoadOk n r
  up : rs.Pairwise R4.lt
/-- the roads' tuples -/
def Roads (K : PySem.W.Frag) (H : Hp) (xs : List V) (rs : List R4) : Prop := DpAll K H xs (rs.map R4.d)
theorem dp_r4 {K : PySem.W.Frag} {H : Hp} {x : V} {r : R4} (h : Dp K H x r.d) : ∃ a, x = .ref a ∧ SqT K H a r.vs := dp_ints4 h
theorem r4_dp {K : PySem.W.Frag} {H : Hp} {a : Addr} {r : R4} (h : SqT K H a r.vs) : Dp K H (.ref a) r.d := .tup h (.cons (.int _) (.cons (.int _) (.cons (.int _) (.cons (.int _) .nil))))
theorem Kt.roads {K : PySem.W.Frag} {t : Addr} {H H' : Hp} (k : Kt t H H') : ∀ {xs : List V} {rs : List R4}, Roads K H xs rs → Roads K H' xs rs
  | _, [], .nil => .nil
  | _, r :: rs, .cons a b => .cons (by
      obtain ⟨p, rfl, h⟩ := dp_r4 (r := r) a
      exact r4_dp (r := r) (k.sqT h)) (Kt.roads k (rs := rs) b)
theorem dpAll_snoc {K : PySem.W.Frag} {H : Hp} : ∀ {xs : List V} {ds : List PyData} {x : V} {d : PyData}, DpAll K H xs ds → Dp K H x d → DpAll K H (xs ++ [x]) (ds ++ [d])
  | _, _, _, _, .nil, h => .cons h .nil
  | _, _, _, _, .cons a b, h => .cons a (dpAll_snoc b h)
theorem Roads.snoc {K : PySem.W.Frag} {H : Hp} {xs : List V} {rs : List R4} {a : Addr} {r : R4} (h : Roads K H xs rs) (s : SqT K H a r.vs) : Roads K H (xs ++ [.ref a]) (rs ++ [r]) := by
  unfold Roads
  rw [List.map_append]
  exact dpAll_snoc h (r4_dp s)
theorem Roads.len {K : PySem.W.Frag} {H : Hp} {xs : List V} {rs : List R4} (h : Roads K H xs rs) : xs.length = rs.length := by
  have := dpAll_len h
  rw [List.length_map] at this
  exact this
theorem Kt.mut {t : Addr} {H H' : Hp} {p : Addr} {o : HO} (k : Kt t H H') (n : H p = none) : Kt t H (upd H' p o) := ⟨fun b u e => by
  rw [upd_ne (ne_of_none e n)]; exact k.tup b u e, fun b o u e => by
  rw [upd_ne (ne_of_none e n)]; exact k.frz b o u e, fun b u e m m' => by
  rw [upd_ne (ne_of_none e n)]; exact k.oth b u e m m', fun P h => by
  obtain ⟨ps, e, ht⟩ := h
  obtain ⟨ps', e', ht'⟩ := k.tab P ⟨ps, e, ht⟩
  exact ⟨ps', by rw [upd_ne (ne_of_none e n)]; exact e', ht'⟩, fun b e => k.dom b (upd_none e)⟩
theorem Tape.k0 {K : PySem.W.Frag} {H H' : Hp} {t s : Addr} {ns : List Int} (h : Tape K H t s ns) (k : K0 H H') : Tape K H' t s ns := by
  obtain ⟨⟨p, v, e, r⟩, q⟩ := h
  exact ⟨⟨p, v, k.oth t _ e (fun _ z => by cases z), r⟩, q.kt k.kt⟩
theorem Tape.ne {K : PySem.W.Frag} {H : Hp} {t s b : Addr} {ns : List Int} (h : Tape K H t s ns) (n : H b = none) : b ≠ t := fun z => by
  obtain ⟨_, _, e, _⟩ := h.v
  rw [z, e] at n; cases n
/-- a list of the law's own, at b, is written -/
theorem Tape.mut {K : PySem.W.Frag} {H H' : Hp} {t s b : Addr} {ns : List Int} {o : HO} (h : Tape K H' t s ns) (h0 : Scr K t H s ns) (k : Kt t H H') (n : H b = none) (nb : b ≠ t) : Tape K (upd H' b o) t s ns := by
  obtain ⟨⟨p, v, e, r⟩, q⟩ := h
  exact ⟨⟨p, v, by rw [upd_ne nb.symm]; exact e, r⟩, h0.kt (k.mut n)⟩
theorem pick8 {x d : Int} (h0 : 0 ≤ d) (h1 : d < 8) (hx : 0 ≤ x ∧ x ≤ 1000) : ∃ y : Int, atI [V.int 0, .int 1, .int 1, .int 2, .int 3, .int 7, .int 1000, .int x] d = some (.int y) ∧ 0 ≤ y ∧ y ≤ 1000 := by
  obtain ⟨k, rfl⟩ := Int.eq_ofNat_of_zero_le h0
  match k, h1 with
  | 0, _ => exact ⟨0, atI_nat rfl, by omega, by omega⟩
  | 1, _ => exact ⟨1, atI_nat rfl, by omega, by omega⟩
  | 2, _ => exact ⟨1, atI_nat rfl, by omega, by omega⟩
  | 3, _ => exact ⟨2, atI_nat rfl, by omega, by omega⟩
  | 4, _ => exact ⟨3, atI_nat rfl, by omega, by omega⟩
  | 5, _ => exact ⟨7, atI_nat rfl, by omega, by omega⟩
  | 6, _ => exact ⟨1000, atI_nat rfl, by omega, by omega⟩
  | 7, _ => exact ⟨x, atI_nat rfl, hx⟩
  | k + 8, h => exact absurd h (by omega)
theorem pick7 {x d : Int} (h0 : 0 ≤ d) (h1 : d < 7) (hx : 1 ≤ x ∧ x ≤ 1000) : ∃ y : Int, atI [V.int 1, .int 1, .int 2, .int 3, .int 5, .int 1000, .int x] d = some (.int y) ∧ 1 ≤ y ∧ y ≤ 1000 := by
  obtain ⟨k, rfl⟩ := Int.eq_ofNat_of_zero_le h0
  match k, h1 with
  | 0, _ => exact ⟨1, atI_nat rfl, by omega, by omega⟩
  | 1, _ => exact ⟨1, atI_nat rfl, by omega, by omega⟩
  | 2, _ => exact ⟨2, atI_nat rfl, by omega, by omega⟩
  | 3, _ => exact ⟨3, atI_nat rfl, by omega, by omega⟩
  | 4, _ => exact ⟨5, atI_nat rfl, by omega, by omega⟩
  | 5, _ => exact ⟨1000, atI_nat rfl, by omega, by omega⟩
  | 6, _ => exact ⟨x, atI_nat rfl, hx⟩
  | k + 7, h => exact absurd h (by omega)

section
variable {P : Program} {w : World} {K : PySem.W.Frag} {mg : Str → Option Value} {base : Heap}
/-- what the law's net is -/
def NetAt (K : PySem.W.Frag) (H : Hp) (a : Addr) (n : Int) (rs : List R4) : Prop := ∃ (r : Addr) (xs : List V) (_ : Unit), SqT K H a [.int n, .ref r] ∧ SqT K H r xs ∧ True ∧ True ∧ Roads K H xs rs
theorem NetAt.kt {t : Addr} {H H' : Hp} {a : Addr} {n : Int} {rs : List R4} (h : NetAt K H a n rs) (k : Kt t H H') : NetAt K H' a n rs := by
  obtain ⟨r, xs, o, h1, h2, hc, hd, h3⟩ := h
  exact ⟨r, xs, o, k.sqT h1, k.sqT h2, hc, hd, k.roads h3⟩
def spNet (K : PySem.W.Frag) : Sp := fun vs H Q _ => ∃ (t sc : Addr) (most : Int) (ns : List Int), vs = [.ref t, .int most] ∧ Tape K H t sc ns ∧ 1 ≤ most ∧ most ≤ 12 ∧
  ∀ (a : Addr) (n : Int) (rs : List R4) (H' : Hp), Kt t H H' → Tape K H' t sc ns → NetAt K H' a n rs → n ≤ most → Good n rs → rs.length ≤ 156 → Q (.ref a) H'
/-- between the turns -/
structure NI (K : PySem.W.Frag) (H : Hp) (t sc ra : Addr) (ns : List Int) (n : Int) (i j : Nat) (H3 : Hp) : Prop where
  kt : Kt t H H3
  tp : Tape K H3 t sc ns
  ex : ∃ xs rs, H3 ra = some (.lst xs) ∧ Roads K H3 xs rs ∧ Good n rs ∧ (∀ r ∈ rs, r.s < i ∨ (r.s = i ∧ r.e < j)) ∧ rs.length ≤ 12 * i + j
end
end HK

set_option Elab.async false
set_option linter.all false
set_option maxRecDepth 100000
set_option maxHeartbeats 2000000
namespace HK
open PySem PySem.Spec PyProof.Rows L2 GAl GxR
mutual
/-- data whose lists are tracked, apart from the tape -/
inductive Dq (K : PySem.W.Frag) (T : Addr → Prop) (H : Hp) : V → PyData → Prop
  | non : Dq K T H .non .none
  | bl (b : Bool) : Dq K T H (.bl b) (.bool b)
  | int (i : Int) : Dq K T H (.int i) (.int i)
  | str (x : Str) : Dq K T H (.str x) (.str x)
  | lst {a : Addr} {xs : List V} {ds : List PyData} : H a = some (.lst xs) → ¬ T a → DqAll K T H xs ds → Dq K T H (.ref a) (.list ds)
  | tup {a : Addr} {xs : List V} {ds : List PyData} : SqT K H a xs → DqAll K T H xs ds → Dq K T H (.ref a) (.tuple ds)
inductive DqAll (K : PySem.W.Frag) (T : Addr → Prop) (H : Hp) : List V → List PyData → Prop
  | nil : DqAll K T H [] []
  | cons {v : V} {vs : List V} {d : PyData} {ds : List PyData} : Dq K T H v d → DqAll K T H vs ds → DqAll K T H (v :: vs) (d :: ds)
end
mutual
theorem Dq.dp {K : PySem.W.Frag} {T : Addr → Prop} {H : Hp} : ∀ (d : PyData) (v : V), Dq K T H v d → Dp K H v d
  | .none, _, h => by cases h; exact .non
  | .bool _, _, h => by cases h; exact .bl _
  | .int _, _, h => by cases h; exact .int _
  | .str _, _, h => by cases h; exact .str _
  | .list ds, _, h => by cases h with | lst a _ b => exact .lst (.inl (.inl a)) (DqAll.dp ds _ b)
  | .tuple ds, _, h => by cases h with | tup a b => exact .tup a (DqAll.dp ds _ b)
  | .dict _, _, h => by cases h
theorem DqAll.dp {K : PySem.W.Frag} {T : Addr → Prop} {H : Hp} : ∀ (ds : List PyData) (vs : List V), DqAll K T H vs ds → DpAll K H vs ds
  | [], _, h => by cases h; exact .nil
  | d :: ds, _, h => by cases h with | cons a b => exact .cons (Dq.dp d _ a) (DqAll.dp ds _ b)
end
mutual
theorem Dq.kt {K : PySem.W.Frag} {T : Addr → Prop} {t : Addr} {H H' : Hp} (hT : T t) (k : Kt t H H') : ∀ (d : PyData) (v : V), Dq K T H v d → Dq K T H' v d
  | .none, _, h => by cases h; exact .non
  | .bool _, _, h => by cases h; exact .bl _
  | .int _, _, h => by cases h; exact .int _
  | .str _, _, h => by cases h; exact .str _
  | .list ds, _, h => by cases h with | lst a n b => exact .lst (k.oth _ _ a (fun z => n (z ▸ hT)) (fun _ z => by cases z)) n (DqAll.kt hT k ds _ b)
  | .tuple ds, _, h => by cases h with | tup a b => exact .tup (k.sqT a) (DqAll.kt hT k ds _ b)
  | .dict _, _, h => by cases h
theorem DqAll.kt {K : PySem.W.Frag} {T : Addr → Prop} {t : Addr} {H H' : Hp} (hT : T t) (k : Kt t H H') : ∀ (ds : List PyData) (vs : List V), DqAll K T H vs ds → DqAll K T H' vs ds
  | [], _, h => by cases h; exact .nil
  | d :: ds, _, h => by cases h with | cons a b => exact .cons (Dq.kt hT k d _ a) (DqAll.kt hT k ds _ b)
end
theorem DqAll.len {K : PySem.W.Frag} {T : Addr → Prop} {H : Hp} : ∀ {vs : List V} {ds : List PyData}, DqAll K T H vs ds → vs.length = ds.length
  | _, _, .nil => rfl
  | _, _, .cons _ b => by rw [List.length_cons, List.length_cons, b.len]
theorem DqAll.app {K : PySem.W.Frag} {T : Addr → Prop} {H : Hp} : ∀ {vs ws : List V} {ds es : List PyData}, DqAll K T H vs ds → DqAll K T H ws es → DqAll K T H (vs ++ ws) (ds ++ es)
  | _, _, _, _, .nil, h => h
  | _, _, _, _, .cons a b, h => .cons a (b.app h)
theorem DqAll.take {K : PySem.W.Frag} {T : Addr → Prop} {H : Hp} : ∀ {vs : List V} {ds : List PyData} (k : Nat), DqAll K T H vs ds → DqAll K T H (vs.take k) (ds.take k)
  | _, _, 0, _ => .nil
  | _, _, _ + 1, .nil => .nil
  | _, _, k + 1, .cons a b => .cons a (b.take k)
theorem DqAll.drop {K : PySem.W.Frag} {T : Addr → Prop} {H : Hp} : ∀ {vs : List V} {ds : List PyData} (k : Nat), DqAll K T H vs ds → DqAll K T H (vs.drop k) (ds.drop k)
  | _, _, 0, h => h
  | _, _, _ + 1, .nil => .nil
  | _, _, k + 1, .cons _ b => b.drop k
theorem DqAll.get {K : PySem.W.Frag} {T : Addr → Prop} {H : Hp} : ∀ {vs : List V} {ds : List PyData} {i : Nat} {x : V}, DqAll K T H vs ds → vs[i]? = some x → ∃ d, ds[i]? = some d ∧ Dq K T H x d
  | _, _, _, _, .nil, e => by simp at e
  | _, _, 0, _, .cons h _, e => by simp at e; subst e; exact ⟨_, rfl, h⟩
  | _, _, i + 1, x, .cons _ b, e => by
    obtain ⟨d, h1, h2⟩ := DqAll.get (i := i) (x := x) b (by simpa using e)
    exact ⟨d, by simpa using h1, h2⟩
theorem DqAll.rev {K : PySem.W.Frag} {T : Addr → Prop} {H : Hp} : ∀ {vs : List V} {ds : List PyData}, DqAll K T H vs ds → DqAll K T H vs.reverse ds.reverse
  | _, _, .nil => .nil
  | _, _, .cons a b => by
    rw [List.reverse_cons, List.reverse_cons]
    exact b.rev.app (.cons a .nil)
theorem roads_dq {K : PySem.W.Frag} {T : Addr → Prop} {H : Hp} : ∀ {xs : List V} {rs : List R4}, Roads K H xs rs → DqAll K T H xs (rs.map R4.d)
  | _, [], .nil => .nil
  | _, r :: rs, .cons a b => .cons (by
      obtain ⟨p, rfl, h⟩ := dp_r4 (r := r) a
      exact .tup h (.cons (.int _) (.cons (.int _) (.cons (.int _) (.cons (.int _) .nil))))) (roads_dq (rs := rs) b)

/-- what stays, the tape a tape -/
structure Kp (K : PySem.W.Frag) (t sc : Addr) (ns : List Int) (H H' : Hp) : Prop where
  kt : Kt t H H'
  tp : Tape K H t sc ns → Tape K H' t sc ns
theorem Kp.refl {K : PySem.W.Frag} {t sc : Addr} {ns : List Int} (H : Hp) : Kp K t sc ns H H := ⟨Kt.refl _ _, fun h => h⟩
theorem Kp.trans {K : PySem.W.Frag} {t sc : Addr} {ns : List Int} {H H1 H2 : Hp} (a : Kp K t sc ns H H1) (b : Kp K t sc ns H1 H2) : Kp K t sc ns H H2 := ⟨a.kt.trans b.kt, fun h => b.tp (a.tp h)⟩
theorem K0.kp {K : PySem.W.Frag} {t sc : Addr} {ns : List Int} {H H' : Hp} (k : K0 H H') : Kp K t sc ns H H' := ⟨k.kt, fun h => h.k0 k⟩

section
variable {K : PySem.W.Frag} {T : Addr → Prop} {t sc : Addr} {ns : List Int} {H0 : Hp} {σ : L2.St}
/-- an expression makes data of which P holds -/
def Mk (K : PySem.W.Frag) (T : Addr → Prop) (t sc : Addr) (ns : List Int) (H0 : Hp) (σ : L2.St) (te : TE) (P : PyData → Prop) : Prop := T t → (∀ b, T b → H0 b ≠ none) → ∀ H, Kp K t sc ns H0 H → ∀ Q : VK, (∀ v H' d, Kp K t sc ns H H' → P d → Dq K T H' v d → Q v H') → te σ H Q
def MkL (K : PySem.W.Frag) (T : Addr → Prop) (t sc : Addr) (ns : List Int) (H0 : Hp) (σ : L2.St) (ta : TA) (P : List PyData → Prop) : Prop := T t → (∀ b, T b → H0 b ≠ none) → ∀ H, Kp K t sc ns H0 H → ∀ Q : List V → Hp → Prop, (∀ vs H' ds, Kp K t sc ns H H' → P ds → DqAll K T H' vs ds → Q vs H') → ta σ H Q
def MkI (K : PySem.W.Frag) (T : Addr → Prop) (t sc : Addr) (ns : List Int) (H0 : Hp) (σ : L2.St) (te : TE) (i : Int) : Prop := Mk K T t sc ns H0 σ te (· = .int i)
theorem Mk.imp {te : TE} {P P' : PyData → Prop} (h : Mk K T t sc ns H0 σ te P) (i : ∀ d, P d → P' d) : Mk K T t sc ns H0 σ te P' := fun hTt hdm H k Q q => h hTt hdm H k Q fun v H' d k' p dq => q v H' d k' (i d p) dq
theorem mk_int {i : Int} : Mk K T t sc ns H0 σ (tC (.int i)) (· = .int i) := fun _ _ H _ _ q => q _ H _ (Kp.refl H) rfl (.int i)
theorem mk_bl {b : Bool} : Mk K T t sc ns H0 σ (tC (.bl b)) (· = .bool b) := fun _ _ H _ _ q => q _ H _ (Kp.refl H) rfl (.bl b)
theorem mk_non : Mk K T t sc ns H0 σ (tC .non) (· = .none) := fun _ _ H _ _ q => q _ H _ (Kp.refl H) rfl .non
theorem mk_str {x : Str} : Mk K T t sc ns H0 σ (tC (.str x)) (· = .str x) := fun _ _ H _ _ q => q _ H _ (Kp.refl H) rfl (.str x)
theorem mk_var {i : Nat} {v : V} {d : PyData} (e : σ[i]? = some (some v)) (h : Dq K T H0 v d) : Mk K T t sc ns H0 σ (tVar i) (· = d) := fun hTt hdm H k _ q => ⟨v, e, q v H d (Kp.refl H) rfl (Dq.kt hTt k.kt d v h)⟩
theorem mk_add {ta tb : TE} {i j : Int} (ha : Mk K T t sc ns H0 σ ta (· = .int i)) (hb : Mk K T t sc ns H0 σ tb (· = .int j)) : Mk K T t sc ns H0 σ (tOp (rI0 fun i j => .int (i + j)) ta tb) (· = .int (i + j)) := fun hTt hdm H k Q q => ha hTt hdm H k _ fun v H1 d k1 e dq => by
  subst e; cases dq
  exact hb hTt hdm H1 (k.trans k1) _ fun v H2 d k2 e dq => by
    subst e; cases dq
    exact ⟨i, j, rfl, rfl, q _ H2 _ (k1.trans k2) rfl (.int _)⟩
theorem mk_sub {ta tb : TE} {i j : Int} (ha : Mk K T t sc ns H0 σ ta (· = .int i)) (hb : Mk K T t sc ns H0 σ tb (· = .int j)) : Mk K T t sc ns H0 σ (tOp (rI0 fun i j => .int (i - j)) ta tb) (· = .int (i - j)) := fun hTt hdm H k Q q => ha hTt hdm H k _ fun v H1 d k1 e dq => by
  subst e; cases dq
  exact hb hTt hdm H1 (k.trans k1) _ fun v H2 d k2 e dq => by
    subst e; cases dq
    exact ⟨i, j, rfl, rfl, q _ H2 _ (k1.trans k2) rfl (.int _)⟩
theorem mk_neg {ta : TE} {i : Int} (ha : Mk K T t sc ns H0 σ ta (· = .int i)) : Mk K T t sc ns H0 σ (tUn (rU fun i => .int (-i)) ta) (· = .int (-i)) := fun hTt hdm H k Q q => ha hTt hdm H k _ fun v H1 d k1 e dq => by
  subst e; cases dq
  exact ⟨i, rfl, q _ H1 _ k1 rfl (.int _)⟩
theorem mkl_nil : MkL K T t sc ns H0 σ tNil (· = []) := fun _ _ H _ _ q => q [] H [] (Kp.refl H) rfl .nil
theorem mkl_cons {te : TE} {ta : TA} {d : PyData} {ds : List PyData} (h : Mk K T t sc ns H0 σ te (· = d)) (hr : MkL K T t sc ns H0 σ ta (· = ds)) : MkL K T t sc ns H0 σ (tCons te ta) (· = d :: ds) := fun hTt hdm H k Q q => h hTt hdm H k _ fun v H1 d1 k1 e dq => hr hTt hdm H1 (k.trans k1) _ fun vs H2 es k2 e2 dqs => by
  subst e e2
  exact q _ H2 _ (k1.trans k2) rfl (.cons (Dq.kt hTt k2.kt _ _ dq) dqs)
theorem mkl_consP {te : TE} {ta : TA} {P : PyData → Prop} {ds : List PyData} (h : Mk K T t sc ns H0 σ te P) (hr : MkL K T t sc ns H0 σ ta (· = ds)) : MkL K T t sc ns H0 σ (tCons te ta) (fun l => ∃ d, P d ∧ l = d :: ds) := fun hTt hdm H k Q q => h hTt hdm H k _ fun v H1 d1 k1 e dq => hr hTt hdm H1 (k.trans k1) _ fun vs H2 es k2 e2 dqs => by
  subst e2
  exact q _ H2 _ (k1.trans k2) ⟨d1, e, rfl⟩ (.cons (Dq.kt hTt k2.kt _ _ dq) dqs)
theorem mk_tup {ta : TA} {P : List PyData → Prop} (h : MkL K T t sc ns H0 σ ta P) (hl : ∀ ds, P ds → ds.length ≤ 1000) : Mk K T t sc ns H0 σ (tTup ta) (fun d => ∃ ds, P ds ∧ d = .tuple ds) := fun hTt hdm H k Q q => h hTt hdm H k _ fun vs H1 ds k1 p dqs => by
  refine ⟨by rw [dqs.len]; exact Nat.le_of_lt (small1000 (hl ds p)), fun a na => ?_⟩
  have kn : K0 H1 (upd H1 a (.tup vs)) := K0.new na
  exact q _ _ _ (k1.trans kn.kp) ⟨ds, p, rfl⟩ (.tup (.inl (.inl upd_same)) (DqAll.kt hTt kn.kt _ _ dqs))
theorem mk_tupE {ta : TA} {ds : List PyData} (h : MkL K T t sc ns H0 σ ta (· = ds)) (hl : ds.length ≤ 1000 := by decide) : Mk K T t sc ns H0 σ (tTup ta) (· = .tuple ds) := (mk_tup h fun es e => by rw [e]; exact hl).imp fun d ⟨es, e, e2⟩ => by rw [e2, e]
theorem mk_lst {ta : TA} {P : List PyData → Prop} (h : MkL K T t sc ns H0 σ ta P) (hl : ∀ ds, P ds → ds.length ≤ 1000) : Mk K T t sc ns H0 σ (tLst ta) (fun d => ∃ ds, P ds ∧ d = .list ds) := fun hTt hdm H k Q q => h hTt hdm H k _ fun vs H1 ds k1 p dqs => by
  refine ⟨by rw [dqs.len]; exact Nat.le_of_lt (small1000 (hl ds p)), fun a na => ?_⟩
  have kn : K0 H1 (upd H1 a (.lst vs)) := K0.new na
  exact q _ _ _ (k1.trans kn.kp) ⟨ds, p, rfl⟩ (.lst upd_same (fun z => hdm _ z ((k.trans k1).kt.dom _ na)) (DqAll.kt hTt kn.kt _ _ dqs))
theorem mk_lstE {ta : TA} {ds : List PyData} (h : MkL K T t sc ns H0 σ ta (· = ds)) (hl : ds.length ≤ 1000 := by decide) : Mk K T t sc ns H0 σ (tLst ta) (· = .list ds) := (mk_lst h fun es e => by rw [e]; exact hl).imp fun d ⟨es, e, e2⟩ => by rw [e2, e]
/-- xs + ys, two lists -/
theorem mk_catL {ta tb : TE} {ds es : List PyData} (ha : Mk K T t sc ns H0 σ ta (· = .list ds)) (hb : Mk K T t sc ns H0 σ tb (· = .list es)) (hl : ds.length + es.length ≤ 1000 := by decide) : Mk K T t sc ns H0 σ (tOp rCat ta tb) (· = .list (ds ++ es)) := fun hTt hdm H k Q q => ha hTt hdm H k _ fun v H1 d k1 e dq => by
  subst e
  exact hb hTt hdm H1 (k.trans k1) _ fun v2 H2 d k2 e dq2 => by
    subst e
    have dq' := Dq.kt hTt k2.kt _ _ dq
    cases dq' with
    | @lst a xs _ h1 n1 a1 => cases dq2 with
      | @lst b ys _ h2 n2 a2 =>
        refine ⟨_, _, _, _, rfl, rfl, h1, h2, ?_, fun p np => ?_⟩
        · rw [a1.len, a2.len]; exact Nat.le_of_lt (small1000 hl)
        · have kn : K0 H2 (upd H2 p (.lst (xs ++ ys))) := K0.new np
          exact q _ _ _ ((k1.trans k2).trans kn.kp) rfl (.lst upd_same (fun z => hdm _ z (((k.trans k1).trans k2).kt.dom _ np)) (DqAll.kt hTt kn.kt _ _ (a1.app a2)))
/-- t + u, two tuples -/
theorem mk_catT {ta tb : TE} {P1 P2 : List PyData → Prop} (ha : Mk K T t sc ns H0 σ ta (fun d => ∃ ds, P1 ds ∧ d = .tuple ds)) (hb : Mk K T t sc ns H0 σ tb (fun d => ∃ ds, P2 ds ∧ d = .tuple ds)) (hl : ∀ ds es, P1 ds → P2 es → ds.length + es.length ≤ 1000) :
    Mk K T t sc ns H0 σ (tOp (rCatA K) ta tb) (fun d => ∃ ds, (∃ d1 d2, P1 d1 ∧ P2 d2 ∧ ds = d1 ++ d2) ∧ d = .tuple ds) := fun hTt hdm H k Q q => ha hTt hdm H k _ fun v H1 d k1 e dq => by
  obtain ⟨ds, p1, rfl⟩ := e
  exact hb hTt hdm H1 (k.trans k1) _ fun v2 H2 d k2 e dq2 => by
    obtain ⟨es, p2, rfl⟩ := e
    have dq' := Dq.kt hTt k2.kt _ _ dq
    cases dq' with
    | @tup a xs _ h1 a1 => cases dq2 with
      | @tup b ys _ h2 a2 =>
        refine ⟨_, _, _, _, rfl, rfl, h1, h2, ?_, fun e => ?_, fun e1 e2 => ?_, fun _ _ p np => ?_⟩
        · rw [a1.len, a2.len]; exact Nat.le_of_lt (small1000 (hl _ _ p1 p2))
        · subst e
          cases a1
          exact q _ _ _ (k1.trans k2) ⟨es, ⟨[], es, p1, p2, rfl⟩, rfl⟩ (.tup h2 a2)
        · subst e2
          cases a2
          exact q _ _ _ (k1.trans k2) ⟨ds, ⟨ds, [], p1, p2, by simp⟩, rfl⟩ (.tup h1 a1)
        · have kn : K0 H2 (upd H2 p (.tup (xs ++ ys))) := K0.new np
          exact q _ _ _ ((k1.trans k2).trans kn.kp) ⟨_, ⟨ds, es, p1, p2, rfl⟩, rfl⟩ (.tup (.inl (.inl upd_same)) (DqAll.kt hTt kn.kt _ _ (a1.app a2)))
def cutD (ds : List PyData) (lo hi : Option Int) : List PyData := (ds.drop (HT.sIx ds.length 0 lo)).take (HT.sIx ds.length ds.length hi - HT.sIx ds.length 0 lo)
def MkO (K : PySem.W.Frag) (T : Addr → Prop) (t sc : Addr) (ns : List Int) (H0 : Hp) (σ : L2.St) (to : TO) (o : Option Int) : Prop := T t → (∀ b, T b → H0 b ≠ none) → ∀ H, Kp K t sc ns H0 H → ∀ Q : Option Int → Hp → Prop, (∀ H', Kp K t sc ns H H' → Q o H') → to σ H Q
theorem mko_none : MkO K T t sc ns H0 σ tNoPart none := fun _ _ H _ _ q => q H (Kp.refl H)
theorem mko_some {te : TE} {i : Int} (h : Mk K T t sc ns H0 σ te (· = .int i)) : MkO K T t sc ns H0 σ (tPart te) (some i) := fun hTt hdm H k _ q => h hTt hdm H k _ fun v H1 d k1 e dq => by
  subst e; cases dq
  exact ⟨i, rfl, q H1 k1⟩
theorem mk_sl {te : TE} {tl th : TO} {lo hi : Option Int} {ds : List PyData} (h : Mk K T t sc ns H0 σ te (· = .tuple ds)) (h1 : MkO K T t sc ns H0 σ tl lo) (h2 : MkO K T t sc ns H0 σ th hi) : Mk K T t sc ns H0 σ (tSl (rSlA K) te tl th) (· = .tuple (cutD ds lo hi)) := fun hTt hdm H k Q q => h hTt hdm H k _ fun v H1 d k1 e dq => by
  subst e
  exact h1 hTt hdm H1 (k.trans k1) _ fun H2 k2 => h2 hTt hdm H2 ((k.trans k1).trans k2) _ fun H3 k3 => by
    have dq' := Dq.kt hTt (k2.trans k3).kt _ _ dq
    cases dq' with
    | @tup a xs _ hq hall =>
      refine ⟨_, _, rfl, hq, fun hw => ?_, fun hw p np => ?_⟩
      · have : cutD ds lo hi = ds := by
          unfold cutD
          rw [← hall.len, hw.1, hw.2, List.drop_zero, Nat.sub_zero]
          exact List.take_of_length_le (by rw [hall.len]; exact Nat.le_refl _)
        rw [this] at q
        exact q _ H3 _ ((k1.trans k2).trans k3) rfl (.tup hq hall)
      · have kn : K0 H3 (upd H3 p (.tup (cutV xs lo hi))) := K0.new np
        refine q _ _ _ (((k1.trans k2).trans k3).trans kn.kp) rfl (.tup (.inl (.inl upd_same)) (DqAll.kt hTt kn.kt _ _ ?_))
        unfold cutV cutD
        rw [hall.len]
        exact (hall.drop _).take _
/-- t[i], a tuple at a written place -/
theorem mk_ixT {te ti : TE} {ds : List PyData} {j : Nat} {d : PyData} (h : Mk K T t sc ns H0 σ te (· = .tuple ds)) (hi : Mk K T t sc ns H0 σ ti (· = .int j)) (hd : ds[j]? = some d) : Mk K T t sc ns H0 σ (tOp (rIxT K) te ti) (· = d) := fun hTt hdm H k Q q => h hTt hdm H k _ fun v H1 d1 k1 e dq => by
  subst e
  exact hi hTt hdm H1 (k.trans k1) _ fun v2 H2 d2 k2 e dq2 => by
    subst e; cases dq2
    have dq' := Dq.kt hTt k2.kt _ _ dq
    cases dq' with
    | @tup a xs _ hq hall =>
      have hl : j < xs.length := by rw [hall.len]; exact (List.getElem?_eq_some_iff.mp hd).1
      obtain ⟨d', e1, e2⟩ := hall.get (List.getElem?_eq_getElem hl)
      rw [hd] at e1; cases e1
      exact ⟨_, _, _, _, rfl, rfl, hq, atI_nat (List.getElem?_eq_getElem hl), q _ H2 _ (k1.trans k2) rfl e2⟩
end
end HK

set_option Elab.async false
set_option linter.all false
set_option maxRecDepth 100000
set_option maxHeartbeats 2000000
namespace HK
open PySem PySem.Spec PyProof.Rows L2 GAl GxR
open Evl (pss_cut)
section
variable {P : Program} {w : World} {K : PySem.W.Frag} {mg : Str → Option Value} {base : Heap}
def spSome (K : PySem.W.Frag) : Sp := fun vs H Q _ => ∃ (t sc r : Addr) (ns : List Int) (xs : List V), vs = [.ref t, .ref r] ∧ Tape K H t sc ns ∧ (SqT K H r xs ∨ (H r = some (.lst xs) ∧ r ≠ t)) ∧ 0 < xs.length ∧ xs.length ≤ 100000 ∧
  ∀ (j : Nat) (x : V) (H' : Hp), xs[j]? = some x → Kp K t sc ns H H' → Q x H'
end
end HK

set_option Elab.async false
set_option linter.all false
set_option maxHeartbeats 2000000
namespace HK
/-! ### the mathematics: going through the roads as often as there are places -/
abbrev IF := Int → Option Int
def put (f : IF) (i x : Int) : IF := fun j => if j = i then some x else f j
def Le (g f : IF) : Prop := ∀ v a, f v = some a → ∃ b, g v = some b ∧ b ≤ a
theorem Le.refl (f : IF) : Le f f := fun v a h => ⟨a, h, Int.le_refl _⟩
theorem Le.trans {f g h : IF} (a : Le f g) (b : Le g h) : Le f h := fun v x e => by
  obtain ⟨y, e1, l1⟩ := b v x e
  obtain ⟨z, e2, l2⟩ := a v y e1
  exact ⟨z, e2, by omega⟩
def rlx (src g : IF) (r : R4) : IF := match src r.s with
  | none => g
  | some a => match g r.e with
    | none => put g r.e (a + r.l)
    | some b => if a + r.l < b then put g r.e (a + r.l) else g
structure IInv (n : Int) (rs : List R4) (root : Int) (f : IF) : Prop where
  rt0 : f root = some 0
  rng : ∀ v a, f v = some a → 0 ≤ v ∧ v < n ∧ 0 ≤ a
  wt : ∀ v b, f v = some b → v = root ∨ ∃ r ∈ rs, r.e = v ∧ ∃ a, f r.s = some a ∧ a + r.l ≤ b
def Closed (rs : List R4) (f : IF) : Prop := ∀ r ∈ rs, ∀ a, f r.s = some a → ∃ b, f r.e = some b ∧ b ≤ a + r.l
section
variable {n root : Int} {rs : List R4}
theorem put_inv {g : IF} {r : R4} {x a' : Int} (I : IInv n rs root g) (hr : RoadOk n r) (hm : r ∈ rs) (ha : g r.s = some a') (hx : a' + r.l ≤ x) (hlt : ∀ b, g r.e = some b → x < b) : IInv n rs root (put g r.e x) ∧ Le (put g r.e x) g := by
  have h0 := (I.rng _ _ ha).2.2
  have hl := hr.l0
  have ne : r.e ≠ root := fun z => by
    have := hlt 0 (by rw [z]; exact I.rt0)
    omega
  have le : Le (put g r.e x) g := fun v b e => by
    by_cases hv : v = r.e
    · subst hv
      exact ⟨x, if_pos rfl, Int.le_of_lt (hlt b e)⟩
    · exact ⟨b, by unfold put; rw [if_neg hv]; exact e, Int.le_refl _⟩
  refine ⟨⟨?_, fun v b e => ?_, fun v b e => ?_⟩, le⟩
  · unfold put; rw [if_neg (fun z => ne z.symm)]; exact I.rt0
  · unfold put at e
    by_cases hv : v = r.e
    · rw [if_pos hv] at e
      cases e
      rw [hv]
      exact ⟨hr.e0, hr.e1, by omega⟩
    · rw [if_neg hv] at e
      exact I.rng v b e
  · by_cases hv : v = r.e
    · unfold put at e
      rw [if_pos hv] at e
      cases e
      exact .inr ⟨r, hm, hv.symm, a', by unfold put; rw [if_neg hr.ne]; exact ha, hx⟩
    · unfold put at e
      rw [if_neg hv] at e
      rcases I.wt v b e with h | ⟨r', h1, h2, a, h3, h4⟩
      · exact .inl h
      · obtain ⟨a2, h5, h6⟩ := le _ _ h3
        exact .inr ⟨r', h1, h2, a2, h5, by omega⟩
theorem rlx_inv {src g : IF} {r : R4} (I : IInv n rs root g) (hr : RoadOk n r) (hm : r ∈ rs) (hs : Le g src) :
    IInv n rs root (rlx src g r) ∧ Le (rlx src g r) g ∧ ∀ a, src r.s = some a → ∃ b, rlx src g r r.e = some b ∧ b ≤ a + r.l := by
  unfold rlx
  cases e : src r.s with
  | none => exact ⟨I, .refl _, fun a z => by cases z⟩
  | some a =>
    obtain ⟨a', e1, l1⟩ := hs _ _ e
    cases e2 : g r.e with
    | none =>
      obtain ⟨h1, h2⟩ := put_inv (x := a + r.l) I hr hm e1 (by omega) (fun b z => by rw [e2] at z; cases z)
      exact ⟨h1, h2, fun a2 z => by cases z; exact ⟨_, if_pos rfl, Int.le_refl _⟩⟩
    | some b =>
      by_cases hb : a + r.l < b
      · simp only [hb, if_true]
        obtain ⟨h1, h2⟩ := put_inv (x := a + r.l) I hr hm e1 (by omega) (fun b' z => by rw [e2] at z; cases z; exact hb)
        exact ⟨h1, h2, fun a2 z => by cases z; exact ⟨_, if_pos rfl, Int.le_refl _⟩⟩
      · simp only [hb, if_false]
        exact ⟨I, .refl _, fun a2 z => by cases z; exact ⟨b, e2, by omega⟩⟩
def rnd (S : IF → IF) (l : List R4) (g : IF) : IF := l.foldl (fun g r => rlx (S g) g r) g
theorem rnd_inv {S : IF → IF} {f : IF} (hS : ∀ g, Le g f → Le g (S g) ∧ Le (S g) f) : ∀ (l : List R4) (g : IF), (∀ r ∈ l, r ∈ rs ∧ RoadOk n r) → IInv n rs root g → Le g f →
    IInv n rs root (rnd S l g) ∧ Le (rnd S l g) g ∧ ∀ r ∈ l, ∀ a, f r.s = some a → ∃ b, rnd S l g r.e = some b ∧ b ≤ a + r.l
  | [], g, _, I, _ => ⟨I, .refl _, fun r h => by cases h⟩
  | r :: l, g, hl, I, hf => by
    obtain ⟨s1, s2⟩ := hS g hf
    obtain ⟨i1, i2, i3⟩ := rlx_inv I (hl r (List.mem_cons_self ..)).2 (hl r (List.mem_cons_self ..)).1 s1
    obtain ⟨j1, j2, j3⟩ := rnd_inv hS l (rlx (S g) g r) (fun q h => hl q (List.mem_cons_of_mem _ h)) i1 (i2.trans hf)
    refine ⟨j1, j2.trans i2, fun q hq a ha => ?_⟩
    rcases List.mem_cons.mp hq with rfl | hq
    · obtain ⟨a', e, le⟩ := s2 _ _ ha
      obtain ⟨b, e2, le2⟩ := i3 a' e
      obtain ⟨c, e3, le3⟩ := j2 _ _ e2
      exact ⟨c, e3, by omega⟩
    · exact j3 q hq a ha
def iter (F : IF → IF) : Nat → IF → IF
  | 0, f => f
  | k + 1, f => F (iter F k f)
theorem half {D f : IF} (hok : ∀ r ∈ rs, RoadOk n r) (c : Closed rs D) (d0 : D root = some 0) (I : IInv n rs root f) : Le D f := by
  have key : ∀ (N : Nat) (v b : Int), f v = some b → b.toNat < N → ∃ c, D v = some c ∧ c ≤ b := by
    intro N
    induction N with
    | zero => intro v b _ h; omega
    | succ N ih =>
      intro v b e hb
      have h0 := (I.rng v b e).2.2
      rcases I.wt v b e with rfl | ⟨r, hm, rfl, a, e2, le⟩
      · exact ⟨0, d0, h0⟩
      · have hl := (hok r hm).l0
        have ha := (I.rng _ _ e2).2.2
        obtain ⟨x, e3, l3⟩ := ih r.s a e2 (by omega)
        obtain ⟨y, e4, l4⟩ := c r hm x e3
        exact ⟨y, e4, by omega⟩
  exact fun v b e => key (b.toNat + 1) v b e (by omega)
theorem two_same {f g : IF} (hok : ∀ r ∈ rs, RoadOk n r) (cf : Closed rs f) (If : IInv n rs root f) (cg : Closed rs g) (Ig : IInv n rs root g) : f = g := by
  have h1 := half hok cf If.rt0 Ig
  have h2 := half hok cg Ig.rt0 If
  funext v
  cases e : f v with
  | none =>
    cases e2 : g v with
    | none => rfl
    | some b => obtain ⟨c, e3, _⟩ := h1 v b e2; rw [e] at e3; cases e3
  | some a =>
    obtain ⟨b, e2, l2⟩ := h2 v a e
    obtain ⟨c, e3, l3⟩ := h1 v b e2
    rw [e] at e3
    cases e3
    rw [e2]
    have : a = b := by omega
    rw [this]
theorem countP_lt {α : Type} {p q : α → Bool} : ∀ {l : List α}, (∀ x ∈ l, p x = true → q x = true) → (∃ x ∈ l, q x = true ∧ ¬ p x = true) → l.countP p < l.countP q
  | [], _, h => by obtain ⟨x, hx, _⟩ := h; cases hx
  | y :: l, h, hx => by
    have hm : l.countP p ≤ l.countP q := List.countP_mono_left (fun x hx => h x (List.mem_cons_of_mem _ hx))
    obtain ⟨x, hx, hq, hp⟩ := hx
    rw [List.countP_cons, List.countP_cons]
    rcases List.mem_cons.mp hx with rfl | hx
    · rw [if_pos hq, if_neg hp]; omega
    · have ih := countP_lt (fun x hx => h x (List.mem_cons_of_mem _ hx)) ⟨x, hx, hq, hp⟩
      have := h y (List.mem_cons_self ..)
      by_cases hy : p y = true
      · rw [if_pos hy, if_pos (this hy)]; omega
      · rw [if_neg hy]
        split <;> omega
variable {F : IF → IF} {f0 : IF}
def Turns (n : Int) (rs : List R4) (root : Int) (F : IF → IF) : Prop := ∀ f, IInv n rs root f → IInv n rs root (F f) ∧ Le (F f) f ∧ ∀ r ∈ rs, ∀ a, f r.s = some a → ∃ b, F f r.e = some b ∧ b ≤ a + r.l
theorem iter_inv (hF : Turns n rs root F) (I0 : IInv n rs root f0) : ∀ k, IInv n rs root (iter F k f0)
  | 0 => I0
  | k + 1 => (hF _ (iter_inv hF I0 k)).1
theorem iter_le (hF : Turns n rs root F) (I0 : IInv n rs root f0) (k : Nat) : ∀ j, Le (iter F (k + j) f0) (iter F k f0)
  | 0 => .refl _
  | j + 1 => ((hF _ (iter_inv hF I0 (k + j))).2.1).trans (iter_le hF I0 k j)
theorem stab (hF : Turns n rs root F) (I0 : IInv n rs root f0) (v : Int) : ∃ K, ∀ k, K ≤ k → iter F k f0 v = iter F K f0 v := by
  have key : ∀ (N k : Nat) (m : Int), iter F k f0 v = some m → m.toNat < N → ∃ K, ∀ k, K ≤ k → iter F k f0 v = iter F K f0 v := by
    intro N
    induction N with
    | zero => intro k m _ h; omega
    | succ N ih =>
      intro k m e hm
      by_cases hh : ∀ j, k ≤ j → iter F j f0 v = some m
      · exact ⟨k, fun j hj => by rw [hh j hj, e]⟩
      · have ⟨j, hj⟩ := Classical.not_forall.mp hh
        have ⟨hk, hj⟩ := Classical.not_imp.mp hj
        obtain ⟨d, rfl⟩ := Nat.exists_eq_add_of_le hk
        obtain ⟨b, e2, l2⟩ := iter_le hF I0 k d v m e
        have hb := ((iter_inv hF I0 (k + d)).rng _ _ e2).2.2
        have : b ≠ m := fun z => hj (by rw [e2, z])
        exact ih (k + d) b e2 (by omega)
  by_cases h : ∃ k m, iter F k f0 v = some m
  · obtain ⟨k, m, e⟩ := h
    exact key (m.toNat + 1) k m e (by omega)
  · have none : ∀ k, iter F k f0 v = none := fun k => by
      cases e : iter F k f0 v with
      | none => rfl
      | some m => exact absurd ⟨k, m, e⟩ h
    exact ⟨0, fun k _ => by rw [none k, none 0]⟩
theorem stab_all (hF : Turns n rs root F) (I0 : IInv n rs root f0) : ∀ N : Nat, ∃ K, ∀ (i : Nat), i < N → ∀ k, K ≤ k → iter F k f0 (i : Int) = iter F K f0 (i : Int)
  | 0 => ⟨0, fun i h => by omega⟩
  | N + 1 => by
    obtain ⟨K1, h1⟩ := stab_all hF I0 N
    obtain ⟨K2, h2⟩ := stab hF I0 (N : Int)
    refine ⟨max K1 K2, fun i hi k hk => ?_⟩
    have a1 : K1 ≤ max K1 K2 := Nat.le_max_left ..
    have a2 : K2 ≤ max K1 K2 := Nat.le_max_right ..
    by_cases hi' : i = N
    · subst hi'
      rw [h2 k (by omega), h2 _ a2]
    · rw [h1 i (by omega) k (by omega), h1 i (by omega) _ a1]
theorem limit (hF : Turns n rs root F) (I0 : IInv n rs root f0) : ∃ D, IInv n rs root D ∧ Closed rs D := by
  obtain ⟨K, h⟩ := stab_all hF I0 n.toNat
  have same : iter F (K + 1) f0 = iter F K f0 := by
    funext v
    by_cases hv : 0 ≤ v ∧ v < n
    · obtain ⟨i, rfl⟩ := Int.eq_ofNat_of_zero_le hv.1
      exact h i (by omega) (K + 1) (by omega)
    · have none : ∀ k, iter F k f0 v = none := fun k => by
        cases e : iter F k f0 v with
        | none => rfl
        | some m =>
          have := (iter_inv hF I0 k).rng _ _ e
          exact absurd ⟨this.1, this.2.1⟩ hv
      rw [none, none]
  refine ⟨_, iter_inv hF I0 K, fun r hr a ha => ?_⟩
  obtain ⟨b, e, l⟩ := (hF _ (iter_inv hF I0 K)).2.2 r hr a ha
  exact ⟨b, by rw [← same]; exact e, l⟩
theorem conv (hok : ∀ r ∈ rs, RoadOk n r) (hF : Turns n rs root F) (I0 : IInv n rs root f0) : Closed rs (iter F n.toNat f0) := by
  obtain ⟨D, ID, cD⟩ := limit hF I0
  have low : ∀ k, Le D (iter F k f0) := fun k => half hok cD ID.rt0 (iter_inv hF I0 k)
  have stay : ∀ k v b, D v = some b → iter F k f0 v = some b → iter F (k + 1) f0 v = some b := fun k v b hd e => by
    obtain ⟨c, e1, l1⟩ := (hF _ (iter_inv hF I0 k)).2.1 v b e
    obtain ⟨c', e2, l2⟩ := low (k + 1) v c e1
    rw [hd] at e2
    cases e2
    have : c = b := by omega
    rw [← this]; exact e1
  have prog : ∀ (k N : Nat) (v b : Int), D v = some b → b.toNat < N → iter F k f0 v ≠ some b → ∃ v' b', D v' = some b' ∧ iter F k f0 v' ≠ some b' ∧ iter F (k + 1) f0 v' = some b' := by
    intro k N
    induction N with
    | zero => intro v b _ h; omega
    | succ N ih =>
      intro v b hd hb hne
      rcases ID.wt v b hd with rfl | ⟨r, hm, rfl, a, e2, le⟩
      · rw [ID.rt0] at hd
        cases hd
        exact absurd (iter_inv hF I0 k).rt0 hne
      · have hl := (hok r hm).l0
        have ha := (ID.rng _ _ e2).2.2
        by_cases hs : iter F k f0 r.s = some a
        · obtain ⟨b', e3, l3⟩ := (hF _ (iter_inv hF I0 k)).2.2 r hm a hs
          obtain ⟨c, e4, l4⟩ := low (k + 1) r.e b' e3
          rw [hd] at e4
          cases e4
          have : b' = b := by omega
          exact ⟨r.e, b, hd, hne, by rw [← this]; exact e3⟩
        · exact ih r.s a e2 (by omega) hs
  let fin : Nat → Nat → Bool := fun k i => decide (iter F k f0 (i : Int) = D (i : Int)) && (D (i : Int)).isSome
  have hn : ∀ v b, D v = some b → ∃ i : Nat, v = (i : Int) ∧ i ∈ List.range n.toNat := fun v b e => by
    have := ID.rng v b e
    obtain ⟨i, rfl⟩ := Int.eq_ofNat_of_zero_le this.1
    exact ⟨i, rfl, List.mem_range.mpr (by omega)⟩
  have main : ∀ k, (∀ v b, D v = some b → iter F k f0 v = some b) ∨ k + 1 ≤ (List.range n.toNat).countP (fin k) := by
    intro k
    induction k with
    | zero =>
      obtain ⟨i, hi, hm⟩ := hn root 0 ID.rt0
      refine .inr (List.countP_pos_iff.mpr ⟨i, hm, ?_⟩)
      show (decide (f0 (i : Int) = D (i : Int)) && (D (i : Int)).isSome) = true
      rw [← hi, I0.rt0, ID.rt0]
      rfl
    | succ k ih =>
      rcases ih with h | h
      · exact .inl fun v b e => stay k v b e (h v b e)
      · by_cases all : ∀ v b, D v = some b → iter F k f0 v = some b
        · exact .inl fun v b e => stay k v b e (all v b e)
        · refine .inr (Nat.lt_of_le_of_lt h (countP_lt (fun i _ hi => ?_) ?_))
          · have hi' := Bool.and_eq_true_iff.mp hi
            have h1 := of_decide_eq_true hi'.1
            obtain ⟨b, e⟩ := Option.isSome_iff_exists.mp hi'.2
            have := stay k i b e (h1.trans e)
            exact Bool.and_eq_true_iff.mpr ⟨decide_eq_true (this.trans e.symm), hi'.2⟩
          · have ⟨v, hv⟩ := Classical.not_forall.mp all
            have ⟨b, hb⟩ := Classical.not_forall.mp hv
            have ⟨hd, hne⟩ := Classical.not_imp.mp hb
            obtain ⟨v', b', d', n', e'⟩ := prog k (b.toNat + 1) v b hd (by omega) hne
            obtain ⟨i, rfl, hm⟩ := hn v' b' d'
            refine ⟨i, hm, Bool.and_eq_true_iff.mpr ⟨decide_eq_true (e'.trans d'.symm), by rw [d']; rfl⟩, fun z => ?_⟩
            exact n' ((of_decide_eq_true (Bool.and_eq_true_iff.mp z).1).trans d')
  have fin' : ∀ v b, D v = some b → iter F n.toNat f0 v = some b := by
    rcases main n.toNat with h | h
    · exact h
    · have := List.countP_le_length (p := fin n.toNat) (l := List.range n.toNat)
      rw [List.length_range] at this
      omega
  have eq : iter F n.toNat f0 = D := by
    funext v
    cases e : D v with
    | some b => exact fin' v b e
    | none =>
      cases e2 : iter F n.toNat f0 v with
      | none => rfl
      | some b => obtain ⟨c, e3, _⟩ := low n.toNat v b e2; rw [e] at e3; cases e3
  rw [eq]; exact cD
/-- the two ways of going through -/
theorem turns_at (hok : ∀ r ∈ rs, RoadOk n r) : Turns n rs root (fun f => rnd id rs f) := fun f I => by
  obtain ⟨h1, h2, h3⟩ := rnd_inv (S := id) (f := f) (n := n) (rs := rs) (root := root) (fun g h => ⟨.refl _, h⟩) rs f (fun r h => ⟨h, hok r h⟩) I (.refl _)
  exact ⟨h1, h2, h3⟩
theorem turns_by (hok : ∀ r ∈ rs, RoadOk n r) : Turns n rs root (fun f => rnd (fun _ => f) rs f) := fun f I => by
  obtain ⟨h1, h2, h3⟩ := rnd_inv (S := fun _ => f) (f := f) (n := n) (rs := rs) (root := root) (fun g h => ⟨h, .refl _⟩) rs f (fun r h => ⟨h, hok r h⟩) I (.refl _)
  exact ⟨h1, h2, h3⟩
def ini (root : Int) : IF := put (fun _ => none) root 0
theorem ini_inv (h0 : 0 ≤ root) (h1 : root < n) : IInv n rs root (ini root) := by
  refine ⟨if_pos rfl, fun v a e => ?_, fun v b e => ?_⟩
  · unfold ini put at e
    by_cases hv : v = root
    · rw [if_pos hv] at e; cases e; subst hv; exact ⟨h0, h1, Int.le_refl _⟩
    · rw [if_neg hv] at e; cases e
  · unfold ini put at e
    by_cases hv : v = root
    · exact .inl hv
    · rw [if_neg hv] at e; cases e
end
/-- what is found -/
def due (n : Int) (rs : List R4) (root : Int) : IF := iter (fun f => rnd id rs f) n.toNat (ini root)
theorem due_inv {n root : Int} {rs : List R4} (hok : ∀ r ∈ rs, RoadOk n r) (h0 : 0 ≤ root) (h1 : root < n) : IInv n rs root (due n rs root) := iter_inv (turns_at hok) (ini_inv h0 h1) _
theorem due_closed {n root : Int} {rs : List R4} (hok : ∀ r ∈ rs, RoadOk n r) (h0 : 0 ≤ root) (h1 : root < n) : Closed rs (due n rs root) := conv hok (turns_at hok) (ini_inv h0 h1)
theorem due_by {n root : Int} {rs : List R4} (hok : ∀ r ∈ rs, RoadOk n r) (h0 : 0 ≤ root) (h1 : root < n) : iter (fun f => rnd (fun _ => f) rs f) n.toNat (ini root) = due n rs root :=
  two_same hok (conv hok (turns_by hok) (ini_inv h0 h1)) (iter_inv (turns_by hok) (ini_inv h0 h1) _) (due_closed hok h0 h1) (due_inv hok h0 h1)
end HK

set_option Elab.async false
set_option linter.all false
set_option maxRecDepth 100000
set_option maxHeartbeats 2000000
namespace HK
open PySem PySem.Spec PyProof.Rows L2 GAl GxR
/-! ### a dict of whole numbers by whole numbers -/
structure DI (kvs : List (Key × V)) (f : IF) : Prop where
  nd : (kvs.map (·.1)).Nodup
  ks : ∀ p ∈ kvs, ∃ i x : Int, p = (Sum.inl i, V.int x)
  val : ∀ i : Int, valV kvs (Sum.inl i) = (f i).map V.int
theorem valV_mem {κ : Type} [DecidableEq κ] : ∀ {kvs : List (κ × V)} {p : κ × V}, (kvs.map (·.1)).Nodup → p ∈ kvs → valV kvs p.1 = some p.2
  | q :: r, p, nd, h => by
    have nd' := List.nodup_cons.mp nd
    rcases List.mem_cons.mp h with rfl | h
    · exact valV_pos rfl
    · have : ¬ q.1 = p.1 := fun z => nd'.1 (List.mem_map.mpr ⟨p, h, z.symm⟩)
      rw [valV_neg this]
      exact valV_mem nd'.2 h
theorem DI.at_ {kvs : List (Key × V)} {f : IF} (h : DI kvs f) {p : Key × V} (hp : p ∈ kvs) : ∃ i x : Int, p = (Sum.inl i, V.int x) ∧ f i = some x := by
  obtain ⟨i, x, rfl⟩ := h.ks p hp
  have e := valV_mem h.nd hp
  rw [h.val] at e
  cases e2 : f i with
  | none => rw [e2] at e; cases e
  | some y => rw [e2] at e; cases e; exact ⟨i, _, rfl, e2⟩
theorem DI.mem {kvs : List (Key × V)} {f : IF} (h : DI kvs f) (i : Int) : (Sum.inl i : Key) ∈ kvs.map (·.1) ↔ (f i).isSome = true := by
  constructor
  · intro hm
    obtain ⟨p, hp, e⟩ := List.mem_map.mp hm
    obtain ⟨j, x, rfl, e2⟩ := h.at_ hp
    have e : (Sum.inl j : Key) = Sum.inl i := e
    cases e
    rw [e2]; rfl
  · intro hs
    obtain ⟨x, e⟩ := Option.isSome_iff_exists.mp hs
    exact valV_in (v := .int x) (by rw [h.val, e]; rfl)
theorem DI.put {kvs : List (Key × V)} {f : IF} (h : DI kvs f) (i x : Int) : DI (putK kvs (Sum.inl i) (.int x)) (HK.put f i x) := by
  refine ⟨?_, fun p hp => ?_, fun j => ?_⟩
  · cases e : valV kvs (Sum.inl i) with
    | none => exact nd_putK _ h.nd e
    | some v =>
      unfold putK
      rw [valV_any, e]
      simp only [Option.isSome_some, if_true]
      have : (kvs.map fun kv => if kv.1 = (Sum.inl i : Key) then (kv.1, V.int x) else kv).map (·.1) = kvs.map (·.1) := by
        rw [List.map_map]
        exact List.map_congr_left fun p _ => by
          show (if p.1 = (Sum.inl i : Key) then (p.1, V.int x) else p).1 = p.1
          split <;> rfl
      rw [this]; exact h.nd
  · unfold putK at hp
    split at hp
    · obtain ⟨q, hq, rfl⟩ := List.mem_map.mp hp
      obtain ⟨j, y, rfl⟩ := h.ks q hq
      by_cases e : (Sum.inl j : Key) = Sum.inl i
      · exact ⟨j, x, by simp only [e, if_true]⟩
      · exact ⟨j, y, by simp only [e, if_false]⟩
    · rcases List.mem_append.mp hp with hp | hp
      · exact h.ks p hp
      · exact ⟨i, x, List.mem_singleton.mp hp⟩
  · rw [valV_put, h.val]
    unfold HK.put
    by_cases e : j = i
    · subst e; simp
    · simp [e]
theorem DI.one (root : Int) : DI (mergeK [] [(Sum.inl root, V.int 0)]) (ini root) := by
  have h0 : DI [] (fun _ => none) := ⟨List.nodup_nil, fun p hp => (by cases hp), fun i => rfl⟩
  exact h0.put root 0
theorem DI.same {ks ls : List (Key × V)} {f : IF} (h : DI ks f) (g : DI ls f) : ks.length = ls.length ∧ ∀ p ∈ ks, valV ls p.1 = some p.2 ∧ flatB p.2 = true := by
  constructor
  · have : (ks.map (·.1)).Perm (ls.map (·.1)) := (List.perm_ext_iff_of_nodup h.nd g.nd).mpr fun k => by
      cases k with
      | inl i => rw [h.mem, g.mem]
      | inr s =>
        constructor
        · intro hm
          obtain ⟨p, hp, e⟩ := List.mem_map.mp hm
          obtain ⟨j, x, rfl⟩ := h.ks p hp
          cases e
        · intro hm
          obtain ⟨p, hp, e⟩ := List.mem_map.mp hm
          obtain ⟨j, x, rfl⟩ := g.ks p hp
          cases e
    have := this.length_eq
    rwa [List.length_map, List.length_map] at this
  · intro p hp
    obtain ⟨i, x, rfl, e⟩ := h.at_ hp
    exact ⟨by show valV ls (Sum.inl i) = _; rw [g.val, e]; rfl, rfl⟩
theorem DI.pair {kvs : List (Key × V)} {f : IF} (h : DI kvs f) {v x : Int} (e : f v = some x) : (Sum.inl v, V.int x) ∈ kvs := by
  have := (h.mem v).mpr (by rw [e]; rfl)
  obtain ⟨pp, hpp, ep⟩ := List.mem_map.mp this
  obtain ⟨j, z, rfl, ej⟩ := h.at_ hpp
  cases ep
  rw [e] at ej
  cases ej
  exact hpp
theorem rnd_take {S : IF → IF} {rs : List R4} {g : IF} {j : Nat} {r : R4} (h : rs[j]? = some r) : rnd S (rs.take (j + 1)) g = rlx (S (rnd S (rs.take j) g)) (rnd S (rs.take j) g) r := by
  have : rs.take (j + 1) = rs.take j ++ [r] := by rw [List.take_add_one, h]; rfl
  rw [this]
  unfold rnd
  rw [List.foldl_append]
  rfl
/-! ### a good net is one -/
def pr (r : R4) : List Int := [r.s, r.e]
theorem pairs_map (rs : List R4) : (rs.map R4.d).map pairD = rs.map pr := by rw [List.map_map]; rfl
abbrev nt (m : PyData) (ds : List PyData) : PyData := .tuple [m, .tuple ds]
theorem lex_fore {a b : R4} (h : a.lt b) : HT.lexLt (pr a) (pr b) = true := by
  have h : a.s < b.s ∨ (a.s = b.s ∧ a.e < b.e) := h
  simp only [pr, HT.lexLt]
  rcases h with h | ⟨h, h2⟩
  · rw [if_neg (by omega)]
    exact decide_eq_true (by omega)
  · rw [if_pos h, if_neg (by omega)]
    exact decide_eq_true (by omega)
/-- a good net is one -/
theorem road_yes {n : Int} {r : R4} (h : RoadOk n r) : isRoadD n r.d = true := by
  obtain ⟨h1, h2, h3, h4, h5, h6, h7, h8, h9⟩ := h
  have a1 : r.s ≤ n - 1 := by omega
  have a2 : r.e ≤ n - 1 := by omega
  simp [R4.d, isRoadD, withinD, neD, h1, a1, h3, a2, h5, h6, h7, h8, h9]
theorem net_yes {n : Int} {rs : List R4} (G : Good n rs) : isNetD (nt (.int n) (rs.map R4.d)) = true := by
  show ((decide (1 ≤ n) && decide (n ≤ 12)) && (((rs.map R4.d).all (isRoadD n)) && risesB ((rs.map R4.d).map pairD))) = true
  rw [decide_eq_true G.n1, decide_eq_true G.n2, pairs_map]
  have h1 : (rs.map R4.d).all (isRoadD n) = true := by
    rw [List.all_map, List.all_eq_true]
    exact fun r hr => road_yes (G.ok r hr)
  have h2 : risesB (rs.map pr) = true := risesB_yes fun j hj => by
    rw [List.length_map] at hj
    have hp := List.pairwise_iff_getElem.mp G.up j (j + 1) (by omega) (by omega) (by omega)
    have e1 : (rs.map pr).getD j [] = pr rs[j] := by simp [List.getD_eq_getElem?_getD, List.getElem?_eq_getElem (show j < rs.length by omega)]
    have e2 : (rs.map pr).getD (j + 1) [] = pr rs[j + 1] := by simp [List.getD_eq_getElem?_getD, List.getElem?_eq_getElem (show j + 1 < rs.length by omega)]
    rw [e1, e2]
    exact lex_fore hp
  rw [h1, h2]
  rfl
theorem NetAt.k0 {K : PySem.W.Frag} {H H' : Hp} {a : Addr} {n : Int} {rs : List R4} (h : NetAt K H a n rs) (k : K0 H H') : NetAt K H' a n rs := h.kt (k.kt (t := 0))
theorem NetAt.ans {K : PySem.W.Frag} {H : Hp} {a : Addr} {n : Int} {rs : List R4} (h : NetAt K H a n rs) (G : Good n rs) (hl : rs.length ≤ 156) : NetAns K H (.ref a) true := by
  obtain ⟨r, xs, o, h1, h2, hc, hd, h3⟩ := h
  refine .inl ⟨nt (.int n) (rs.map R4.d), .tup h1 (.cons (.int _) (.cons (.tup (h2) h3) .nil)), fun m rs' e => ?_, (net_yes G).symm⟩
  cases e
  rw [List.length_map]; omega
end HK

set_option Elab.async false
set_option linter.all false
set_option maxRecDepth 100000
set_option maxHeartbeats 2000000
namespace HK
open PySem PySem.Spec PyProof.Rows L2 GAl GxR
abbrev sIsPlace : Stmt := topS 16
abbrev sNeedNet : Stmt := topS 17
theorem scIsPlace : FnScope ["net", "thing"] ["net", "thing"] (defScope sIsPlace) := ⟨rfl, rfl, rfl, by decide +kernel, rfl, by decide +kernel, by decide +kernel⟩
theorem scNeedNet : FnScope ["net"] ["net"] (defScope sNeedNet) := ⟨rfl, rfl, rfl, by decide +kernel, rfl, by decide +kernel, by decide +kernel⟩
theorem K0.lock {H H' : Hp} {p : Addr} {u : HO} {od : Obj} (h : H p = some u) (nt : ∀ ps, u ≠ .tbl ps) (k : K0 (upd H p (.frz od u)) H') : K0 H (upd H' p u) := by
  refine ⟨fun b o e m => ?_, fun P hP => ?_, fun b e => ?_⟩
  · by_cases hb : b = p
    · subst hb
      rw [h] at e
      cases e
      exact upd_same
    · rw [upd_ne hb]
      exact k.oth b o (by rw [upd_ne hb]; exact e) m
  · obtain ⟨ps, e, ht⟩ := hP
    have hb : P ≠ p := fun z => by
      rw [z, h] at e
      exact nt ps (Option.some.inj e)
    obtain ⟨ps', e', ht'⟩ := k.tab P ⟨ps, by rw [upd_ne hb]; exact e, ht⟩
    exact ⟨ps', by rw [upd_ne hb]; exact e', ht'⟩
  · by_cases hb : b = p
    · rw [hb, upd_same] at e; cases e
    · rw [upd_ne hb] at e
      have := k.dom b e
      rwa [upd_ne hb] at this
section
variable {P : Program} {w : World} {K : PySem.W.Frag} {mg : Str → Option Value} {base : Heap}
def spIsPlace (K : PySem.W.Frag) : Sp := fun vs H Q _ => ∃ (a : Addr) (n : Int) (rs : List R4) (v : Int), vs = [.ref a, .int v] ∧ NetAt K H a n rs ∧ Q (.bl (decide (0 ≤ v) && decide (v ≤ n - 1))) H
theorem ok_isplace {f fW : Addr} {fd fdW : FuncData} (F : Fun K "is_place" "is_place" sIsPlace f fd)
    (kW : PySem.W.keepIn K (.ref fW) = true) (bW : Binds K fdW ["thing", "least", "greatest"] []) (gW : mg "is_within" = some (.ref fW)) (GW : FnOk P w K mg base CX0 2 fW fdW ["thing", "least", "greatest"] (spWithin K)) :
    FnOk P w K mg base CX0 3 f fd ["net", "thing"] (spIsPlace K) := by
  refine F.ok scIsPlace (fun vs H Q E h => ?_) (fun cdv A outer s H vs Q E hr h => ?_)
  · obtain ⟨a, n, rs, v, rfl, _⟩ := h
    rfl
  · obtain ⟨a, n, rs, v, rfl, hN, q⟩ := h
    obtain ⟨r, xs, o, h1, h2, hc, hd, h3⟩ := hN
    refine ⟨_, pss_one (ps_ret (pe_call GW hr (by rfl) gW kW bW .nil pass0 (pa_cons (pv 1) (pa_cons pe_int (pa_cons (pe_op op_sub (pe_ix ix_tup (pv 0) pe_int (fun _ _ => rfl)) pe_int) pa_nil))))), ?_⟩
    exact ⟨_, rfl, _, rfl, a, _, _, _, rfl, rfl, h1, atI_nat (j := 0) rfl, _, _, rfl, rfl, .int v, .int v, 0, n - 1, rfl, .int _, q⟩
def spNeedNet (K : PySem.W.Frag) (Pn Pr : Addr) : Sp := fun vs H Q _ => ∃ (a : Addr) (n : Int) (rs : List R4), vs = [.ref a] ∧ NetAt K H a n rs ∧ Good n rs ∧ rs.length ≤ 156 ∧ TabG H Pn ∧ TabG H Pr ∧ ∀ H', K0 H H' → Q .non H'
theorem ok_neednet {f fN Pn Pr : Addr} {fd fdN : FuncData} (F : Fun K "need_net" "need_net" sNeedNet f fd)
    (kN : PySem.W.keepIn K (.ref fN) = true) (bN : Binds K fdN ["thing"] []) (gN : mg "is_net" = some (.ref fN)) (GN : FnOk P w K mg base CX0 5 fN fdN ["thing"] (spIsNet K Pn Pr)) :
    FnOk P w K mg base CX0 6 f fd ["net"] (spNeedNet K Pn Pr) := by
  refine F.ok scNeedNet (fun vs H Q E h => ?_) (fun cdv A outer s H vs Q E hr h => ?_)
  · obtain ⟨a, n, rs, rfl, _⟩ := h
    rfl
  · obtain ⟨a, n, rs, rfl, hN, hG, hl, tn, tr, q⟩ := h
    refine ⟨_, pss_one (ps_if (pt_not (pt_val (pe_call GN hr (by rfl) gN kN bN .nil pass0 (pa_cons (pv 0) pa_nil)))) pss_never pss_nil), ?_⟩
    exact ⟨_, rfl, .ref a, true, rfl, hN.ans hG hl, tn, tr, fun H' k => ⟨_, rfl, iteF (q H' k)⟩⟩
def spNeedPlace (K : PySem.W.Frag) : Sp := fun vs H Q _ => ∃ (a : Addr) (n : Int) (rs : List R4) (v : Int), vs = [.ref a, .int v] ∧ NetAt K H a n rs ∧ 0 ≤ v ∧ v < n ∧ Q .non H
theorem road_at {H : Hp} {xs : List V} {rs : List R4} {j : Nat} {x : V} (h3 : Roads K H xs rs) (hx : xs[j]? = some x) : ∃ (t : R4) (q1 : Addr), rs[j]? = some t ∧ x = .ref q1 ∧ SqT K H q1 t.vs := by
  obtain ⟨d, e1, e2⟩ := dpAll_get h3 hx
  obtain ⟨t, rfl, hrd⟩ : ∃ t : R4, d = t.d ∧ rs[j]? = some t := by
    rw [List.getElem?_map] at e1
    cases e3 : rs[j]? with
    | none => rw [e3] at e1; cases e1
    | some t => rw [e3] at e1; cases e1; exact ⟨t, rfl, rfl⟩
  obtain ⟨q1, rfl, hs⟩ := dp_r4 e2
  exact ⟨t, q1, hrd, rfl, hs⟩
theorem dget {H : Hp} {p : Addr} {kvs : List (Key × V)} {g : IF} {v x : Int} (hk : H p = some (.dK kvs)) (hD : DI kvs g) (e : g v = some x) : DGet H p (.int v) (some (.int x)) := by
  have := DGet.k (k := Sum.inl v) hk
  rw [hD.val, e] at this
  exact this
theorem inV_mem {i : Int} {js : List Int} (h : i ∈ js) : inV (.int i) (js.map V.int) = true := by
  unfold inV
  rw [List.any_map, List.any_eq_true]
  exact ⟨i, h, by simp [eqV]⟩
theorem upd_back {H : Hp} {p : Addr} {o : HO} (h : H p = some o) : upd H p o = H := by
  funext b
  by_cases e : b = p
  · rw [e, upd_same, h]
  · rw [upd_ne e]
theorem sqT_lock {H : Hp} {a p : Addr} {xs : List V} {kvs : List (Key × V)} {o : HO} (h : SqT K H a xs) (hp : H p = some (.dK kvs)) : SqT K (upd H p o) a xs := by
  rcases h with (h | ⟨o', h⟩) | h
  · exact .inl (.inl (by rw [upd_ne (ne_of h hp (fun z => by cases z))]; exact h))
  · exact .inl (.inr ⟨o', by rw [upd_ne (ne_of h hp (fun z => by cases z))]; exact h⟩)
  · exact .inr h
end
end HK

set_option Elab.async false
set_option linter.all false
set_option maxRecDepth 100000
set_option maxHeartbeats 4000000
namespace HK
open PySem PySem.Spec PyProof.Rows L2 GAl GxR
open Evl (pss_cut)
theorem dgetR {H : Hp} {p : Addr} {kvs : List (Key × V)} {g : IF} (hk : Rd H p (.dK kvs)) (hD : DI kvs g) (v : Int) : DGet H p (.int v) ((g v).map V.int) := .inl ⟨kvs, Sum.inl v, hk, rfl, by rw [hD.val]⟩
theorem K0.rd {H H' : Hp} {p : Addr} {kvs : List (Key × V)} (k : K0 H H') (h : Rd H p (.dK kvs)) : Rd H' p (.dK kvs) := by
  rcases h with h | ⟨o, h⟩
  · exact .inl (k.oth p _ h (fun _ z => by cases z))
  · exact .inr ⟨o, k.oth p _ h (fun _ z => by cases z)⟩
section
variable {P : Program} {w : World} {K : PySem.W.Frag} {mg : Str → Option Value} {base : Heap}
theorem tabG_lock {H : Hp} {p : Addr} {u o : HO} {Pp : Addr} (h : H p = some u) (nt : ∀ ps, u ≠ .tbl ps) (hT : TabG H Pp) : TabG (upd H p o) Pp := by
  obtain ⟨ps, e, ht⟩ := hT
  exact ⟨ps, by rw [upd_ne (fun z => by rw [z, h] at e; exact nt ps (Option.some.inj e))]; exact e, ht⟩
theorem netAt_lock {H : Hp} {a p : Addr} {n : Int} {rs : List R4} {kvs : List (Key × V)} {od : Obj} (h : NetAt K H a n rs) (hp : H p = some (.dK kvs)) : NetAt K (upd H p (.frz od (.dK kvs))) a n rs := by
  obtain ⟨r, xs, o, h1, h2, hc, hd, h3⟩ := h
  refine ⟨r, xs, o, sqT_lock h1 hp, sqT_lock h2 hp, hc, hd, ?_⟩
  clear h1 h2
  unfold Roads at h3 ⊢
  induction rs generalizing xs with
  | nil => cases h3; exact .nil
  | cons r rs ih =>
    cases h3 with
    | cons a b =>
      refine .cons ?_ (ih _ b)
      obtain ⟨q, rfl, h⟩ := dp_r4 (r := r) a
      exact r4_dp (r := r) (sqT_lock h hp)
end
end HK

set_option Elab.async false
set_option linter.all false
set_option maxRecDepth 100000
set_option maxHeartbeats 4000000
namespace HK
open PySem PySem.Spec PyProof.Rows L2 GAl GxR
theorem sub_len {l ks : List Int} (nl : l.Nodup) (nk : ks.Nodup) (h : ∀ x ∈ l, x ∈ ks) : l.length ≤ ks.length := by
  have pm : (ks.filter fun x => decide (x ∈ l)).Perm l := (List.perm_ext_iff_of_nodup (List.Nodup.sublist List.filter_sublist nk) nl).mpr fun x => by
    rw [List.mem_filter]
    exact ⟨fun z => of_decide_eq_true z.2, fun z => ⟨h x z, decide_eq_true z⟩⟩
  rw [← pm.length_eq]
  exact List.length_filter_le _ _
/-- the tables of generator expressions -/
def TbL (H : Hp) (l : List Addr) : Prop := ∀ P ∈ l, TabG H P
theorem TbL.kt {t : Addr} {H H' : Hp} {l : List Addr} (h : TbL H l) (k : Kt t H H') : TbL H' l := fun P hP => k.tab P (h P hP)
theorem TbL.k0 {H H' : Hp} {l : List Addr} (h : TbL H l) (k : K0 H H') : TbL H' l := fun P hP => k.tab P (h P hP)
end HK

set_option Elab.async false
set_option linter.all false
set_option maxRecDepth 100000
set_option maxHeartbeats 2000000
/-! list(d.values()); set(t) of a tuple of whole numbers -/
namespace HkL
open PySem PySem.Spec PyProof.Rows L2
section
variable {X : Cx} {e : Expr} {te : TE} {p apos cpos pos : Pos}
def tListVals (te : TE) : TE := fun σ H Q => te σ H fun x H1 => ∃ (d : Addr) (kvs : List (Key × V)), x = .ref d ∧ Rd H1 d (.dK kvs) ∧ kvs.length ≤ sizeLine ∧ ∀ q, H1 q = none → Q (.ref q) (upd H1 q (.lst (kvs.map (·.2))))
theorem dict_at {pins : List (Addr × Obj)} {σ : L2.St} {H : Hp} {s : Shared} {d : Addr} {kvs : List (Key × V)} (I : Inv X pins σ H s) (h : Rd H d (.dK kvs)) : ∃ vs ep, KV kvs vs ∧ s.heap.DictAt (mixKind X.prog X.w) d vs ep ∧ (d == sysModules) = false := by
  rcases h with h | ⟨o, h⟩
  · obtain ⟨z, lo, vs, rk, hd⟩ := (show ObjOk X.prog X.w H s.heap d (.dK kvs) from I.hok d _ h)
    obtain ⟨ep, hat⟩ := hd.dictAt
    exact ⟨vs, ep, rk, hat, lo⟩
  · obtain ⟨hs, hgd, hx, es, ep, vs, hdt, hsz, kv, hm⟩ := I.frzK h
    exact ⟨vs, ep, kv, hm, hs⟩
theorem pe_listVals (hc : X.calm = true) (he : PE X e te) (hg : Gl X "list") (hm : X.mg "list" = none) (hv : bootBuiltins "list" = some (.type "list")) (hbase : attributeBase e "values" X.env (eval e X.env) = eval e X.env := by rfl) (hline : (apos.endLine == cpos.line) = true := by rfl)
    (hs : starEach [.Call (.Attribute e "values" apos) [] [] cpos] X.env = (false, eval (.Call (.Attribute e "values" apos) [] [] cpos) X.env) :: starEach [] X.env := by rfl) :
    PE X (.Call (.Name "list" p) [.Call (.Attribute e "values" apos) [] [] cpos] [] pos) (tListVals te) := by
  refine ⟨fun pins s σ H Q I hq => ?_⟩
  refine wpAny_Call_Name_kw (ld_blt I hg hm hv ?_)
  refine PyProof.Rows.callWith_type1 ?_ hs rfl
  rw [hs]
  show wpAny _ _ (spliced ((false, eval (.Call (.Attribute e "values" apos) [] [] cpos) X.env) :: backTo pos (starEach [] X.env))) _ _ s
  refine Calls.spliced_cons ?_
  refine wpAny_Call_method (T := "dict") (id := "dict.values") hbase rfl hline F.plainAttrs_dict F.slot_dict_values F.type_dict_values (thn (he.run pins s σ H _ I hq) fun u s1 ⟨x, H1, I1, rx, d, kvs, ex, hd, hz, q⟩ => ?_)
  subst ex
  obtain rfl : u = Value.ref d := rx
  obtain ⟨vs, ep, kv, hat, hs0⟩ := dict_at I1 hd
  have hdo := hat.dictOf
  have lk : kvs.length = vs.length := Paired.length kv
  have I2 : Inv X pins σ H1 { s1 with heap := s1.heap.push { cls := .type "dict_values", data := .fields #[.ref d] } } := I1.kept (t' := s1.toks) fun b ob q => Heap.get?_push_of_some _ q
  refine ⟨hdo.typeIs, hdo.mapOf.noDict, ?_⟩
  show wpAny _ _ (callWith cpos (.builtin "dict.values") [.ref d] [] []) _ X.xe s1
  refine method_meetsIn F.slot_dict_values F.entry_dict_values rfl (PySem.evalArgs_none ⟨rfl, hdo.typeIs, F.args_dict_values_1 _, _, meets_dict_values (mixKind X.prog X.w) d hs0, ⟨vs, hdo⟩, ?_⟩)
  refine Calls.spliced_nil ?_
  refine PySem.W.kdl_call (PySem.W.kdl_values (knd := mixKind X.prog X.w) (kvs := vs) (ep := ep) (r := s1.heap.objs.size) (d := d)) (I1.ok.hd hc) ⟨⟨_, Heap.get?_push_size _ rfl, rfl, rfl⟩, hat.push _⟩ (by rw [← lk]; exact hz) fun h' tk acc' c' hkeep hS hacc => ?_
  refine ⟨.ref _, upd H1 _ (.lst (kvs.map (·.2))), I2.laid hkeep (Nat.le_refl _) (show ObjOk X.prog X.w _ _ _ (.lst (kvs.map (·.2))) from ⟨?_, acc'.toList, c', ?_, ?_⟩), rfl, q _ (I2.hok.fresh (Nat.le_refl _))⟩
  · rw [List.length_map]; exact hz
  · have el : acc'.toList.length = acc'.size := by simp
    refine vals_of_at (by rw [List.length_map, el, hacc.1, lk]) fun j x w h1 h2 => ?_
    obtain ⟨k, hky⟩ := hacc.2 j w (by rw [← Array.getElem?_toList]; exact h2)
    rw [List.getElem?_map] at h1
    cases e2 : kvs[j]? with
    | none => rw [e2] at h1; cases h1
    | some pk =>
      rw [e2] at h1
      cases h1
      obtain ⟨qv, g1, g2, g3⟩ := LiI.paired_get kv e2
      rw [hky] at g1
      cases g1
      exact g3
  · rw [Array.toArray_toList]; exact hS
/-- tuple(l), tuple(t) -/
def rTup (K : PySem.W.Frag) : List V → Hp → VK → Prop := fun xs H Q => ∃ p ys, xs = [.ref p] ∧ ((SqL K H p ys ∧ ∀ l, H l = none → Q (.ref l) (upd H l (.tup ys))) ∨ (SqT K H p ys ∧ Q (.ref p) H))
theorem call_tupR : CallR X (.type "tuple") (rTup X.K) := call_tuple_of
/-- set(t) -/
def rSetT (K : PySem.W.Frag) (w : World) : List V → Hp → VK → Prop := fun vs H Q => ∃ (l : Addr) (ns : List Int), vs = [.ref l] ∧ SqT K H l (ns.map V.int) ∧ ns.length ≤ 1000 ∧ ∀ (p : Addr) (c : Nat), H p = none → c ≤ ns.length → Q (.ref p) (upd H p (SetO w p (fun j => decide (j ∈ ns)) c))
theorem cr_setT (hc : X.calm = true) : CallR X (.type "set") (rSetT X.K X.w) := by
  intro pins s σ H vs us Q I r h
  obtain ⟨l, ns, rfl, hl, hb, q⟩ := h
  cases r with
  | cons r rr =>
    cases rr
    cases r
    obtain ⟨its, rv, pt, hz⟩ := I.tuple hl
    have hi : IntsAre its.toArray.toList ns := ints_of_vals rv
    refine call_set_tupI ns (I.ok.hd hc) (show s.heap.IsTuple l its.toArray from pt) hi (by unfold scanBound; omega) fun h' tk c R1 hcn k => ?_
    exact ⟨.ref _, upd H s.heap.objs.size (SetO X.w s.heap.objs.size (fun j => decide (j ∈ ns)) c), I.laid k (Nat.le_refl _) (setO_new R1), rfl, q _ c (I.hok.fresh (Nat.le_refl _)) hcn⟩
end
end HkL

set_option Elab.async false
set_option linter.all false
set_option maxRecDepth 100000
set_option maxHeartbeats 4000000
namespace HK
open PySem PySem.Spec PyProof.Rows L2 GAl GxR
open Evl (pss_cut)
abbrev N_scRises : List Str := ["row", "low", "high"]
/-! ### rising tuples of places -/
def risI (l : List Int) : Bool := (List.range (l.length - 1)).all fun i => decide (l.getD i 0 < l.getD (i + 1) 0)
theorem risI_yes {l : List Int} (h : ∀ j, j < l.length - 1 → l.getD j 0 < l.getD (j + 1) 0) : risI l = true := by
  unfold risI
  rw [List.all_eq_true]
  exact fun j hj => decide_eq_true (h j (List.mem_range.mp hj))
theorem risI_no {l : List Int} {j : Nat} (hj : j < l.length - 1) (h : ¬ l.getD j 0 < l.getD (j + 1) 0) : risI l = false := by
  unfold risI
  rw [Bool.eq_false_iff]
  intro z
  exact h (of_decide_eq_true (List.all_eq_true.mp z j (List.mem_range.mpr hj)))
theorem risI_iff {l : List Int} : risI l = true ↔ l.Pairwise (· < ·) := by
  constructor
  · intro h
    have step : ∀ j, j < l.length - 1 → l.getD j 0 < l.getD (j + 1) 0 := fun j hj => by
      unfold risI at h
      exact of_decide_eq_true (List.all_eq_true.mp h j (List.mem_range.mpr hj))
    have far : ∀ d i, i + d + 1 < l.length → l.getD i 0 < l.getD (i + d + 1) 0 := fun d => by
      induction d with
      | zero => exact fun i hi => step i (by omega)
      | succ d ih =>
        intro i hi
        have h1 := ih i (by omega)
        have h2 := step (i + d + 1) (by omega)
        rw [show i + (d + 1) + 1 = i + d + 1 + 1 by omega]
        omega
    rw [List.pairwise_iff_getElem]
    intro i j hi hj hij
    have := far (j - i - 1) i (by omega)
    rw [show i + (j - i - 1) + 1 = j by omega] at this
    simpa [List.getD_eq_getElem?_getD, List.getElem?_eq_getElem hi, List.getElem?_eq_getElem hj] using this
  · intro h
    refine risI_yes fun j hj => ?_
    have := List.pairwise_iff_getElem.mp h j (j + 1) (by omega) (by omega) (by omega)
    simpa [List.getD_eq_getElem?_getD, List.getElem?_eq_getElem (show j < l.length by omega), List.getElem?_eq_getElem (show j + 1 < l.length by omega)] using this
def AreP (n : Int) (l : List Int) : Prop := (∀ v ∈ l, 0 ≤ v ∧ v < n) ∧ l.Pairwise (· < ·)
theorem AreP.len {n : Int} {l : List Int} (h : AreP n l) : l.length ≤ n.toNat := by
  have nd : l.Nodup := h.2.imp fun a => Int.ne_of_lt a
  have := sub_len (ks := (List.range n.toNat).map fun (i : Nat) => (i : Int)) nd (List.pairwise_map.mpr (List.pairwise_lt_range.imp fun a z => by omega)) fun x hx => by
    obtain ⟨h0, h1⟩ := h.1 x hx
    exact List.mem_map.mpr ⟨x.toNat, List.mem_range.mpr (by omega), by omega⟩
  simpa using this
theorem cut1' (xs : List V) : cutV xs (some 1) none = xs.drop 1 := cut1 xs
theorem getI {ns : List Int} {i : Nat} {x : V} (h : (ns.map V.int)[i]? = some x) : x = .int (ns.getD i 0) := by
  rw [List.getElem?_map] at h
  cases e : ns[i]? with
  | none => rw [e] at h; cases h
  | some v => rw [e] at h; cases h; rw [List.getD_eq_getElem?_getD, e]; rfl
section
variable {P : Program} {w : World} {K : PySem.W.Frag} {mg : Str → Option Value} {base : Heap}
def spRisesI (K : PySem.W.Frag) (Pr : Addr) : Sp := fun vs H Q _ => ∃ (a : Addr) (ns : List Int), vs = [.ref a] ∧ SqT K H a (ns.map V.int) ∧ TabG H Pr ∧ ∀ H', K0 H H' → Q (.bl (risI ns)) H'
theorem ok_risesI {f c Pr : Addr} {fd : FuncData} (F : FunC K "rises" "rises" sRises f fd c) (TB : TabB base mg c Pr) (m_zip : mg "zip" = none) (m_all : mg "all" = none) : FnOk P w K mg base CX0 2 f fd ["row"] (spRisesI K Pr) := by
  refine F.ok scRises (fun vs H Q E h => ?_) (fun A outer s H vs Q E hr h => ?_)
  · obtain ⟨a, ns, rfl, _⟩ := h
    rfl
  · obtain ⟨a, ns, rfl, hS, hP, q⟩ := h
    refine ⟨_, (pss_one (ps_ret (pe_allG (own := [("low", 1), ("high", 2)]) (k := 0) (g := (gTup K 2 (gCons (gName 1) (gCons (gName 2) gNil)))) (tt := tYes) (te := (tOp (rI0 fun i j => .bl (decide (i < j))) (tVar 1) (tVar 2))) (hr.mono (by decide)) (by rfl) m_all rfl scRises.nd TB rfl (gsc_by (N := N_scRises) (sc := defScope sRises) (by decide +kernel)) (RZ.pi_zipA (by rfl) m_zip (pa_cons (pv 0) (pa_cons (pe_slice sl_tupA (pv 0) (po_some pe_int) po_none) pa_nil))) (fun A' hr' _ _ _ _ _ _ => (pg_tup rfl (pgs_cons (pg_name (i := 1) scRises.nd rfl (.inl rfl)) (pgs_cons (pg_name (i := 2) scRises.nd rfl (.inl rfl)) pgs_nil)))) (fun A' hr' _ _ _ _ _ _ => pts_nil) (fun A' hr' _ _ _ _ _ _ => (pe_cmpR op_lt (pv 1) (pv 2) (nomark _)))))), ?_⟩
    have go : ∀ (c : Addr) (H1 : Hp), K0 H H1 → SqT K H1 c ((ns.map V.int).drop 1) → ∃ xs ys, xs = ns.map V.int ∧ SqT K H1 a xs ∧ SqT K H1 c ys ∧ TabG H1 Pr ∧ ∀ H2, Tabbed Pr H1 H2 → ∃ W : Nat → Nat → Hp → Prop, (∃ m, W 0 m H2) ∧
        GTurn (RZ.ItzT K a c) (gTup K 2 (gCons (gName 1) (gCons (gName 2) gNil))) tYes (tOp (rI0 fun i j => .bl (decide (i < j))) (tVar 1) (tVar 2)) [1, 2] [some (.ref a), none, none] (Q (.bl true)) (stpAll (Q (.bl false))) W := fun c H1 k1 hC1 => by
      refine ⟨_, _, rfl, k1.sqT hS, hC1, k1.tab _ hP, fun H2 hT2 => ?_⟩
      have kt := K0.tbd (k1.tab _ hP) hT2
      have k2 : K0 H H2 := k1.trans kt
      refine ⟨fun i m H3 => i + m = ns.length - 1 ∧ K0 H2 H3 ∧ ∀ j, j < i → ns.getD j 0 < ns.getD (j + 1) 0, ⟨ns.length - 1, by omega, K0.refl _, fun j hj => absurd hj (Nat.not_lt_zero _)⟩, fun i m H3 hW => ?_⟩
      obtain ⟨em, k3, hlt⟩ := hW
      have k13 := k2.trans k3
      have hA : SqT K H3 a (ns.map V.int) := k13.sqT hS
      have hC : SqT K H3 c ((ns.map V.int).drop 1) := (kt.trans k3).sqT hC1
      by_cases hi : i < ns.length - 1
      · have h1 : i < (ns.map V.int).length := by rw [List.length_map]; omega
        have h2 : i + 1 < (ns.map V.int).length := by rw [List.length_map]; omega
        have g1 : (ns.map V.int)[i]? = some (ns.map V.int)[i] := List.getElem?_eq_getElem h1
        have g2 : ((ns.map V.int).drop 1)[i]? = some (ns.map V.int)[i + 1] := by rw [List.getElem?_drop, Nat.add_comm 1 i]; exact List.getElem?_eq_getElem h2
        refine .inr ⟨⟨_, _, _, _, hA, hC, g1, g2⟩, fun H' => K0 H2 H' ∧ ns.getD i 0 < ns.getD (i + 1) 0, fun H' hN => ?_, fun x H' hy => ?_⟩
        · obtain ⟨k', hl'⟩ := hN
          refine ⟨m - 1, by omega, by omega, k', fun j hj => ?_⟩
          by_cases e : j = i
          · rw [e]; exact hl'
          · exact hlt j (by omega)
        · obtain ⟨T, x1, x2, rfl, nT, rfl, f1, f2⟩ := hy
          have ex1 : x1 = .int (ns.getD i 0) := getI (f1 _ hA)
          have ex2 : x2 = .int (ns.getD (i + 1) 0) := getI (by
            have := f2 _ hC
            rwa [List.getElem?_drop, Nat.add_comm 1 i] at this)
          subst ex1 ex2
          have kT : K0 H3 (upd H3 T (.tup [.int (ns.getD i 0), .int (ns.getD (i + 1) 0)])) := K0.new nT
          refine ⟨T, _, rfl, .inl (.inl upd_same), rfl, _, _, rfl, _, _, rfl, rfl, rfl, tyes ?_⟩
          refine ⟨_, rfl, _, rfl, _, _, rfl, rfl, _, rfl, ?_⟩
          by_cases hb : ns.getD i 0 < ns.getD (i + 1) 0
          · rw [decide_eq_true hb]
            exact iteT ⟨k3.trans kT, hb⟩
          · rw [decide_eq_false hb]
            exact iteF (qeq (q _ (k13.trans kT)) (risI_no hi hb))
      · refine .inl ⟨⟨_, _, hA, hC, .inr (by rw [List.length_drop, List.length_map]; omega)⟩, ?_⟩
        exact qeq (q _ k13) (risI_yes fun j hj => hlt j (by omega))
    refine ⟨.ref a, rfl, .ref a, rfl, 1, rfl, a, _, rfl, hS, fun z => ?_, fun _ c nc => ?_⟩
    · have e0 : (ns.map V.int).drop 1 = ns.map V.int := by
        cases ns with
        | nil => rfl
        | cons v r =>
          have := z.1
          rw [show HT.sIx ((v :: r).map V.int).length 0 (some 1) = min 1 ((v :: r).map V.int).length from HT.sIx_nat _ 0 1, List.length_map, List.length_cons] at this
          omega
      obtain ⟨xs, ys, e, h1, h2, h3⟩ := go a H (K0.refl H) (by rw [e0]; exact hS)
      exact ⟨a, a, xs, ys, rfl, .inr ⟨h1, h2, h3⟩⟩
    · obtain ⟨xs, ys, e, h1, h2, h3⟩ := go c _ (K0.new nc) (by rw [← cut1]; exact .inl (.inl upd_same))
      exact ⟨a, c, xs, ys, rfl, .inr ⟨h1, h2, h3⟩⟩
def spAreP (K : PySem.W.Frag) (Pr Pa : Addr) : Sp := fun vs H Q _ => ∃ (a : Addr) (n : Int) (rs : List R4) (p : Addr) (ns : List Int), vs = [.ref a, .ref p] ∧ NetAt K H a n rs ∧ SqT K H p (ns.map V.int) ∧ TabG H Pr ∧ TabG H Pa ∧ ∀ (H' : Hp) (b : Bool), K0 H H' → (b = true ↔ AreP n ns) → Q (.bl b) H'
end
end HK

set_option Elab.async false
set_option linter.all false
set_option maxRecDepth 100000
set_option maxHeartbeats 4000000
namespace HK
open PySem PySem.Spec PyProof.Rows L2 GAl GxR
section
variable {P : Program} {w : World} {K : PySem.W.Frag} {mg : Str → Option Value} {base : Heap}
def spPairs (K : PySem.W.Frag) (Pp : Addr) : Sp := fun vs H Q _ => ∃ (p : Addr) (kvs : List (Key × V)) (g : IF), vs = [.ref p] ∧ H p = some (.dK kvs) ∧ DI kvs g ∧ TabG H Pp ∧ ∀ H', K0 H H' → Q (.bl true) H'
end
end HK

set_option Elab.async false
set_option linter.all false
set_option maxRecDepth 100000
set_option maxHeartbeats 2000000
namespace HkX
open PySem PySem.Spec PyProof.Rows L2
/-- a thing's own truth -/
def tTruK (K : PySem.W.Frag) (te : TE) : TT := fun σ H Q => te σ H fun x H' => ∃ k, TruV K x H' k ∧ Q k H'
section
variable {X : Cx}
/-- max(xs, default=d) of a list of whole numbers -/
def rMaxDef (K : PySem.W.Frag) : List V → List V → Hp → VK → Prop := fun vs zs H Q => ∃ (a : Addr) (ns : List Int) (d : Int), vs = [V.ref a] ∧ zs = [.int d] ∧ SqL K H a (ns.map V.int) ∧ (ns = [] → Q (.int d) H) ∧ (∀ (n : Int) (r : List Int), ns = n :: r → Q (.int (r.foldl max n)) H)
theorem vals_intsR : ∀ (ns : List Int) (us : List Value) (h : Heap), Vals (ns.map V.int) us → ∃ as, PySem.ReadsAll h us (ns.map PyData.int) as
  | [], us, h, r => by
    cases r
    exact ⟨_, PySem.ReadsAll.nil⟩
  | n :: ns, us, h, r => by
    cases r with
    | cons r1 r2 =>
      obtain ⟨as, q⟩ := vals_intsR ns _ h r2
      obtain ⟨t, rfl⟩ := (show ∃ t, _ = Value.int n t from r1)
      exact ⟨_, PySem.ReadsAll.cons (PySem.Reads.int n t) q⟩
theorem cr_maxDef (hc : X.calm = true) (hu : X.A.units + 3 < cLine) : CallRK X (.builtin "max") [Str.ofString "default"] (rMaxDef X.K) := by
  intro pins s σ H vs zs us ws Q I r rz h
  obtain ⟨a, ns, d, rfl, rfl, hs, q0, q1⟩ := h
  obtain rfl := Vals.ref1 r
  obtain ⟨its, rv, hl, _⟩ := I.list hs
  obtain ⟨w1, rfl, e1⟩ := vals1 rz
  obtain ⟨t1, rfl⟩ := (show ∃ t, w1 = Value.int d t from e1)
  obtain ⟨as, hr⟩ := vals_intsR ns its s.heap rv
  have hd : ∀ l : List Int, PyData.depthAll (l.map PyData.int) ≤ 1 := fun l => by
    induction l with
    | nil => exact Nat.zero_le _
    | cons n r ih =>
      rw [List.map_cons]
      simp only [PyData.depthAll, PyData.depth]
      omega
  refine PySem.W.max_list_default (I.ok.hd hc) hl.isList hr ⟨fun x hx y hy => ?_, fun x hx => ?_⟩ (by have := hd ns; omega) (fun e h' tk hk => ?_) (fun y ys i v h' tk bs e hv r hk => ?_)
  · obtain ⟨i, _, rfl⟩ := List.mem_map.mp hx
    obtain ⟨j, _, rfl⟩ := List.mem_map.mp hy
    rfl
  · obtain ⟨i, _, rfl⟩ := List.mem_map.mp hx
    intro z; cases z
  · exact ⟨.int d, H, I.kept hk, ⟨_, rfl⟩, q0 (List.map_eq_nil_iff.mp e)⟩
  · cases ns with
    | nil => cases e
    | cons n r0 =>
      rw [List.map_cons] at e
      obtain ⟨rfl, rfl⟩ := List.cons.inj e
      rw [PySem.W.maxD_ints] at r
      cases r
      exact ⟨.int _, H, I.kept hk, ⟨_, rfl⟩, q1 n r0 rfl⟩
end
section
variable {X : Cx}
/-- d != e, two dicts of the same keys and the same objects -/
def rNeDS : R2 := fun x y H Q => ∃ a b ks ls, x = .ref a ∧ y = .ref b ∧ H a = some (.dK ks) ∧ H b = some (.dK ls) ∧ ks.length = ls.length ∧ (∀ p ∈ ks, valV ls p.1 = some p.2 ∧ (flatB p.2 = true ∨ ∃ c, p.2 = .ref c)) ∧ Q (.bl false) H
theorem hits_same {A : Around} {s : Shared} {kvs : List (Key × V)} {vb : List (Key × Value)} (rb : KV kvs vb) {ks : List (Key × V)} {va : List (Key × Value)} (ra : KV ks va) :
    (∀ p ∈ ks, valV kvs p.1 = some p.2 ∧ (flatB p.2 = true ∨ ∃ c, p.2 = .ref c)) → PySem.W.KeqHits A s vb va true := by
  unfold KV at ra
  induction ra with
  | nil => intro _; exact .nil
  | @cons p q ps qs h t ih =>
    intro hp
    obtain ⟨h1, h2⟩ := h
    obtain ⟨e, f⟩ := hp p List.mem_cons_self
    have rr : RelO (some p.2) (valueAt vb p.1) := by rw [← e]; exact rb.val p.1
    obtain ⟨y, hy, ry⟩ := rr.some_of
    obtain ⟨k, v⟩ := q
    have h1' : p.1 = k := h1
    rw [h1'] at hy
    show PySem.W.KeqHits A s vb ((k, v) :: qs) (true && true)
    rcases f with f | ⟨c, f⟩
    · exact .hit hy (eqAt_same h2 ry f) (ih fun p' hm => hp p' (List.mem_cons_of_mem _ hm))
    · rw [f] at h2 ry
      cases (show v = Value.ref c from h2)
      cases (show y = Value.ref c from ry)
      exact .hit hy (SeqAt.EqAt.same _) (ih fun p' hm => hp p' (List.mem_cons_of_mem _ hm))
theorem op_neDS (hu : X.A.units < cLine) : OpR X (compareOp .NotEq) rNeDS := by
  intro pins s σ H x y v u Q I rx ry h
  obtain ⟨a, b, ks, ls, rfl, rfl, ea, eb, hlen, hp, q⟩ := h
  obtain rfl : v = Value.ref a := rx
  obtain rfl : u = Value.ref b := ry
  obtain ⟨_, ya, va, ra, da⟩ := (show ObjOk X.prog X.w H s.heap a (.dK ks) from I.hok a _ ea)
  obtain ⟨_, yb, vb, rb, db⟩ := (show ObjOk X.prog X.w H s.heap b (.dK ls) from I.hok b _ eb)
  have hl : va.length = vb.length := by rw [← ra.length, ← rb.length]; exact hlen
  exact PySem.W.keq_ne (knd := mixKind X.prog X.w) (r := true) ya yb da db hu (fun _ => hits_same rb ra hp) (fin_bl I q (by simp [hl]))
end
end HkX

set_option Elab.async false
set_option linter.all false
set_option maxRecDepth 100000
set_option maxHeartbeats 4000000
namespace HK
open PySem PySem.Spec PyProof.Rows L2 GAl GxR
open Evl (pss_cut)
abbrev sNums : Stmt := topS 24
abbrev N_scNums : List Str := ["thing", "number"]
theorem scNums : FnScope N_scNums ["thing"] (defScope sNums) := ⟨rfl, rfl, rfl, by decide +kernel, rfl, by decide +kernel, by decide +kernel⟩
abbrev sHasN : Stmt := topS 23
abbrev N_scHasN : List Str := ["thing", "place", "numbers"]
theorem scHasN : FnScope N_scHasN ["thing"] (defScope sHasN) := ⟨rfl, rfl, rfl, by decide +kernel, rfl, by decide +kernel, by decide +kernel⟩
/-! ### dicts of rising tuples of numbers -/
abbrev KpL := List (Int × List Int)
def KVs (K : PySem.W.Frag) (H : Hp) (kvs : List (Key × V)) (kps : KpL) : Prop := kvs.length = kps.length ∧ ∀ (i : Nat) (p : Int) (ms : List Int), kps[i]? = some (p, ms) → ∃ q : Addr, kvs[i]? = some (.inl p, .ref q) ∧ SqT K H q (ms.map V.int)
theorem KVs.k0 {K : PySem.W.Frag} {H H' : Hp} {kvs : List (Key × V)} {kps : KpL} (h : KVs K H kvs kps) (k : K0 H H') : KVs K H' kvs kps := ⟨h.1, fun i p ms e => by
  obtain ⟨q, a, b⟩ := h.2 i p ms e
  exact ⟨q, a, k.sqT b⟩⟩
theorem KVs.kt {K : PySem.W.Frag} {t : Addr} {H H' : Hp} {kvs : List (Key × V)} {kps : KpL} (h : KVs K H kvs kps) (k : Kt t H H') : KVs K H' kvs kps := ⟨h.1, fun i p ms e => by
  obtain ⟨q, a, b⟩ := h.2 i p ms e
  exact ⟨q, a, k.sqT b⟩⟩
theorem KVs.at_ {K : PySem.W.Frag} {H : Hp} {kvs : List (Key × V)} {kps : KpL} (h : KVs K H kvs kps) {i : Nat} {kv : Key × V} (e : kvs[i]? = some kv) : ∃ (p : Int) (ms : List Int) (q : Addr), kps[i]? = some (p, ms) ∧ kv = (.inl p, .ref q) ∧ SqT K H q (ms.map V.int) := by
  have hi : i < kps.length := by rw [← h.1]; exact (List.getElem?_eq_some_iff.mp e).1
  obtain ⟨q, a, b⟩ := h.2 i kps[i].1 kps[i].2 (List.getElem?_eq_getElem hi)
  rw [e] at a
  cases a
  exact ⟨_, _, q, List.getElem?_eq_getElem hi, rfl, b⟩
structure KpOk (n : Int) (kps : KpL) : Prop where
  up : (kps.map (·.1)).Pairwise (· < ·)
  inn : ∀ p ∈ kps, 0 ≤ p.1 ∧ p.1 < n
  up2 : ∀ p ∈ kps, p.2.Pairwise (· < ·)
  nn : ∀ p ∈ kps, ∀ v ∈ p.2, 0 ≤ v
  few : ∀ p ∈ kps, p.2.length ≤ 10
theorem KpOk.nodup {n : Int} {kps : KpL} (h : KpOk n kps) : (kps.map (·.1)).Nodup := h.up.imp fun a => Int.ne_of_lt a
theorem KpOk.len {n : Int} {kps : KpL} (h : KpOk n kps) (hn : n ≤ 12) : kps.length ≤ 12 := by
  have a : AreP n (kps.map (·.1)) := ⟨fun v hv => by
    obtain ⟨p, hp, rfl⟩ := List.mem_map.mp hv
    exact h.inn p hp, h.up⟩
  have := a.len
  rw [List.length_map] at this
  omega
section
variable {P : Program} {w : World} {K : PySem.W.Frag} {mg : Str → Option Value} {base : Heap}
def spNums (K : PySem.W.Frag) (Pr Pu : Addr) : Sp := fun vs H Q _ => ∃ (q : Addr) (ms : List Int), vs = [.ref q] ∧ SqT K H q (ms.map V.int) ∧ ms.Pairwise (· < ·) ∧ (∀ v ∈ ms, 0 ≤ v) ∧ TabG H Pr ∧ TabG H Pu ∧ ∀ H', K0 H H' → Q (.bl true) H'
theorem ok_nums {f c Pr Pu : Addr} {fd : FuncData} {f_whole f_rises : Addr} {fd_whole fd_rises : FuncData} (F : FunC K "are_numbers" "are_numbers" sNums f fd c) (TB : TabB base mg c Pu) (k_whole : PySem.W.keepIn K (.ref f_whole) = true) (b_whole : Binds K fd_whole ["thing"] []) (g_whole : mg "is_whole" = some (.ref f_whole)) (G_whole : FnOk P w K mg base CX0 1 f_whole fd_whole ["thing"] (spWhole K))
    (k_rises : PySem.W.keepIn K (.ref f_rises) = true) (b_rises : Binds K fd_rises ["row"] []) (g_rises : mg "rises" = some (.ref f_rises)) (G_rises : FnOk P w K mg base CX0 2 f_rises fd_rises ["row"] (spRisesI K Pr))
    (m_isinstance : mg "isinstance" = none) (m_tuple : mg "tuple" = none) (m_all : mg "all" = none) : FnOk P w K mg base CX0 3 f fd ["thing"] (spNums K Pr Pu) := by
  refine F.ok scNums (fun vs H Q E h => ?_) (fun A outer s H vs Q E hr h => ?_)
  · obtain ⟨q, ms, rfl, _⟩ := h
    rfl
  · obtain ⟨q1, ms, rfl, hS, hup, hnn, tr, tu, q⟩ := h
    have hu := hu_of hr
    refine ⟨_, (pss_cons (ps_if (pt_not (pt_val (pe_callB call_isi (by rfl) m_isinstance boot_isinstance (pa_cons (pv 0) (pa_cons (pe_bltn (v := .ty "tuple") (by rfl) m_tuple (by decide +kernel) rfl) pa_nil))))) (pss_one (ps_ret pe_bl)) pss_nil)
      (pss_one (ps_ret (pe_and (pe_allG (own := [("number", 1)]) (k := 1) (g := (gName 1)) (tt := tYes) (te := (tAndV (tCall (spWhole K) [] E0 (tCons (tVar 1) tNil)) (tOp (rI0 fun i j => .bl (decide (j ≤ i))) (tVar 1) (tC (.int 0))))) (hr.mono (by decide)) (by rfl) m_all rfl scNums.nd TB rfl (gsc_by (N := N_scNums) (sc := defScope sNums) (by decide +kernel)) (pi_tup (pv 0)) (fun A' hr' _ _ _ _ _ _ => (pg_name (i := 1) scNums.nd rfl (.inl rfl))) (fun A' hr' _ _ _ _ _ _ => pts_nil) (fun A' hr' _ _ _ _ _ _ => (pe_and (pe_call G_whole (hr'.mono (by decide)) (by rfl) g_whole k_whole b_whole .nil pass0 (pa_cons (pv 1) pa_nil)) (pe_one (pe_cmpR op_ge (pv 1) pe_int (nomark _)))))) (pe_one (pe_call G_rises (hr.mono (by decide)) (by rfl) g_rises k_rises b_rises .nil pass0 (pa_cons (pv 0) pa_nil))))))), ?_⟩
    refine ⟨_, rfl, .ref q1, .ty "tuple", .type "tuple", _, true, rfl, .ty "tuple", sqT_ty hS, kit_ty (tys_tuple (by decide)), _, rfl, iteF ?_⟩
    refine ⟨_, rfl, q1, rfl, ⟨_, hS⟩, tu, fun H2 hT2 => ?_⟩
    have k2 : K0 H H2 := K0.tbd tu hT2
    refine ⟨fun i m H3 => i + m = ms.length ∧ K0 H H3, ⟨ms.length, by omega, k2⟩, fun i m H3 hW => ?_⟩
    obtain ⟨em, k3⟩ := hW
    have hA : SqT K H3 q1 (ms.map V.int) := k3.sqT hS
    by_cases hi : i < ms.length
    · have h1 : i < (ms.map V.int).length := by rw [List.length_map]; omega
      have g1 : (ms.map V.int)[i]? = some (ms.map V.int)[i] := List.getElem?_eq_getElem h1
      have g0 : ms[i]? = some ms[i] := List.getElem?_eq_getElem hi
      refine .inr ⟨⟨_, _, hA, g1⟩, fun H' => K0 H H', fun H' hN => ⟨m - 1, by omega, by omega, hN⟩, fun x H' hy => ?_⟩
      obtain ⟨rfl, fx⟩ := hy
      have ex : x = .int ms[i] := by
        have := fx _ hA
        rw [List.getElem?_map, g0] at this
        exact (Option.some.inj this).symm
      subst ex
      refine ⟨rfl, tyes ⟨_, rfl, .int ms[i], .int ms[i], rfl, .int ms[i], _, rfl, iteT ⟨_, rfl, _, 0, rfl, rfl, _, rfl, ?_⟩⟩⟩
      rw [decide_eq_true (hnn _ (List.getElem_mem hi))]
      exact iteT k3
    · refine .inl ⟨⟨_, hA, by rw [List.length_map]; omega⟩, _, rfl, iteT ⟨_, rfl, q1, ms, rfl, hA, k3.tab _ tr, fun H4 k4 => ?_⟩⟩
      rw [risI_iff.mpr hup]
      exact q _ (k3.trans k4)
def spHasN (K : PySem.W.Frag) (Pr Pu Ph : Addr) : Sp := fun vs H Q _ => ∃ (d : Addr) (kvs : List (Key × V)) (kps : KpL) (n : Int), vs = [.ref d] ∧ H d = some (.dK kvs) ∧ KVs K H kvs kps ∧ KpOk n kps ∧ TabG H Pr ∧ TabG H Pu ∧ TabG H Ph ∧ ∀ H', K0 H H' → Q (.bl true) H'
theorem ok_hasn {f c Pr Pu Ph : Addr} {fd : FuncData} {f_whole f_arenumbers : Addr} {fd_whole fd_arenumbers : FuncData} (F : FunC K "has_numbers" "has_numbers" sHasN f fd c) (TB : TabB base mg c Ph) (k_whole : PySem.W.keepIn K (.ref f_whole) = true) (b_whole : Binds K fd_whole ["thing"] []) (g_whole : mg "is_whole" = some (.ref f_whole)) (G_whole : FnOk P w K mg base CX0 1 f_whole fd_whole ["thing"] (spWhole K))
    (k_arenumbers : PySem.W.keepIn K (.ref f_arenumbers) = true) (b_arenumbers : Binds K fd_arenumbers ["thing"] []) (g_arenumbers : mg "are_numbers" = some (.ref f_arenumbers)) (G_arenumbers : FnOk P w K mg base CX0 3 f_arenumbers fd_arenumbers ["thing"] (spNums K Pr Pu))
    (m_isinstance : mg "isinstance" = none) (m_dict : mg "dict" = none) (m_all : mg "all" = none) : FnOk P w K mg base CX0 5 f fd ["thing"] (spHasN K Pr Pu Ph) := by
  refine F.ok scHasN (fun vs H Q E h => ?_) (fun A outer s H vs Q E hr h => ?_)
  · obtain ⟨d, kvs, kps, n, rfl, _⟩ := h
    rfl
  · obtain ⟨p, kvs, kps, n, rfl, hp, hK, hO, tr, tu, th, q⟩ := h
    have hu := hu_of hr
    refine ⟨_, (pss_cons (ps_if (pt_not (pt_val (pe_callB call_isi (by rfl) m_isinstance boot_isinstance (pa_cons (pv 0) (pa_cons (pe_bltn (v := .ty "dict") (by rfl) m_dict (by decide +kernel) rfl) pa_nil))))) (pss_one (ps_ret pe_bl)) pss_nil)
      (pss_one (ps_ret (pe_lock (pe_allG (own := [("place", 1), ("numbers", 2)]) (k := 3) (g := (gTup K 2 (gCons (gName 1) (gCons (gName 2) gNil)))) (tt := tYes) (te := (tAndV (tCall (spWhole K) [] E0 (tCons (tVar 1) tNil)) (tCall (spNums K Pr Pu) [] E0 (tCons (tVar 2) tNil)))) (hr.mono (by decide)) (by rfl) m_all rfl scHasN.nd TB rfl (gsc_by (N := N_scHasN) (sc := defScope sHasN) (by decide +kernel)) (pi_items (pv 0)) (fun A' hr' _ _ _ _ _ _ => (pg_tup rfl (pgs_cons (pg_name (i := 1) scHasN.nd rfl (.inl rfl)) (pgs_cons (pg_name (i := 2) scHasN.nd rfl (.inl rfl)) pgs_nil)))) (fun A' hr' _ _ _ _ _ _ => pts_nil) (fun A' hr' _ _ _ _ _ _ => (pe_and (pe_call G_whole (hr'.mono (by decide)) (by rfl) g_whole k_whole b_whole .nil pass0 (pa_cons (pv 1) pa_nil)) (pe_one (pe_call G_arenumbers (hr'.mono (by decide)) (by rfl) g_arenumbers k_arenumbers b_arenumbers .nil pass0 (pa_cons (pv 2) pa_nil)))))))))), ?_⟩
    refine ⟨_, rfl, .ref p, .ty "dict", .type "dict", _, true, rfl, .ty "dict", .base (.dK hp), kit_ty (tys_dict (by decide)), _, rfl, iteF ?_⟩
    refine ⟨p, _, hp, trivial, fun od => ⟨_, rfl, p, od, kvs, rfl, upd_same, tabG_lock hp (fun _ z => by cases z) th, fun H2 hT2 => ?_⟩⟩
    have k2 : K0 (upd H p (.frz od (.dK kvs))) H2 := K0.tbd (tabG_lock hp (fun _ z => by cases z) th) hT2
    refine ⟨fun i m H3 => i + m = kvs.length ∧ K0 (upd H p (.frz od (.dK kvs))) H3, ⟨kvs.length, by omega, k2⟩, fun i m H3 hW => ?_⟩
    obtain ⟨em, k3⟩ := hW
    have hp3 : H3 p = some (.frz od (.dK kvs)) := k3.oth p _ upd_same (fun _ z => by cases z)
    have kl : ∀ {b : Addr} {xs : List V}, SqT K H b xs → SqT K (upd H p (.frz od (.dK kvs))) b xs := fun {b xs} hb => sqT_lock hb hp
    by_cases hi : i < kvs.length
    · refine .inr ⟨⟨hp3, hi⟩, fun H' => K0 (upd H p (.frz od (.dK kvs))) H', fun H' hN => ⟨m - 1, by omega, by omega, hN⟩, fun x H' hy => ?_⟩
      obtain ⟨T, k, v, hkv, rfl, nT, rfl⟩ := hy
      obtain ⟨j, ms, qq, e1, e, hq⟩ := hK.at_ hkv
      cases e
      have hm := List.mem_of_getElem? e1
      refine ⟨T, _, rfl, .inl (.inl upd_same), rfl, _, _, rfl, _, _, rfl, rfl, rfl, tyes ?_⟩
      have kT := k3.trans (K0.new nT (o := .tup [.int j, .ref qq]))
      refine ⟨_, rfl, .int j, .int j, rfl, .int j, _, rfl, iteT ⟨_, rfl, qq, ms, rfl, kT.sqT (kl hq), hO.up2 _ hm, hO.nn _ hm, kT.tab _ (tabG_lock hp (fun _ z => by cases z) tr), kT.tab _ (tabG_lock hp (fun _ z => by cases z) tu), fun H9 k9 => ⟨_, rfl, iteT (kT.trans k9)⟩⟩⟩
    · exact .inl ⟨⟨hp3, by omega⟩, hp3, q _ (K0.lock hp (fun _ z => by cases z) k3)⟩
end
end HK

set_option Elab.async false
set_option linter.all false
set_option maxRecDepth 100000
set_option maxHeartbeats 4000000
namespace HK
open PySem PySem.Spec PyProof.Rows L2 GAl GxR
open Evl (pss_cut)
abbrev sNextR : Stmt := topS 19
abbrev N_scNextR : List Str := ["kept", "row", "place", "numbers"]
theorem scNextR : FnScope N_scNextR ["kept", "row"] (defScope sNextR) := ⟨rfl, rfl, rfl, by decide +kernel, rfl, by decide +kernel, by decide +kernel⟩
/-- the number to go on with, less one -/
def lastsK (kps : KpL) : List Int := kps.filterMap fun p => p.2.getLast?
def topK (kps : KpL) : Int := match lastsK kps with
  | [] => -1
  | n :: r => r.foldl max n
def nextV (kps : KpL) : List Int → Option (Int × Int)
  | [] => none
  | p :: r => if p ∈ kps.map (·.1) then some (p, 1 + topK kps) else nextV kps r
theorem KVs.keys {K : PySem.W.Frag} {H : Hp} {kvs : List (Key × V)} {kps : KpL} (h : KVs K H kvs kps) : kvs.map (·.1) = kps.map fun p => (.inl p.1 : Key) := by
  refine List.ext_getElem? fun i => ?_
  rw [List.getElem?_map, List.getElem?_map]
  cases e : kps[i]? with
  | none =>
    have : kvs.length ≤ i := by rw [h.1]; exact List.getElem?_eq_none_iff.mp e
    rw [List.getElem?_eq_none this]
    rfl
  | some p =>
    obtain ⟨q, a, _⟩ := h.2 i p.1 p.2 e
    rw [a]
    rfl
theorem KVs.nd {K : PySem.W.Frag} {H : Hp} {kvs : List (Key × V)} {kps : KpL} (h : KVs K H kvs kps) (n : (kps.map (·.1)).Nodup) : (kvs.map (·.1)).Nodup := by
  rw [h.keys]
  refine List.pairwise_map.mpr ?_
  exact (List.pairwise_map.mp n).imp fun a z => a (Sum.inl.inj z)
theorem KVs.val {K : PySem.W.Frag} {H : Hp} {kvs : List (Key × V)} {kps : KpL} (h : KVs K H kvs kps) (n : (kps.map (·.1)).Nodup) {p : Int} {ms : List Int} (hm : (p, ms) ∈ kps) : ∃ q : Addr, valV kvs (.inl p) = some (.ref q) ∧ SqT K H q (ms.map V.int) := by
  obtain ⟨i, hi, e⟩ := List.mem_iff_getElem.mp hm
  obtain ⟨q, a, b⟩ := h.2 i p ms (by rw [List.getElem?_eq_getElem hi, e])
  exact ⟨q, valV_mem (p := (.inl p, .ref q)) (h.nd n) (List.mem_of_getElem? a), b⟩
theorem KVs.isS {K : PySem.W.Frag} {H : Hp} {kvs : List (Key × V)} {kps : KpL} (h : KVs K H kvs kps) (n : (kps.map (·.1)).Nodup) (p : Int) : (valV kvs (.inl p)).isSome = decide (p ∈ kps.map (·.1)) := by
  by_cases hp : p ∈ kps.map (·.1)
  · obtain ⟨⟨p', ms⟩, hm, rfl⟩ := List.mem_map.mp hp
    obtain ⟨q, e, _⟩ := h.val n hm
    rw [decide_eq_true hp]
    show (valV kvs (.inl p')).isSome = true
    rw [e]; rfl
  · rw [decide_eq_false hp]
    cases e : valV kvs (.inl p) with
    | none => rfl
    | some v =>
      have h1 : (.inl p : Key) ∈ kvs.map (·.1) := valV_in e
      rw [h.keys] at h1
      obtain ⟨r, hr, er⟩ := List.mem_map.mp h1
      cases er
      exact absurd (List.mem_map.mpr ⟨r, hr, rfl⟩) hp
section
variable {P : Program} {w : World} {K : PySem.W.Frag} {mg : Str → Option Value} {base : Heap}
def spNextR (K : PySem.W.Frag) (Pr Pu Ph : Addr) : Sp := fun vs H Q _ => ∃ (d a : Addr) (kvs : List (Key × V)) (kps : KpL) (n : Int) (ps : List Int), vs = [.ref d, .ref a] ∧ H d = some (.dK kvs) ∧ KVs K H kvs kps ∧ KpOk n kps ∧ n ≤ 12 ∧ SqL K H a (ps.map V.int) ∧ TabG H Pr ∧ TabG H Pu ∧ TabG H Ph ∧
  (nextV kps ps = none → ∀ H', K0 H H' → Q .non H') ∧ (∀ p m, nextV kps ps = some (p, m) → ∀ (q : Addr) (H' : Hp), K0 H H' → SqT K H' q [.int p, .int m] → Q (.ref q) H')
theorem ok_nextr {f Pr Pu Ph : Addr} {fd : FuncData} {f_hasnumbers : Addr} {fd_hasnumbers : FuncData} (F : Fun K "next_root" "next_root" sNextR f fd) (k_hasnumbers : PySem.W.keepIn K (.ref f_hasnumbers) = true) (b_hasnumbers : Binds K fd_hasnumbers ["thing"] []) (g_hasnumbers : mg "has_numbers" = some (.ref f_hasnumbers)) (G_hasnumbers : FnOk P w K mg base CX0 5 f_hasnumbers fd_hasnumbers ["thing"] (spHasN K Pr Pu Ph))
    (m_max : mg "max" = none) : FnOk P w K mg base CX0 6 f fd ["kept", "row"] (spNextR K Pr Pu Ph) := by
  refine F.ok scNextR (fun vs H Q E h => ?_) (fun cdv A outer s H vs Q E hr h => ?_)
  · obtain ⟨d, a, kvs, kps, n, ps, rfl, _⟩ := h
    rfl
  · obtain ⟨d, a, kvs, kps, n, ps, rfl, hd, hK, hO, hn, hS, tr, tu, th, q0, q1⟩ := h
    have hu := hu_of hr
    have hu3 : (A.deeper (envOfC (Str.ofString "next_root") (defScope sNextR) s.heap.objs.size f cdv)).units + 3 < cLine := by
      have := hr.units
      omega
    refine ⟨_, (pss_cons (ps_if (pt_not (pt_val (pe_call G_hasnumbers (hr.mono (by decide)) (by rfl) g_hasnumbers k_hasnumbers b_hasnumbers .nil pass0 (pa_cons (pv 0) pa_nil)))) pss_never pss_nil)
      (pss_cons (ps_for PassesOwn.never rfl (pi_list (pv 1)) (pg_name (i := 2) scNextR.nd rfl (.inl rfl))
      (pss_one (ps_if (pt_cmp (pc_din hu (pv 2) (pv 0))) (pss_one (ps_ret (pe_tup (pa_cons (pv 2) (pa_cons (pe_op op_add pe_int (pe_callBK (HkX.cr_maxDef rfl hu3) (by rfl) m_max (by decide +kernel) (pa_cons (pe_lock (pe_lc (own := [("numbers", 3)]) (g := (gName 3)) (tt := (HkX.tTruK K (tVar 3))) (te := (tOp (rIxT K) (tVar 3) (tUn (rU fun i => .int (-i)) (tC (.int 1))))) rfl scNextR.nd (pi_values (pv 0)) (blkOk_by (N := N_scNextR) (sc := defScope sNextR) (by decide +kernel)) (fun _ _ _ _ _ => (pg_name (i := 3) scNextR.nd rfl (.inl rfl))) (fun _ _ _ _ _ => (pts_one (pt_truth (pv 3) (by intro _; rfl)))) (fun _ _ _ _ _ => (pe_ix ix_tup (pv 3) (pe_un un_neg pe_int) (fun _ _ => rfl))))) pa_nil) (pk_cons (pe_un un_neg pe_int) pk_nil))) pa_nil))))) pss_nil)))
      (pss_one (ps_ret pe_non)))), ?_⟩
    refine ⟨_, rfl, d, kvs, kps, n, rfl, hd, hK, hO, tr, tu, th, fun H1 k1 => ⟨_, rfl, iteF ?_⟩⟩
    have hd1 : H1 d = some (.dK kvs) := k1.oth d _ hd (fun _ z => by cases z)
    have hK1 := hK.k0 k1
    have hS1 := k1.sqL hS
    refine ⟨_, rfl, a, rfl, ⟨_, hS1⟩, for_list (xs := ps.map V.int) (fun i σ' H' => ∃ y2, σ' = [some (.ref d), some (.ref a), y2, none] ∧ H' = H1 ∧ nextV kps ps = nextV kps (ps.drop i)) ⟨none, rfl, rfl, by rw [List.drop_zero]⟩ (fun i σ' H' hi h => ?_) (fun i x σ' H' hx h => ?_) (fun σ' H' h => ?_)⟩
    · obtain ⟨_, _, rfl, _⟩ := h
      exact hS1
    · obtain ⟨y2, rfl, rfl, hn2⟩ := h
      rw [List.getElem?_map] at hx
      obtain ⟨p, hp, rfl⟩ := Option.map_eq_some_iff.mp hx
      have hdr : ps.drop i = p :: ps.drop (i + 1) := by
        have hi : i < ps.length := (List.getElem?_eq_some_iff.mp hp).1
        rw [List.drop_eq_getElem_cons hi]
        congr 1
        rw [List.getElem?_eq_getElem hi] at hp
        exact Option.some.inj hp
      rw [hdr] at hn2
      refine ⟨_, rfl, _, rfl, d, _, rfl, .inl ⟨kvs, .inl p, .inl hd1, rfl, rfl⟩, _, rfl, ?_⟩
      rw [hK1.isS hO.nodup]
      by_cases hpk : p ∈ kps.map (·.1)
      · rw [decide_eq_true hpk]
        have hn3 : nextV kps ps = some (p, 1 + topK kps) := by
          rw [hn2]
          show (if p ∈ kps.map (·.1) then _ else _) = _
          rw [if_pos hpk]
        refine iteT ⟨_, rfl, d, _, hd1, trivial, fun od => ⟨_, rfl, d, od, kvs, rfl, upd_same, fun R nR => ?_⟩⟩
        have nRd : R ≠ d := fun z => by rw [z, upd_same] at nR; cases nR
        have kl : ∀ {b : Addr} {xs : List V} {l : List V}, SqT K H' b xs → SqT K (upd (upd H' d (.frz od (.dK kvs))) R (.lst l)) b xs := fun {b xs l} hb => (K0.new nR (o := .lst l)).sqT (sqT_lock hb hd1)
        refine lc_it walk_values (fun j H2 => H2 = upd (upd H' d (.frz od (.dK kvs))) R (.lst ((lastsK (kps.take j)).map V.int))) (by rw [List.take_zero]; rfl) (fun j H2 _ h => ?_) (fun j x H2 H4 hj h y => ?_) (fun H2 h => ?_)
        · rw [h, upd_ne nRd.symm]; exact upd_same
        · obtain ⟨rfl, k, hkv⟩ := y
          obtain ⟨p', ms, qq, e1, e2, hq⟩ := hK1.at_ hkv
          cases e2
          subst h
          have hlast : lastsK (kps.take (j + 1)) = lastsK (kps.take j) ++ (match ms.getLast? with | some v => [v] | none => []) := by
            rw [List.take_add_one, e1]
            unfold lastsK
            rw [List.filterMap_append]
            cases hg : ms.getLast? with
            | none =>
              show _ ++ List.filterMap (fun p : Int × List Int => p.2.getLast?) [(p', ms)] = _
              rw [List.filterMap_cons_none (by exact hg)]
              rfl
            | some v =>
              show _ ++ List.filterMap (fun p : Int × List Int => p.2.getLast?) [(p', ms)] = _
              rw [List.filterMap_cons_some (by exact hg)]
              rfl
          refine ⟨rfl, _, rfl, !(ms.map V.int).isEmpty, .inr (.inl ⟨_, kl hq, rfl⟩), ?_⟩
          by_cases hms : ms = []
          · have eb : (!(ms.map V.int).isEmpty) = false := by rw [hms]; rfl
            rw [eb]
            refine iteF ?_
            rw [hlast, hms]
            exact congrArg (fun l : List Int => upd _ R (.lst (l.map V.int))) (List.append_nil _).symm
          · have eb : (!(ms.map V.int).isEmpty) = true := by
              cases ms with
              | nil => exact absurd rfl hms
              | cons _ _ => rfl
            have hgl : ms.getLast? = some (ms.getLast hms) := List.getLast?_eq_some_getLast hms
            rw [hgl] at hlast
            rw [eb]
            refine iteT ⟨_, rfl, 1, rfl, qq, _, -1, .int (ms.getLast hms), rfl, rfl, kl hq, ?_, _, upd_same, ?_, ?_⟩
            · have e3 : ms.map V.int = (ms.dropLast).map V.int ++ [.int (ms.getLast hms)] := by
                conv => lhs; rw [← List.dropLast_concat_getLast hms]
                rw [List.map_append]
                rfl
              rw [e3]
              exact L2.atI_last _ _
            · rw [List.length_map, sizeLine_eq]
              have h1 : (lastsK (kps.take j)).length ≤ (kps.take j).length := List.length_filterMap_le ..
              have h2 := hO.len hn
              have h3 := List.length_take_le' j kps
              omega
            · rw [upd_upd, hlast, List.map_append]
              rfl
        · subst h
          rw [hK1.1, List.take_length]
          refine ⟨by rw [upd_ne nRd.symm]; exact upd_same, ?_⟩
          have kk : K0 H' (upd (upd (upd H' d (.frz od (.dK kvs))) R (.lst ((lastsK kps).map V.int))) d (.dK kvs)) := K0.lock hd1 (fun _ z => by cases z) (K0.new nR)
          have hR : (upd (upd (upd H' d (.frz od (.dK kvs))) R (.lst ((lastsK kps).map V.int))) d (.dK kvs)) R = some (.lst ((lastsK kps).map V.int)) := by rw [upd_ne nRd]; exact upd_same
          generalize upd (upd (upd H' d (.frz od (.dK kvs))) R (.lst ((lastsK kps).map V.int))) d (.dK kvs) = G at kk hR ⊢
          have fin : ∀ m : Int, m = topK kps → ∀ (H9 : Hp), K0 G H9 → ∀ q : Addr, H9 q = none → Q (.ref q) (upd H9 q (.tup [.int p, .int (1 + m)])) := fun m hm H9 k9 q nq => q1 p (1 + m) (by rw [hn3, hm]) q _ (((k1.trans kk).trans k9).trans (K0.new nq)) (.inl (.inl upd_same))
          refine ⟨1, rfl, R, lastsK kps, -1, rfl, rfl, .inl (.inl hR), fun e => ?_, fun n0 r0 e => ?_⟩
          · refine ⟨1, -1, rfl, rfl, by show 2 ≤ sizeLine; decide, fun q nq => fin (-1) ?_ G (K0.refl _) q nq⟩
            unfold topK; rw [e]
          · refine ⟨1, _, rfl, rfl, by show 2 ≤ sizeLine; decide, fun q nq => fin _ ?_ G (K0.refl _) q nq⟩
            unfold topK; rw [e]
      · rw [decide_eq_false hpk]
        refine iteF ⟨_, rfl, rfl, ?_⟩
        rw [hn2]
        show (if p ∈ kps.map (·.1) then _ else _) = _
        rw [if_neg hpk]
    · obtain ⟨y2, rfl, rfl, hn2⟩ := h
      rw [List.length_map, List.drop_length] at hn2
      exact q0 hn2 _ k1
end
end HK

set_option Elab.async false
set_option linter.all false
set_option maxRecDepth 100000
set_option maxHeartbeats 4000000
namespace HK
open PySem PySem.Spec PyProof.Rows L2 GAl GxR
open Evl (pss_cut)
/-- places out of which no road leads -/
def ClosedP (n : Int) (rs : List R4) (root : Int) (ns : List Int) : Prop := AreP n ns ∧ root ∈ ns ∧ ∀ r ∈ rs, r.s ∈ ns → r.e ∈ ns
theorem flatI (ns : List Int) : (ns.map V.int).all flatV = true := by
  rw [List.all_map, List.all_eq_true]
  exact fun _ _ => rfl
theorem inI_iff {i : Int} {js : List Int} : inV (.int i) (js.map V.int) = true ↔ i ∈ js := by
  unfold inV
  rw [List.any_map, List.any_eq_true]
  constructor
  · rintro ⟨x, hx, e⟩
    have e : (x == i) = true := e
    rw [← beq_iff_eq.mp e]; exact hx
  · intro h
    exact ⟨i, h, by simp [eqV]⟩
theorem inI {k : Int} {ns : List Int} : inV (V.int k) (ns.map V.int) = decide (k ∈ ns) := by
  rw [Bool.eq_iff_iff, inI_iff, decide_eq_true_iff]
section
variable {P : Program} {w : World} {K : PySem.W.Frag} {mg : Str → Option Value} {base : Heap}
def spIsClosed (K : PySem.W.Frag) (Pn Pr Pa Pc : Addr) : Sp := fun vs H Q _ => ∃ (a : Addr) (n : Int) (rs : List R4) (root : Int) (p : Addr) (ns : List Int), vs = [.ref a, .int root, .ref p] ∧ NetAt K H a n rs ∧ Good n rs ∧ rs.length ≤ 156 ∧ 0 ≤ root ∧ root < n ∧ SqT K H p (ns.map V.int) ∧ ns.length ≤ 1000 ∧
  TbL H [Pn, Pr, Pa, Pc] ∧ ∀ (H' : Hp) (b : Bool), K0 H H' → (b = true ↔ ClosedP n rs root ns) → Q (.bl b) H'
end
end HK

set_option Elab.async false
set_option linter.all false
set_option maxRecDepth 100000
set_option maxHeartbeats 2000000
namespace GAl
open PySem PySem.Spec PyProof.Rows L2 GxR
open Sem (wp)
/-! ### generator expressions whose consumer keeps a record S of its own -/

theorem Inv.kallS {X : Cx} {ps : List (Addr × Obj)} {S : Addr} {oS oS' : Obj} {σ : L2.St} {H : Hp} {s s'' : Shared} (I : Inv X (ps ++ [(S, oS)]) σ H s) (hy : S ∈ X.ex ∨ X.s_0.heap.objs.size ≤ S) (hps : ∀ p ∈ X.pn ++ ps, p.1 ≠ S)
    (ho : s''.os = s.os) (hb : AllBare s''.gens) (k : ∀ b o, b ≠ S → s.heap.get? b = some o → s''.heap.get? b = some o) (hS : s''.heap.get? S = some oS') (hd : ∀ v, oS'.data ≠ .cell v) : Inv X (ps ++ [(S, oS')]) σ H s'' := by
  obtain ⟨h1, h2, h3, h4, h5⟩ := I.pin (S, oS) (List.mem_append_right _ (List.mem_append_right _ (List.mem_singleton.mpr rfl)))
  have hcell : ∀ x c, X.env.cells.lookup x = some c → c ≠ S := fun x c e z => by
    obtain ⟨v, o, q, d⟩ := I.cell x c e
    have h1 : s.heap.get? S = some oS := h1
    rw [z, h1] at q
    cases q
    exact h5 _ d
  have I' : Inv X ps σ H s := I.unpinned
  have I1 := I'.turned (it := S) (h' := s''.heap) (t' := s.toks) k h2 h3 hy hcell hps
  have I2 : Inv X ps σ H s'' := Inv.kall I1 ho hb (fun _ _ e => e)
  refine I2.pins_of fun p hp => ?_
  rcases List.mem_append.mp hp with hp | hp
  · exact I2.pin p (List.mem_append_right _ hp)
  · have := List.mem_singleton.mp hp
    subst this
    exact ⟨hS, h2, h3, h4, hd⟩

section
variable {G : Type}
def REndS (XG : Cx) (a : Addr) (oa : Obj) (S : Addr) (Rep : Obj → G → Prop) (σw : L2.St) (Qd : G → Hp → Prop) : Nat → Shared → Shared → Prop := fun _ s₀ s₁ =>
  ∃ γ oS H4, s₀.heap.get? S = some oS ∧ Rep oS γ ∧ Inv XG ([(a, oa)] ++ [(S, oS)]) σw H4 s₁ ∧ Qd γ H4
def YOutS (XG : Cx) (a : Addr) (oa : Obj) (S : Addr) (Rep : Obj → G → Prop) (stp : G → V → Hp → (G → Prop) → Prop) : Protocol := fun _ s₀ v s kap =>
  ∃ γ oS y H4 σ4, s₀.heap.get? S = some oS ∧ Rep oS γ ∧ Inv XG ([(a, oa)] ++ [(S, oS)]) σ4 H4 s ∧ RelV y v ∧
    stp γ y H4 (fun γ' => ∀ (s'' : Shared) (oS' : Obj), s''.os = s.os → AllBare s''.gens → (∀ b o, b ≠ S → s.heap.get? b = some o → s''.heap.get? b = some o) → s''.heap.get? S = some oS' → Rep oS' γ' → (∀ v, oS'.data ≠ .cell v) → kap (.send .none) s'')
/-- what a turn asks -/
def GTurnS (J : It) (g : TG) (tt : TT) (te : TE) (vs : List Nat) (σw : L2.St) (Qd : Nat → G → Hp → Prop) (stp : G → V → Hp → (G → Prop) → Prop) (W : Nat → Nat → G → Hp → Prop) : Prop :=
  ∀ i m γ H, W i m γ H → (J.stop i H ∧ Qd m γ H) ∨ (J.go i H ∧ ∃ Nx : G → Hp → Prop, (∀ γ' H', Nx γ' H' → ∃ m', m' < m ∧ W (i + 1) m' γ' H') ∧ ∀ x H', J.yld i H x H' → g x σw H' fun σ2 H2 => wipe σ2 vs = σw ∧ tt σ2 H2 fun b H3 =>
    if b = true then te σ2 H3 fun y H4 => stp γ y H4 (fun γ' => Nx γ' H4) else Nx γ H3)
/-- one turn of the last clause -/
@[reducible] def turnOf (tg iter : Expr) (ifs : List Expr) (elt : Expr) (it : Value) (cenv : Env) (c : Code) : Sem Fin := do
  standAt iter.pos
  match ← pyNext it with
  | none => pure (.done .next)
  | some v =>
    letOwnedTupleGo tg it v
    assign tg cenv v
    let mut ok := true
    for c in ifs do
      if ok then ok ← isTrue c cenv (eval c cenv)
    if ok then
      (do let v ← eval elt cenv; standAt elt.pos; let _ ← yieldOut cenv v)
    again c
/-- what the iterator's objects are, whatever stands in the heap -/
def FpSt (X : Cx) (b : Addr) : Prop := b ≠ X.env.locals ∧ b ∉ X.fs ∧ (b ∈ X.ex ∨ X.s_0.heap.objs.size ≤ b) ∧ (∀ x c, X.env.cells.lookup x = some c → c ≠ b)
end

section
variable {G : Type} {X XG XI : Cx} {elt tg iter : Expr} {ifs : List Expr} {it a S : Addr} {oa : Obj} {fp : List Addr} {cenv : Env} {AG : Around} {c : Code} {fs : List Frame} {lv : Value → Sem Unit} {J : It} {tn : Nat → Heap → Prop} {R : GenEnd} {ps : List (Addr × Obj)}
  {g : TG} {tt : TT} {te : TE} {vs : List Nat} {σw : L2.St} {Qd : Nat → G → Hp → Prop} {Rep : Obj → G → Prop} {stp : G → V → Hp → (G → Prop) → Prop} {W : Nat → Nat → G → Hp → Prop}

theorem gen_loopS (hA : XI.A = AG.over c fs) (hP : XI.prog = X.prog) (hw : XI.w = X.w) (hK : XI.K = X.K) (hcalm : XI.calm = true) (henv : XI.env = cenv) (hxe : XI.xe = fun _ _ => False) (hpn : XI.pn = [])
    (hden : (model X.prog X.w).den c = (turnOf tg iter ifs elt (.ref it) cenv c).onRaise lv) (hcq : c.quiet = true) (hfs : splitAtGen fs = none) (hfg : fs.any Frame.guarded = false)
    (hco : cenv.scope.isCoroutine = false) (T : Turn X.prog X.w X.K tg J fp it tn) (hst : ∀ b ∈ fp, FpSt XI b) (hSy : S ∈ XI.ex ∨ XI.s_0.heap.objs.size ≤ S) (hSfp : ∀ b ∈ fp, S ≠ b) (hpsS : ∀ p ∈ ps, p.1 ≠ S) (hpsf : ∀ p ∈ ps, ∀ b ∈ fp, p.1 ≠ b) (haps : (a, oa) ∈ ps)
    (hmono : ∀ γ y H (p q : G → Prop), (∀ γ', p γ' → q γ') → stp γ y H p → stp γ y H q)
    (htr : ∀ ps σ H s, Inv XI ps σ H s → Inv XG ps σ H s)
    (hend : ∀ m n γ oS s₀ s H, m < n → s₀.heap.get? S = some oS → Rep oS γ → Inv XI (ps ++ [(S, oS)]) σw H s → Qd m γ H → Seg (model X.prog X.w) AG R (YOutS XG a oa S Rep stp) n s₀ c (leafOf (.ok .next)) fs s)
    (pg : PG XI tg g) (pt : PTs XI ifs tt) (pe : PE XI elt te) (hW : GTurnS J g tt te vs σw Qd stp W) :
    ∀ (m n i : Nat) (γ : G) (oS : Obj) (s₀ s : Shared) (H : Hp), m < n → W i m γ H → s₀.heap.get? S = some oS → Rep oS γ → Inv XI (ps ++ [(S, oS)]) σw H s → tn i s.heap → (∀ b ∈ fp, H b = none) →
      Seg (model X.prog X.w) AG R (YOutS XG a oa S Rep stp) n s₀ c ((model X.prog X.w).den c) fs s := by
  have stat : ∀ {oS : Obj} {σ' : L2.St} {H' : Hp} {s' : Shared}, Inv XI (ps ++ [(S, oS)]) σ' H' s' → (∀ b ∈ fp, H' b = none) → ∀ b ∈ fp, FpOk XI (ps ++ [(S, oS)]) H' b := fun {oS σ' H' s'} I' hn b hb =>
    ⟨hn b hb, (hst b hb).1, (hst b hb).2.1, (hst b hb).2.2.1, (hst b hb).2.2.2, fun p hp => by
      rw [hpn, List.nil_append] at hp
      rcases List.mem_append.mp hp with hp | hp
      · exact hpsf p hp b hb
      · have := List.mem_singleton.mp hp
        subst this
        exact hSfp b hb⟩
  have hpsS' : ∀ p ∈ XI.pn ++ ps, p.1 ≠ S := by rw [hpn]; exact hpsS
  intro m
  induction m using Nat.strongRecOn with
  | ind m ih =>
    intro n i γ oS s₀ s H hmn w hS0 hRep I st nH
    rw [hden, Sem.onRaise_eq_wrap]
    refine seg_bind_wrap (wpAny_standAt ?_)
    rcases hW i m γ H w with ⟨stop, qq⟩ | ⟨go, Nx, hNx, step⟩
    · have td := T.done XI hP hw hK hcalm i _ s _ H (fun _ _ => False) I (stat I nH) st stop
      rw [hA] at td
      refine seg_bind_wrap (thnF td fun r s1 ⟨hr, I1⟩ => ?_)
      subst hr
      exact hend m n γ oS s₀ s1 H hmn hS0 hRep I1 qq
    · have ti := T.item XI hP hw hK hcalm i _ s _ H (fun _ _ => False) I (stat I nH) st go
      rw [hA] at ti
      refine seg_bind_wrap (thnF ti fun r s1 ⟨u, hr, h1⟩ => ?_)
      subst hr
      refine seg_bind_wrap (thnF h1 fun _ s2 ⟨x, H2, I2, r2, y2, st2, n2⟩ => ?_)
      have I2' := I2.pinned (stat I2 n2) (T.obj _ _ st2)
      have rg := pg.run _ s2 _ H2 x u _ I2' r2 (step x H2 y2)
      rw [hA, hP, hw, henv, hxe] at rg
      refine seg_bind_wrap (thnF rg fun _ s3 ⟨σ3, H3, I3, hw3, q3⟩ => ?_)
      have rt := pt.run _ s3 σ3 H3 _ I3 q3
      rw [hA, hP, hw, henv, hxe] at rt
      refine seg_bind_wrap (thnF rt fun b s5 ⟨H5, I5, q5⟩ => ?_)
      have hl : σw.length = σ3.length := by rw [← hw3, wipe_length]
      have pin' : ∀ {H' : Hp} {s' : Shared} {σ' : L2.St}, Inv XI ((ps ++ [(S, oS)]) ++ pinsAt fp s2.heap) σ' H' s' → ∀ b ∈ fp, ∀ o, s2.heap.get? b = some o → s'.heap.get? b = some o ∧ H' b = none := fun {H' s' σ'} I' b hb o e =>
        let z := I'.pin (b, o) (List.mem_append_right _ (List.mem_append_right _ (mem_pinsAt hb e)))
        ⟨z.1, z.2.1⟩
      cases b with
      | false =>
        simp only [Bool.false_eq_true, if_false] at q5 ⊢
        obtain ⟨m', hm, w'⟩ := hNx γ H5 q5
        refine seg_again hcq (ih m' hm n (i + 1) γ oS s₀ s5 H5 (by omega) w' hS0 hRep ((I5.unpinned (pins := ps ++ [(S, oS)])).weak hl (fun j v e => ?_)) (T.keep _ _ _ st2 fun b hb o e => (pin' I5 b hb o e).1) (fun b hb => ?_))
        · rw [← hw3] at e
          exact (wipe_some e).1
        · obtain ⟨o, e, _⟩ := T.obj _ _ st2 b hb
          exact (pin' I5 b hb o e).2
      | true =>
        simp only [if_true] at q5 ⊢
        have hy : ∀ v, yieldOut cenv v = yieldValue v := fun v => by simp only [yieldOut, hco, Bool.false_eq_true, if_false]
        simp only [hy]
        rw [Sem.bind_eq_wrap', Sem.bind_eq_wrap', Sem.wrap_wrap, Sem.wrap_wrap]
        have re := pe.run _ s5 σ3 H5 _ I5 q5
        rw [hA, hP, hw, henv, hxe] at re
        refine seg_wrap (thnF re fun z s6 ⟨yv, H6, I6, r6, q6⟩ => ?_)
        cases n with
        | zero => exact absurd hmn (Nat.not_lt_zero _)
        | succ n =>
          have I6' : Inv XI (ps ++ [(S, oS)]) σ3 H6 s6 := I6.unpinned
          have I6w : Inv XI (ps ++ [(S, oS)]) σw H6 s6 := I6'.weak hl (fun j v e => by rw [← hw3] at e; exact (wipe_some e).1)
          refine seg_at (seg_yield hfs rfl hfg ⟨γ, oS, yv, H6, σ3, hS0, hRep, htr _ _ _ _ (I6'.pins_of fun p hp => I6'.pin p (List.mem_append_right _ ?_)), r6, hmono _ _ _ _ _ (fun γ' nx s'' oS' e1 e2 e3 e4 e5 e6 => ?_) q6⟩)
          · rcases List.mem_append.mp hp with hp | hp
            · have := List.mem_singleton.mp hp
              subst this
              exact List.mem_append_left _ haps
            · exact List.mem_append_right _ hp
          · obtain ⟨m', hm, w'⟩ := hNx γ' H6 nx
            refine seg_again hcq (ih m' hm n (i + 1) γ' oS' s'' s'' H6 (by omega) w' e4 e5 (Inv.kallS I6w hSy hpsS' e1 e2 e3 e4 e6) (T.keep _ _ _ st2 fun b hb o e => e3 b o (fun z => hSfp b hb z.symm) (pin' I6 b hb o e).1) (fun b hb => ?_))
            obtain ⟨o, e, _⟩ := T.obj _ _ st2 b hb
            exact (pin' I6 b hb o e).2
end
end GAl

set_option Elab.async false
set_option linter.all false
set_option maxRecDepth 100000
set_option maxHeartbeats 2000000
namespace GAl
open PySem PySem.Spec PyProof.Rows L2 GxR
open Sem (wp)
section
variable {G : Type} {X : Cx} {elt tg iter : Expr} {ifs : List Expr} {scope : Scope} {pos : Pos} {it a S : Addr} {oa : Obj} {fp : List Addr} {cenv : Env} {AG : Around} {s4 : Shared} {Hs : Hp} {J : It} {tn : Nat → Heap → Prop}
  {g : TG} {tt : TT} {te : TE} {vs : List Nat} {σw : L2.St} {Qd : G → Hp → Prop} {Rep : Obj → G → Prop} {stp : G → V → Hp → (G → Prop) → Prop} {W : Nat → Nat → G → Hp → Prop}
theorem gen_beginS (hc : X.calm = true) (hco : cenv.scope.isCoroutine = false) (T : Turn X.prog X.w X.K tg J fp it tn) (hafp : ∀ b ∈ fp, a ≠ b) (hSfp : ∀ b ∈ fp, S ≠ b) (haS : a ≠ S) (hSy : s4.heap.objs.size ≤ S)
    (hmono : ∀ γ y H (p q : G → Prop), (∀ γ', p γ' → q γ') → stp γ y H p → stp γ y H q)
    (pg : PG (gcx X (AG.over (.compLoop (.GeneratorExp elt [⟨tg, iter, ifs, 0⟩] scope pos) 0 (.ref it) .none cenv) []) s4 Hs cenv fp) tg g)
    (pt : PTs (gcx X (AG.over (.compLoop (.GeneratorExp elt [⟨tg, iter, ifs, 0⟩] scope pos) 0 (.ref it) .none cenv) []) s4 Hs cenv fp) ifs tt)
    (pe : PE (gcx X (AG.over (.compLoop (.GeneratorExp elt [⟨tg, iter, ifs, 0⟩] scope pos) 0 (.ref it) .none cenv) []) s4 Hs cenv fp) elt te)
    (hW : GTurnS J g tt te vs σw (fun _ => Qd) stp W) (m : Nat) (γ : G) (oS : Obj) (s₀ s : Shared) (H : Hp) (w : W 0 m γ H) (hS0 : s₀.heap.get? S = some oS) (hRep : Rep oS γ)
    (I : Inv (gcx X (AG.over (.compLoop (.GeneratorExp elt [⟨tg, iter, ifs, 0⟩] scope pos) 0 (.ref it) .none cenv) []) s4 Hs cenv fp) ([(a, oa)] ++ [(S, oS)]) σw H s) (st : tn 0 s.heap) (nH : ∀ b ∈ fp, H b = none) :
      Seg (model X.prog X.w) AG (fun n s₀ r s₁ => r = .ok .next ∧ REndS (gcx X (AG.over (.compLoop (.GeneratorExp elt [⟨tg, iter, ifs, 0⟩] scope pos) 0 (.ref it) .none cenv) []) s4 Hs cenv fp) a oa S Rep σw Qd n s₀ s₁)
        (YOutS (gcx X (AG.over (.compLoop (.GeneratorExp elt [⟨tg, iter, ifs, 0⟩] scope pos) 0 (.ref it) .none cenv) []) s4 Hs cenv fp) a oa S Rep stp) (m + 1) s₀
        (.compStart (.GeneratorExp elt [⟨tg, iter, ifs, 0⟩] scope pos) 0 (.ref it) .none cenv)
        ((model X.prog X.w).den (.compStart (.GeneratorExp elt [⟨tg, iter, ifs, 0⟩] scope pos) 0 (.ref it) .none cenv)) [] s := by
  have hst : ∀ b ∈ fp, FpSt (gcx X (AG.over (.compLoop (.GeneratorExp elt [⟨tg, iter, ifs, 0⟩] scope pos) 0 (.ref it) .none cenv) []) s4 Hs cenv fp) b := fun b hb =>
    ⟨(I.ok.exf b hb).1, I.ok.exfs b hb, .inl hb, fun x c e => (I.ok.exf b hb).2 x c e⟩
  have loop := gen_loopS (a := a) (oa := oa) (S := S) (ps := [(a, oa)]) (R := fun n s₀ r s₁ => r = .ok .next ∧ REndS (gcx X (AG.over (.compLoop (.GeneratorExp elt [⟨tg, iter, ifs, 0⟩] scope pos) 0 (.ref it) .none cenv) []) s4 Hs cenv fp) a oa S Rep σw Qd n s₀ s₁) (Rep := Rep) (Qd := fun _ => Qd)
    (c := .compLoop (.GeneratorExp elt [⟨tg, iter, ifs, 0⟩] scope pos) 0 (.ref it) .none cenv) (fs := []) (cenv := cenv) (iter := iter) (lv := leaving cenv) (X := X) (AG := AG)
    (XG := gcx X (AG.over (.compLoop (.GeneratorExp elt [⟨tg, iter, ifs, 0⟩] scope pos) 0 (.ref it) .none cenv) []) s4 Hs cenv fp)
    (XI := gcx X (AG.over (.compLoop (.GeneratorExp elt [⟨tg, iter, ifs, 0⟩] scope pos) 0 (.ref it) .none cenv) []) s4 Hs cenv fp)
    rfl rfl rfl rfl hc rfl rfl rfl rfl rfl rfl rfl hco T hst (.inr hSy) hSfp
    (fun p hp => by have := List.mem_singleton.mp hp; subst this; exact haS) (fun p hp b hb => by have := List.mem_singleton.mp hp; subst this; exact hafp b hb) (List.mem_singleton.mpr rfl)
    hmono (fun _ _ _ _ I => I) (fun m n γ oS s₀ s H _ e1 e2 I q => seg_end (.ok .next) ⟨rfl, γ, oS, H, e1, e2, I, q⟩) pg pt pe hW m (m + 1) 0 γ oS s₀ s H (Nat.lt_succ_self _) w hS0 hRep I st nH
  show Seg _ AG _ _ _ s₀ _ ((compStart (.GeneratorExp elt [⟨tg, iter, ifs, 0⟩] scope pos) 0 (.ref it) .none cenv).onRaise (leaving cenv)) [] s
  unfold compStart
  rw [Sem.onRaise_eq_wrap]
  show Seg _ AG _ _ _ s₀ _ ((ask >>= _).wrap _ _ _ _) [] s
  refine seg_bind_wrap (wpAny_askSetting ?_)
  split
  · exact seg_again rfl loop
  · first
      | exact seg_bind_wrap (wpAny_rule (seg_bind_wrap (wpAny_standAt (seg_bind_wrap (T.self _ 0 s _ _ st (seg_again rfl loop))))))
      | (refine seg_bind_wrap (wpAny_rule ?_); show Seg _ AG _ _ _ s₀ _ ((standAt iter.pos >>= _).wrap _ _ _ _) [] s; exact seg_bind_wrap (wpAny_standAt (seg_bind_wrap (T.self _ 0 s _ _ st (seg_again rfl loop)))))
end

/-- what a consumed generator expression asks: the walked thing, the def's table, the turns -/
def tGenS {G : Type} (P : Addr) (wi : TI) (g : TG) (tt : TT) (te : TE) (vs : List Nat) (stp : G → V → Hp → (G → Prop) → Prop) (γ0 : G) (Qd : G → Hp → Prop) : L2.St → Hp → Prop := fun σ H =>
  wi σ H fun J H1 => TabG H1 P ∧ ∀ H2, Tabbed P H1 H2 → ∃ W : Nat → Nat → G → Hp → Prop, (∃ m, W 0 m γ0 H2) ∧ GTurnS J g tt te vs (wipe σ vs) (fun _ => Qd) stp W

section
variable {G : Type} {X : Cx} {pins : List (Addr × Obj)} {σ : L2.St} {H : Hp} {s : Shared}
theorem gen_makeS {c P : Addr} {elt tg iter : Expr} {ifs : List Expr} {gpos : Pos} {scope : Scope} {own : List (Str × Nat)} {wi : TI} {g : TG} {tt : TT} {te : TE} {k : Nat} {stp : G → V → Hp → (G → Prop) → Prop} {Rep : Obj → G → Prop} {γ0 : G} {Qd : G → Hp → Prop} {Q' : Value → Shared → Prop}
    (hr : Room (k + 1) X.A) (hc : X.calm = true) (hN : X.N.Nodup) (TB : TabB X.base X.mg c P) (hcode : X.env.code = .ref c) (SC : GSc X.N X.env.scope scope own) (hi : PI X tg iter wi)
    (hg : ∀ (A' : Around), Room k A' → ∀ (s : Shared) (H : Hp) (cl : List (Str × Addr)) (C : Addr) (code : Value) (fp : List Addr), PG (gcx X A' s H (genEnv scope cl C code builtinsNs X.env) fp) tg g)
    (ht : ∀ (A' : Around), Room k A' → ∀ (s : Shared) (H : Hp) (cl : List (Str × Addr)) (C : Addr) (code : Value) (fp : List Addr), PTs (gcx X A' s H (genEnv scope cl C code builtinsNs X.env) fp) ifs tt)
    (he : ∀ (A' : Around), Room k A' → ∀ (s : Shared) (H : Hp) (cl : List (Str × Addr)) (C : Addr) (code : Value) (fp : List Addr), PE (gcx X A' s H (genEnv scope cl C code builtinsNs X.env) fp) elt te)
    (hmono : ∀ γ y H (p q : G → Prop), (∀ γ', p γ' → q γ') → stp γ y H p → stp γ y H q)
    (hs : ∀ v, genFold iter X.env v = pure v) (I : Inv X pins σ H s) (h : tGenS P wi g tt te (own.map (·.2)) stp γ0 Qd σ H)
    (hQ : ∀ (XG : Cx) (a : Addr) (oa : Obj) (gn n : Nat) (σw : L2.St) (s5 : Shared) (gs : GenState), XG.prog = X.prog → XG.w = X.w → XG.pn = [] → s5.heap.get? a = some oa → s5.heap.IsGen a gn → s5.gens[gn]? = some gs → s5.heap.NoLimit → AllBare s5.gens →
      (∀ (S : Addr) (s'' : Shared) (oS : Obj), s5.heap.objs.size ≤ S → s''.os = s5.os → AllBare s''.gens → (∀ b o, s5.heap.get? b = some o → s''.heap.get? b = some o) → s''.heap.get? S = some oS → Rep oS γ0 → (∀ v, oS.data ≠ .cell v) →
        gs.Goes (model X.prog X.w) X.A.in1.in1 (fun n s₀ r s₁ => r = .ok .next ∧ REndS XG a oa S Rep σw Qd n s₀ s₁) (YOutS XG a oa S Rep stp) n (.send .none) s'') →
      (∀ S, s5.heap.objs.size ≤ S → XG.s_0.heap.objs.size ≤ S) → (∀ s' ps σ' H', Inv XG ps σ' H' s' → Inv X pins σ H' s') → Q' (.ref a) s5) :
    wpAny (model X.prog X.w) X.A (eval (.GeneratorExp elt [⟨tg, iter, ifs, 0⟩] scope gpos) X.env) Q' X.xe s := by
  have ok := SC.blk
  have hfree : ∀ y ∈ scope.names, y.2 = .free → ∃ c, X.env.cells.lookup y.1 = some c := fun y hy e => by
    rcases ok.free y hy e with k | k
    · exact I.ok.has _ (.inl k)
    · exact I.ok.has _ (.inr k)
  refine wpAny_GeneratorExp_make SC.co (closure_ok hfree) SC.cell SC.dot ok.kind (by have := hr.dp; omega) ?_ hs
  refine thn (hi.run pins s σ H _ I h) fun xv s1 hx => thn hx fun itv s2 h2 => ?_
  obtain ⟨it, fp, tn, J, H2, e, I2, T, st2, f2, ⟨ps, hP, hts⟩, q⟩ := h2
  subst e
  have hPs : s2.heap.get? P = some { cls := .none, data := .fields ps } := I2.hok P _ hP
  have cd : PySem.W.CodeHd s2.heap c P := TB.code.keeps fun b u e => I2.bk b u e
  have nP : ∀ b ∈ fp, b ≠ P := fun b hb z => by
    have := (f2 b hb).1
    rw [z, hP] at this; cases this
  have sz2 : ∀ b ∈ fp, b < s2.heap.objs.size := fun b hb => by
    obtain ⟨o, e, _⟩ := T.obj _ _ st2 b hb
    exact Heap.lt_size e
  have cont : ∀ (code : Value) (h3 : Heap) (tk : Nat) (ps' : Array Value), Heap.ExtBut P s2.heap h3 → s2.heap.objs.size ≤ h3.objs.size → h3.get? P = some { cls := .none, data := .fields ps' } → (∃ more, ps' = ps ++ more) → TriplesOk ps'.toList →
      wpAny (model X.prog X.w) X.A (builtinsFor X.env.globals X.env.builtins) (fun bi s₄ =>
        ∀ h', h'.Ns s₄.heap.objs.size (fun y => if y = ".0" then some (.ref it) else none) → Heap.SameBut s₄.heap.objs.size (s₄.heap.push { cls := .type "frame", data := .dict #[] }) h' →
          Q' (.ref h'.objs.size) { s₄ with
            gens := s₄.gens.push (.fresh (.compStart (.GeneratorExp elt [⟨tg, iter, ifs, 0⟩] scope gpos) 0 (.ref it) .none (genEnv scope (cloFrom X.env.cells scope.names []) s₄.heap.objs.size code bi X.env))),
            toks := s₄.toks + 1 + 1 + 1,
            heap := h'.push { cls := .type "generator", data := .fields #[.int s₄.gens.size 0, .str "<genexpr>" (s₄.toks + 1), .str (X.env.qual ++ "<genexpr>") (s₄.toks + 1 + 1)] } }) X.xe { s2 with heap := h3, toks := tk } := by
    intro code h3 tk ps' hx hsz hP3 hmore ht3
    obtain ⟨bm, ob, e1, e2, e3, e4, e5, e6, e7, e8⟩ := TB.bm
    have keep3 : ∀ b u, b ≠ P → s2.heap.get? b = some u → h3.get? b = some u := fun b u hb e => hx b u hb e
    refine wpAny_builtinsFor (m := X.mg) (by rw [I2.ok.glob]; exact (I2.mod.glob.keeps I2.bk).extBut hx TB.gP) e1 e2 (keep3 _ _ e4 (I2.bk _ _ e5)) e6 e7 e8 ?_
    intro h' hn' hs'
    obtain ⟨more, em⟩ := hmore
    have I3 : Inv X pins σ (upd H2 P (.tbl (ps ++ more))) { s2 with heap := h3, toks := tk } :=
      inv_tab (more := more) (h' := h3) (g' := s2.gens) (d' := s2.drawn) (t' := tk) I2 hP keep3 (by rw [← em]; exact hP3) I2.bare
    obtain ⟨W, ⟨m0, w0⟩, turn⟩ := q (upd H2 P (.tbl (ps ++ more))) ⟨⟨ps ++ more, upd_same, by rw [← em]; exact ht3⟩, fun b hb => upd_ne hb⟩
    generalize hH3 : upd H2 P (.tbl (ps ++ more)) = H3 at I3 w0
    generalize hs4 : ({ s2 with heap := h3, toks := tk } : Shared) = s4 at I3 hn' hs' ⊢
    have hh4 : s4.heap = h3 := by rw [← hs4]
    have st4 : tn 0 s4.heap := T.keep _ _ _ st2 fun b hb o e => by rw [hh4]; exact keep3 b o (nP b hb) e
    have f3 : ∀ b ∈ fp, FpOk X pins H3 b ∧ b < s4.heap.objs.size := fun b hb => by
      refine ⟨⟨?_, (f2 b hb).2⟩, by rw [hh4]; exact Nat.lt_of_lt_of_le (sz2 b hb) hsz⟩
      rw [← hH3, upd_ne (nP b hb)]
      exact (f2 b hb).1
    have hszh : h'.objs.size = s4.heap.objs.size + 1 := by rw [hs'.1, Heap.size_push]
    have keep' : ∀ b o, s4.heap.get? b = some o → h'.get? b = some o := fun b o e => hs'.extBut b o (Nat.ne_of_lt (Heap.lt_size e)) (Heap.get?_push_of_some _ e)
    generalize hoa : ({ cls := .type "generator", data := .fields #[.int s4.gens.size 0, .str "<genexpr>" (s4.toks + 1), .str (X.env.qual ++ "<genexpr>") (s4.toks + 1 + 1)] } : Obj) = oa
    have ga : (h'.push oa).get? h'.objs.size = some oa := Heap.get?_push_size _ (by rw [← hoa]; rfl)
    have isg : (h'.push oa).IsGen h'.objs.size s4.gens.size := by rw [← hoa]; exact ⟨_, _, _, Heap.get?_push_size _ rfl, rfl, rfl, rfl⟩
    generalize hce : genEnv scope (cloFrom X.env.cells scope.names []) s4.heap.objs.size code builtinsNs X.env = cenv
    generalize hA' : X.A.in1.in1.over (.compLoop (.GeneratorExp elt [⟨tg, iter, ifs, 0⟩] scope gpos) 0 (.ref it) .none cenv) [] = A'
    have hfr : A'.frames = some (cenv :: X.stack) := by
      rw [← hA']
      show pushEnvs [cenv] (pushEnvs [] X.A.frames) = _
      rw [I2.ok.frames]
      rfl
    have hdp : A'.depth = X.A.depth + 1 := by rw [← hA']; rfl
    have hun : A'.units = X.A.units + 5 := by rw [← hA']; rfl
    have hhd : A'.handled = none := by rw [← hA']; exact hr.hd
    have hr' : Room k A' := ⟨hhd, by rw [hdp]; have := hr.dp; omega, by rw [hun]; have := hr.un; omega⟩
    have bare5 : AllBare (s4.gens.push (.fresh (.compStart (.GeneratorExp elt [⟨tg, iter, ifs, 0⟩] scope gpos) 0 (.ref it) .none cenv))) := I3.bare.push rfl
    have I5 := gen_start (A' := A') (cenv := cenv) (code := code) (m := fun y => if y = ".0" then some (.ref it) else none) (h5 := h'.push oa) (g' := s4.gens.push (.fresh (.compStart (.GeneratorExp elt [⟨tg, iter, ifs, 0⟩] scope gpos) 0 (.ref it) .none cenv)))
      (t5 := s4.toks + 1 + 1 + 1) (a := h'.objs.size) (oa := oa) I3 ok SC.cell hN f3 hce.symm hfr hhd (hn'.push _) (fun b o e => Heap.get?_push_of_some _ (keep' b o e)) bare5 ga (by omega) (by rw [← hoa]; intro v z; cases z)
    have back : ∀ s' ps' σ' H', Inv (gcx X A' s4 H3 cenv fp) ps' σ' H' s' → Inv X pins σ H' s' := fun s' ps' σ' H' I' =>
      I3.call' (ch := fp) I'.os I'.base I'.hok I'.bare fun b hb => ⟨(f3 b hb).1.2.2.2.1, (f3 b hb).1.2.1, (f3 b hb).1.2.2.2.2.1, (f3 b hb).1.2.2.2.2.2⟩
    have pg : PG (gcx X A' s4 H3 cenv fp) tg g := by rw [← hce]; exact hg A' hr' _ _ _ _ _ _
    have pt : PTs (gcx X A' s4 H3 cenv fp) ifs tt := by rw [← hce]; exact ht A' hr' _ _ _ _ _ _
    have pe : PE (gcx X A' s4 H3 cenv fp) elt te := by rw [← hce]; exact he A' hr' _ _ _ _ _ _
    refine hQ (gcx X A' s4 H3 cenv fp) h'.objs.size oa s4.gens.size (m0 + 1) (wipe σ (own.map (·.2))) _ _ rfl rfl rfl ga isg (Array.getElem?_push_size ..) I5.nolimit bare5 (fun S s'' oS hS e1 e2 e3 e4 e5 e6 => ?_) (fun S hS => Nat.le_trans I5.sz hS) back
    refine ⟨rfl, ?_⟩
    have hS : h'.objs.size + 1 ≤ S := by
      have hS : (h'.push oa).objs.size ≤ S := hS
      rwa [Heap.size_push] at hS
    have fS := I5.fpOk (b := S) (H' := H3) (by show (h'.push oa).objs.size ≤ S; rw [Heap.size_push]; exact hS) (I5.hok.fresh (by show (h'.push oa).objs.size ≤ S; rw [Heap.size_push]; exact hS))
    have I6 : Inv (gcx X A' s4 H3 cenv fp) ([(h'.objs.size, oa)] ++ [(S, oS)]) (wipe σ (own.map (·.2))) H3 s'' := by
      have I6 := Inv.kall I5 e1 e2 e3
      refine I6.pins_of fun p hp => ?_
      rcases List.mem_append.mp hp with hp | hp
      · exact I6.pin p (List.mem_append_right _ hp)
      · have := List.mem_singleton.mp hp
        subst this
        exact ⟨e4, fS.1, fS.2.1, fS.2.2.1, e6⟩
    subst hA'
    refine gen_beginS hc (by rw [← hce]; exact SC.co) T (fun b hb => Nat.ne_of_gt (Nat.lt_trans (f3 b hb).2 (by omega))) (fun b hb => Nat.ne_of_gt (Nat.lt_of_lt_of_le (f3 b hb).2 (by omega))) (Nat.ne_of_lt hS) (by omega) hmono pg pt pe turn m0 γ0 oS _ _ H3 w0 e4 e5 I6 ?_ (fun b hb => (f3 b hb).1.1)
    exact T.keep _ _ _ st4 fun b hb o e => e3 b o (Heap.get?_push_of_some _ (keep' b o e))
  refine ⟨I2.nolimit, ?_⟩
  cases hf : codeAmong gpos ps.toList with
  | none =>
    refine wpAny_genexprCodeX hcode (cd.code hPs hts) (cd.tab hPs) hf fun c' h' tk hx hge hlt hco' _ htab' _ => ?_
    obtain ⟨o1, vs, f1, tf, fl, tg', inF, tx, tt', op, _, _, _, _, _, _, _, _, _, htr, _⟩ := hco'
    exact cont _ h' tk _ hx (Nat.le_trans hge (Nat.le_of_lt hlt)) htab'.2 ⟨_, rfl⟩ htr
  | some cv =>
    refine wpAny_genexprCode_hit hcode (cd.code hPs hts) hf ?_
    exact cont cv s2.heap s2.toks ps (Heap.ExtBut.refl _ _) (Nat.le_refl _) hPs ⟨#[], by simp⟩ hts
end
end GAl

set_option Elab.async false
set_option linter.all false
set_option maxRecDepth 100000
set_option maxHeartbeats 2000000
namespace GAl
open PySem PySem.Spec PyProof.Rows L2 GxR
open Sem (wp)
/-! ### a generator expression that is consumed two codes deeper -/
section
variable {G : Type} {X : Cx} {pins : List (Addr × Obj)} {σ : L2.St} {H : Hp} {s : Shared}
theorem gen_makeS4 {c P : Addr} {elt tg iter : Expr} {ifs : List Expr} {gpos : Pos} {scope : Scope} {own : List (Str × Nat)} {wi : TI} {g : TG} {tt : TT} {te : TE} {k : Nat} {stp : G → V → Hp → (G → Prop) → Prop} {Rep : Obj → G → Prop} {γ0 : G} {Qd : G → Hp → Prop} {Q' : Value → Shared → Prop}
    (hr : Room (k + 1) X.A) (hc : X.calm = true) (hN : X.N.Nodup) (TB : TabB X.base X.mg c P) (hcode : X.env.code = .ref c) (SC : GSc X.N X.env.scope scope own) (hi : PI X tg iter wi)
    (hg : ∀ (A' : Around), Room k A' → ∀ (s : Shared) (H : Hp) (cl : List (Str × Addr)) (C : Addr) (code : Value) (fp : List Addr), PG (gcx X A' s H (genEnv scope cl C code builtinsNs X.env) fp) tg g)
    (ht : ∀ (A' : Around), Room k A' → ∀ (s : Shared) (H : Hp) (cl : List (Str × Addr)) (C : Addr) (code : Value) (fp : List Addr), PTs (gcx X A' s H (genEnv scope cl C code builtinsNs X.env) fp) ifs tt)
    (he : ∀ (A' : Around), Room k A' → ∀ (s : Shared) (H : Hp) (cl : List (Str × Addr)) (C : Addr) (code : Value) (fp : List Addr), PE (gcx X A' s H (genEnv scope cl C code builtinsNs X.env) fp) elt te)
    (hmono : ∀ γ y H (p q : G → Prop), (∀ γ', p γ' → q γ') → stp γ y H p → stp γ y H q)
    (hs : ∀ v, genFold iter X.env v = pure v) (I : Inv X pins σ H s) (h : tGenS P wi g tt te (own.map (·.2)) stp γ0 Qd σ H)
    (hQ : ∀ (XG : Cx) (a : Addr) (oa : Obj) (gn n : Nat) (σw : L2.St) (s5 : Shared) (gs : GenState), XG.prog = X.prog → XG.w = X.w → XG.pn = [] → s5.heap.get? a = some oa → s5.heap.IsGen a gn → s5.gens[gn]? = some gs → s5.heap.NoLimit → AllBare s5.gens →
      (∀ (S : Addr) (s'' : Shared) (oS : Obj), s5.heap.objs.size ≤ S → s''.os = s5.os → AllBare s''.gens → (∀ b o, s5.heap.get? b = some o → s''.heap.get? b = some o) → s''.heap.get? S = some oS → Rep oS γ0 → (∀ v, oS.data ≠ .cell v) →
        gs.Goes (model X.prog X.w) X.A.in1.in1.in1.in1 (fun n s₀ r s₁ => r = .ok .next ∧ REndS XG a oa S Rep σw Qd n s₀ s₁) (YOutS XG a oa S Rep stp) n (.send .none) s'') →
      (∀ S, s5.heap.objs.size ≤ S → XG.s_0.heap.objs.size ≤ S) → (∀ s' ps σ' H', Inv XG ps σ' H' s' → Inv X pins σ H' s') → Q' (.ref a) s5) :
    wpAny (model X.prog X.w) X.A (eval (.GeneratorExp elt [⟨tg, iter, ifs, 0⟩] scope gpos) X.env) Q' X.xe s := by
  have ok := SC.blk
  have hfree : ∀ y ∈ scope.names, y.2 = .free → ∃ c, X.env.cells.lookup y.1 = some c := fun y hy e => by
    rcases ok.free y hy e with k | k
    · exact I.ok.has _ (.inl k)
    · exact I.ok.has _ (.inr k)
  refine wpAny_GeneratorExp_make SC.co (closure_ok hfree) SC.cell SC.dot ok.kind (by have := hr.dp; omega) ?_ hs
  refine thn (hi.run pins s σ H _ I h) fun xv s1 hx => thn hx fun itv s2 h2 => ?_
  obtain ⟨it, fp, tn, J, H2, e, I2, T, st2, f2, ⟨ps, hP, hts⟩, q⟩ := h2
  subst e
  have hPs : s2.heap.get? P = some { cls := .none, data := .fields ps } := I2.hok P _ hP
  have cd : PySem.W.CodeHd s2.heap c P := TB.code.keeps fun b u e => I2.bk b u e
  have nP : ∀ b ∈ fp, b ≠ P := fun b hb z => by
    have := (f2 b hb).1
    rw [z, hP] at this; cases this
  have sz2 : ∀ b ∈ fp, b < s2.heap.objs.size := fun b hb => by
    obtain ⟨o, e, _⟩ := T.obj _ _ st2 b hb
    exact Heap.lt_size e
  have cont : ∀ (code : Value) (h3 : Heap) (tk : Nat) (ps' : Array Value), Heap.ExtBut P s2.heap h3 → s2.heap.objs.size ≤ h3.objs.size → h3.get? P = some { cls := .none, data := .fields ps' } → (∃ more, ps' = ps ++ more) → TriplesOk ps'.toList →
      wpAny (model X.prog X.w) X.A (builtinsFor X.env.globals X.env.builtins) (fun bi s₄ =>
        ∀ h', h'.Ns s₄.heap.objs.size (fun y => if y = ".0" then some (.ref it) else none) → Heap.SameBut s₄.heap.objs.size (s₄.heap.push { cls := .type "frame", data := .dict #[] }) h' →
          Q' (.ref h'.objs.size) { s₄ with
            gens := s₄.gens.push (.fresh (.compStart (.GeneratorExp elt [⟨tg, iter, ifs, 0⟩] scope gpos) 0 (.ref it) .none (genEnv scope (cloFrom X.env.cells scope.names []) s₄.heap.objs.size code bi X.env))),
            toks := s₄.toks + 1 + 1 + 1,
            heap := h'.push { cls := .type "generator", data := .fields #[.int s₄.gens.size 0, .str "<genexpr>" (s₄.toks + 1), .str (X.env.qual ++ "<genexpr>") (s₄.toks + 1 + 1)] } }) X.xe { s2 with heap := h3, toks := tk } := by
    intro code h3 tk ps' hx hsz hP3 hmore ht3
    obtain ⟨bm, ob, e1, e2, e3, e4, e5, e6, e7, e8⟩ := TB.bm
    have keep3 : ∀ b u, b ≠ P → s2.heap.get? b = some u → h3.get? b = some u := fun b u hb e => hx b u hb e
    refine wpAny_builtinsFor (m := X.mg) (by rw [I2.ok.glob]; exact (I2.mod.glob.keeps I2.bk).extBut hx TB.gP) e1 e2 (keep3 _ _ e4 (I2.bk _ _ e5)) e6 e7 e8 ?_
    intro h' hn' hs'
    obtain ⟨more, em⟩ := hmore
    have I3 : Inv X pins σ (upd H2 P (.tbl (ps ++ more))) { s2 with heap := h3, toks := tk } :=
      inv_tab (more := more) (h' := h3) (g' := s2.gens) (d' := s2.drawn) (t' := tk) I2 hP keep3 (by rw [← em]; exact hP3) I2.bare
    obtain ⟨W, ⟨m0, w0⟩, turn⟩ := q (upd H2 P (.tbl (ps ++ more))) ⟨⟨ps ++ more, upd_same, by rw [← em]; exact ht3⟩, fun b hb => upd_ne hb⟩
    generalize hH3 : upd H2 P (.tbl (ps ++ more)) = H3 at I3 w0
    generalize hs4 : ({ s2 with heap := h3, toks := tk } : Shared) = s4 at I3 hn' hs' ⊢
    have hh4 : s4.heap = h3 := by rw [← hs4]
    have st4 : tn 0 s4.heap := T.keep _ _ _ st2 fun b hb o e => by rw [hh4]; exact keep3 b o (nP b hb) e
    have f3 : ∀ b ∈ fp, FpOk X pins H3 b ∧ b < s4.heap.objs.size := fun b hb => by
      refine ⟨⟨?_, (f2 b hb).2⟩, by rw [hh4]; exact Nat.lt_of_lt_of_le (sz2 b hb) hsz⟩
      rw [← hH3, upd_ne (nP b hb)]
      exact (f2 b hb).1
    have hszh : h'.objs.size = s4.heap.objs.size + 1 := by rw [hs'.1, Heap.size_push]
    have keep' : ∀ b o, s4.heap.get? b = some o → h'.get? b = some o := fun b o e => hs'.extBut b o (Nat.ne_of_lt (Heap.lt_size e)) (Heap.get?_push_of_some _ e)
    generalize hoa : ({ cls := .type "generator", data := .fields #[.int s4.gens.size 0, .str "<genexpr>" (s4.toks + 1), .str (X.env.qual ++ "<genexpr>") (s4.toks + 1 + 1)] } : Obj) = oa
    have ga : (h'.push oa).get? h'.objs.size = some oa := Heap.get?_push_size _ (by rw [← hoa]; rfl)
    have isg : (h'.push oa).IsGen h'.objs.size s4.gens.size := by rw [← hoa]; exact ⟨_, _, _, Heap.get?_push_size _ rfl, rfl, rfl, rfl⟩
    generalize hce : genEnv scope (cloFrom X.env.cells scope.names []) s4.heap.objs.size code builtinsNs X.env = cenv
    generalize hA' : X.A.in1.in1.in1.in1.over (.compLoop (.GeneratorExp elt [⟨tg, iter, ifs, 0⟩] scope gpos) 0 (.ref it) .none cenv) [] = A'
    have hfr : A'.frames = some (cenv :: X.stack) := by
      rw [← hA']
      show pushEnvs [cenv] (pushEnvs [] X.A.frames) = _
      rw [I2.ok.frames]
      rfl
    have hdp : A'.depth = X.A.depth + 1 := by rw [← hA']; rfl
    have hun : A'.units = X.A.units + 7 := by rw [← hA']; rfl
    have hhd : A'.handled = none := by rw [← hA']; exact hr.hd
    have hr' : Room k A' := ⟨hhd, by rw [hdp]; have := hr.dp; omega, by rw [hun]; have := hr.un; omega⟩
    have bare5 : AllBare (s4.gens.push (.fresh (.compStart (.GeneratorExp elt [⟨tg, iter, ifs, 0⟩] scope gpos) 0 (.ref it) .none cenv))) := I3.bare.push rfl
    have I5 := gen_start (A' := A') (cenv := cenv) (code := code) (m := fun y => if y = ".0" then some (.ref it) else none) (h5 := h'.push oa) (g' := s4.gens.push (.fresh (.compStart (.GeneratorExp elt [⟨tg, iter, ifs, 0⟩] scope gpos) 0 (.ref it) .none cenv)))
      (t5 := s4.toks + 1 + 1 + 1) (a := h'.objs.size) (oa := oa) I3 ok SC.cell hN f3 hce.symm hfr hhd (hn'.push _) (fun b o e => Heap.get?_push_of_some _ (keep' b o e)) bare5 ga (by omega) (by rw [← hoa]; intro v z; cases z)
    have back : ∀ s' ps' σ' H', Inv (gcx X A' s4 H3 cenv fp) ps' σ' H' s' → Inv X pins σ H' s' := fun s' ps' σ' H' I' =>
      I3.call' (ch := fp) I'.os I'.base I'.hok I'.bare fun b hb => ⟨(f3 b hb).1.2.2.2.1, (f3 b hb).1.2.1, (f3 b hb).1.2.2.2.2.1, (f3 b hb).1.2.2.2.2.2⟩
    have pg : PG (gcx X A' s4 H3 cenv fp) tg g := by rw [← hce]; exact hg A' hr' _ _ _ _ _ _
    have pt : PTs (gcx X A' s4 H3 cenv fp) ifs tt := by rw [← hce]; exact ht A' hr' _ _ _ _ _ _
    have pe : PE (gcx X A' s4 H3 cenv fp) elt te := by rw [← hce]; exact he A' hr' _ _ _ _ _ _
    refine hQ (gcx X A' s4 H3 cenv fp) h'.objs.size oa s4.gens.size (m0 + 1) (wipe σ (own.map (·.2))) _ _ rfl rfl rfl ga isg (Array.getElem?_push_size ..) I5.nolimit bare5 (fun S s'' oS hS e1 e2 e3 e4 e5 e6 => ?_) (fun S hS => Nat.le_trans I5.sz hS) back
    refine ⟨rfl, ?_⟩
    have hS : h'.objs.size + 1 ≤ S := by
      have hS : (h'.push oa).objs.size ≤ S := hS
      rwa [Heap.size_push] at hS
    have fS := I5.fpOk (b := S) (H' := H3) (by show (h'.push oa).objs.size ≤ S; rw [Heap.size_push]; exact hS) (I5.hok.fresh (by show (h'.push oa).objs.size ≤ S; rw [Heap.size_push]; exact hS))
    have I6 : Inv (gcx X A' s4 H3 cenv fp) ([(h'.objs.size, oa)] ++ [(S, oS)]) (wipe σ (own.map (·.2))) H3 s'' := by
      have I6 := Inv.kall I5 e1 e2 e3
      refine I6.pins_of fun p hp => ?_
      rcases List.mem_append.mp hp with hp | hp
      · exact I6.pin p (List.mem_append_right _ hp)
      · have := List.mem_singleton.mp hp
        subst this
        exact ⟨e4, fS.1, fS.2.1, fS.2.2.1, e6⟩
    subst hA'
    refine gen_beginS hc (by rw [← hce]; exact SC.co) T (fun b hb => Nat.ne_of_gt (Nat.lt_trans (f3 b hb).2 (by omega))) (fun b hb => Nat.ne_of_gt (Nat.lt_of_lt_of_le (f3 b hb).2 (by omega))) (Nat.ne_of_lt hS) (by omega) hmono pg pt pe turn m0 γ0 oS _ _ H3 w0 e4 e5 I6 ?_ (fun b hb => (f3 b hb).1.1)
    exact T.keep _ _ _ st4 fun b hb o e => e3 b o (Heap.get?_push_of_some _ (keep' b o e))
  refine ⟨I2.nolimit, ?_⟩
  cases hf : codeAmong gpos ps.toList with
  | none =>
    refine wpAny_genexprCodeX hcode (cd.code hPs hts) (cd.tab hPs) hf fun c' h' tk hx hge hlt hco' _ htab' _ => ?_
    obtain ⟨o1, vs, f1, tf, fl, tg', inF, tx, tt', op, _, _, _, _, _, _, _, _, _, htr, _⟩ := hco'
    exact cont _ h' tk _ hx (Nat.le_trans hge (Nat.le_of_lt hlt)) htab'.2 ⟨_, rfl⟩ htr
  | some cv =>
    refine wpAny_genexprCode_hit hcode (cd.code hPs hts) hf ?_
    exact cont cv s2.heap s2.toks ps (Heap.ExtBut.refl _ _) (Nat.le_refl _) hPs ⟨#[], by simp⟩ hts
end
end GAl

set_option Elab.async false
set_option linter.all false
set_option maxRecDepth 100000
set_option maxHeartbeats 2000000
namespace GAl
open PySem PySem.Spec PyProof.Rows L2 GxR
open Sem (wp)
/-! ### tuple of a generator expression -/
abbrev lstObj (acc : Array Value) (c : Nat) : Obj := { cls := .type "list", dict := none, data := .seq acc c, slots := #[] }
def RepT : Obj → List V → Prop := fun o γ => ∃ acc c, o = lstObj acc c ∧ Vals γ acc.toList
def stpT : List V → V → Hp → (List V → Prop) → Prop := fun γ y _ N => γ.length ≤ 1000 ∧ N (γ ++ [y])
theorem stpT_mono : ∀ γ y H (p q : List V → Prop), (∀ γ', p γ' → q γ') → stpT γ y H p → stpT γ y H q := fun _ _ _ _ _ h ⟨k, n⟩ => ⟨k, h _ n⟩
theorem vals_snoc {γ : List V} {us : List Value} {y : V} {v : Value} (h : Vals γ us) (r : RelV y v) : Vals (γ ++ [y]) (us ++ [v]) := by
  induction h with
  | nil => exact .cons r .nil
  | cons a _ ih => exact .cons a ih
section
variable {X XG : Cx} {A : Around} {a S : Addr} {oa : Obj} {g : Nat} {σw : L2.St} {Qd : List V → Hp → Prop} {R : Result → Shared → Prop}
theorem tup_loop (hh : A.handled = none) (hroom : A.depth < recursionLimit) (hpn : XG.pn = []) (hSy : S ∈ XG.ex ∨ XG.s_0.heap.objs.size ≤ S) (res : Value)
    (hfin : ∀ s' ps σ' H' γ acc c, Inv XG ps σ' H' s' → s'.heap.get? S = some (lstObj acc c) → Vals γ acc.toList → Qd γ H' → R (.ok (.ret res)) s') :
    ∀ (n : Nat) (s : Shared) (acc : Array Value) (c : Nat), s.heap.get? a = some oa → s.heap.get? S = some (lstObj acc c) → a ≠ S →
      GSt (model X.prog X.w) A.in1.in1 (REndS XG a oa S RepT σw Qd) (YOutS XG a oa S RepT stpT) a g n s → codeAny (model X.prog X.w) A (.builtin "list.extend.loop" ⟨[.ref S, .ref a, res], []⟩) R s := by
  intro n
  induction n with
  | zero =>
    intro s acc c hoa hS haS ⟨hg, hl, gs, hgs, hgo⟩
    refine codeAny_builtin F.entry_extend_loop ?_
    rw [Around.under_plainId F.plain_extend_loop _]
    show wpAny _ A.in1 (pyNext (.ref a) >>= _) _ _ s
    refine wpAny_bind (next_sz (A := A.in1) hh hl hroom hg hgs hgo (fun v s₁ gs' hsz hb hv => ?_) (fun s₁ hsz hp h' hk => ?_))
    · obtain ⟨γ, oS', y, H4, σ4, e1, e2, I4, r, k, nn⟩ := hv
      have e1 : s.heap.get? S = some oS' := e1
      rw [hS] at e1; cases e1
      obtain ⟨acc', c', e3, hV⟩ := e2
      cases e3
      have hS' : s₁.heap.get? S = some (lstObj acc c) := (I4.pin (S, lstObj acc c) (by rw [hpn]; simp)).1
      have hln : γ.length = acc.size := by rw [hV.length]; simp
      show wpAny _ A.in1 (updateSeq S (·.push v) >>= _) _ _ _
      refine wpAny_bind (wpAny_updateSeq hS' rfl (wpAny_pure ⟨plainId_quiet F.plain_extend_loop _, ?_⟩) (by rw [sizeLine_eq]; omega) (by show (acc.push v).size ≤ sizeLine + 1; rw [Array.size_push, sizeLine_eq]; omega))
      exact False.elim (nn (Shared.setGen { s₁ with heap := s₁.heap.update S (Obj.mapSeq (·.push v)) } g gs') _ rfl (bare_set I4.bare hb) (fun b o hb' e => (Heap.get?_update_other _ _ (Ne.symm hb')).trans e) (Heap.get?_update_self _ hS' rfl) ⟨_, _, rfl, by
        rw [Array.toList_push]
        exact vals_snoc hV r⟩ (fun v z => by cases z))
    · obtain ⟨γ, oS', H4, e1, e2, I4, q⟩ := hp
      have e1 : s.heap.get? S = some oS' := e1
      rw [hS] at e1; cases e1
      obtain ⟨acc', c', e3, hV⟩ := e2
      cases e3
      have hS1 : s₁.heap.get? S = some (lstObj acc c) := (I4.pin (S, lstObj acc c) (by rw [hpn]; simp)).1
      exact wpAny_pure (hfin _ _ σw H4 _ _ _ (Inv.kall I4 rfl (bare_set I4.bare rfl) hk) (hk _ _ hS1) hV q)
  | succ n ih =>
    intro s acc c hoa hS haS ⟨hg, hl, gs, hgs, hgo⟩
    refine codeAny_builtin F.entry_extend_loop ?_
    rw [Around.under_plainId F.plain_extend_loop _]
    show wpAny _ A.in1 (pyNext (.ref a) >>= _) _ _ s
    refine wpAny_bind (next_sz (A := A.in1) hh hl hroom hg hgs hgo (fun v s₁ gs' hsz hb hv => ?_) (fun s₁ hsz hp h' hk => ?_))
    · obtain ⟨γ, oS', y, H4, σ4, e1, e2, I4, r, k, nn⟩ := hv
      have e1 : s.heap.get? S = some oS' := e1
      rw [hS] at e1; cases e1
      obtain ⟨acc', c', e3, hV⟩ := e2
      cases e3
      have hS' : s₁.heap.get? S = some (lstObj acc c) := (I4.pin (S, lstObj acc c) (by rw [hpn]; simp)).1
      have ha : s₁.heap.get? a = some oa := (I4.pin (a, oa) (by rw [hpn]; simp)).1
      obtain ⟨x, hx⟩ := gens_some hgs hsz rfl
      have hln : γ.length = acc.size := by rw [hV.length]; simp
      show wpAny _ A.in1 (updateSeq S (·.push v) >>= _) _ _ _
      refine wpAny_bind (wpAny_updateSeq hS' rfl (wpAny_pure ⟨plainId_quiet F.plain_extend_loop _, ?_⟩) (by rw [sizeLine_eq]; omega) (by show (acc.push v).size ≤ sizeLine + 1; rw [Array.size_push, sizeLine_eq]; omega))
      have oth : ∀ b o, b ≠ S → s₁.heap.get? b = some o → (s₁.heap.update S (Obj.mapSeq (·.push v))).get? b = some o := fun b o hb' e => (Heap.get?_update_other _ _ (Ne.symm hb')).trans e
      have hS3 := Heap.get?_update_self (Obj.mapSeq (·.push v)) hS' rfl
      have hV' : Vals (γ ++ [y]) (acc.push v).toList := by
        rw [Array.toList_push]
        exact vals_snoc hV r
      refine ih _ (acc.push v) _ (oth a oa haS ha) hS3 haS ⟨isgen_of hg hoa (oth a oa haS ha), ?_, gs', setGen_self hx, ?_⟩
      · exact (Inv.kallS (ps := [(a, oa)]) (s'' := { s₁.setGen g gs' with heap := s₁.heap.update S (Obj.mapSeq (·.push v)) }) I4 hSy (by rw [hpn]; intro p hp; have := List.mem_singleton.mp hp; subst this; exact haS) rfl (bare_set I4.bare hb) oth hS3 (fun v z => by cases z)).nolimit
      · exact nn (Shared.setGen { s₁.setGen g gs' with heap := s₁.heap.update S (Obj.mapSeq (·.push v)) } g .running) _ rfl (bare_set (bare_set I4.bare hb) rfl) oth hS3 ⟨_, _, rfl, hV'⟩ (fun v z => by cases z)
    · obtain ⟨γ, oS', H4, e1, e2, I4, q⟩ := hp
      have e1 : s.heap.get? S = some oS' := e1
      rw [hS] at e1; cases e1
      obtain ⟨acc', c', e3, hV⟩ := e2
      cases e3
      have hS1 : s₁.heap.get? S = some (lstObj acc c) := (I4.pin (S, lstObj acc c) (by rw [hpn]; simp)).1
      exact wpAny_pure (hfin _ _ σw H4 _ _ _ (Inv.kall I4 rfl (bare_set I4.bare rfl) hk) (hk _ _ hS1) hV q)
end
section
variable {prog : Program} {w : World} {A : Around} {E : Value → Shared → Prop} {s : Shared} {a : Addr} {g : Nat}
theorem keeps_push {h : Heap} {o : Obj} : ∀ b u, h.get? b = some u → (h.push o).get? b = some u := fun b u e => Heap.get?_push_of_some _ e
/-- a generator is collected by the loop that extends a new list -/
theorem collect_by {Q : List Value → Shared → Prop} (hG : s.heap.IsGen a g)
    (hQ : ∀ (h' : Heap) (S : Addr) (c tk : Nat), s.heap.objs.size ≤ S → (∀ b o, s.heap.get? b = some o → h'.get? b = some o) → h'.get? S = some (lstObj #[] c) →
      codeAny (model prog w) A (.builtin "list.extend.loop" ⟨[.ref S, .ref a, .ref S], []⟩) (fun r s' => ∃ acc c', r = .ok (.ret (.ref S)) ∧ s'.heap.get? S = some (lstObj acc c') ∧ Q acc.toList s') { s with heap := h', toks := tk }) :
    wpAny (model prog w) A (collect (.ref a)) Q E s := by
  obtain ⟨oa, hoa⟩ : ∃ oa, s.heap.get? a = some oa := by
    obtain ⟨_, _, _, o, _⟩ := hG
    exact ⟨_, o⟩
  have hlt := Heap.lt_size hoa
  have hSa : s.heap.objs.size ≠ a := fun e => Nat.lt_irrefl _ (e ▸ hlt)
  unfold collect
  refine wpAny_bind (wpAny_runValue (codeAny_builtin F.entry_proto_collect ?_))
  rw [Around.under_plainId F.plain_proto_collect _]
  show wpAny _ A.in1 (newList [] >>= fun l => again (.builtin "list.__iadd__" ⟨[l, .ref a], []⟩)) _ _ s
  refine wpAny_bind (wpAny_newObj_type ?_)
  refine wpAny_pure ⟨plainId_quiet F.plain_list_iadd _, codeAny_builtin F.entry_list_iadd ?_⟩
  rw [Around.under_plainId F.plain_list_iadd _]
  have hG1 : (s.heap.push (lstObj #[] 0)).IsGen a g := hG.push _
  have ty : (⟨s.heap.push (lstObj #[] 0), s.gens, s.drawn, s.toks, s.os⟩ : Shared).TypeIs (.ref a) "generator" := Heap.IsGen.typeIs (s := ⟨s.heap.push (lstObj #[] 0), s.gens, s.drawn, s.toks, s.os⟩) hG1
  show wpAny _ A.in1 (Builtin.List.listExtendWith (.ref s.heap.objs.size) (.ref a) (.ref s.heap.objs.size)) _ _ _
  unfold Builtin.List.listExtendWith
  refine wpAny_bind (wpAny_typeOf ty ?_)
  simp only [show Builtin.List.listSameRef (.ref s.heap.objs.size) (.ref a) = false by simp [Builtin.List.listSameRef, hSa], show (Value.type "generator" == Value.type "list") = false by decide, show (Value.type "generator" == Value.type "tuple") = false by decide, Bool.or_false, Bool.false_eq_true, if_false]
  refine wpAny_bind (wpAny_pyIter_gen hG1 ?_)
  refine wpAny_bind (wpAny_holding ?_)
  unfold Builtin.List.listLengthHint
  refine wpAny_bind (wpAny_specialOf ty F.gen_no_len ?_)
  show wpAny _ A.in1 (specialOf (Value.ref a) (Str.ofString "__length_hint__") >>= _) _ _ _
  refine wpAny_bind (wpAny_specialOf ty F.gen_no_hint ?_)
  apply wpAny_pure
  show wpAny _ A.in1 (rule "list.extend.makes-room" >>= fun _ => Builtin.List.listTouch (.ref s.heap.objs.size) >>= fun _ => again (.builtin "list.extend.loop" ⟨[.ref s.heap.objs.size, .ref a, .ref s.heap.objs.size], []⟩)) _ _ _
  refine wpAny_bind (wpAny_rule (wpAny_bind ?_))
  have g1 : (s.heap.push (lstObj #[] 0)).get? s.heap.objs.size = some (lstObj #[] 0) := Heap.get?_push_size _ rfl
  show wpAny _ A.in1 (updateSeq s.heap.objs.size (·.push .none) >>= fun _ => updateSeq s.heap.objs.size (·.pop)) _ _ _
  refine wpAny_bind (wpAny_updateSeq g1 rfl ?_)
  have g2 := Heap.get?_update_self (Obj.mapSeq (·.push Value.none)) g1 rfl
  refine wpAny_updateSeq g2 rfl ?_
  have g3 := Heap.get?_update_self (Obj.mapSeq (·.pop)) g2 rfl
  refine wpAny_pure ⟨plainId_quiet F.plain_extend_loop _, codeAny_mono (hQ _ _ _ _ (Nat.le_refl _) (fun b o e => ?_) g3) fun r s' hr => ?_⟩
  · have hb : b ≠ s.heap.objs.size := Nat.ne_of_lt (Heap.lt_size e)
    exact (Heap.get?_update_other _ _ (Ne.symm hb)).trans ((Heap.get?_update_other _ _ (Ne.symm hb)).trans (keeps_push b o e))
  · obtain ⟨acc, c', rfl, h1, h2⟩ := hr
    show wpAny _ A (load s.heap.objs.size >>= _) _ _ s'
    exact wpAny_bind (wpAny_load h1 (wpAny_pure h2))
/-- tuple(g) -/
theorem call_tup_by {Q : Value → Shared → Prop} (hG : s.heap.IsGen a g)
    (hQ : ∀ (h' : Heap) (S : Addr) (c tk : Nat), s.heap.objs.size ≤ S → (∀ b o, s.heap.get? b = some o → h'.get? b = some o) → h'.get? S = some (lstObj #[] c) →
      codeAny (model prog w) A.in1.in1 (.builtin "list.extend.loop" ⟨[.ref S, .ref a, .ref S], []⟩) (fun r s' => ∃ acc c', r = .ok (.ret (.ref S)) ∧ s'.heap.get? S = some (lstObj acc c') ∧ acc.size ≤ sizeLine ∧ Q (.ref s'.heap.objs.size) { s' with heap := s'.heap.push { cls := .type "tuple", data := .seq acc } }) { s with heap := h', toks := tk }) :
    wpAny (model prog w) A (call (.type "tuple") [.ref a]) Q E s := by
  refine callType_codes (Q₁ := fun obj s₁ => s₁.TypeIs obj "tuple" ∧ Q obj s₁) F.called_tuple (F.typeCall_tuple_1 _) F.entry_object_init ?_ fun obj s₁ h₁ => ⟨h₁.1, F.args_object_init_2 obj _, object_init_meets F.called_tuple.init.lookup F.called_tuple.made (by decide) prog w A.in1 _ s₁ ⟨h₁.1, rfl, h₁.2⟩⟩
  refine codeAny_of_tree ?_
  show wpAny _ A.in1.in1 (do checkBuiltinCall "tuple.__new__" ⟨[.type "tuple", .ref a], []⟩; again (.builtin "tuple.__new__" ⟨[.type "tuple", .ref a], []⟩)) _ _ s
  refine wpAny_bind (wpAny_of_eq (F.newCall_tuple_1 _) (wpAny_pure ⟨plainId_quiet F.plain_tuple_new _, codeAny_builtin F.entry_tuple_new ?_⟩))
  rw [Around.under_plainId F.plain_tuple_new _]
  have e1 := sub_tuple_self
  have e2 := init_tuple_lookup
  have e3 := madeHere_tuple
  have e4 := hG.typeIs
  wp_walk using wpAny_typeOf e4, collect_by hG
  intro h' S c tk hS hk h1
  refine codeAny_mono (hQ h' S c tk hS hk h1) fun r s' hr => ?_
  obtain ⟨acc, c', rfl, h2, h3, h4⟩ := hr
  refine ⟨acc, c', rfl, h2, ?_⟩
  show wpAny _ _ (Builtin.Tuple.tupleExact acc.toList.toArray >>= fun v => ret v) _ _ _
  unfold Builtin.Tuple.tupleExact
  refine wpAny_bind (wpAny_newObj_type ?_ (by rw [Array.toArray_toList]; exact h3))
  refine wpAny_pure ?_
  rw [Array.toArray_toList]
  exact ⟨⟨_, Heap.get?_push_size _ rfl, rfl⟩, h4⟩
end
section
variable {X : Cx}
def tTupG (P : Addr) (wi : TI) (g : TG) (tt : TT) (te : TE) (vs : List Nat) : TE := fun σ H Q => tGenS P wi g tt te vs stpT ([] : List V) (fun γ H' => γ.length ≤ 1001 ∧ ∀ p, H' p = none → Q (.ref p) (upd H' p (.tup γ))) σ H
theorem pe_tupG {c P : Addr} {elt tg iter : Expr} {ifs : List Expr} {p pos gpos : Pos} {scope : Scope} {own : List (Str × Nat)} {wi : TI} {g : TG} {tt : TT} {te : TE} {k : Nat}
    (hr : Room (k + 1) X.A) (hgl : Gl X "tuple") (hm : X.mg "tuple" = none) (hc : X.calm = true) (hN : X.N.Nodup) (TB : TabB X.base X.mg c P) (hcode : X.env.code = .ref c) (S : GSc X.N X.env.scope scope own) (hi : PI X tg iter wi)
    (hg : ∀ (A' : Around), Room k A' → ∀ (s : Shared) (H : Hp) (cl : List (Str × Addr)) (C : Addr) (code : Value) (fp : List Addr), PG (gcx X A' s H (genEnv scope cl C code builtinsNs X.env) fp) tg g)
    (ht : ∀ (A' : Around), Room k A' → ∀ (s : Shared) (H : Hp) (cl : List (Str × Addr)) (C : Addr) (code : Value) (fp : List Addr), PTs (gcx X A' s H (genEnv scope cl C code builtinsNs X.env) fp) ifs tt)
    (he : ∀ (A' : Around), Room k A' → ∀ (s : Shared) (H : Hp) (cl : List (Str × Addr)) (C : Addr) (code : Value) (fp : List Addr), PE (gcx X A' s H (genEnv scope cl C code builtinsNs X.env) fp) elt te)
    (hs : ∀ v, genFold iter X.env v = pure v := by intro _; rfl)
    (hst : starEach [.GeneratorExp elt [⟨tg, iter, ifs, 0⟩] scope gpos] X.env = (false, eval (.GeneratorExp elt [⟨tg, iter, ifs, 0⟩] scope gpos) X.env) :: starEach [] X.env := by rfl)
    (hb : bootBuiltins "tuple" = some (.type "tuple") := by decide +kernel) :
    PE X (.Call (.Name "tuple" p) [.GeneratorExp elt [⟨tg, iter, ifs, 0⟩] scope gpos] [] pos) (tTupG P wi g tt te (own.map (·.2))) := by
  refine ⟨fun pins s σ H Q I h => ?_⟩
  refine wpAny_Call_Name_kw (ld_blt I hgl hm hb ?_ (by decide) (by decide))
  refine PyProof.Rows.callWith_type1 ?_ hst (by rfl)
  rw [hst]
  show wpAny _ _ (spliced ((false, eval (.GeneratorExp elt [⟨tg, iter, ifs, 0⟩] scope gpos) X.env) :: backTo pos (starEach [] X.env))) _ _ s
  refine Calls.spliced_cons (gen_makeS4 (Rep := RepT) hr hc hN TB hcode S hi hg ht he stpT_mono hs I h fun XG a oa gn n σw s5 gs eP eW epn ha hG hgs hnl hb5 go hy back => ?_)
  refine Calls.spliced_nil ?_
  show wpAny _ _ (call (.type "tuple") [.ref a]) _ _ _
  refine call_tup_by hG fun h' L c tk hL hk h1 => ?_
  have haL : a ≠ L := Nat.ne_of_lt (Nat.lt_of_lt_of_le (Heap.lt_size ha) hL)
  refine tup_loop (A := X.A.in1.in1) (X := X) (XG := XG) (oa := oa) (g := gn) (σw := σw) (Qd := fun γ H' => γ.length ≤ 1001 ∧ ∀ p, H' p = none → Q (.ref p) (upd H' p (.tup γ))) hr.hd (by have := hr.dp; show X.A.depth < _; omega) epn (.inr (hy _ hL)) _ (fun s' ps σ' H' γ acc c' I' hS' hV q => ?_) n ({ s5 with heap := h', toks := tk } : Shared) #[] c (hk _ _ ha) h1 haL ⟨isgen_of hG ha (hk _ _ ha), (Heap.NoLimit.keeps hnl hk : h'.NoLimit), gs, hgs, ?_⟩
  · obtain ⟨ql, q⟩ := q
    have hln : γ.length = acc.size := by rw [hV.length]; simp
    have hsz : acc.size ≤ sizeLine := by rw [sizeLine_eq]; omega
    refine ⟨acc, c', rfl, hS', hsz, ?_⟩
    have I2 := back s' _ σ' H' I'
    have new : H' s'.heap.objs.size = none := I2.hok.fresh (Nat.le_refl _)
    refine ⟨.ref s'.heap.objs.size, upd H' s'.heap.objs.size (.tup γ), I2.laid (a := s'.heap.objs.size) (o := .tup γ) (h' := s'.heap.push { cls := .type "tuple", data := .seq acc }) (t' := s'.toks) (fun _ _ e => Heap.get?_push_of_some _ e) (Nat.le_refl _) ?_, rfl, q _ new⟩
    refine ⟨by rw [sizeLine_eq]; omega, acc.toList, hV, ?_⟩
    rw [Array.toArray_toList]
    exact ⟨_, Heap.get?_push_size _ rfl, rfl, 0, rfl⟩
  · exact go L (Shared.setGen _ gn .running) _ hL rfl (bare_set hb5 rfl) hk h1 ⟨_, _, rfl, .nil⟩ (fun v z => by cases z)
end
end GAl

set_option Elab.async false
set_option linter.all false
set_option maxRecDepth 100000
set_option maxHeartbeats 4000000
namespace HK
open PySem PySem.Spec PyProof.Rows L2 GAl GxR
open Evl (pss_cut)
abbrev sKeepers : Stmt := topS 25
abbrev N_scKeepers : List Str := ["kept", "number", "place"]
theorem scKeepers : FnScope N_scKeepers ["kept", "number"] (defScope sKeepers) := ⟨rfl, rfl, rfl, by decide +kernel, rfl, by decide +kernel, by decide +kernel⟩
abbrev sNeedS : Stmt := topS 21
abbrev N_scNeedS : List Str := ["net", "kept", "place"]
theorem scNeedS : FnScope N_scNeedS ["net", "kept"] (defScope sNeedS) := ⟨rfl, rfl, rfl, by decide +kernel, rfl, by decide +kernel, by decide +kernel⟩
abbrev sNeedRoom : Stmt := topS 22
abbrev N_scNeedRoom : List Str := ["net"]
theorem scNeedRoom : FnScope N_scNeedRoom ["net"] (defScope sNeedRoom) := ⟨rfl, rfl, rfl, by decide +kernel, rfl, by decide +kernel, by decide +kernel⟩
/-- the places that keep a number -/
def keepK (kps : KpL) (m : Int) : List Int := (kps.filter fun p => decide (m ∈ p.2)).map (·.1)
theorem asc_eq : ∀ {xs ys : List Int}, xs.Pairwise (· < ·) → ys.Pairwise (· < ·) → (∀ v, v ∈ xs ↔ v ∈ ys) → xs = ys
  | [], [], _, _, _ => rfl
  | [], y :: ys, _, _, h => absurd ((h y).mpr (List.mem_cons_self ..)) List.not_mem_nil
  | x :: xs, [], _, _, h => absurd ((h x).mp (List.mem_cons_self ..)) List.not_mem_nil
  | x :: xs, y :: ys, hx, hy, h => by
    have px := List.pairwise_cons.mp hx
    have py := List.pairwise_cons.mp hy
    have e : x = y := by
      rcases List.mem_cons.mp ((h x).mp (List.mem_cons_self ..)) with e | hm
      · exact e
      · rcases List.mem_cons.mp ((h y).mpr (List.mem_cons_self ..)) with e | hm2
        · exact e.symm
        · have a := py.1 x hm
          have b := px.1 y hm2
          omega
    subst e
    rw [asc_eq px.2 py.2 fun v => ⟨fun hv => ?_, fun hv => ?_⟩]
    · rcases List.mem_cons.mp ((h v).mp (List.mem_cons_of_mem _ hv)) with e | hm
      · have := px.1 v hv; omega
      · exact hm
    · rcases List.mem_cons.mp ((h v).mpr (List.mem_cons_of_mem _ hv)) with e | hm
      · have := py.1 v hv; omega
      · exact hm
theorem sorted_keys {n : Int} {kps : KpL} (h : KpOk n kps) {ys : List Int} (hp : ys.Perm (kps.map (·.1))) (hs : ys.Pairwise (· ≤ ·)) : ys = kps.map (·.1) := by
  have nd : ys.Nodup := hp.nodup_iff.mpr h.nodup
  have st : ys.Pairwise (· < ·) := (hs.and nd).imp fun a => by omega
  exact asc_eq st h.up fun v => hp.mem_iff
theorem KVs.keysI {K : PySem.W.Frag} {H : Hp} {kvs : List (Key × V)} {kps : KpL} (h : KVs K H kvs kps) : kvs.map (·.1) = (kps.map (·.1)).map Sum.inl := by
  rw [h.keys, List.map_map]
  rfl
theorem keep_succ {kps : KpL} {m : Int} {i : Nat} {p : Int} {ms : List Int} (e : kps[i]? = some (p, ms)) : keepK (kps.take (i + 1)) m = keepK (kps.take i) m ++ (if m ∈ ms then [p] else []) := by
  unfold keepK
  rw [List.take_add_one, e, List.filter_append, List.map_append]
  congr 1
  by_cases h : m ∈ ms
  · rw [if_pos h]
    show (List.filter _ [(p, ms)]).map _ = _
    rw [List.filter_cons_of_pos (by exact decide_eq_true h)]
    rfl
  · rw [if_neg h]
    show (List.filter _ [(p, ms)]).map _ = _
    rw [List.filter_cons_of_neg (by simpa using h)]
    rfl
theorem keep_len (kps : KpL) (m : Int) : (keepK kps m).length ≤ kps.length := by
  unfold keepK
  rw [List.length_map]
  exact List.length_filter_le ..
section
variable {P : Program} {w : World} {K : PySem.W.Frag} {mg : Str → Option Value} {base : Heap}
def spKeepers (K : PySem.W.Frag) (Pk : Addr) : Sp := fun vs H Q _ => ∃ (d : Addr) (kvs : List (Key × V)) (kps : KpL) (n m : Int), vs = [.ref d, .int m] ∧ H d = some (.dK kvs) ∧ KVs K H kvs kps ∧ KpOk n kps ∧ n ≤ 12 ∧ TabG H Pk ∧ ∀ (q : Addr) (H' : Hp), K0 H H' → SqT K H' q ((keepK kps m).map V.int) → Q (.ref q) H'
theorem ok_keepers {f c Pk : Addr} {fd : FuncData} (F : FunC K "keepers_of" "keepers_of" sKeepers f fd c) (TB : TabB base mg c Pk)
    (m_tuple : mg "tuple" = none) (m_sorted : mg "sorted" = none) : FnOk P w K mg base CX0 2 f fd ["kept", "number"] (spKeepers K Pk) := by
  refine F.ok scKeepers (fun vs H Q E h => ?_) (fun A outer s H vs Q E hr h => ?_)
  · obtain ⟨d, kvs, kps, n, m, rfl, _⟩ := h
    rfl
  · obtain ⟨d, kvs, kps, n, m, rfl, hd, hK, hO, hn, tk, q⟩ := h
    have hu := hu_of hr
    refine ⟨_, (pss_one (ps_ret (pe_tupG (own := [("place", 2)]) (k := 0) (g := (gName 2)) (tt := (tTest (tOp (rIn K false) (tVar 1) (tDGet (tVar 0) (tVar 2))))) (te := (tVar 2)) (hr.mono (by decide)) (by rfl) m_tuple rfl scKeepers.nd TB rfl (gsc_by (N := N_scKeepers) (sc := defScope sKeepers) (by decide +kernel)) (pi_list (pe_callB (call_sortedDI rfl) (by rfl) m_sorted boot_sorted (pa_cons (pv 0) pa_nil))) (fun A' hr' _ _ _ _ _ _ => (pg_name (i := 2) scKeepers.nd rfl (.inl rfl))) (fun A' hr' _ _ _ _ _ _ => (pts_one (pt_cmpR op_in_seq (pv 1) (pe_dget (hu_of hr') (pv 0) (pv 2) (fun _ _ => rfl)) rfl))) (fun A' hr' _ _ _ _ _ _ => (pv 2))))), ?_⟩
    have hkl := hO.len hn
    refine ⟨_, rfl, d, kvs, kps.map (·.1), rfl, .inl hd, hK.keysI, by rw [List.length_map]; omega, fun ys sp perm up nsp => ?_⟩
    obtain rfl := sorted_keys hO perm up
    have ks := K0.new nsp (o := .lst ((kps.map (·.1)).map V.int))
    have hS : upd H sp (.lst ((kps.map (·.1)).map V.int)) sp = some (.lst ((kps.map (·.1)).map V.int)) := upd_same
    generalize upd H sp (.lst ((kps.map (·.1)).map V.int)) = H1 at ks hS ⊢
    refine ⟨sp, rfl, ⟨_, .inl (.inl hS)⟩, ks.tab _ tk, fun H2 hT2 => ?_⟩
    have k2 : K0 H H2 := ks.trans (K0.tbd (ks.tab _ tk) hT2)
    have hS2 : H2 sp = some (.lst ((kps.map (·.1)).map V.int)) := (K0.tbd (ks.tab _ tk) hT2).oth sp _ hS (fun _ z => by cases z)
    refine ⟨fun i r γ H5 => i + r = kps.length ∧ K0 H2 H5 ∧ γ = (keepK (kps.take i) m).map V.int, ⟨kps.length, by omega, K0.refl _, rfl⟩, fun i r γ H5 hW => ?_⟩
    obtain ⟨em, k5, eγ⟩ := hW
    have hS5 : SqL K H5 sp ((kps.map (·.1)).map V.int) := .inl (.inl (k5.oth sp _ hS2 (fun _ z => by cases z)))
    by_cases hi : i < kps.length
    · have e0 : kps[i]? = some (kps[i].1, kps[i].2) := List.getElem?_eq_getElem hi
      refine .inr ⟨⟨_, _, hS5, by rw [List.getElem?_map, List.getElem?_map, e0]; rfl⟩, fun γ' H' => K0 H2 H' ∧ γ' = (keepK (kps.take (i + 1)) m).map V.int, fun γ' H' hN => ⟨r - 1, by omega, by omega, hN⟩, fun z H' hy => ?_⟩
      obtain ⟨rfl, fx⟩ := hy
      have ez := fx _ hS5
      rw [List.getElem?_map, List.getElem?_map, e0] at ez
      cases ez
      have k6 := k2.trans k5
      obtain ⟨q1, e1, hq⟩ := (hK.k0 k6).val hO.nodup (List.getElem_mem hi)
      refine ⟨rfl, _, rfl, _, rfl, _, rfl, d, .ref q1, rfl, .inl ⟨kvs, .inl kps[i].1, .inl (k6.oth d _ hd (fun _ w => by cases w)), rfl, e1.symm⟩, q1, _, rfl, .inr hq, rfl, ?_, _, rfl, ?_⟩
      · rw [List.all_map]
        exact List.all_eq_true.mpr fun _ _ => rfl
      · rw [keep_succ e0, eγ]
        show if (inV (V.int m) (kps[i].2.map V.int)) = true then _ else _
        rw [inI]
        by_cases hm : m ∈ kps[i].2
        · rw [decide_eq_true hm, if_pos hm]
          refine iteT ⟨_, rfl, ?_, k5, ?_⟩
          · rw [List.length_map]
            have h1 := keep_len (kps.take i) m
            have h2 := List.length_take_le' i kps
            omega
          · rw [List.map_append]; rfl
        · rw [decide_eq_false hm, if_neg hm, List.append_nil]
          exact iteF ⟨k5, rfl⟩
    · rw [List.take_of_length_le (by omega)] at eγ
      refine .inl ⟨⟨_, hS5, by rw [List.length_map, List.length_map]; omega⟩, ?_, fun q1 nq => ?_⟩
      · rw [eγ, List.length_map]
        have h1 := keep_len kps m
        omega
      · refine q q1 _ ((k2.trans k5).trans (K0.new nq)) (.inl (.inl ?_))
        rw [upd_same, eγ]
def spNeedRoom (K : PySem.W.Frag) : Sp := fun vs H Q _ => ∃ (a : Addr) (n : Int) (rs : List R4), vs = [.ref a] ∧ NetAt K H a n rs ∧ n < 12 ∧ Q .non H
theorem ok_needroom {f : Addr} {fd : FuncData} {t12 : Tok} (F : Fun K "need_room" "need_room" sNeedRoom f fd) (c_MOST_PLACES : mg "MOST_PLACES" = some (.int 12 t12)) : FnOk P w K mg base CX0 1 f fd ["net"] (spNeedRoom K) := by
  refine F.ok scNeedRoom (fun vs H Q E h => ?_) (fun cdv A outer s H vs Q E hr h => ?_)
  · obtain ⟨a, n, rs, rfl, _⟩ := h
    rfl
  · obtain ⟨a, n, rs, rfl, hN, hn, q⟩ := h
    have hu := hu_of hr
    refine ⟨_, (pss_one (ps_if (pt_cmpR op_ge (pe_ix ix_tup (pv 0) pe_int (fun _ _ => rfl)) (pe_glob (v := .int 12) (by rfl) c_MOST_PLACES ⟨_, rfl⟩) (nomark _)) pss_never pss_nil)), ?_⟩
    obtain ⟨r, xs, o, h1, _⟩ := hN
    refine ⟨_, rfl, a, _, 0, .int n, rfl, rfl, h1, atI_nat (j := 0) rfl, _, _, rfl, rfl, _, rfl, ?_⟩
    rw [decide_eq_false (by omega)]
    exact iteF q
def spNeedS (K : PySem.W.Frag) (Pn Pr Pu Ph Ps : Addr) : Sp := fun vs H Q _ => ∃ (a d : Addr) (n : Int) (rs : List R4) (kvs : List (Key × V)) (kps : KpL), vs = [.ref a, .ref d] ∧ NetAt K H a n rs ∧ Good n rs ∧ rs.length ≤ 156 ∧ H d = some (.dK kvs) ∧ KVs K H kvs kps ∧ KpOk n kps ∧ TabG H Pn ∧ TabG H Pr ∧ TabG H Pu ∧ TabG H Ph ∧ TabG H Ps ∧ ∀ H', K0 H H' → Q .non H'
theorem ok_needs {f c Pn Pr Pu Ph Ps : Addr} {fd : FuncData} {f_neednet f_hasnumbers f_isplace : Addr} {fd_neednet fd_hasnumbers fd_isplace : FuncData} (F : FunC K "need_standing" "need_standing" sNeedS f fd c) (TB : TabB base mg c Ps) (k_neednet : PySem.W.keepIn K (.ref f_neednet) = true) (b_neednet : Binds K fd_neednet ["net"] []) (g_neednet : mg "need_net" = some (.ref f_neednet)) (G_neednet : FnOk P w K mg base CX0 6 f_neednet fd_neednet ["net"] (spNeedNet K Pn Pr))
    (k_hasnumbers : PySem.W.keepIn K (.ref f_hasnumbers) = true) (b_hasnumbers : Binds K fd_hasnumbers ["thing"] []) (g_hasnumbers : mg "has_numbers" = some (.ref f_hasnumbers)) (G_hasnumbers : FnOk P w K mg base CX0 5 f_hasnumbers fd_hasnumbers ["thing"] (spHasN K Pr Pu Ph))
    (k_isplace : PySem.W.keepIn K (.ref f_isplace) = true) (b_isplace : Binds K fd_isplace ["net", "thing"] []) (g_isplace : mg "is_place" = some (.ref f_isplace)) (G_isplace : FnOk P w K mg base CX0 3 f_isplace fd_isplace ["net", "thing"] (spIsPlace K))
    (m_all : mg "all" = none) : FnOk P w K mg base CX0 7 f fd ["net", "kept"] (spNeedS K Pn Pr Pu Ph Ps) := by
  refine F.ok scNeedS (fun vs H Q E h => ?_) (fun A outer s H vs Q E hr h => ?_)
  · obtain ⟨a, d, n, rs, kvs, kps, rfl, _⟩ := h
    rfl
  · obtain ⟨a, d, n, rs, kvs, kps, rfl, hN, G, hl, hd, hK, hO, tn, tr, tu, th, ts, q⟩ := h
    have hu := hu_of hr
    refine ⟨_, (pss_cons (ps_expr (pe_call G_neednet (hr.mono (by decide)) (by rfl) g_neednet k_neednet b_neednet .nil pass0 (pa_cons (pv 0) pa_nil)))
      (pss_one (ps_if (PW.pt (pw_or (pt_not (pt_val (pe_call G_hasnumbers (hr.mono (by decide)) (by rfl) g_hasnumbers k_hasnumbers b_hasnumbers .nil pass0 (pa_cons (pv 1) pa_nil)))) (pw_or1 (pt_not (pt_val (pe_lock (pe_allG (own := [("place", 2)]) (k := 3) (g := (gName 2)) (tt := tYes) (te := (tCall (spIsPlace K) [] E0 (tCons (tVar 0) (tCons (tVar 2) tNil)))) (hr.mono (by decide)) (by rfl) m_all rfl scNeedS.nd TB rfl (gsc_by (N := N_scNeedS) (sc := defScope sNeedS) (by decide +kernel)) (pi_keys (pv 1)) (fun A' hr' _ _ _ _ _ _ => (pg_name (i := 2) scNeedS.nd rfl (.inl rfl))) (fun A' hr' _ _ _ _ _ _ => pts_nil) (fun A' hr' _ _ _ _ _ _ => (pe_call G_isplace (hr'.mono (by decide)) (by rfl) g_isplace k_isplace b_isplace .nil pass0 (pa_cons (pv 0) (pa_cons (pv 2) pa_nil))))))))))) pss_never pss_nil))), ?_⟩
    refine ⟨_, rfl, a, n, rs, rfl, hN, G, hl, tn, tr, fun H1 k1 => ?_⟩
    have hd1 : H1 d = some (.dK kvs) := k1.oth d _ hd (fun _ z => by cases z)
    refine ⟨_, rfl, d, kvs, kps, n, rfl, hd1, hK.k0 k1, hO, k1.tab _ tr, k1.tab _ tu, k1.tab _ th, fun H2 k2 => ⟨_, rfl, iteF ?_⟩⟩
    have k12 := k1.trans k2
    have hd2 : H2 d = some (.dK kvs) := k12.oth d _ hd (fun _ z => by cases z)
    have ts2 := k12.tab _ ts
    refine ⟨d, _, hd2, trivial, fun od => ⟨_, rfl, d, od, rfl, .inl ⟨kvs, upd_same, tabG_lock hd2 (fun _ z => by cases z) ts2, fun H3 hT3 => ?_⟩⟩⟩
    have k3 : K0 (upd H2 d (.frz od (.dK kvs))) H3 := K0.tbd (tabG_lock hd2 (fun _ z => by cases z) ts2) hT3
    refine ⟨fun i m H4 => i + m = kvs.length ∧ K0 (upd H2 d (.frz od (.dK kvs))) H4, ⟨kvs.length, by omega, k3⟩, fun i m H4 hW => ?_⟩
    obtain ⟨em, k4⟩ := hW
    have hd4 : H4 d = some (.frz od (.dK kvs)) := k4.oth d _ upd_same (fun _ z => by cases z)
    by_cases hi : i < kvs.length
    · refine .inr ⟨⟨hd4, hi⟩, fun H' => K0 (upd H2 d (.frz od (.dK kvs))) H', fun H' hN => ⟨m - 1, by omega, by omega, hN⟩, fun x H' hy => ?_⟩
      obtain ⟨rfl, k, v, hkv, rfl⟩ := hy
      obtain ⟨j, ms, qq, e1, e, hq⟩ := (hK.k0 k12).at_ hkv
      cases e
      obtain ⟨j0, j1⟩ := hO.inn _ (List.mem_of_getElem? e1)
      refine ⟨rfl, tyes ⟨_, rfl, _, rfl, a, n, rs, j, rfl, (netAt_lock (hN.k0 k12) hd2).k0 k4, _, rfl, ?_⟩⟩
      rw [decide_eq_true j0, decide_eq_true (show j ≤ n - 1 by omega)]
      exact iteT k4
    · exact .inl ⟨⟨hd4, by omega⟩, hd4, _, rfl, iteF (q _ (k12.trans (K0.lock hd2 (fun _ z => by cases z) k4)))⟩
end
end HK

set_option Elab.async false
set_option linter.all false
set_option maxRecDepth 100000
set_option maxHeartbeats 4000000
namespace HK
open PySem PySem.Spec PyProof.Rows L2 GAl GxR
open Evl (pss_cut)
abbrev sACell : Stmt := topS 27
abbrev N_scACell : List Str := ["script", "k"]
theorem scACell : FnScope N_scACell ["script", "k"] (defScope sACell) := ⟨rfl, rfl, rfl, by decide +kernel, rfl, by decide +kernel, by decide +kernel⟩
abbrev sATape : Stmt := topS 28
abbrev N_scATape : List Str := ["script", "k", "cell", "p", "number", "last", "turn"]
theorem scATape : FnScope N_scATape ["script", "k"] (defScope sATape) := ⟨rfl, rfl, rfl, by decide +kernel, rfl, by decide +kernel, by decide +kernel⟩
abbrev sADigit : Stmt := topS 29
abbrev N_scADigit : List Str := ["tape", "many", "found"]
theorem scADigit : FnScope N_scADigit ["tape", "many"] (defScope sADigit) := ⟨rfl, rfl, rfl, by decide +kernel, rfl, by decide +kernel, by decide +kernel⟩
/-- the tape of one number, of any size and sign -/
def TpA (H : Hp) (t : Addr) : Prop := ∃ v : Int, H t = some (.lst [.int v])
theorem TpA.k0 {H H' : Hp} {t : Addr} (h : TpA H t) (k : K0 H H') : TpA H' t := by
  obtain ⟨v, e⟩ := h
  exact ⟨v, k.oth t _ e (fun _ z => by cases z)⟩
theorem TpA.ne {H : Hp} {t b : Addr} (h : TpA H t) (n : H b = none) : b ≠ t := fun z => by
  obtain ⟨_, e⟩ := h
  rw [z, e] at n; cases n
theorem TpA.mut {H : Hp} {t b : Addr} {o : HO} (h : TpA H t) (n : b ≠ t) : TpA (upd H b o) t := by
  obtain ⟨v, e⟩ := h
  exact ⟨v, by rw [upd_ne n.symm]; exact e⟩
section
variable {P : Program} {w : World} {K : PySem.W.Frag} {mg : Str → Option Value} {base : Heap}
def spACell (K : PySem.W.Frag) : Sp := fun vs H Q _ => ∃ (a : Addr) (ns : List Int) (k : Int), vs = [.ref a, .int k] ∧ SqL K H a (ns.map V.int) ∧ 0 ≤ k ∧ ∀ c : Int, Q (.int c) H
theorem ok_acell {f : Addr} {fd : FuncData} (F : Fun K "_law_acell" "_law_acell" sACell f fd) (m_len : mg "len" = none) : FnOk P w K mg base CX0 1 f fd ["script", "k"] (spACell K) := by
  refine F.ok scACell (fun vs H Q E h => ?_) (fun cdv A outer s H vs Q E hr h => ?_)
  · obtain ⟨a, ns, k, rfl, _⟩ := h
    rfl
  · obtain ⟨a, ns, k, rfl, hS, hk, q⟩ := h
    have hu := hu_of hr
    refine ⟨_, (pss_cons (ps_if (pt_cmpR op_lt (pv 1) (pe_callB call_len_seq (by rfl) m_len PySem.boot_len (pa_cons (pv 0) pa_nil)) (nomark _)) (pss_one (ps_ret (pe_ix ix_list (pv 0) (pv 1) (fun _ _ => rfl)))) pss_nil)
      (pss_one (ps_ret pe_int))), ?_⟩
    refine ⟨_, rfl, _, rfl, a, _, rfl, .inl hS, _, _, rfl, rfl, _, rfl, ite2 (fun e => ?_) (fun e => q 0)⟩
    have hlt : k < ((ns.map V.int).length : Int) := of_decide_eq_true e
    rw [List.length_map] at hlt
    obtain ⟨j, rfl⟩ := Int.eq_ofNat_of_zero_le hk
    have hj : j < ns.length := by omega
    exact ⟨_, rfl, _, rfl, a, _, _, .int ns[j], rfl, rfl, hS, atI_nat (by rw [List.getElem?_map, List.getElem?_eq_getElem hj]; rfl), q _⟩
def spATape (K : PySem.W.Frag) : Sp := fun vs H Q _ => ∃ (a : Addr) (ns : List Int) (k : Int), vs = [.ref a, .int k] ∧ SqL K H a (ns.map V.int) ∧ 0 ≤ k ∧ ∀ (t : Addr) (H' : Hp), H t = none → K0 H H' → TpA H' t → Q (.ref t) H'
theorem ok_atape {f : Addr} {fd : FuncData} {f_acell : Addr} {fd_acell : FuncData} (F : Fun K "_law_atape" "_law_atape" sATape f fd) (k_acell : PySem.W.keepIn K (.ref f_acell) = true) (b_acell : Binds K fd_acell ["script", "k"] []) (g_acell : mg "_law_acell" = some (.ref f_acell)) (G_acell : FnOk P w K mg base CX0 1 f_acell fd_acell ["script", "k"] (spACell K)) (m_range : mg "range" = none) : FnOk P w K mg base CX0 2 f fd ["script", "k"] (spATape K) := by
  refine F.ok scATape (fun vs H Q E h => ?_) (fun cdv A outer s H vs Q E hr h => ?_)
  · obtain ⟨a, ns, k, rfl, _⟩ := h
    rfl
  · obtain ⟨a, ns, k, rfl, hS, hk, q⟩ := h
    have hu := hu_of hr
    refine ⟨_, (pss_cons (ps_set (i := 2) scATape.nd rfl (.inl rfl) (pe_call G_acell (hr.mono (by decide)) (by rfl) g_acell k_acell b_acell .nil pass0 (pa_cons (pv 0) (pa_cons (pv 1) pa_nil))))
      (pss_cons (ps_if (pt_cmpR op_eq (pe_op op_mod (pv 2) pe_int) pe_int (nomark _)) (pss_one (ps_ret (pe_lst (pa_cons (pe_op op_fdivW (pv 2) pe_int) pa_nil)))) pss_nil)
      (pss_cons (ps_set (i := 3) scATape.nd rfl (.inl rfl) pe_int)
      (pss_cons (ps_set (i := 4) scATape.nd rfl (.inl rfl) pe_int)
      (pss_cons (ps_set (i := 5) scATape.nd rfl (.inl rfl) (pe_op op_mod (pe_op op_add (pe_op op_add (pe_op op_mul (pe_op op_mod (pv 2) (pv 3)) pe_int) (pe_op op_mul pe_int (pv 1))) pe_int) (pv 3)))
      (pss_cons (ps_for PassesOwn.never rfl (pi_range1 (by rfl) m_range (pa_cons pe_int pa_nil)) (pg_name (i := 6) scATape.nd rfl (.inl rfl))
      (pss_cons (ps_set (i := 4) scATape.nd rfl (.inl rfl) (pe_op op_add (pe_op op_mul (pv 4) (pv 3)) (pv 5)))
      (pss_one (ps_set (i := 5) scATape.nd rfl (.inl rfl) (pe_op op_mod (pe_op op_add (pe_op op_add (pe_op op_mul (pv 5) (pv 5)) (pe_op op_mul pe_int (pv 1))) (pv 6)) (pv 3))))))
      (pss_one (ps_ret (pe_lst (pa_cons (pv 4) pa_nil)))))))))), ?_⟩
    refine ⟨_, rfl, _, rfl, a, ns, k, rfl, hS, hk, fun c => ?_⟩
    refine ⟨_, rfl, c, 2, rfl, rfl, (show (0 : Int) < 2 by decide), rfl, _, rfl, ite2 (fun e => ?_) (fun e => ?_)⟩
    · exact ⟨_, rfl, c, 2, rfl, rfl, wide_div (b := 5) (by decide) (by decide) (by decide) (by decide), by show 1 ≤ sizeLine; decide, fun t nt => q t _ nt (K0.new nt) ⟨_, upd_same⟩⟩
    refine ⟨_, rfl, _, rfl, c, _, rfl, rfl, (show (0 : Int) < 2305843009213693951 by decide), _, 48271, rfl, rfl, mulR (by decide) (by decide), _, rfl, 69621, k, rfl, rfl, mulL (by decide) (by decide), _, _, rfl, rfl, _, 11, rfl, rfl, _, rfl, _, _, rfl, rfl, (show (0 : Int) < 2305843009213693951 by decide), ?_⟩
    refine ⟨9, rfl, by decide, by decide, for_range (lo := 0) (n := 9) (fun i σ' H' => ∃ (nm ls : Int) (y6 : Option V), σ' = [some (.ref a), some (.int k), some (.int c), some (.int 2305843009213693951), some (.int nm), some (.int ls), y6] ∧ H' = H ∧ 0 ≤ ls ∧ ls < 2305843009213693951)
      ⟨0, _, none, rfl, rfl, Int.emod_nonneg _ (by decide), Int.emod_lt_of_pos _ (by decide)⟩ (fun i σ' H' hi h => ?_) (fun σ' H' h => ?_)⟩
    · obtain ⟨nm, ls, y6, rfl, rfl, h1, h2⟩ := h
      exact ⟨_, rfl, _, rfl, nm, _, rfl, rfl, mulR (by decide) (by decide), _, rfl, _, _, rfl, rfl, _, rfl, _, rfl, ls, ls, rfl, rfl, mulL (by omega) (by omega), _, rfl, 40692, k, rfl, rfl, mulL (by decide) (by decide), _, _, rfl, rfl, _, rfl, _, _, rfl, rfl, _, rfl, _, _, rfl, rfl, (show (0 : Int) < 2305843009213693951 by decide),
        _, _, _, rfl, rfl, Int.emod_nonneg _ (by decide), Int.emod_lt_of_pos _ (by decide)⟩
    · obtain ⟨nm, ls, y6, rfl, rfl, h1, h2⟩ := h
      exact ⟨_, rfl, by show 1 ≤ sizeLine; decide, fun t nt => q t _ nt (K0.new nt) ⟨_, upd_same⟩⟩
def spADigit : Sp := fun vs H Q _ => ∃ (t : Addr) (many : Int), vs = [.ref t, .int many] ∧ TpA H t ∧ 0 < many ∧ many ≤ 1000000 ∧ ∀ (d : Int) (H' : Hp), 0 ≤ d → d < many → Kt t H H' → TpA H' t → Q (.int d) H'
theorem ok_adigit {f : Addr} {fd : FuncData} (F : Fun K "_law_adigit" "_law_adigit" sADigit f fd) : FnOk P w K mg base CX0 1 f fd ["tape", "many"] spADigit := by
  refine F.ok scADigit (fun vs H Q E h => ?_) (fun cdv A outer s H vs Q E hr h => ?_)
  · obtain ⟨t, many, rfl, _⟩ := h
    rfl
  · obtain ⟨t, many, rfl, ⟨v, ht⟩, hm, hm2, q⟩ := h
    have hu := hu_of hr
    refine ⟨_, (pss_cons (ps_set (i := 2) scADigit.nd rfl (.inl rfl) (pe_op op_mod (pe_ix ix_list (pv 0) pe_int (fun _ _ => rfl)) (pv 1)))
      (pss_cons (ps_asg (pe_op op_fdivW (pe_ix ix_list (pv 0) pe_int (fun _ _ => rfl)) (pv 1)) (pg_sub (pv 0) pe_int set_list))
      (pss_one (ps_ret (pv 2))))), ?_⟩
    refine ⟨.ref t, rfl, t, _, 0, .int v, rfl, rfl, .inl (.inl ht), atI_nat (j := 0) rfl, .int many, rfl, v, many, rfl, rfl, hm, ?_⟩
    refine ⟨.ref t, rfl, t, _, 0, .int v, rfl, rfl, .inl (.inl ht), atI_nat (j := 0) rfl, .int many, rfl, v, many, rfl, rfl, wide_div (b := 70) hm (by omega) (by decide) (by decide), .ref t, rfl, t, _, 0, 0, rfl, rfl, ht, rfl, ?_⟩
    exact ⟨_, rfl, q _ _ (Int.emod_nonneg _ (by omega)) (Int.emod_lt_of_pos _ hm) (Kt.set ht) ⟨_, upd_same⟩⟩
end
end HK

set_option Elab.async false
set_option linter.all false
set_option maxRecDepth 100000
set_option maxHeartbeats 4000000
namespace HK
open PySem PySem.Spec PyProof.Rows L2 GAl GxR
open Evl (pss_cut)
abbrev sANet : Stmt := topS 31
abbrev N_scANet : List Str := ["tape", "most", "n", "often", "wide", "roads", "i", "j", "cost", "late"]
theorem scANet : FnScope N_scANet ["tape", "most"] (defScope sANet) := ⟨rfl, rfl, rfl, by decide +kernel, rfl, by decide +kernel, by decide +kernel⟩
theorem pick6 {d : Int} (h0 : 0 ≤ d) (h1 : d < 6) : ∃ y : Int, atI [V.int 0, .int 1, .int 2, .int 3, .int 5, .int 8] d = some (.int y) ∧ 0 ≤ y ∧ y ≤ 8 := by
  obtain ⟨k, rfl⟩ := Int.eq_ofNat_of_zero_le h0
  match k, h1 with
  | 0, _ => exact ⟨0, atI_nat rfl, by omega, by omega⟩
  | 1, _ => exact ⟨1, atI_nat rfl, by omega, by omega⟩
  | 2, _ => exact ⟨2, atI_nat rfl, by omega, by omega⟩
  | 3, _ => exact ⟨3, atI_nat rfl, by omega, by omega⟩
  | 4, _ => exact ⟨5, atI_nat rfl, by omega, by omega⟩
  | 5, _ => exact ⟨8, atI_nat rfl, by omega, by omega⟩
  | k + 6, h => exact absurd h (by omega)
section
variable {P : Program} {w : World} {K : PySem.W.Frag} {mg : Str → Option Value} {base : Heap}
def spANet (K : PySem.W.Frag) : Sp := fun vs H Q _ => ∃ (t : Addr) (most : Int), vs = [.ref t, .int most] ∧ TpA H t ∧ 1 ≤ most ∧ most ≤ 12 ∧
  ∀ (a : Addr) (n : Int) (rs : List R4) (H' : Hp), Kt t H H' → TpA H' t → NetAt K H' a n rs → n ≤ most → Good n rs → rs.length ≤ 156 → Q (.ref a) H'
/-- between the turns -/
structure NA (K : PySem.W.Frag) (H : Hp) (t ra : Addr) (n : Int) (i j : Nat) (H3 : Hp) : Prop where
  kt : Kt t H H3
  tp : TpA H3 t
  ex : ∃ xs rs, H3 ra = some (.lst xs) ∧ Roads K H3 xs rs ∧ Good n rs ∧ (∀ r ∈ rs, r.s < i ∨ (r.s = i ∧ r.e < j)) ∧ rs.length ≤ 12 * i + j
theorem ok_anet {f : Addr} {fd : FuncData} {f_adigit : Addr} {fd_adigit : FuncData} (F : Fun K "_law_anet" "_law_anet" sANet f fd) (k_adigit : PySem.W.keepIn K (.ref f_adigit) = true) (b_adigit : Binds K fd_adigit ["tape", "many"] []) (g_adigit : mg "_law_adigit" = some (.ref f_adigit)) (G_adigit : FnOk P w K mg base CX0 1 f_adigit fd_adigit ["tape", "many"] (spADigit)) (m_range : mg "range" = none) (m_tuple : mg "tuple" = none) : FnOk P w K mg base CX0 2 f fd ["tape", "most"] (spANet K) := by
  refine F.ok scANet (fun vs H Q E h => ?_) (fun cdv A outer s H vs Q E hr h => ?_)
  · obtain ⟨t, most, rfl, _⟩ := h
    rfl
  · obtain ⟨t, most, rfl, htp, hm1, hm2, q⟩ := h
    have hu := hu_of hr
    refine ⟨_, (pss_cons (ps_set (i := 2) scANet.nd rfl (.inl rfl) (pe_op op_add pe_int (pe_call G_adigit (hr.mono (by decide)) (by rfl) g_adigit k_adigit b_adigit .nil pass0 (pa_cons (pv 0) (pa_cons (pv 1) pa_nil)))))
      (pss_cons (ps_set (i := 3) scANet.nd rfl (.inl rfl) (pe_op op_add pe_int (pe_call G_adigit (hr.mono (by decide)) (by rfl) g_adigit k_adigit b_adigit .nil pass0 (pa_cons (pv 0) (pa_cons pe_int pa_nil)))))
      (pss_cons (ps_set (i := 4) scANet.nd rfl (.inl rfl) (pe_call G_adigit (hr.mono (by decide)) (by rfl) g_adigit k_adigit b_adigit .nil pass0 (pa_cons (pv 0) (pa_cons pe_int pa_nil))))
      (pss_cons (ps_set (i := 5) scANet.nd rfl (.inl rfl) (pe_lst pa_nil))
      (pss_cons (ps_for PassesOwn.never rfl (pi_range1 (by rfl) m_range (pa_cons (pv 2) pa_nil)) (pg_name (i := 6) scANet.nd rfl (.inl rfl))
      (pss_one (ps_for PassesOwn.never rfl (pi_range1 (by rfl) m_range (pa_cons (pv 2) pa_nil)) (pg_name (i := 7) scANet.nd rfl (.inl rfl))
      (pss_one (ps_if (PW.pt (pw_and (pt_cmpR op_ne (pv 6) (pv 7) (nomark _)) (pw_and1 (pt_cmpR op_lt (pe_call G_adigit (hr.mono (by decide)) (by rfl) g_adigit k_adigit b_adigit .nil pass0 (pa_cons (pv 0) (pa_cons pe_int pa_nil))) (pv 3) (nomark _))))) (pss_cons (ps_set (i := 8) scANet.nd rfl (.inl rfl) (pe_ix ix_list (pe_lst (pa_cons pe_int (pa_cons pe_int (pa_cons pe_int (pa_cons pe_int (pa_cons pe_int (pa_cons pe_int pa_nil))))))) (pe_call G_adigit (hr.mono (by decide)) (by rfl) g_adigit k_adigit b_adigit .nil pass0 (pa_cons (pv 0) (pa_cons pe_int pa_nil))) (fun _ _ => rfl)))
      (pss_cons (ps_set (i := 9) scANet.nd rfl (.inl rfl) (pe_op op_add pe_int (pe_call G_adigit (hr.mono (by decide)) (by rfl) g_adigit k_adigit b_adigit .nil pass0 (pa_cons (pv 0) (pa_cons pe_int pa_nil)))))
      (pss_cut (ps_if (pt_cmpR op_eq (pv 4) pe_int (nomark _)) (pss_cons (ps_set (i := 8) scANet.nd rfl (.inl rfl) (pe_op op_sub pe_int (pe_op op_mul pe_int (pv 8))))
      (pss_one (ps_set (i := 9) scANet.nd rfl (.inl rfl) (pe_op op_sub pe_int (pe_op op_mul pe_int (pe_op op_sub (pv 9) pe_int)))))) pss_nil)
      (pss_one (ps_expr (pe_bm PySem.F.plainAttrs_list PySem.F.slot_list_append PySem.F.type_list_append mt_append (pv 5) (pa_cons (pe_tup (pa_cons (pv 6) (pa_cons (pv 7) (pa_cons (pv 8) (pa_cons (pv 9) pa_nil))))) pa_nil))))))) pss_nil)))))
      (pss_one (ps_ret (pe_tup (pa_cons (pv 2) (pa_cons (pe_callTy call_tuple_fz (by rfl) m_tuple (by decide +kernel) (pa_cons (pv 5) pa_nil)) pa_nil)))))))))), ?_⟩
    -- n, often, wide
    refine ⟨.ref t, rfl, .int most, rfl, t, most, rfl, htp, by omega, by omega, fun d1 H1 hd1 hd1' k1 tp1 => ⟨1, d1, rfl, rfl, ?_⟩⟩
    refine ⟨.ref t, rfl, t, 4, rfl, tp1, by omega, by omega, fun d2 H2 hd2 hd2' k2 tp2 => ⟨1, d2, rfl, rfl, ?_⟩⟩
    refine ⟨.ref t, rfl, t, 5, rfl, tp2, by omega, by omega, fun dw H2' hdw hdw' kw tp2' => ?_⟩
    -- roads = []
    refine ⟨Nat.zero_le _, fun ra nra => ?_⟩
    have k12 : Kt t H H2' := (k1.trans k2).trans kw
    have nHra : H ra = none := k12.dom _ nra
    have hn1 : 1 ≤ 1 + d1 := by omega
    have hn2 : 1 + d1 ≤ 12 := by omega
    have hra : ra ≠ t := tp2'.ne nra
    have stepI : ∀ {H3 H4 : Hp} {i j : Nat}, NA K H t ra (1 + d1) i j H3 → Kt t H3 H4 → TpA H4 t → NA K H t ra (1 + d1) i j H4 := fun {H3 H4 i j} h k tp => by
      obtain ⟨xs, rs, e1, e2, e3⟩ := h.ex
      exact ⟨h.kt.trans k, tp, xs, rs, k.oth ra _ e1 hra (fun _ z => by cases z), k.roads e2, e3⟩
    have step0 : ∀ {H3 H4 : Hp} {i j : Nat}, NA K H t ra (1 + d1) i j H3 → K0 H3 H4 → NA K H t ra (1 + d1) i j H4 := fun {H3 H4 i j} h k => stepI h k.kt (h.tp.k0 k)
    refine ⟨.int (1 + d1), rfl, 1 + d1, rfl, by omega, by omega, for_range (lo := 0) (n := (1 + d1).toNat) (fun i σ' H' => ∃ y6 y7 y8 y9, σ' = [some (.ref t), some (.int most), some (.int (1 + d1)), some (.int (1 + d2)), some (.int dw), some (.ref ra), y6, y7, y8, y9] ∧ NA K H t ra (1 + d1) i 0 H')
      ⟨none, none, none, none, rfl, ?_⟩ (fun i σ' H' hi h => ?_) (fun σ' H' h => ?_)⟩
    · exact ⟨k12.mut nHra, tp2'.k0 (K0.new nra), [], [], upd_same, .nil, ⟨hn1, hn2, fun r hr => (by cases hr), .nil⟩, fun r hr => (by cases hr), by simp⟩
    · obtain ⟨y6, y7, y8, y9, rfl, hI⟩ := h
      refine ⟨.int (1 + d1), rfl, 1 + d1, rfl, by omega, by omega, for_range (lo := 0) (n := (1 + d1).toNat) (fun j σ' H' => ∃ y7 y8 y9, σ' = [some (.ref t), some (.int most), some (.int (1 + d1)), some (.int (1 + d2)), some (.int dw), some (.ref ra), some (.int (0 + (i : Int))), y7, y8, y9] ∧ NA K H t ra (1 + d1) i j H')
        ⟨y7, y8, y9, rfl, hI⟩ (fun j σ' H' hj h => ?_) (fun σ' H' h => ?_)⟩
      · obtain ⟨y7, y8, y9, rfl, hI⟩ := h
        have next : ∀ {H4 : Hp}, NA K H t ra (1 + d1) i j H4 → NA K H t ra (1 + d1) i (j + 1) H4 := fun {H4} h => by
          obtain ⟨xs, rs, e1, e2, e3, e4, e5⟩ := h.ex
          exact ⟨h.kt, h.tp, xs, rs, e1, e2, e3, fun r hr => by
            rcases e4 r hr with z | ⟨z, z2⟩
            · exact .inl z
            · exact .inr ⟨z, by omega⟩, by omega⟩
        refine ⟨_, rfl, _, rfl, rfl, _, rfl, ite2 (fun e => ?_) (fun e => iteF ⟨_, y8, y9, rfl, next hI⟩)⟩
        have hij : (i : Int) ≠ j := by
          have e : (!decide (V.int (0 + (i : Int)) = V.int (0 + (j : Int)))) = true := e
          simp only [Bool.not_eq_true', decide_eq_false_iff_not] at e
          intro z
          exact e (by rw [z])
        refine ⟨.ref t, rfl, t, 6, rfl, hI.tp, by omega, by omega, fun d3 H3 hd3 hd3' k3 tp3 => ⟨_, rfl, d3, _, rfl, rfl, _, rfl, ite2 (fun e2 => ?_) (fun e2 => ⟨_, y8, y9, rfl, next (stepI hI k3 tp3)⟩)⟩⟩
        have I3 := stepI hI k3 tp3
        -- cost
        refine ⟨by show 6 ≤ sizeLine; decide, fun pl npl => ?_⟩
        have I4 := step0 I3 (K0.new (o := .lst [.int 0, .int 1, .int 2, .int 3, .int 5, .int 8]) npl)
        have npt := tp3.ne npl
        refine ⟨.ref t, rfl, t, 6, rfl, I4.tp, by omega, by omega, fun d5 H5 hd5 hd5' k5 tp5 => ?_⟩
        have I5 := stepI I4 k5 tp5
        obtain ⟨pay, hpay, p0, p1⟩ := pick6 hd5 hd5'
        refine ⟨pl, _, d5, .int pay, rfl, rfl, .inl (.inl (k5.oth pl _ upd_same npt (fun _ z => by cases z))), hpay, ?_⟩
        -- late
        refine ⟨.ref t, rfl, t, 4, rfl, tp5, by omega, by omega, fun d7 H7 hd7 hd7' k7 tp7 => ⟨1, d7, rfl, rfl, ?_⟩⟩
        have I7 := stepI I5 k7 tp7
        clear k3 tp3 k5 tp5 k7 tp7 hpay I3 I4 I5 npl npt
        refine ⟨fun σ' H4 => ∃ pay late : Int, σ' = [some (.ref t), some (.int most), some (.int (1 + d1)), some (.int (1 + d2)), some (.int dw), some (.ref ra), some (.int (0 + (i : Int))), some (.int (0 + (j : Int))), some (.int pay), some (.int late)] ∧ H4 = H7 ∧ 0 ≤ pay ∧ pay ≤ 1000 ∧ 1 ≤ late ∧ late ≤ 1000, ?_, ?_⟩
        · refine ⟨_, rfl, rfl, _, rfl, ite2 (fun e => ?_) (fun e => ⟨pay, 1 + d7, rfl, rfl, by omega, by omega, by omega, by omega⟩)⟩
          exact ⟨_, rfl, 20, pay, rfl, rfl, mulL (by decide) (by decide), 1000, _, rfl, rfl, _, rfl, _, 1, rfl, rfl, 300, _, rfl, rfl, mulL (by decide) (by decide), 1000, _, rfl, rfl, _, _, rfl, rfl, by omega, by omega, by omega, by omega⟩
        rintro σ' H4 ⟨pay, late, rfl, rfl, p0, p1, l0, l1⟩
        -- roads.append((i, j, cost, late))
        obtain ⟨xs, rs, e1, e2', e3, e4, e5⟩ := I7.ex
        refine ⟨.ref ra, rfl, .inl ⟨rfl, _, .inl (.inl e1)⟩, _, rfl, _, rfl, _, rfl, _, rfl, by show 4 ≤ sizeLine; decide, fun tp ntp => ?_⟩
        have kT : K0 H4 (upd H4 tp (.tup [.int (0 + (i : Int)), .int (0 + (j : Int)), .int pay, .int late])) := K0.new ntp
        have e1' := kT.oth ra _ e1 (fun _ z => by cases z)
        have hlen : xs.length ≤ 200 := by
          rw [e2'.len]
          omega
        refine ⟨ra, _, _, rfl, rfl, e1', Nat.lt_of_le_of_lt hlen (by decide), _, _, _, rfl, ?_⟩
        have kA := (I7.kt.trans kT.kt).mut (o := .lst (xs ++ [.ref tp])) nHra
        refine ⟨kA, (I7.tp.k0 kT).mut hra, xs ++ [.ref tp], rs ++ [⟨0 + (i : Int), 0 + (j : Int), pay, late⟩], upd_same, ?_, ⟨hn1, hn2, fun r hr => ?_, ?_⟩, fun r hr => ?_, ?_⟩
        · exact Roads.snoc (r := ⟨0 + (i : Int), 0 + (j : Int), pay, late⟩) ((Kt.set e1').roads (kT.kt (t := t) |>.roads e2')) ((Kt.set e1').sqT (.inl (.inl upd_same)))
        · rcases List.mem_append.mp hr with z | z
          · exact e3.ok r z
          · have z := List.mem_singleton.mp z
            subst z
            exact ⟨by show 0 ≤ 0 + (i : Int); omega, by show 0 + (i : Int) < 1 + d1; omega, by show 0 ≤ 0 + (j : Int); omega, by show 0 + (j : Int) < 1 + d1; omega, by show 0 + (i : Int) ≠ 0 + (j : Int); omega, p0, p1, l0, l1⟩
        · rw [List.pairwise_append]
          refine ⟨e3.up, List.pairwise_singleton _ _, fun a ha b hb => ?_⟩
          have z := List.mem_singleton.mp hb
          subst z
          rcases e4 a ha with z | ⟨z, z2⟩
          · exact .inl (by show a.s < 0 + (i : Int); omega)
          · exact .inr ⟨by show a.s = 0 + (i : Int); omega, by show a.e < 0 + (j : Int); omega⟩
        · rcases List.mem_append.mp hr with z | z
          · rcases e4 r z with z | ⟨z, z2⟩
            · exact .inl z
            · exact .inr ⟨z, by omega⟩
          · have z := List.mem_singleton.mp z
            subst z
            exact .inr ⟨by show 0 + (i : Int) = i; omega, by show 0 + (j : Int) < _; omega⟩
        · rw [List.length_append, List.length_singleton]; omega
      · obtain ⟨y7, y8, y9, rfl, hI⟩ := h
        obtain ⟨xs, rs, e1, e2, e3, e4, e5⟩ := hI.ex
        refine ⟨_, _, _, _, rfl, hI.kt, hI.tp, xs, rs, e1, e2, e3, fun r hr => ?_, by omega⟩
        have hro := e3.ok r hr
        rcases e4 r hr with z | ⟨z, z2⟩
        · exact .inl (by omega)
        · exact .inl (by omega)
    · obtain ⟨y6, y7, y8, y9, rfl, hI⟩ := h
      obtain ⟨xs, rs, e1, e2, e3, e4, e5⟩ := hI.ex
      refine ⟨_, rfl, .ref ra, rfl, ra, xs, rfl, .inl (.inl e1), fun tl ob ntl hoc hod => ?_⟩
      have kT : K0 H' (upd H' tl (.frz ob (.tup xs))) := K0.new ntl
      refine ⟨by show 2 ≤ sizeLine; decide, fun tn ntn => ?_⟩
      have kN : K0 (upd H' tl (.frz ob (.tup xs))) (upd (upd H' tl (.frz ob (.tup xs))) tn (.tup [.int (1 + d1), .ref tl])) := K0.new ntn
      have kk := kT.trans kN
      refine q tn (1 + d1) rs _ (hI.kt.trans kk.kt) (hI.tp.k0 kk) ⟨tl, xs, (), .inl (.inl upd_same), kN.sqT (.inl (.inr ⟨ob, upd_same⟩)), trivial, trivial, kk.kt (t := t) |>.roads e2⟩ (by omega) e3 (by omega)
end
end HK

set_option Elab.async false
set_option linter.all false
set_option maxRecDepth 100000
set_option maxHeartbeats 4000000
namespace HK
open PySem PySem.Spec PyProof.Rows L2 GAl GxR
open Evl (pss_cut)
abbrev sSendNet : Stmt := topS 20
abbrev N_scSendNet : List Str := ["net", "kept", "number", "many", "roads", "standing", "start", "end", "cost", "late", "place"]
theorem scSendNet : FnScope N_scSendNet ["net", "kept", "number"] (defScope sSendNet) := ⟨rfl, rfl, rfl, by decide +kernel, rfl, by decide +kernel, by decide +kernel⟩
abbrev sASend : Stmt := topS 33
abbrev N_scASend : List Str := ["net", "kept", "number", "roads", "more", "road", "place"]
theorem scASend : FnScope N_scASend ["net", "kept", "number"] (defScope sASend) := ⟨rfl, rfl, rfl, by decide +kernel, rfl, by decide +kernel, by decide +kernel⟩
def stands (kps : KpL) (r : R4) : Bool := decide (r.s ∈ kps.map (·.1)) && decide (r.e ∈ kps.map (·.1))
def sendR (n : Int) (rs : List R4) (kps : KpL) (m : Int) : List R4 := rs.filter (stands kps) ++ (keepK kps m).map fun p => ⟨n, p, 0, 1⟩
theorem dpAll_app {K : PySem.W.Frag} {H : Hp} : ∀ {xs ys : List V} {ds es : List PyData}, DpAll K H xs ds → DpAll K H ys es → DpAll K H (xs ++ ys) (ds ++ es)
  | _, _, _, _, .nil, h => h
  | _, _, _, _, .cons a b, h => .cons a (dpAll_app b h)
theorem roads_app {K : PySem.W.Frag} {H : Hp} {xs ys : List V} {rs ts : List R4} (h : Roads K H xs rs) (g : Roads K H ys ts) : Roads K H (xs ++ ys) (rs ++ ts) := by
  unfold Roads
  rw [List.map_append]
  exact dpAll_app h g
theorem filtS_take {kps : KpL} {rs : List R4} {j : Nat} {t : R4} (e : rs[j]? = some t) : (rs.take (j + 1)).filter (stands kps) = (rs.take j).filter (stands kps) ++ (if stands kps t = true then [t] else []) := by
  rw [List.take_add_one, e, List.filter_append]
  congr 1
  by_cases h : stands kps t = true
  · rw [if_pos h]
    exact List.filter_cons_of_pos h
  · rw [if_neg h]
    exact List.filter_cons_of_neg h
theorem filtS_len (kps : KpL) (rs : List R4) (j : Nat) : ((rs.take j).filter (stands kps)).length ≤ rs.length := by
  have h1 := List.length_filter_le (stands kps) (rs.take j)
  have h2 := List.length_take_le' j rs
  omega
section
variable {P : Program} {w : World} {K : PySem.W.Frag} {mg : Str → Option Value} {base : Heap}
def spSendNet (K : PySem.W.Frag) (Pn Pr Pu Ph Ps Pk : Addr) : Sp := fun vs H Q _ => ∃ (a d : Addr) (n : Int) (rs : List R4) (kvs : List (Key × V)) (kps : KpL) (m : Int), vs = [.ref a, .ref d, .int m] ∧ NetAt K H a n rs ∧ Good n rs ∧ rs.length ≤ 156 ∧ n < 12 ∧ H d = some (.dK kvs) ∧ KVs K H kvs kps ∧ KpOk n kps ∧ TabG H Pn ∧ TabG H Pr ∧ TabG H Pu ∧ TabG H Ph ∧ TabG H Ps ∧ TabG H Pk ∧ ∀ (q : Addr) (H' : Hp), K0 H H' → NetAt K H' q (n + 1) (sendR n rs kps m) → Q (.ref q) H'
theorem ok_sendnet {f Pn Pr Pu Ph Ps Pk : Addr} {fd : FuncData} {f_needstanding f_needroom f_keepers : Addr} {fd_needstanding fd_needroom fd_keepers : FuncData} (F : Fun K "send_net" "send_net" sSendNet f fd) (k_needstanding : PySem.W.keepIn K (.ref f_needstanding) = true) (b_needstanding : Binds K fd_needstanding ["net", "kept"] []) (g_needstanding : mg "need_standing" = some (.ref f_needstanding)) (G_needstanding : FnOk P w K mg base CX0 7 f_needstanding fd_needstanding ["net", "kept"] (spNeedS K Pn Pr Pu Ph Ps))
    (k_needroom : PySem.W.keepIn K (.ref f_needroom) = true) (b_needroom : Binds K fd_needroom ["net"] []) (g_needroom : mg "need_room" = some (.ref f_needroom)) (G_needroom : FnOk P w K mg base CX0 1 f_needroom fd_needroom ["net"] (spNeedRoom K))
    (k_keepers : PySem.W.keepIn K (.ref f_keepers) = true) (b_keepers : Binds K fd_keepers ["kept", "number"] []) (g_keepers : mg "keepers_of" = some (.ref f_keepers)) (G_keepers : FnOk P w K mg base CX0 2 f_keepers fd_keepers ["kept", "number"] (spKeepers K Pk)) (m_tuple : mg "tuple" = none) : FnOk P w K mg base CX0 8 f fd ["net", "kept", "number"] (spSendNet K Pn Pr Pu Ph Ps Pk) := by
  refine F.ok scSendNet (fun vs H Q E h => ?_) (fun cdv A outer s H vs Q E hr h => ?_)
  · obtain ⟨a, d, n, rs, kvs, kps, m, rfl, _⟩ := h
    rfl
  · obtain ⟨a, d, n, rs, kvs, kps, m, rfl, hN, G, hl, hn, hd, hK, hO, tn, tr, tu, th, ts, tk, q⟩ := h
    have hu := hu_of hr
    refine ⟨_, (pss_cons (ps_expr (pe_call G_needstanding (hr.mono (by decide)) (by rfl) g_needstanding k_needstanding b_needstanding .nil pass0 (pa_cons (pv 0) (pa_cons (pv 1) pa_nil))))
      (pss_cons (ps_expr (pe_call G_needroom (hr.mono (by decide)) (by rfl) g_needroom k_needroom b_needroom .nil pass0 (pa_cons (pv 0) pa_nil)))
      (pss_cut (ps_asg (pv 0) (pg_tup rfl (pgs_cons (pg_name (i := 3) scSendNet.nd rfl (.inr rfl)) (pgs_cons (pg_name (i := 4) scSendNet.nd rfl (.inl rfl)) pgs_nil))))
      (pss_cut (ps_setLc (i := 5) (own := [("start", 6), ("end", 7), ("cost", 8), ("late", 9)]) (g := (gTup K 4 (gCons (gName 6) (gCons (gName 7) (gCons (gName 8) (gCons (gName 9) gNil)))))) (tt := (tAnd (tB (tDIn (tVar 6) (tVar 1))) (tB (tDIn (tVar 7) (tVar 1))))) (te := (tTup (tCons (tVar 6) (tCons (tVar 7) (tCons (tVar 8) (tCons (tVar 9) tNil)))))) rfl scSendNet.nd rfl rfl (sw_true rfl rfl rfl rfl) (pi_tup (pv 4)) (blkOk_by (N := N_scSendNet) (sc := defScope sSendNet) (by decide +kernel)) (fun _ _ _ _ _ => (pg_tup rfl (pgs_cons (pg_name (i := 6) scSendNet.nd rfl (.inl rfl)) (pgs_cons (pg_name (i := 7) scSendNet.nd rfl (.inl rfl)) (pgs_cons (pg_name (i := 8) scSendNet.nd rfl (.inl rfl)) (pgs_cons (pg_name (i := 9) scSendNet.nd rfl (.inl rfl)) pgs_nil)))))) (fun _ _ _ _ _ => (pts_one (PW.pt (pw_and (pt_cmp (pc_din hu (pv 6) (pv 1))) (pw_and1 (pt_cmp (pc_din hu (pv 7) (pv 1)))))))) (fun _ _ _ _ _ => (pe_tup (pa_cons (pv 6) (pa_cons (pv 7) (pa_cons (pv 8) (pa_cons (pv 9) pa_nil)))))))
      (pss_one (ps_ret (pe_tup (pa_cons (pe_op op_add (pv 3) pe_int) (pa_cons (pe_callTy call_tuple_fz (by rfl) m_tuple (by decide +kernel) (pa_cons (pe_op op_cat (pv 5) (pe_lc (own := [("place", 10)]) (g := (gName 10)) (tt := tYes) (te := (tTup (tCons (tVar 3) (tCons (tVar 10) (tCons (tC (.int 0)) (tCons (tC (.int 1)) tNil)))))) rfl scSendNet.nd (pi_tup (pe_call G_keepers (hr.mono (by decide)) (by rfl) g_keepers k_keepers b_keepers .nil pass0 (pa_cons (pv 1) (pa_cons (pv 2) pa_nil)))) (blkOk_by (N := N_scSendNet) (sc := defScope sSendNet) (by decide +kernel)) (fun _ _ _ _ _ => (pg_name (i := 10) scSendNet.nd rfl (.inl rfl))) (fun _ _ _ _ _ => pts_nil) (fun _ _ _ _ _ => (pe_tup (pa_cons (pv 3) (pa_cons (pv 10) (pa_cons pe_int (pa_cons pe_int pa_nil)))))))) pa_nil)) pa_nil))))))))), ?_⟩
    refine ⟨_, rfl, _, rfl, a, d, n, rs, kvs, kps, rfl, hN, G, hl, hd, hK, hO, tn, tr, tu, th, ts, fun H1 k1 => ?_⟩
    have hN1 := hN.k0 k1
    refine ⟨_, rfl, a, n, rs, rfl, hN1, hn, ?_⟩
    have hd1 : H1 d = some (.dK kvs) := k1.oth d _ hd (fun _ z => by cases z)
    have hK1 := hK.k0 k1
    obtain ⟨r, xs, o, h1, h2, _, _, h3⟩ := id hN1
    have hrl : xs.length = rs.length := h3.len
    have hkl := hO.len (by omega)
    refine ⟨fun σ' H' => σ' = [some (.ref a), some (.ref d), some (.int m), some (.int n), some (.ref r), none, none, none, none, none, none] ∧ H' = H1, ?_, ?_⟩
    · exact ⟨_, rfl, a, _, rfl, h1, rfl, _, _, rfl, _, _, rfl, rfl, rfl, rfl⟩
    rintro σ' H' ⟨rfl, rfl⟩
    refine ⟨fun σ' H2 => ∃ D ys, σ' = [some (.ref a), some (.ref d), some (.int m), some (.int n), some (.ref r), some (.ref D), none, none, none, none, none] ∧ K0 H' H2 ∧ H2 D = some (.lst ys) ∧ Roads K H2 ys (rs.filter (stands kps)), ?_, ?_⟩
    rotate_left
    · rintro σ' H2 ⟨D, ys, rfl, k, hD, hR⟩
      have k12 := k1.trans k
      have hd2 := k12.oth d _ hd (fun _ z => by cases z)
      refine ⟨_, rfl, n, 1, rfl, rfl, _, rfl, _, rfl, _, rfl, d, kvs, kps, n, m, rfl, hd2, hK.k0 k12, hO, by omega, k12.tab _ tk, fun qk H3 k3 hqk => ⟨qk, rfl, ⟨_, hqk⟩, fun D2 nD2 => ?_⟩⟩
      have hD3 := k3.oth D _ hD (fun _ z => by cases z)
      have hR3 := k3.dpAll _ _ hR
      refine lc_tup (xs := (keepK kps m).map V.int) (fun j H4 => K0 H3 H4 ∧ ∃ zs, H4 D2 = some (.lst zs) ∧ Roads K H4 zs (((keepK kps m).take j).map fun p => ⟨n, p, 0, 1⟩)) ⟨K0.new nD2, [], upd_same, .nil⟩ (fun j H4 hj h => h.1.sqT hqk) (fun j x H4 hx h => ?_) (fun H4 h => ?_)
      · obtain ⟨k4, zs, hz, hZ⟩ := h
        rw [List.getElem?_map] at hx
        obtain ⟨p, hp, rfl⟩ := Option.map_eq_some_iff.mp hx
        refine ⟨rfl, tyes ⟨_, rfl, _, rfl, by show 4 ≤ sizeLine; decide, fun tp ntp => ?_⟩⟩
        have kT : K0 H4 (upd H4 tp (.tup [.int n, .int p, .int 0, .int 1])) := K0.new ntp
        have hz2 := kT.oth D2 _ hz (fun _ z => by cases z)
        refine ⟨zs, hz2, ?_, (k4.trans kT).mut nD2, zs ++ [.ref tp], upd_same, ?_⟩
        · have h1 := hZ.len
          rw [List.length_map] at h1
          have h2 := keep_len kps m
          have h3 := List.length_take_le' j (keepK kps m)
          rw [sizeLine_eq]; omega
        · rw [List.take_add_one, hp, List.map_append]
          exact (Kt.set hz2).roads (Roads.snoc (r := ⟨n, p, 0, 1⟩) (kT.dpAll _ _ hZ) (.inl (.inl upd_same)))
      · obtain ⟨k4, zs, hz, hZ⟩ := h
        rw [List.length_map, List.take_of_length_le (Nat.le_refl _)] at hZ
        have hD4 := k4.oth D _ hD3 (fun _ z => by cases z)
        have hR4 := k4.dpAll _ _ hR3
        have l1 := hR.len
        have l1b := filtS_len kps rs rs.length
        rw [List.take_length] at l1b
        have l2 := hZ.len
        rw [List.length_map] at l2
        have l3 := keep_len kps m
        refine ⟨D, D2, ys, zs, rfl, rfl, hD4, hz, by rw [sizeLine_eq]; omega, fun pc npc => ?_⟩
        have kc := K0.new npc (o := .lst (ys ++ zs))
        have hA := kc.dpAll _ _ (roads_app hR4 hZ)
        have hpc : upd H4 pc (.lst (ys ++ zs)) pc = some (.lst (ys ++ zs)) := upd_same
        generalize upd H4 pc (.lst (ys ++ zs)) = H5 at kc hA hpc ⊢
        refine ⟨pc, _, rfl, .inl (.inl hpc), fun l ob nl _ _ => ⟨by show 2 ≤ sizeLine; decide, fun q0 nq0 => ?_⟩⟩
        have kl := K0.new nl (o := .frz ob (.tup (ys ++ zs)))
        have hl2 : SqT K (upd H5 l (.frz ob (.tup (ys ++ zs)))) l (ys ++ zs) := .inl (.inr ⟨ob, upd_same⟩)
        have hA2 := kl.dpAll _ _ hA
        generalize upd H5 l (.frz ob (.tup (ys ++ zs))) = H6 at kl hl2 hA2 nq0
        have kq := K0.new nq0 (o := .tup [.int (n + 1), .ref l])
        exact q q0 _ (((((k12.trans k3).trans k4).trans kc).trans kl).trans kq) ⟨l, _, (), .inl (.inl upd_same), kq.sqT hl2, trivial, trivial, kq.dpAll _ _ hA2⟩
    refine ⟨_, rfl, r, rfl, ⟨xs, h2⟩, fun D nD => ?_⟩
    refine lc_tup (xs := xs) (fun j H2 => K0 H' H2 ∧ ∃ ys, H2 D = some (.lst ys) ∧ Roads K H2 ys ((rs.take j).filter (stands kps))) ⟨K0.new nD, [], upd_same, .nil⟩ (fun j H2 hj h => h.1.sqT h2) (fun j x H2 hx h => ?_) (fun H2 h => ?_)
    · obtain ⟨k, ys, hD, hR⟩ := h
      obtain ⟨t, q1, hrd, rfl, hs0⟩ := road_at h3 hx
      have hs := k.sqT hs0
      have hd2 := k.oth d _ hd1 (fun _ z => by cases z)
      have hys : ys.length ≤ 156 := by
        have h1 := hR.len
        have h2 := filtS_len kps rs j
        omega
      have ft := filtS_take (kps := kps) hrd
      refine ⟨q1, _, rfl, hs, rfl, _, _, rfl, _, _, rfl, _, _, rfl, _, _, rfl, rfl, rfl, ?_⟩
      refine ⟨_, rfl, _, rfl, d, _, rfl, .inl ⟨kvs, .inl t.s, .inl hd2, rfl, rfl⟩, _, rfl, ?_⟩
      rw [hK1.isS hO.nodup]
      by_cases hsk : t.s ∈ kps.map (·.1)
      · rw [decide_eq_true hsk]
        refine iteT ⟨_, rfl, _, rfl, d, _, rfl, .inl ⟨kvs, .inl t.e, .inl hd2, rfl, rfl⟩, _, rfl, ?_⟩
        rw [hK1.isS hO.nodup]
        by_cases hek : t.e ∈ kps.map (·.1)
        · rw [decide_eq_true hek]
          refine iteT ⟨_, rfl, _, rfl, _, rfl, _, rfl, by show 4 ≤ sizeLine; decide, fun tp ntp => ?_⟩
          have kT : K0 H2 (upd H2 tp (.tup [.int t.s, .int t.e, .int t.c, .int t.l])) := K0.new ntp
          have hD2 := kT.oth D _ hD (fun _ z => by cases z)
          refine ⟨ys, hD2, Nat.lt_of_le_of_lt (m := 5000) (by omega) (by decide), (k.trans kT).mut nD, ys ++ [.ref tp], upd_same, ?_⟩
          have hst : stands kps t = true := by unfold stands; rw [decide_eq_true hsk, decide_eq_true hek]; rfl
          rw [ft, if_pos hst]
          exact (Kt.set hD2).roads (Roads.snoc (r := t) (kT.dpAll _ _ hR) (.inl (.inl upd_same)))
        · rw [decide_eq_false hek]
          have hst : ¬ stands kps t = true := by unfold stands; rw [decide_eq_false hek, Bool.and_false]; exact Bool.false_ne_true
          exact iteF ⟨k, ys, hD, by rw [ft, if_neg hst, List.append_nil]; exact hR⟩
      · rw [decide_eq_false hsk]
        have hst : ¬ stands kps t = true := by unfold stands; rw [decide_eq_false hsk, Bool.false_and]; exact Bool.false_ne_true
        exact iteF (iteF ⟨k, ys, hD, by rw [ft, if_neg hst, List.append_nil]; exact hR⟩)
    · obtain ⟨k, ys, hD, hR⟩ := h
      rw [List.take_of_length_le (by omega)] at hR
      exact ⟨D, ys, rfl, k, hD, hR⟩
def spASend (K : PySem.W.Frag) : Sp := fun vs H Q _ => ∃ (a d : Addr) (n : Int) (rs : List R4) (kvs : List (Key × V)) (kps : KpL) (m : Int), vs = [.ref a, .ref d, .int m] ∧ NetAt K H a n rs ∧ rs.length ≤ 156 ∧ n < 12 ∧ H d = some (.dK kvs) ∧ KVs K H kvs kps ∧ KpOk n kps ∧ ∀ (q : Addr) (H' : Hp), K0 H H' → NetAt K H' q (n + 1) (sendR n rs kps m) → Q (.ref q) H'
theorem ok_asend {f : Addr} {fd : FuncData} (F : Fun K "_law_asend_net" "_law_asend_net" sASend f fd) (m_tuple : mg "tuple" = none) (m_sorted : mg "sorted" = none) : FnOk P w K mg base CX0 1 f fd ["net", "kept", "number"] (spASend K) := by
  refine F.ok scASend (fun vs H Q E h => ?_) (fun cdv A outer s H vs Q E hr h => ?_)
  · obtain ⟨a, d, n, rs, kvs, kps, m, rfl, _⟩ := h
    rfl
  · obtain ⟨a, d, n, rs, kvs, kps, m, rfl, hN, hl, hn, hd, hK, hO, q⟩ := h
    have hu := hu_of hr
    refine ⟨_, (pss_cons (ps_setLc (i := 3) (own := [("road", 5)]) (g := (gName 5)) (tt := (tAnd (tB (tDIn (tOp (rIxT K) (tVar 5) (tC (.int 0))) (tVar 1))) (tB (tDIn (tOp (rIxT K) (tVar 5) (tC (.int 1))) (tVar 1))))) (te := (tVar 5)) rfl scASend.nd rfl rfl (sw_true rfl rfl rfl rfl) (pi_tup (pe_ix ix_tup (pv 0) pe_int (fun _ _ => rfl))) (blkOk_by (N := N_scASend) (sc := defScope sASend) (by decide +kernel)) (fun _ _ _ _ _ => (pg_name (i := 5) scASend.nd rfl (.inl rfl))) (fun _ _ _ _ _ => (pts_one (PW.pt (pw_and (pt_cmp (pc_din hu (pe_ix ix_tup (pv 5) pe_int (fun _ _ => rfl)) (pv 1))) (pw_and1 (pt_cmp (pc_din hu (pe_ix ix_tup (pv 5) pe_int (fun _ _ => rfl)) (pv 1)))))))) (fun _ _ _ _ _ => (pv 5)))
      (pss_cons (ps_setLc (i := 4) (own := [("place", 6)]) (g := (gName 6)) (tt := (tTest (tOp (rIn K false) (tVar 2) (tDGet (tVar 1) (tVar 6))))) (te := (tTup (tCons (tOp (rIxT K) (tVar 0) (tC (.int 0))) (tCons (tVar 6) (tCons (tC (.int 0)) (tCons (tC (.int 1)) tNil)))))) rfl scASend.nd rfl rfl (sw_true rfl rfl rfl rfl) (pi_list (pe_callB (call_sortedDI rfl) (by rfl) m_sorted boot_sorted (pa_cons (pv 1) pa_nil))) (blkOk_by (N := N_scASend) (sc := defScope sASend) (by decide +kernel)) (fun _ _ _ _ _ => (pg_name (i := 6) scASend.nd rfl (.inl rfl))) (fun _ _ _ _ _ => (pts_one (pt_cmpR op_in_seq (pv 2) (pe_dget hu (pv 1) (pv 6) (fun _ _ => rfl)) rfl))) (fun _ _ _ _ _ => (pe_tup (pa_cons (pe_ix ix_tup (pv 0) pe_int (fun _ _ => rfl)) (pa_cons (pv 6) (pa_cons pe_int (pa_cons pe_int pa_nil)))))))
      (pss_one (ps_ret (pe_tup (pa_cons (pe_op op_add (pe_ix ix_tup (pv 0) pe_int (fun _ _ => rfl)) pe_int) (pa_cons (pe_callTy call_tuple_fz (by rfl) m_tuple (by decide +kernel) (pa_cons (pe_op op_cat (pv 3) (pv 4)) pa_nil)) pa_nil))))))), ?_⟩
    obtain ⟨r, xs, o, h1, h2, _, _, h3⟩ := id hN
    have hrl : xs.length = rs.length := h3.len
    have hkl := hO.len (by omega)
    refine ⟨_, rfl, a, _, 1, .ref r, rfl, rfl, h1, atI_nat (j := 1) rfl, r, rfl, ⟨xs, h2⟩, fun D nD => ?_⟩
    refine lc_tup (xs := xs) (fun j H2 => K0 H H2 ∧ ∃ ys, H2 D = some (.lst ys) ∧ Roads K H2 ys ((rs.take j).filter (stands kps))) ⟨K0.new nD, [], upd_same, .nil⟩ (fun j H2 hj h => h.1.sqT h2) (fun j x H2 hx h => ?_) (fun H2 h => ?_)
    · obtain ⟨k, ys, hD, hR⟩ := h
      obtain ⟨t, q1, hrd, rfl, hs0⟩ := road_at h3 hx
      have hs := k.sqT hs0
      have hd2 := k.oth d _ hd (fun _ z => by cases z)
      have hys : ys.length ≤ 156 := by
        have h1 := hR.len
        have h2 := filtS_len kps rs j
        omega
      have ft := filtS_take (kps := kps) hrd
      refine ⟨rfl, _, rfl, q1, _, 0, .int t.s, rfl, rfl, hs, atI_nat (j := 0) rfl, _, rfl, d, _, rfl, .inl ⟨kvs, .inl t.s, .inl hd2, rfl, rfl⟩, _, rfl, ?_⟩
      rw [hK.isS hO.nodup]
      by_cases hsk : t.s ∈ kps.map (·.1)
      · rw [decide_eq_true hsk]
        refine iteT ⟨_, rfl, q1, _, 1, .int t.e, rfl, rfl, hs, atI_nat (j := 1) rfl, _, rfl, d, _, rfl, .inl ⟨kvs, .inl t.e, .inl hd2, rfl, rfl⟩, _, rfl, ?_⟩
        rw [hK.isS hO.nodup]
        by_cases hek : t.e ∈ kps.map (·.1)
        · rw [decide_eq_true hek]
          refine iteT ⟨_, rfl, ys, hD, Nat.lt_of_le_of_lt (m := 5000) (by omega) (by decide), k.mut nD, ys ++ [.ref q1], upd_same, ?_⟩
          have hst : stands kps t = true := by unfold stands; rw [decide_eq_true hsk, decide_eq_true hek]; rfl
          rw [ft, if_pos hst]
          exact (Kt.set hD).roads (Roads.snoc (r := t) hR hs)
        · rw [decide_eq_false hek]
          have hst : ¬ stands kps t = true := by unfold stands; rw [decide_eq_false hek, Bool.and_false]; exact Bool.false_ne_true
          exact iteF ⟨k, ys, hD, by rw [ft, if_neg hst, List.append_nil]; exact hR⟩
      · rw [decide_eq_false hsk]
        have hst : ¬ stands kps t = true := by unfold stands; rw [decide_eq_false hsk, Bool.false_and]; exact Bool.false_ne_true
        exact iteF (iteF ⟨k, ys, hD, by rw [ft, if_neg hst, List.append_nil]; exact hR⟩)
    · obtain ⟨k, ys, hD, hR⟩ := h
      rw [List.take_of_length_le (by omega)] at hR
      have hd2 := k.oth d _ hd (fun _ z => by cases z)
      have hK2 := hK.k0 k
      refine ⟨_, rfl, d, kvs, kps.map (·.1), rfl, .inl hd2, hK.keysI, by rw [List.length_map]; omega, fun us sp perm up nsp => ?_⟩
      obtain rfl := sorted_keys hO perm up
      have ks := K0.new nsp (o := .lst ((kps.map (·.1)).map V.int))
      have hS : upd H2 sp (.lst ((kps.map (·.1)).map V.int)) sp = some (.lst ((kps.map (·.1)).map V.int)) := upd_same
      generalize upd H2 sp (.lst ((kps.map (·.1)).map V.int)) = H3 at ks hS ⊢
      have k3 := k.trans ks
      refine ⟨sp, rfl, ⟨_, .inl (.inl hS)⟩, fun D2 nD2 => ?_⟩
      have hD3 := ks.oth D _ hD (fun _ z => by cases z)
      have hR3 := ks.dpAll _ _ hR
      refine lc_list (K := K) (a := sp) (xs := (kps.map (·.1)).map V.int) (fun j H4 => K0 H3 H4 ∧ ∃ zs, H4 D2 = some (.lst zs) ∧ Roads K H4 zs ((keepK (kps.take j) m).map fun p => ⟨n, p, 0, 1⟩)) ⟨K0.new nD2, [], upd_same, .nil⟩ (fun j H4 hj h => .inl (.inl (h.1.oth sp _ hS (fun _ z => by cases z)))) (fun j x H4 hx h => ?_) (fun H4 h => ?_)
      · obtain ⟨k4, zs, hz, hZ⟩ := h
        rw [List.getElem?_map, List.getElem?_map] at hx
        obtain ⟨p0, hp0, rfl⟩ := Option.map_eq_some_iff.mp hx
        obtain ⟨⟨p, ms⟩, e0, rfl⟩ := Option.map_eq_some_iff.mp hp0
        have k34 := k3.trans k4
        obtain ⟨q1, e1, hq⟩ := (hK.k0 k34).val hO.nodup (List.mem_of_getElem? e0)
        have hd4 := k34.oth d _ hd (fun _ z => by cases z)
        have lz := hZ.len
        rw [List.length_map] at lz
        have l2 := keep_len (kps.take j) m
        have l3 := List.length_take_le' j kps
        refine ⟨rfl, _, rfl, _, rfl, _, rfl, d, .ref q1, rfl, .inl ⟨kvs, .inl p, .inl hd4, rfl, e1.symm⟩, q1, _, rfl, .inr hq, rfl, ?_, _, rfl, ?_⟩
        · rw [List.all_map]
          exact List.all_eq_true.mpr fun _ _ => rfl
        · rw [keep_succ e0]
          show if (inV (V.int m) (ms.map V.int)) = true then _ else _
          rw [inI]
          by_cases hm : m ∈ ms
          · rw [decide_eq_true hm, if_pos hm]
            refine iteT ⟨_, rfl, a, _, 0, .int n, rfl, rfl, k34.sqT h1, atI_nat (j := 0) rfl, _, rfl, by show 4 ≤ sizeLine; decide, fun tp ntp => ?_⟩
            have kT : K0 H4 (upd H4 tp (.tup [.int n, .int p, .int 0, .int 1])) := K0.new ntp
            have hz2 := kT.oth D2 _ hz (fun _ z => by cases z)
            refine ⟨zs, hz2, by rw [sizeLine_eq]; omega, (k4.trans kT).mut nD2, zs ++ [.ref tp], upd_same, ?_⟩
            rw [List.map_append]
            exact (Kt.set hz2).roads (Roads.snoc (r := ⟨n, p, 0, 1⟩) (kT.dpAll _ _ hZ) (.inl (.inl upd_same)))
          · rw [decide_eq_false hm, if_neg hm, List.append_nil]
            exact iteF ⟨k4, zs, hz, hZ⟩
      · obtain ⟨k4, zs, hz, hZ⟩ := h
        rw [List.length_map, List.length_map, List.take_length] at hZ
        have hD4 := k4.oth D _ hD3 (fun _ z => by cases z)
        have hR4 := k4.dpAll _ _ hR3
        have l1 := hR.len
        have l1b := filtS_len kps rs rs.length
        rw [List.take_length] at l1b
        have l2 := hZ.len
        rw [List.length_map] at l2
        have l3 := keep_len kps m
        have k34 := k3.trans k4
        refine ⟨_, rfl, a, _, 0, .int n, rfl, rfl, k34.sqT h1, atI_nat (j := 0) rfl, n, 1, rfl, rfl, _, rfl, _, rfl, D, D2, ys, zs, rfl, rfl, hD4, hz, by rw [sizeLine_eq]; omega, fun pc npc => ?_⟩
        have kc := K0.new npc (o := .lst (ys ++ zs))
        have hA := kc.dpAll _ _ (roads_app hR4 hZ)
        have hpc : upd H4 pc (.lst (ys ++ zs)) pc = some (.lst (ys ++ zs)) := upd_same
        generalize upd H4 pc (.lst (ys ++ zs)) = H5 at kc hA hpc ⊢
        refine ⟨pc, _, rfl, .inl (.inl hpc), fun l ob nl _ _ => ⟨by show 2 ≤ sizeLine; decide, fun q0 nq0 => ?_⟩⟩
        have kl := K0.new nl (o := .frz ob (.tup (ys ++ zs)))
        have hl2 : SqT K (upd H5 l (.frz ob (.tup (ys ++ zs)))) l (ys ++ zs) := .inl (.inr ⟨ob, upd_same⟩)
        have hA2 := kl.dpAll _ _ hA
        generalize upd H5 l (.frz ob (.tup (ys ++ zs))) = H6 at kl hl2 hA2 nq0
        have kq := K0.new nq0 (o := .tup [.int (n + 1), .ref l])
        exact q q0 _ (((k34.trans kc).trans kl).trans kq) ⟨l, _, (), .inl (.inl upd_same), kq.sqT hl2, trivial, trivial, kq.dpAll _ _ hA2⟩
end
end HK

set_option Elab.async false
set_option linter.all false
set_option maxRecDepth 100000
set_option maxHeartbeats 4000000
namespace HK
open PySem PySem.Spec PyProof.Rows L2 GAl GxR
open Evl (pss_cut)
abbrev sAKept : Stmt := topS 32
abbrev N_scAKept : List Str := ["tape", "n", "many", "kept", "place", "number"]
theorem scAKept : FnScope N_scAKept ["tape", "n", "many"] (defScope sAKept) := ⟨rfl, rfl, rfl, by decide +kernel, rfl, by decide +kernel, by decide +kernel⟩
section
variable {P : Program} {w : World} {K : PySem.W.Frag} {mg : Str → Option Value} {base : Heap}
def spAKept (K : PySem.W.Frag) : Sp := fun vs H Q _ => ∃ (t : Addr) (n many : Int), vs = [.ref t, .int n, .int many] ∧ TpA H t ∧ 1 ≤ n ∧ n ≤ 12 ∧ 0 ≤ many ∧ many ≤ 10 ∧
  ∀ (d : Addr) (kvs : List (Key × V)) (kps : KpL) (H' : Hp), Kt t H H' → TpA H' t → H d = none → H' d = some (.dK kvs) → KVs K H' kvs kps → KpOk n kps → Q (.ref d) H'
theorem ok_akept {f : Addr} {fd : FuncData} {f_adigit : Addr} {fd_adigit : FuncData} (F : Fun K "_law_akept" "_law_akept" sAKept f fd) (k_adigit : PySem.W.keepIn K (.ref f_adigit) = true) (b_adigit : Binds K fd_adigit ["tape", "many"] []) (g_adigit : mg "_law_adigit" = some (.ref f_adigit)) (G_adigit : FnOk P w K mg base CX0 1 f_adigit fd_adigit ["tape", "many"] (spADigit)) (m_range : mg "range" = none) (m_tuple : mg "tuple" = none) : FnOk P w K mg base CX0 2 f fd ["tape", "n", "many"] (spAKept K) := by
  refine F.ok scAKept (fun vs H Q E h => ?_) (fun cdv A outer s H vs Q E hr h => ?_)
  · obtain ⟨t, n, many, rfl, _⟩ := h
    rfl
  · obtain ⟨t, n, many, rfl, T, n1, n2, m0, m1, q⟩ := h
    have hu := hu_of hr
    refine ⟨_, (pss_cons (ps_set (i := 3) scAKept.nd rfl (.inl rfl) pe_dnewK)
      (pss_cons (ps_for PassesOwn.never rfl (pi_range1 (by rfl) m_range (pa_cons (pv 1) pa_nil)) (pg_name (i := 4) scAKept.nd rfl (.inl rfl))
      (pss_one (ps_if (pt_cmpR op_gt (pe_call G_adigit (hr.mono (by decide)) (by rfl) g_adigit k_adigit b_adigit .nil pass0 (pa_cons (pv 0) (pa_cons pe_int pa_nil))) pe_int (nomark _)) (pss_one (ps_dput hu (pv 3) (pv 4) (pe_callTy call_tuple_fz (by rfl) m_tuple (by decide +kernel) (pa_cons (pe_lc (own := [("number", 5)]) (g := (gName 5)) (tt := (tTest (tOp rEq (tCall (spADigit) [] E0 (tCons (tVar 0) (tCons (tC (.int 3)) tNil))) (tC (.int 0))))) (te := (tVar 5)) rfl scAKept.nd (pi_range1 (by rfl) m_range (pa_cons (pv 2) pa_nil)) (blkOk_by (N := N_scAKept) (sc := defScope sAKept) (by decide +kernel)) (fun _ _ _ _ _ => (pg_name (i := 5) scAKept.nd rfl (.inl rfl))) (fun _ _ _ _ _ => (pts_one (pt_cmpR op_eq (pe_call G_adigit (hr.mono (by decide)) (by rfl) g_adigit k_adigit b_adigit .nil pass0 (pa_cons (pv 0) (pa_cons pe_int pa_nil))) pe_int (nomark _)))) (fun _ _ _ _ _ => (pv 5))) pa_nil)) rfl)) pss_nil)))
      (pss_one (ps_ret (pv 3))))), ?_⟩
    refine fun d nd => ?_
    have k1 := K0.new nd (o := .dK [])
    have hd1 : upd H d (.dK []) d = some (.dK []) := upd_same
    have T1 := T.k0 k1
    generalize upd H d (.dK []) = H1 at k1 hd1 T1 ⊢
    have hdt : d ≠ t := T.ne nd
    refine ⟨_, rfl, n, rfl, by omega, by omega, for_range (lo := 0) (n := n.toNat) (fun i σ' H' => ∃ y4 y5, σ' = [some (.ref t), some (.int n), some (.int many), some (.ref d), y4, y5] ∧ Kt t H H' ∧ TpA H' t ∧ ∃ (kvs : List (Key × V)) (kps : KpL), H' d = some (.dK kvs) ∧ KVs K H' kvs kps ∧ KpOk n kps ∧ ∀ p ∈ kps, p.1 < (i : Int))
      ⟨none, none, rfl, k1.kt, T1, [], [], hd1, ⟨rfl, (fun i p ms e => by cases e)⟩, ⟨.nil, (fun p h => by cases h), (fun p h => by cases h), (fun p h => by cases h), (fun p h => by cases h)⟩, (fun p h => by cases h)⟩ (fun i σ' H' hi h => ?_) (fun σ' H' h => ?_)⟩
    · obtain ⟨y4, y5, rfl, k2, T2, kvs, kps, hd2, hK, hO, hlt⟩ := h
      have hin : (i : Int) < n := by omega
      refine ⟨_, rfl, t, 5, rfl, T2, by omega, by omega, fun d5 H3 a0 a1 k3 T3 => ⟨d5, 0, rfl, rfl, _, rfl, ite2 (fun e => ?_) (fun e => ?_)⟩⟩
      rotate_left
      · exact ⟨_, _, rfl, k2.trans k3, T3, kvs, kps, k3.oth d _ hd2 hdt (fun _ z => by cases z), hK.kt k3, hO, fun p hp => by have := hlt p hp; omega⟩
      have hd3 := k3.oth d _ hd2 hdt (fun _ z => by cases z)
      have hK3 := hK.kt k3
      refine ⟨_, rfl, many, rfl, by omega, by omega, fun D nD => ?_⟩
      have hDt : D ≠ t := T3.ne nD
      refine lc_range (lo := 0) (n := many.toNat) (fun j H4 => Kt t H3 H4 ∧ TpA H4 t ∧ ∃ l : List Int, H4 D = some (.lst (l.map V.int)) ∧ l.Pairwise (· < ·) ∧ (∀ v ∈ l, 0 ≤ v ∧ v < (j : Int)) ∧ l.length ≤ j) ⟨(K0.new nD).kt, T3.k0 (K0.new nD), [], upd_same, List.Pairwise.nil, (fun v hv => (by cases hv)), Nat.le_refl _⟩ (fun j H4 hj h => ?_) (fun H4 h => ?_)
      · obtain ⟨k4, T4, l, hl, hup, hb, hlen⟩ := h
        have hj10 : j < 10 := by omega
        refine ⟨rfl, _, rfl, t, 3, rfl, T4, by omega, by omega, fun d3 H5 b0 b1 k5 T5 => ⟨rfl, _, rfl, ?_⟩⟩
        have hl5 := k5.oth D _ hl hDt (fun _ z => by cases z)
        refine ite2 (fun _ => ?_) (fun _ => ⟨k4.trans k5, T5, l, hl5, hup, fun v hv => by have := hb v hv; omega, by omega⟩)
        refine ⟨_, rfl, _, hl5, ?_, (k4.trans k5).mut nD, T5.mut hDt, l ++ [(j : Int)], ?_, ?_, ?_, ?_⟩
        · rw [List.length_map, sizeLine_eq]; omega
        · rw [upd_same, List.map_append, Int.zero_add]; rfl
        · exact List.pairwise_append.mpr ⟨hup, List.pairwise_singleton _ _, fun a ha b hb2 => by
            rw [List.mem_singleton.mp hb2]
            exact (hb a ha).2⟩
        · intro v hv
          rcases List.mem_append.mp hv with hv | hv
          · have := hb v hv; omega
          · rw [List.mem_singleton.mp hv]; omega
        · rw [List.length_append]; show l.length + 1 ≤ j + 1; omega
      · obtain ⟨k4, T4, l, hl, hup, hb, hlen⟩ := h
        refine ⟨D, _, rfl, .inl (.inl hl), fun q1 ob nq _ _ => ?_⟩
        have kq := K0.new nq (o := .frz ob (.tup (l.map V.int)))
        have hq : SqT K (upd H4 q1 (.frz ob (.tup (l.map V.int)))) q1 (l.map V.int) := .inl (.inr ⟨ob, upd_same⟩)
        have T5 := T4.k0 kq
        have k35 := k4.trans kq.kt
        generalize upd H4 q1 (.frz ob (.tup (l.map V.int))) = H5 at kq hq T5 k35 ⊢
        have hd5 := k35.oth d _ hd3 hdt (fun _ z => by cases z)
        have hK5 := hK3.kt k35
        have hno : valV kvs (.inl (i : Int)) = none := by
          have hn : (i : Int) ∉ kps.map (·.1) := fun hm => by
            obtain ⟨p, hp, e⟩ := List.mem_map.mp hm
            have := hlt p hp
            omega
          have := hK.isS hO.nodup (i : Int)
          rw [decide_eq_false hn] at this
          cases e : valV kvs (.inl (i : Int)) with
          | none => rfl
          | some v => rw [e] at this; cases this
        have hput : putK kvs (.inl (i : Int)) (.ref q1) = kvs ++ [(.inl (i : Int), .ref q1)] := by
          unfold putK
          rw [valV_any, hno]
          rfl
        have hkl : kvs.length ≤ 12 := by rw [hK.1]; exact hO.len n2
        have e0 : (0 : Int) + (i : Int) = (i : Int) := Int.zero_add _
        refine ⟨_, rfl, _, rfl, d, _, rfl, DPut.k (k := .inl ((0 : Int) + (i : Int))) hd5 (by rw [sizeLine_eq]; omega), _, _, rfl, ?_, ?_, _, kps ++ [((i : Int), l)], upd_same, ?_, ?_, ?_⟩
        · exact (k2.trans (k3.trans k35)).mut nd
        · exact T5.mut hdt
        · rw [e0, hput]
          refine ⟨by rw [List.length_append, List.length_append, hK.1]; rfl, fun j p ms e => ?_⟩
          by_cases hj : j < kps.length
          · rw [List.getElem?_append_left hj] at e
            obtain ⟨q2, a, b⟩ := hK5.2 j p ms e
            exact ⟨q2, by rw [List.getElem?_append_left (by rw [hK.1]; exact hj)]; exact a, sqT_lock b hd5⟩
          · rw [List.getElem?_append_right (by omega)] at e
            have hj0 : j - kps.length = 0 := by
              cases hh : j - kps.length with
              | zero => rfl
              | succ k => rw [hh] at e; cases e
            rw [hj0] at e
            cases e
            exact ⟨q1, by rw [List.getElem?_append_right (by rw [hK.1]; omega), hK.1, hj0]; rfl, sqT_lock hq hd5⟩
        · refine ⟨?_, fun p hp => ?_, fun p hp => ?_, fun p hp => ?_, fun p hp => ?_⟩
          · rw [List.map_append]
            exact List.pairwise_append.mpr ⟨hO.up, List.pairwise_singleton _ _, fun a ha b hb2 => by
              obtain ⟨p, hp, rfl⟩ := List.mem_map.mp ha
              rw [List.mem_singleton.mp hb2]
              exact hlt p hp⟩
          · rcases List.mem_append.mp hp with hp | hp
            · exact hO.inn p hp
            · rw [List.mem_singleton.mp hp]; exact ⟨by show (0 : Int) ≤ i; omega, hin⟩
          · rcases List.mem_append.mp hp with hp | hp
            · exact hO.up2 p hp
            · rw [List.mem_singleton.mp hp]; exact hup
          · rcases List.mem_append.mp hp with hp | hp
            · exact hO.nn p hp
            · rw [List.mem_singleton.mp hp]; exact fun v hv => (hb v hv).1
          · rcases List.mem_append.mp hp with hp | hp
            · exact hO.few p hp
            · rw [List.mem_singleton.mp hp]; show l.length ≤ 10; omega
        · intro p hp
          rcases List.mem_append.mp hp with hp | hp
          · have := hlt p hp; omega
          · rw [List.mem_singleton.mp hp]; show (i : Int) < ((i + 1 : Nat) : Int); omega
    · obtain ⟨y4, y5, rfl, k2, T2, kvs, kps, hd2, hK, hO, hlt⟩ := h
      exact ⟨_, rfl, q d kvs kps H' k2 T2 nd hd2 hK hO⟩
end
end HK

set_option Elab.async false
set_option linter.all false
set_option maxRecDepth 100000
set_option maxHeartbeats 2000000
namespace HK
open PySem PySem.Spec PyProof.Rows L2 GAl GxR
abbrev sAWhole : Stmt := topS 30
abbrev N_scAWhole : List Str := ["found"]
theorem scAWhole : FnScope N_scAWhole ["found"] (defScope sAWhole) := ⟨rfl, rfl, rfl, by decide +kernel, rfl, by decide +kernel, by decide +kernel⟩
section
variable {P : Program} {w : World} {K : PySem.W.Frag} {mg : Str → Option Value} {base : Heap}
theorem ok_awhole {f : Addr} {fd : FuncData} (F : Fun K "_law_awhole" "_law_awhole" sAWhole f fd) (m_isinstance : mg "isinstance" = none) (m_int : mg "int" = none) (m_bool : mg "bool" = none) : FnOk P w K mg base CX0 1 f fd ["found"] (spWhole K) := by
  refine F.ok scAWhole (fun vs H Q E h => ?_) (fun cdv A outer s H vs Q E hr h => ?_)
  · obtain ⟨x, d, rfl, _⟩ := h
    rfl
  · obtain ⟨x, d, rfl, hd, q⟩ := h
    refine ⟨_, (pss_one (ps_ret (pe_and (pe_callB call_isi (by rfl) m_isinstance boot_isinstance (pa_cons (pv 0) (pa_cons (pe_bltn (v := .ty "int") (by rfl) m_int (by decide +kernel) rfl) pa_nil))) (pe_one (pe_not (pe_callB call_isi (by rfl) m_isinstance boot_isinstance (pa_cons (pv 0) (pa_cons (pe_bltn (v := .ty "bool") (by rfl) m_bool (by decide +kernel) rfl) pa_nil)))))))), ?_⟩
    refine ⟨x, rfl, x, .ty "int", _, _, _, rfl, .ty "int", dp_ty hd, kit_ty (tys_int (tyD_mem d)), _, rfl, ite2 (fun e => ?_) (fun e => ?_)⟩
    · refine ⟨x, rfl, x, .ty "bool", _, _, _, rfl, .ty "bool", dp_ty hd, kit_ty (tys_bool (tyD_mem d)), _, rfl, ?_⟩
      exact qeq q (by rw [← whole_ty d, e, Bool.true_and])
    · have e' : (tyD d == "int" || tyD d == "bool") = false := by simpa using e
      exact qeq q (by rw [← whole_ty d, e', Bool.false_and])
end
end HK

set_option Elab.async false
set_option linter.all false
set_option maxRecDepth 100000
set_option maxHeartbeats 2000000
/-! xs != ys of two lists whose items are equal, dicts among them -/
namespace PySem.SeqAt
open AutoSeq1 (wpAny_loadPart')
open MeetsSeq MeetsSeq2 MeetsSeq3 SeqRoads2
section
variable {prog : Program} {w : World}
theorem hk_neLoop (l b : Addr) (us ws : Array Value) (n n2 : Nat) (dd dd2 : Option Addr) (sl sl2 : Array (Option Value)) (hsz : us.size = ws.size) : ∀ k i : Nat, us.size - i = k →
    MeetsIn prog w (Builtin.«list.__eq__.loop» ⟨[.ref l, .ref b, rawInt i, rawInt 3], []⟩) (fun A R s => (s.heap.get? l = some { cls := .type "list", dict := dd, data := .seq us n, slots := sl }) ∧
      (s.heap.get? b = some { cls := .type "list", dict := dd2, data := .seq ws n2, slots := sl2 }) ∧ (∀ j (h1 : j < us.size) (h2 : j < ws.size), EqP prog w A.in1 s us[j] ws[j] true) ∧ R (.ok (.ret (.bool false))) s) := by
  intro k
  induction k with
  | zero =>
    intro i hk A R ⟨hp, g, d, tk, os⟩ ⟨hl, hb, he, h⟩
    wp_walk using wpAny_loadPart' hl, wpAny_loadPart' hb
    rw [show us[((i : Nat) : Int).toNat]? = none by simp; omega, show ws[((i : Nat) : Int).toNat]? = none by simp; omega]
    wp_walk using wpAny_loadPart' hl, wpAny_loadPart' hb
    show R (.ok (.ret (.bool (us.size != ws.size)))) _
    rw [hsz]
    simpa using h
  | succ k ih =>
    intro i hk A R ⟨hp, g, d, tk, os⟩ ⟨hl, hb, he, h⟩
    wp_walk using wpAny_loadPart' hl, wpAny_loadPart' hb
    have l1 : i < us.size := by omega
    have l2 : i < ws.size := by omega
    rw [show us[((i : Nat) : Int).toNat]? = some us[i] by simp [l1], show ws[((i : Nat) : Int).toNat]? = some ws[i] by simp [l2]]
    refine wpAny_bind (he i l1 l2 _ _ ?_)
    wp_walk
    rw [show ((i : Int) + 1) = ((i + 1 : Nat) : Int) by push_cast; rfl]
    refine ⟨plainId_quiet plain_eq_loop _, codeAny_builtin entry_eq_loop ?_⟩
    rw [Around.under_plainId plain_eq_loop _]
    exact ih (i + 1) (by omega) A R _ ⟨hl, hb, he, h⟩
theorem hk_neLists (l b : Addr) (us ws : Array Value) (n n2 : Nat) (dd dd2 : Option Addr) (sl sl2 : Array (Option Value)) (hsz : us.size = ws.size) :
    MeetsIn prog w (Builtin.«list.__ne__» ⟨[.ref l, .ref b], []⟩) (fun A R s => (s.heap.get? l = some { cls := .type "list", dict := dd, data := .seq us n, slots := sl }) ∧
      (s.heap.get? b = some { cls := .type "list", dict := dd2, data := .seq ws n2, slots := sl2 }) ∧ (∀ j (h1 : j < us.size) (h2 : j < ws.size), EqP prog w A.in1 s us[j] ws[j] true) ∧ R (.ok (.ret (.bool false))) s) := by
  intro A R ⟨hp, g, d, tk, os⟩ ⟨hl, hb, he, h⟩
  have f3 := AutoSeq1.sub_list_list
  have hne : ¬ (us.size != ws.size) = true := by simp [hsz]
  wp_walk using wpAny_loadPart' hl, wpAny_loadPart' hb
  refine ⟨plainId_quiet plain_eq_loop _, codeAny_builtin entry_eq_loop ?_⟩
  rw [Around.under_plainId plain_eq_loop _]
  exact hk_neLoop l b us ws n n2 dd dd2 sl sl2 hsz _ 0 rfl A R _ ⟨hl, hb, he, h⟩
end
end PySem.SeqAt
namespace HkL
open PySem PySem.Spec PyProof.Rows L2
section
variable {X : Cx}
/-- two lists of equal items -/
def rNeL (K : PySem.W.Frag) : R2 := fun x y H Q => ∃ (n : Nat) (a b : Addr) (xs ys : List V), n ≤ 50 ∧ x = .ref a ∧ y = .ref b ∧ SqL K H a xs ∧ SqL K H b ys ∧ Paired (EqV K H n) xs ys ∧ Q (.bl false) H
theorem op_neL (hu : X.A.units + 64 < cLine) : OpR X (compareOp .NotEq) (rNeL X.K) := by
  intro pins s σ H x y v u Q I rx ry h
  obtain ⟨n, a, b, xs, ys, hn, rfl, rfl, ha, hb, hp, q⟩ := h
  cases (show v = Value.ref a from rx)
  cases (show u = Value.ref b from ry)
  obtain ⟨us, r1, p1, _⟩ := I.list ha
  obtain ⟨ws, r2, p2, _⟩ := I.list hb
  obtain ⟨⟨cls, dd, data, sl⟩, ho, hc, m, hd⟩ := id p1.isList
  obtain ⟨⟨cls2, dd2, data2, sl2⟩, ho2, hc2, m2, hd2⟩ := id p2.isList
  simp only at hc hd hc2 hd2
  subst hc hd hc2 hd2
  have hsz : us.toArray.size = ws.toArray.size := by
    rw [List.size_toArray, List.size_toArray, ← r1.length, ← r2.length]
    exact Paired.length hp
  have ta : s.TypeIs (.ref a) "list" := ⟨_, ho, rfl⟩
  have tb : s.TypeIs (.ref b) "list" := ⟨_, ho2, rfl⟩
  refine wpAny_richCompare_same_room (op := .NotEq) ta tb F.slot_list_ne (call_meetsIn F.slot_list_ne ta F.entry_list_ne (F.args_list_ne_2 _ _) (SeqAt.hk_neLists a b us.toArray ws.toArray m m2 dd dd2 sl sl2 hsz)
    ⟨ho, ho2, fun j h1 h2 => ?_, show Value.bool false ≠ Value.notImplemented ∧ EP X pins σ Q (.bool false) s from ⟨(fun x => nomatch x), ⟨.bl false, H, I, rfl, q⟩⟩⟩) (by omega)
  have k := items_run (eqV_run I n X.A.in1 (by show X.A.units + 1 + n < cLine; omega)) hp r1 r2 j (by simpa using h1) (by simpa using h2)
  simpa using k
end
end HkL

set_option Elab.async false
set_option linter.all false
set_option maxRecDepth 100000
set_option maxHeartbeats 4000000
namespace HK
open PySem PySem.Spec PyProof.Rows L2 GAl GxR
open Evl (pss_cut)
abbrev sLaw : Stmt := topS 34
abbrev N_scLaw : List Str := ["script", "start", "tape", "net", "many", "kept", "row", "place", "standing", "greatest", "due", "handed", "found", "number", "told", "turn"]
theorem scLaw : FnScope N_scLaw ["script"] (defScope sLaw) := ⟨rfl, rfl, rfl, by decide +kernel, rfl, by decide +kernel, by decide +kernel⟩
theorem K0.withT {L : Addr} {H H1 H' : Hp} (k1 : K0 H H1) (nL : H L = none) (kl : Kt L H1 H') : K0 H H' := ⟨fun b o e m => kl.oth b o (k1.oth b o e m) (ne_of_none e nL) m, fun P hP => kl.tab P (k1.tab P hP), fun b e => k1.dom b (kl.dom b e)⟩
theorem eqvAll_r4 : ∀ ts : List R4, PyData.eqvAll (ts.map R4.d) (ts.map R4.d) = true
  | [] => rfl
  | t :: ts => by
    show (PyData.eqv t.d t.d && PyData.eqvAll (ts.map R4.d) (ts.map R4.d)) = true
    rw [eqvAll_r4 ts, Bool.and_true]
    show ((t.s == t.s) && ((t.e == t.e) && ((t.c == t.c) && ((t.l == t.l) && true)))) = true
    simp
theorem eqv_nt (n : Int) (ts : List R4) : PyData.eqv (nt (.int n) (ts.map R4.d)) (nt (.int n) (ts.map R4.d)) = true := by
  show ((n == n) && (PyData.eqvAll (ts.map R4.d) (ts.map R4.d) && true)) = true
  rw [eqvAll_r4]
  simp
theorem shaped_nt (n : Int) (ts : List R4) : SeqAt.shaped (nt (.int n) (ts.map R4.d)) = true := by
  have h1 : ∀ ts : List R4, PyData.canLayAll0 (ts.map R4.d) = true := fun ts => by
    induction ts with
    | nil => rfl
    | cons t r ih => rw [List.map_cons]; simp only [PyData.canLayAll0, ih, R4.d, PyData.canLay0, Bool.and_true]
  have h2 : ∀ ts : List R4, PyData.depthAll (ts.map R4.d) ≤ 2 := fun ts => by
    induction ts with
    | nil => decide
    | cons t r ih =>
      rw [List.map_cons]
      simp only [PyData.depthAll, R4.d, PyData.depth]
      omega
  show (PyData.canLay0 (nt (.int n) (ts.map R4.d)) && decide (PyData.depth (nt (.int n) (ts.map R4.d)) ≤ 64)) = true
  rw [Bool.and_eq_true, decide_eq_true_iff]
  refine ⟨by simp only [nt, PyData.canLay0, PyData.canLayAll0, h1 ts, Bool.and_true], ?_⟩
  have := h2 ts
  simp only [nt, PyData.depth, PyData.depthAll]
  omega
theorem NetAt.dp {K : PySem.W.Frag} {H : Hp} {a : Addr} {n : Int} {rs : List R4} (h : NetAt K H a n rs) : Dp K H (.ref a) (nt (.int n) (rs.map R4.d)) := by
  obtain ⟨r, xs, o, h1, h2, hc, hd, h3⟩ := h
  exact .tup h1 (.cons (.int _) (.cons (.tup h2 h3) .nil))
/-! what the law's own steps come to -/
def IsTop (kps : KpL) (g : Int) : Prop := (g = -1 ∨ ∃ p ∈ kps, g ∈ p.2) ∧ -1 ≤ g ∧ ∀ p ∈ kps, ∀ v ∈ p.2, v ≤ g
theorem IsTop.uniq {kps : KpL} {g h : Int} (a : IsTop kps g) (b : IsTop kps h) : g = h := by
  obtain ⟨a1, a2, a3⟩ := a
  obtain ⟨b1, b2, b3⟩ := b
  rcases a1 with rfl | ⟨p, hp, hg⟩
  · rcases b1 with rfl | ⟨p, hp, hh⟩
    · rfl
    · have := a3 p hp h hh; omega
  · have h1 := b3 p hp g hg
    rcases b1 with rfl | ⟨p2, hp2, hh⟩
    · omega
    · have h2 := a3 p2 hp2 h hh; omega
theorem fold_top : ∀ (l : List Int) (n : Int), (l.foldl max n = n ∨ l.foldl max n ∈ l) ∧ n ≤ l.foldl max n ∧ ∀ v ∈ l, v ≤ l.foldl max n
  | [], n => ⟨.inl rfl, Int.le_refl _, fun v h => by cases h⟩
  | a :: l, n => by
    obtain ⟨h1, h2, h3⟩ := fold_top l (max n a)
    rw [List.foldl_cons]
    refine ⟨?_, by omega, fun v hv => ?_⟩
    · rcases h1 with h1 | h1
      · rw [h1]
        by_cases hh : n ≤ a
        · rw [Int.max_eq_right hh]; exact .inr (List.mem_cons_self ..)
        · rw [Int.max_eq_left (by omega)]; exact .inl rfl
      · exact .inr (List.mem_cons_of_mem _ h1)
    · rcases List.mem_cons.mp hv with rfl | hv
      · omega
      · exact h3 v hv
theorem last_top {l : List Int} (h : l.Pairwise (· < ·)) {g : Int} (e : l.getLast? = some g) : g ∈ l ∧ ∀ v ∈ l, v ≤ g := by
  refine ⟨List.mem_of_getLast? e, fun v hv => ?_⟩
  have hne : l ≠ [] := fun z => by rw [z] at e; cases e
  have e2 : l = l.dropLast ++ [g] := by
    have := List.dropLast_concat_getLast hne
    rw [List.getLast?_eq_some_getLast hne] at e
    rw [← Option.some.inj e]
    exact this.symm
  rw [e2] at h hv
  rcases List.mem_append.mp hv with hv | hv
  · exact Int.le_of_lt ((List.pairwise_append.mp h).2.2 v hv g (List.mem_singleton.mpr rfl))
  · rw [List.mem_singleton.mp hv]; exact Int.le_refl _
theorem top_isTop {n : Int} {kps : KpL} (h : KpOk n kps) : IsTop kps (topK kps) := by
  have mem : ∀ g, g ∈ lastsK kps → ∃ p ∈ kps, p.2.getLast? = some g := fun g hg => List.mem_filterMap.mp hg
  have cov : ∀ p ∈ kps, ∀ v ∈ p.2, ∃ g ∈ lastsK kps, v ≤ g := fun p hp v hv => by
    have hne : p.2 ≠ [] := fun z => by rw [z] at hv; cases hv
    have e := List.getLast?_eq_some_getLast hne
    exact ⟨_, List.mem_filterMap.mpr ⟨p, hp, e⟩, (last_top (h.up2 p hp) e).2 v hv⟩
  unfold topK
  cases e : lastsK kps with
  | nil =>
    refine ⟨.inl rfl, Int.le_refl _, fun p hp v hv => ?_⟩
    obtain ⟨g, hg, _⟩ := cov p hp v hv
    rw [e] at hg; cases hg
  | cons a l =>
    obtain ⟨h1, h2, h3⟩ := fold_top l a
    have hm : l.foldl max a ∈ lastsK kps := by
      rw [e]
      rcases h1 with h1 | h1
      · rw [h1]; exact List.mem_cons_self ..
      · exact List.mem_cons_of_mem _ h1
    obtain ⟨p, hp, ep⟩ := mem _ hm
    have hg := (last_top (h.up2 p hp) ep).1
    refine ⟨.inr ⟨p, hp, hg⟩, ?_, fun p hp v hv => ?_⟩
    · have := h.nn p hp _ hg
      show -1 ≤ l.foldl max a
      omega
    · obtain ⟨g, hg, hv2⟩ := cov p hp v hv
      rw [e] at hg
      show v ≤ l.foldl max a
      rcases List.mem_cons.mp hg with rfl | hg
      · omega
      · have := h3 g hg; omega
def inK (kps : KpL) (p : Int) : Bool := decide (p ∈ kps.map (·.1))
theorem next_filter (kps : KpL) : ∀ row : List Int, nextV kps row = match row.filter (inK kps) with
    | [] => none
    | p :: _ => some (p, 1 + topK kps)
  | [] => rfl
  | p :: r => by
    show (if p ∈ kps.map (·.1) then some (p, 1 + topK kps) else nextV kps r) = _
    by_cases h : p ∈ kps.map (·.1)
    · rw [if_pos h, List.filter_cons_of_pos (by exact decide_eq_true h)]
    · rw [if_neg h, List.filter_cons_of_neg (by unfold inK; rw [decide_eq_false h]; exact Bool.false_ne_true), next_filter kps r]
def dueD (kps : KpL) (row : List Int) : PyData := match nextV kps row with
  | none => .none
  | some (p, m) => .tuple [.int p, .int m]
theorem dueD_ok (kps : KpL) (row : List Int) : SeqAt.shaped (dueD kps row) = true ∧ PyData.eqv (dueD kps row) (dueD kps row) = true := by
  unfold dueD
  cases nextV kps row with
  | none => exact ⟨rfl, rfl⟩
  | some x =>
    obtain ⟨p, m⟩ := x
    refine ⟨rfl, ?_⟩
    show ((p == p) && ((m == m) && true)) = true
    simp
theorem good_send {n : Int} {rs : List R4} {kps : KpL} (G : Good n rs) (hO : KpOk n kps) (hn : n < 12) (m : Int) : Good (n + 1) (sendR n rs kps m) := by
  have n1 := G.n1
  refine ⟨by omega, by omega, fun r hr => ?_, ?_⟩
  · rcases List.mem_append.mp hr with hr | hr
    · obtain ⟨a1, a2, a3, a4, a5, a6, a7, a8, a9⟩ := G.ok r (List.mem_filter.mp hr).1
      exact ⟨a1, by omega, a3, by omega, a5, a6, a7, a8, a9⟩
    · obtain ⟨p, hp, rfl⟩ := List.mem_map.mp hr
      obtain ⟨q, hq, rfl⟩ := List.mem_map.mp hp
      obtain ⟨b0, b1⟩ := hO.inn q (List.mem_filter.mp hq).1
      exact ⟨by show 0 ≤ n; omega, by show n < n + 1; omega, b0, by show q.1 < n + 1; omega, by show n ≠ q.1; omega, by show (0 : Int) ≤ 0; omega, by show (0 : Int) ≤ 1000; omega, by show (1 : Int) ≤ 1; omega, by show (1 : Int) ≤ 1000; omega⟩
  · refine List.pairwise_append.mpr ⟨G.up.sublist List.filter_sublist, ?_, fun a ha b hb => ?_⟩
    · refine List.pairwise_map.mpr ?_
      have h1 : (keepK kps m).Pairwise (· < ·) := by
        unfold keepK
        exact hO.up.sublist (List.Sublist.map _ List.filter_sublist)
      exact h1.imp fun h => .inr ⟨rfl, h⟩
    · obtain ⟨p, hp, rfl⟩ := List.mem_map.mp hb
      exact .inl (G.ok a (List.mem_filter.mp ha).1).s1
structure KS (K : PySem.W.Frag) (H0 H' : Hp) (t na : Addr) (n : Int) (rs : List R4) (d : Addr) (kvs : List (Key × V)) (kps : KpL) : Prop where
  kt : Kt t H0 H'
  tp : TpA H' t
  net : NetAt K H' na n rs
  hd : H' d = some (.dK kvs)
  kv : KVs K H' kvs kps
theorem KS.k0 {K : PySem.W.Frag} {H0 H' H2 : Hp} {t na : Addr} {n : Int} {rs : List R4} {d : Addr} {kvs : List (Key × V)} {kps : KpL} (h : KS K H0 H' t na n rs d kvs kps) (k : K0 H' H2) : KS K H0 H2 t na n rs d kvs kps :=
  ⟨h.kt.trans k.kt, h.tp.k0 k, h.net.k0 k, k.oth d _ h.hd (fun _ z => by cases z), h.kv.k0 k⟩
theorem KS.ktt {K : PySem.W.Frag} {H0 H' H2 : Hp} {t na : Addr} {n : Int} {rs : List R4} {d : Addr} {kvs : List (Key × V)} {kps : KpL} (h : KS K H0 H' t na n rs d kvs kps) (k : Kt t H' H2) (T : TpA H2 t) : KS K H0 H2 t na n rs d kvs kps :=
  ⟨h.kt.trans k, T, h.net.kt k, k.oth d _ h.hd (fun z => by
    obtain ⟨v, e⟩ := h.tp
    rw [← z, h.hd] at e
    cases e) (fun _ z => by cases z), h.kv.kt k⟩
theorem few_n30 {xs : List V} (h : xs.length ≤ 1000) : xs.length ≤ sizeLine := by
  rw [sizeLine_eq]
  omega
theorem isTop_snoc {kps : KpL} {i : Nat} {p : Int} {ms : List Int} {g g2 : Int} (h : IsTop (kps.take i) g) (e : kps[i]? = some (p, ms)) (hm : g2 ∈ g :: ms) (hb : ∀ y ∈ g :: ms, y ≤ g2) : IsTop (kps.take (i + 1)) g2 := by
  have et : kps.take (i + 1) = kps.take i ++ [(p, ms)] := by rw [List.take_add_one, e]; rfl
  obtain ⟨h1, h2, h3⟩ := h
  have hg := hb g (List.mem_cons_self ..)
  rw [et]
  refine ⟨?_, by omega, fun q hq v hv => ?_⟩
  · rcases List.mem_cons.mp hm with rfl | hm
    · rcases h1 with rfl | ⟨q, hq, hv⟩
      · exact .inl rfl
      · exact .inr ⟨q, List.mem_append.mpr (.inl hq), hv⟩
    · exact .inr ⟨(p, ms), List.mem_append.mpr (.inr (List.mem_singleton.mpr rfl)), hm⟩
  · rcases List.mem_append.mp hq with hq | hq
    · have := h3 q hq v hv; omega
    · rw [List.mem_singleton.mp hq] at hv
      exact hb v (List.mem_cons_of_mem _ hv)
theorem due_cases {K : PySem.W.Frag} {H : Hp} {fv : V} {kps : KpL} {row : List Int} (h : Dp K H fv (dueD kps row)) : fv = .non ∨ ∃ (b : Addr) (p m : Int), fv = .ref b ∧ SqT K H b [.int p, .int m] := by
  unfold dueD at h
  cases e : nextV kps row with
  | none =>
    rw [e] at h
    cases h
    exact .inl rfl
  | some x =>
    obtain ⟨p, m⟩ := x
    rw [e] at h
    cases h with
    | tup hs ha =>
      cases ha with
      | cons a1 a2 =>
        cases a1
        cases a2 with
        | cons b1 b2 =>
          cases b1
          cases b2
          exact .inr ⟨_, p, m, rfl, hs⟩
theorem eq_copies {K : PySem.W.Frag} {H : Hp} {kd d rl D : Addr} {kvs : List (Key × V)} {kps : KpL} {row : List Int} (hK : KVs K H kvs kps) (nd : (kps.map (·.1)).Nodup) (h1 : H kd = some (.dK kvs)) (h2 : H d = some (.dK kvs)) (h3 : H rl = some (.lst (row.map V.int))) (h4 : H D = some (.lst (row.map V.int))) :
    Paired (EqV K H 3) [.ref kd, .ref rl] [.ref d, .ref D] := by
  refine .cons (.inr (.inr (.inr ⟨kd, d, kvs, kvs, rfl, rfl, h1, h2, rfl, fun p hp => ⟨p.2, valV_mem (hK.nd nd) hp, ?_⟩⟩))) (.cons (.inr (.inr (.inl ⟨rl, D, _, _, rfl, rfl, .inl (.inl h3), .inl (.inl h4), ?_⟩))) .nil)
  · obtain ⟨i, hi, e⟩ := List.mem_iff_getElem.mp hp
    obtain ⟨_, _, q, _, e2, _⟩ := hK.at_ (List.getElem?_eq_getElem hi)
    rw [e] at e2
    exact .inr (.inl ⟨q, by rw [e2], by rw [e2]⟩)
  · clear h3 h4
    induction row with
    | nil => exact .nil
    | cons v r ih => exact .cons (.inl ⟨rfl, rfl⟩) ih
section
variable {P : Program} {w : World} {K : PySem.W.Frag} {mg : Str → Option Value} {base : Heap}
def spLaw (K : PySem.W.Frag) (Pn Pr Pu Ph Ps Pk : Addr) : Sp := fun vs H Q _ => ∃ (a : Addr) (ns : List Int), vs = [.ref a] ∧ SqL K H a (ns.map V.int) ∧ TabG H Pn ∧ TabG H Pr ∧ TabG H Pu ∧ TabG H Ph ∧ TabG H Ps ∧ TabG H Pk ∧ ∀ H', Q (.bl true) H'
theorem ok_law {f : Addr} {fd : FuncData} {f_atape f_anet f_adigit f_akept f_nextroot f_awhole f_sendnet f_asendnet f_isnet : Addr} {fd_atape fd_anet fd_adigit fd_akept fd_nextroot fd_awhole fd_sendnet fd_asendnet fd_isnet : FuncData} {Pn Pr Pu Ph Ps Pk : Addr} (F : Fun K "law" "law" sLaw f fd)
    (k_atape : PySem.W.keepIn K (.ref f_atape) = true) (b_atape : Binds K fd_atape ["script", "k"] []) (g_atape : mg "_law_atape" = some (.ref f_atape)) (G_atape : FnOk P w K mg base CX0 2 f_atape fd_atape ["script", "k"] (spATape K))
    (k_anet : PySem.W.keepIn K (.ref f_anet) = true) (b_anet : Binds K fd_anet ["tape", "most"] []) (g_anet : mg "_law_anet" = some (.ref f_anet)) (G_anet : FnOk P w K mg base CX0 2 f_anet fd_anet ["tape", "most"] (spANet K))
    (k_adigit : PySem.W.keepIn K (.ref f_adigit) = true) (b_adigit : Binds K fd_adigit ["tape", "many"] []) (g_adigit : mg "_law_adigit" = some (.ref f_adigit)) (G_adigit : FnOk P w K mg base CX0 1 f_adigit fd_adigit ["tape", "many"] (spADigit))
    (k_akept : PySem.W.keepIn K (.ref f_akept) = true) (b_akept : Binds K fd_akept ["tape", "n", "many"] []) (g_akept : mg "_law_akept" = some (.ref f_akept)) (G_akept : FnOk P w K mg base CX0 2 f_akept fd_akept ["tape", "n", "many"] (spAKept K))
    (k_nextroot : PySem.W.keepIn K (.ref f_nextroot) = true) (b_nextroot : Binds K fd_nextroot ["kept", "row"] []) (g_nextroot : mg "next_root" = some (.ref f_nextroot)) (G_nextroot : FnOk P w K mg base CX0 6 f_nextroot fd_nextroot ["kept", "row"] (spNextR K Pr Pu Ph))
    (k_awhole : PySem.W.keepIn K (.ref f_awhole) = true) (b_awhole : Binds K fd_awhole ["found"] []) (g_awhole : mg "_law_awhole" = some (.ref f_awhole)) (G_awhole : FnOk P w K mg base CX0 1 f_awhole fd_awhole ["found"] (spWhole K))
    (k_sendnet : PySem.W.keepIn K (.ref f_sendnet) = true) (b_sendnet : Binds K fd_sendnet ["net", "kept", "number"] []) (g_sendnet : mg "send_net" = some (.ref f_sendnet)) (G_sendnet : FnOk P w K mg base CX0 8 f_sendnet fd_sendnet ["net", "kept", "number"] (spSendNet K Pn Pr Pu Ph Ps Pk))
    (k_asendnet : PySem.W.keepIn K (.ref f_asendnet) = true) (b_asendnet : Binds K fd_asendnet ["net", "kept", "number"] []) (g_asendnet : mg "_law_asend_net" = some (.ref f_asendnet)) (G_asendnet : FnOk P w K mg base CX0 1 f_asendnet fd_asendnet ["net", "kept", "number"] (spASend K))
    (k_isnet : PySem.W.keepIn K (.ref f_isnet) = true) (b_isnet : Binds K fd_isnet ["thing"] []) (g_isnet : mg "is_net" = some (.ref f_isnet)) (G_isnet : FnOk P w K mg base CX0 5 f_isnet fd_isnet ["thing"] (spIsNet K Pn Pr))
    (m_len : mg "len" = none) (m_range : mg "range" = none) (m_max : mg "max" = none) (m_min : mg "min" = none) (m_list : mg "list" = none) (m_dict : mg "dict" = none) (m_tuple : mg "tuple" = none) (m_isinstance : mg "isinstance" = none) : FnOk P w K mg base CX0 9 f fd ["script"] (spLaw K Pn Pr Pu Ph Ps Pk) := by
  refine F.ok scLaw (fun vs H Q E h => ?_) (fun cdv A outer s H vs Q E hr h => ?_)
  · obtain ⟨a, ns, rfl, _⟩ := h
    rfl
  · obtain ⟨a, ns, rfl, hS, z1, z2, z3, z4, z5, z6, q⟩ := h
    have hu := hu_of hr
    refine ⟨_, (pss_cons (ps_for PassesOwn.never rfl (pi_range2 (by rfl) m_range (pa_cons pe_int (pa_cons (pe_callB (call_max2 rfl) (by rfl) m_max (by decide +kernel) (pa_cons pe_int (pa_cons (pe_callB (call_min2 rfl) (by rfl) m_min (by decide +kernel) (pa_cons pe_int (pa_cons (pe_callB call_len_seq (by rfl) m_len PySem.boot_len (pa_cons (pv 0) pa_nil)) pa_nil))) pa_nil))) pa_nil))) (pg_name (i := 1) scLaw.nd rfl (.inl rfl))
      (pss_cut (ps_set (i := 2) scLaw.nd rfl (.inr rfl) (pe_call G_atape (hr.mono (by decide)) (by rfl) g_atape k_atape b_atape .nil pass0 (pa_cons (pv 0) (pa_cons (pv 1) pa_nil))))
      (pss_cut (ps_set (i := 3) scLaw.nd rfl (.inr rfl) (pe_call G_anet (hr.mono (by decide)) (by rfl) g_anet k_anet b_anet .nil pass0 (pa_cons (pv 2) (pa_cons pe_int pa_nil))))
      (pss_cut (ps_set (i := 4) scLaw.nd rfl (.inl rfl) (pe_call G_adigit (hr.mono (by decide)) (by rfl) g_adigit k_adigit b_adigit .nil pass0 (pa_cons (pv 2) (pa_cons pe_int pa_nil))))
      (pss_cut (ps_set (i := 5) scLaw.nd rfl (.inr rfl) (pe_call G_akept (hr.mono (by decide)) (by rfl) g_akept k_akept b_akept .nil pass0 (pa_cons (pv 2) (pa_cons (pe_ix ix_tup (pv 3) pe_int (fun _ _ => rfl)) (pa_cons (pv 4) pa_nil)))))
      (pss_cut (ps_setLc (i := 6) (own := [("turn", 15)]) (g := (gName 15)) (tt := tYes) (te := (tCall (spADigit) [] E0 (tCons (tVar 2) (tCons (tOp (rI0 fun i j => .int (i + j)) (tOp (rIxT K) (tVar 3) (tC (.int 0))) (tC (.int 1))) tNil)))) rfl scLaw.nd rfl rfl (sw_true rfl rfl rfl rfl) (pi_range1 (by rfl) m_range (pa_cons (pe_call G_adigit (hr.mono (by decide)) (by rfl) g_adigit k_adigit b_adigit .nil pass0 (pa_cons (pv 2) (pa_cons pe_int pa_nil))) pa_nil)) (blkOk_by (N := N_scLaw) (sc := defScope sLaw) (by decide +kernel)) (fun _ _ _ _ _ => (pg_name (i := 15) scLaw.nd rfl (.inl rfl))) (fun _ _ _ _ _ => pts_nil) (fun _ _ _ _ _ => (pe_call G_adigit (hr.mono (by decide)) (by rfl) g_adigit k_adigit b_adigit .nil pass0 (pa_cons (pv 2) (pa_cons (pe_op op_add (pe_ix ix_tup (pv 3) pe_int (fun _ _ => rfl)) pe_int) pa_nil)))))
      (pss_cut (ps_setLc (i := 8) (own := [("place", 7)]) (g := (gName 7)) (tt := (tB (tDIn (tVar 7) (tVar 5)))) (te := (tVar 7)) rfl scLaw.nd rfl rfl (sw_true rfl rfl rfl rfl) (pi_list (pv 6)) (blkOk_by (N := N_scLaw) (sc := defScope sLaw) (by decide +kernel)) (fun _ _ _ _ _ => (pg_name (i := 7) scLaw.nd rfl (.inl rfl))) (fun _ _ _ _ _ => (pts_one (pt_cmp (pc_din hu (pv 7) (pv 5))))) (fun _ _ _ _ _ => (pv 7)))
      (pss_cut (ps_set (i := 9) scLaw.nd rfl (.inl rfl) (pe_un un_neg pe_int))
      (pss_cut (ps_lock (ps_for PassesOwn.never rfl (pi_keys (pv 5)) (pg_name (i := 7) scLaw.nd rfl (.inl rfl))
      (pss_one (ps_set (i := 9) scLaw.nd rfl (.inl rfl) (pe_callB (cr_max rfl) (by rfl) m_max (by decide +kernel) (pa_cons (pe_op op_cat (pe_lst (pa_cons (pv 9) pa_nil)) (pe_callTy call_list_of (by rfl) m_list (by decide +kernel) (pa_cons (pe_dget hu (pv 5) (pv 7) (fun _ _ => rfl)) pa_nil))) pa_nil))))))
      (pss_cut (ps_set (i := 10) scLaw.nd rfl (.inl rfl) pe_non)
      (pss_cut (ps_if (pt_cmpR (op_neD hr.units) (pv 8) (pe_lst pa_nil) (nomark _)) (pss_one (ps_set (i := 10) scLaw.nd rfl (.inl rfl) (pe_tup (pa_cons (pe_ix ix_list (pv 8) pe_int (fun _ _ => rfl)) (pa_cons (pe_op op_add (pv 9) pe_int) pa_nil))))) pss_nil)
      (pss_cut (ps_set (i := 11) scLaw.nd rfl (.inl rfl) (pe_lst (pa_cons (pe_callTy call_dictD (by rfl) m_dict (by decide +kernel) (pa_cons (pv 5) pa_nil)) (pa_cons (pe_callTy call_list_of (by rfl) m_list (by decide +kernel) (pa_cons (pv 6) pa_nil)) pa_nil))))
      (pss_cut (ps_set (i := 12) scLaw.nd rfl (.inl rfl) (pe_call G_nextroot (hr.mono (by decide)) (by rfl) g_nextroot k_nextroot b_nextroot .nil pass0 (pa_cons (pe_ix ix_list (pv 11) pe_int (fun _ _ => rfl)) (pa_cons (pe_ix ix_list (pv 11) pe_int (fun _ _ => rfl)) pa_nil))))
      (pss_cut (ps_if (PW.pt (pw_or (pt_cmpR (op_neD hr.units) (pv 12) (pv 10) (nomark _)) (pw_or1 (pt_cmpR (HkL.op_neL hr.units) (pv 11) (pe_lst (pa_cons (pv 5) (pa_cons (pv 6) pa_nil))) (nomark _))))) (pss_one (ps_ret pe_bl)) pss_nil)
      (pss_cut (ps_if (PW.pt (pw_and (pt_cmp (pc_notN (pv 12))) (pw_and1 (pt_not (pt_val (pe_callB call_isi (by rfl) m_isinstance boot_isinstance (pa_cons (pv 12) (pa_cons (pe_bltn (v := .ty "tuple") (by rfl) m_tuple (by decide +kernel) rfl) pa_nil)))))))) (pss_one (ps_ret pe_bl)) pss_nil)
      (pss_cut (ps_if (PW.pt (pw_and (pt_cmp (pc_notN (pv 12))) (pw_and1 (pt_not (pt_val (pe_call G_awhole (hr.mono (by decide)) (by rfl) g_awhole k_awhole b_awhole .nil pass0 (pa_cons (pe_ix ix_tup (pv 12) pe_int (fun _ _ => rfl)) pa_nil))))))) (pss_one (ps_ret pe_bl)) pss_nil)
      (pss_one (ps_for PassesOwn.never rfl (pi_range1 (by rfl) m_range (pa_cons (pe_op op_add (pv 4) pe_int) pa_nil)) (pg_name (i := 13) scLaw.nd rfl (.inl rfl))
      (pss_cons (ps_set (i := 14) scLaw.nd rfl (.inl rfl) (pe_call G_sendnet (hr.mono (by decide)) (by rfl) g_sendnet k_sendnet b_sendnet .nil pass0 (pa_cons (pv 3) (pa_cons (pe_ix ix_list (pv 11) pe_int (fun _ _ => rfl)) (pa_cons (pv 13) pa_nil)))))
      (pss_one (ps_if (PW.pt (pw_or (pt_cmpR (op_neD hr.units) (pv 14) (pe_call G_asendnet (hr.mono (by decide)) (by rfl) g_asendnet k_asendnet b_asendnet .nil pass0 (pa_cons (pv 3) (pa_cons (pv 5) (pa_cons (pv 13) pa_nil)))) (nomark _)) (pw_or (pt_not (pt_val (pe_call G_isnet (hr.mono (by decide)) (by rfl) g_isnet k_isnet b_isnet .nil pass0 (pa_cons (pv 14) pa_nil)))) (pw_or1 (pt_cmpR (HkX.op_neDS hr.units0) (pe_ix ix_list (pv 11) pe_int (fun _ _ => rfl)) (pv 5) (nomark _)))))) (pss_one (ps_ret pe_bl)) pss_nil)))))))))))))))))))))
      (pss_one (ps_ret (pe_cmp (pc_isN (pe_call G_nextroot (hr.mono (by decide)) (by rfl) g_nextroot k_nextroot b_nextroot .nil pass0 (pa_cons pe_dnewK (pa_cons (pe_lst (pa_cons pe_int (pa_cons pe_int pa_nil))) pa_nil)))))))), ?_⟩
    refine ⟨_, rfl, a, _, rfl, .inl hS, _, _, rfl, _, _, rfl, 0, _, rfl, ⟨by decide, by decide, ?_, ?_⟩, ?_⟩
    · split <;> split <;> omega
    · split <;> split <;> omega
    refine for_range (lo := 0) (fun i σ' H' => ∃ y1 y2 y3 y4 y5 y6 y7 y8 y9 y10 y11 y12 y13 y14 y15, σ' = [some (.ref a), y1, y2, y3, y4, y5, y6, y7, y8, y9, y10, y11, y12, y13, y14, y15] ∧ K0 H H') ⟨none, none, none, none, none, none, none, none, none, none, none, none, none, none, none, rfl, K0.refl _⟩ (fun i σ' H' hi h => ?_) (fun σ' H' h => ?_)
    rotate_left
    · obtain ⟨y1, y2, y3, y4, y5, y6, y7, y8, y9, y10, y11, y12, y13, y14, y15, rfl, k0⟩ := h
      refine fun d nd => ⟨few_n30 (xs := [.int 0, .int 1]) (by simp), fun p np => ?_⟩
      have kd := K0.new nd (o := .dK [])
      have kp := K0.new np (o := .lst [.int 0, .int 1])
      have kk := (k0.trans kd).trans kp
      exact ⟨d, p, [], [], 12, [0, 1], rfl, kp.oth d _ upd_same (fun _ z => by cases z), ⟨rfl, (fun i p ms e => by cases e)⟩, ⟨.nil, (fun p h => by cases h), (fun p h => by cases h), (fun p h => by cases h), (fun p h => by cases h)⟩, by decide, .inl (.inl upd_same), kk.tab _ z2, kk.tab _ z3, kk.tab _ z4, (fun _ H9 k9 => q H9), (fun p m e => by cases e)⟩
    obtain ⟨y1, y2, y3, y4, y5, y6, y7, y8, y9, y10, y11, y12, y13, y14, y15, rfl, k0⟩ := h
    -- tape, net, many, kept
    refine ⟨fun σ' H1 => ∃ t, σ' = [some (.ref a), some (.int (0 + (i : Int))), some (.ref t), y3, y4, y5, y6, y7, y8, y9, y10, y11, y12, y13, y14, y15] ∧ H' t = none ∧ K0 H' H1 ∧ TpA H1 t, ?_, ?_⟩
    · exact ⟨_, rfl, _, rfl, a, ns, _, rfl, k0.sqL hS, by omega, fun t H1 nt0 k1 T1 => ⟨t, rfl, nt0, k1, T1⟩⟩
    rintro σ' H1 ⟨t, rfl, nt0, k1, T1⟩
    refine ⟨fun σ' H2 => ∃ na n rs, σ' = [some (.ref a), some (.int (0 + (i : Int))), some (.ref t), some (.ref na), y4, y5, y6, y7, y8, y9, y10, y11, y12, y13, y14, y15] ∧ Kt t H1 H2 ∧ TpA H2 t ∧ NetAt K H2 na n rs ∧ n ≤ 7 ∧ Good n rs ∧ rs.length ≤ 156, ?_, ?_⟩
    · exact ⟨_, rfl, t, 7, rfl, T1, by omega, by omega, fun na n rs H2 k2 T2 hN hn7 G hlen => ⟨na, n, rs, rfl, k2, T2, hN, hn7, G, hlen⟩⟩
    rintro σ' H2 ⟨na, n, rs, rfl, k2, T2, hN, hn7, G, hlen⟩
    have n1 := G.n1
    refine ⟨fun σ' H3 => ∃ many : Int, σ' = [some (.ref a), some (.int (0 + (i : Int))), some (.ref t), some (.ref na), some (.int many), y5, y6, y7, y8, y9, y10, y11, y12, y13, y14, y15] ∧ Kt t H1 H3 ∧ TpA H3 t ∧ NetAt K H3 na n rs ∧ 0 ≤ many ∧ many < 6, ?_, ?_⟩
    · exact ⟨_, rfl, t, 6, rfl, T2, by omega, by omega, fun many H3 m0 m1 k3 T3 => ⟨many, rfl, k2.trans k3, T3, hN.kt k3, m0, m1⟩⟩
    clear hN T2 k2
    rintro σ' H3 ⟨many, rfl, k3, T3, hN, m0, m1⟩
    refine ⟨fun σ' H4 => ∃ d kvs kps, σ' = [some (.ref a), some (.int (0 + (i : Int))), some (.ref t), some (.ref na), some (.int many), some (.ref d), y6, y7, y8, y9, y10, y11, y12, y13, y14, y15] ∧ KS K H1 H4 t na n rs d kvs kps ∧ KpOk n kps, ?_, ?_⟩
    · obtain ⟨r, xs, o, h1, _⟩ := id hN
      exact ⟨_, rfl, _, rfl, na, _, 0, .int n, rfl, rfl, h1, atI_nat (j := 0) rfl, _, rfl, t, n, many, rfl, T3, n1, by omega, m0, by omega, fun d kvs kps H4 k4 T4 nd hd hK hO => ⟨d, kvs, kps, rfl, ⟨k3.trans k4, T4, hN.kt k4, hd, hK⟩, hO⟩⟩
    clear hN T3 k3
    rintro σ' H4 ⟨d, kvs, kps, rfl, S4, hO⟩
    have hkl := hO.len (by omega)
    -- row
    refine ⟨fun σ' H5 => ∃ (D : Addr) (l : List Int), σ' = [some (.ref a), some (.int (0 + (i : Int))), some (.ref t), some (.ref na), some (.int many), some (.ref d), some (.ref D), y7, y8, y9, y10, y11, y12, y13, y14, y15] ∧ KS K H1 H5 t na n rs d kvs kps ∧ H5 D = some (.lst (l.map V.int)) ∧ l.length ≤ 10, ?_, ?_⟩
    · refine ⟨_, rfl, t, 6, rfl, S4.tp, by omega, by omega, fun c H5 c0 c1 k5 T5 => ⟨c, rfl, by omega, by omega, fun D nD => ?_⟩⟩
      have S5 := S4.ktt k5 T5
      have hDt : D ≠ t := T5.ne nD
      obtain ⟨r, xs, o, h1, _⟩ := id S5.net
      refine lc_range (lo := 0) (n := c.toNat) (fun j H6 => Kt t H5 H6 ∧ TpA H6 t ∧ ∃ l : List Int, H6 D = some (.lst (l.map V.int)) ∧ l.length ≤ j) ⟨(K0.new nD).kt, T5.k0 (K0.new nD), [], upd_same, Nat.le_refl _⟩ (fun j H6 hj h => ?_) (fun H6 h => ?_)
      · obtain ⟨k6, T6, l, hl, hle⟩ := h
        refine ⟨rfl, tyes ⟨_, rfl, _, rfl, na, _, 0, .int n, rfl, rfl, k6.sqT h1, atI_nat (j := 0) rfl, n, 1, rfl, rfl, t, n + 1, rfl, T6, by omega, by omega, fun v H7 v0 v1 k7 T7 => ?_⟩⟩
        have hl7 := k7.oth D _ hl hDt (fun _ z => by cases z)
        refine ⟨_, hl7, by rw [List.length_map, sizeLine_eq]; omega, (k6.trans k7).mut nD, T7.mut hDt, l ++ [v], by rw [upd_same, List.map_append]; rfl, ?_⟩
        rw [List.length_append]; show l.length + 1 ≤ j + 1; omega
      · obtain ⟨k6, T6, l, hl, hle⟩ := h
        exact ⟨D, l, rfl, S5.ktt k6 T6, hl, by omega⟩
    clear S4
    rintro σ' H5 ⟨D, row, rfl, S5, hrow, hrl⟩
    -- standing
    refine ⟨fun σ' H6 => ∃ D2, σ' = [some (.ref a), some (.int (0 + (i : Int))), some (.ref t), some (.ref na), some (.int many), some (.ref d), some (.ref D), y7, some (.ref D2), y9, y10, y11, y12, y13, y14, y15] ∧ K0 H5 H6 ∧ H6 D2 = some (.lst ((row.filter (inK kps)).map V.int)), ?_, ?_⟩
    · refine ⟨_, rfl, D, rfl, ⟨_, .inl (.inl hrow)⟩, fun D2 nD2 => ?_⟩
      refine lc_list (K := K) (a := D) (xs := row.map V.int) (fun j H6 => K0 H5 H6 ∧ H6 D2 = some (.lst (((row.take j).filter (inK kps)).map V.int))) ⟨K0.new nD2, upd_same⟩ (fun j H6 hj h => .inl (.inl (h.1.oth D _ hrow (fun _ z => by cases z)))) (fun j x H6 hx h => ?_) (fun H6 h => ?_)
      · obtain ⟨k6, hz⟩ := h
        rw [List.getElem?_map] at hx
        obtain ⟨p, hp, rfl⟩ := Option.map_eq_some_iff.mp hx
        have hf : (row.take (j + 1)).filter (inK kps) = (row.take j).filter (inK kps) ++ (if inK kps p = true then [p] else []) := by
          rw [List.take_add_one, hp, List.filter_append]
          congr 1
          by_cases h : inK kps p = true
          · rw [if_pos h]; exact List.filter_cons_of_pos h
          · rw [if_neg h]; exact List.filter_cons_of_neg h
        refine ⟨rfl, _, rfl, _, rfl, d, _, rfl, .inl ⟨kvs, .inl p, .inl (S5.k0 k6).hd, rfl, rfl⟩, _, rfl, ?_⟩
        rw [S5.kv.isS hO.nodup]
        show if inK kps p = true then _ else _
        by_cases hb : inK kps p = true
        · rw [hb]
          refine iteT ⟨_, rfl, _, hz, ?_, k6.mut nD2, ?_⟩
          · rw [List.length_map, sizeLine_eq]
            have h1 := List.length_filter_le (inK kps) (row.take j)
            have h2 := List.length_take_le' j row
            omega
          · rw [upd_same, hf, if_pos hb, List.map_append]; rfl
        · have hb2 : inK kps p = false := by simpa using hb
          rw [hb2]
          refine iteF ⟨k6, ?_⟩
          rw [hf, if_neg hb, List.append_nil]
          exact hz
      · obtain ⟨k6, hz⟩ := h
        rw [List.length_map, List.take_length] at hz
        exact ⟨D2, rfl, k6, hz⟩
    rintro σ' H6 ⟨D2, rfl, k6, hst⟩
    have hrow6 := k6.oth D _ hrow (fun _ z => by cases z)
    have S6 := S5.k0 k6
    clear S5 hrow k6 H5
    -- greatest
    refine ⟨fun σ' H7 => σ' = [some (.ref a), some (.int (0 + (i : Int))), some (.ref t), some (.ref na), some (.int many), some (.ref d), some (.ref D), y7, some (.ref D2), some (.int (-1)), y10, y11, y12, y13, y14, y15] ∧ H7 = H6, ?_, ?_⟩
    · exact ⟨1, rfl, rfl, rfl⟩
    rintro σ' H7 ⟨rfl, rfl⟩
    have S7 := S6
    have hdl := S6.hd
    refine ⟨fun σ' H8 => ∃ y7, σ' = [some (.ref a), some (.int (0 + (i : Int))), some (.ref t), some (.ref na), some (.int many), some (.ref d), some (.ref D), y7, some (.ref D2), some (.int (topK kps)), y10, y11, y12, y13, y14, y15] ∧ K0 H7 H8, ?_, ?_⟩
    · refine ⟨d, _, hdl, trivial, fun od => ⟨_, rfl, d, od, rfl, .inl ⟨kvs, upd_same, ?_⟩⟩⟩
      refine for_it walk_keys (fun j σ' H8 => ∃ y7 g, σ' = [some (.ref a), some (.int (0 + (i : Int))), some (.ref t), some (.ref na), some (.int many), some (.ref d), some (.ref D), y7, some (.ref D2), some (.int g), y10, y11, y12, y13, y14, y15] ∧ K0 (upd H7 d (.frz od (.dK kvs))) H8 ∧ IsTop (kps.take j) g)
        ⟨y7, -1, rfl, K0.refl _, .inl rfl, Int.le_refl _, fun p h => by rw [List.take_zero] at h; cases h⟩ (fun j σ' H8 _ h => ?_) (fun j x σ' H8 H9 hj h y => ?_) (fun σ' H8 h => ?_)
      · obtain ⟨_, _, _, k8, _⟩ := h
        exact k8.oth d _ upd_same (fun _ z => by cases z)
      · obtain ⟨rfl, k, v, hkv, rfl⟩ := y
        obtain ⟨y7, g, rfl, k8, hg⟩ := h
        obtain ⟨p, ms, qq, e1, e2, hq⟩ := S7.kv.at_ hkv
        cases e2
        have hd8 := k8.oth d _ upd_same (fun _ z => by cases z)
        obtain ⟨q1, e3, _⟩ := S7.kv.val hO.nodup (List.mem_of_getElem? e1)
        have e4 : valV kvs (.inl p) = some (.ref qq) := valV_mem (p := (.inl p, .ref qq)) (S7.kv.nd hO.nodup) (List.mem_of_getElem? hkv)
        have hq8 := k8.sqT (sqT_lock (o := .frz od (.dK kvs)) hq hdl)
        refine ⟨_, rfl, few_n30 (xs := [.int g]) (by simp), fun c1 nc1 => ?_⟩
        have kc1 := K0.new nc1 (o := .lst [.int g])
        refine ⟨_, rfl, _, rfl, d, .ref qq, rfl, .inl ⟨kvs, .inl p, .inr ⟨od, kc1.oth d _ hd8 (fun _ z => by cases z)⟩, rfl, e4.symm⟩, qq, _, rfl, .inr (kc1.sqT hq8), fun c2 nc2 => ?_⟩
        have kc2 := K0.new nc2 (o := .lst (ms.map V.int))
        refine ⟨c1, c2, _, _, rfl, rfl, kc2.oth c1 _ upd_same (fun _ z => by cases z), upd_same, ?_, fun c3 nc3 => ?_⟩
        · have := hO.few _ (List.mem_of_getElem? e1)
          rw [List.length_map, sizeLine_eq]
          show 1 + ms.length ≤ 16777216
          have h2 : ms.length ≤ 10 := this
          omega
        have kc3 := K0.new nc3 (o := .lst ([.int g] ++ ms.map V.int))
        refine ⟨c3, g :: ms, rfl, .inl (.inl upd_same), by rw [List.length_cons]; omega, fun g2 hm hb => ⟨_, g2, rfl, (((k8.trans kc1).trans kc2).trans kc3), isTop_snoc hg e1 hm hb⟩⟩
      · obtain ⟨y7, g, rfl, k8, hg⟩ := h
        rw [S7.kv.1, List.take_length] at hg
        have eg := hg.uniq (top_isTop hO)
        subst eg
        exact ⟨k8.oth d _ upd_same (fun _ z => by cases z), y7, rfl, K0.lock hdl (fun _ z => by cases z) k8⟩
    clear S6
    rintro σ' H8 ⟨y7, rfl, k8⟩
    have S8 := S7.k0 k8
    have hrow8 := k8.oth D _ hrow6 (fun _ z => by cases z)
    have hst8 := k8.oth D2 _ hst (fun _ z => by cases z)
    clear S7 k8 hdl hrow6 hst
    -- due
    refine ⟨fun σ' H9 => σ' = [some (.ref a), some (.int (0 + (i : Int))), some (.ref t), some (.ref na), some (.int many), some (.ref d), some (.ref D), y7, some (.ref D2), some (.int (topK kps)), some .non, y11, y12, y13, y14, y15] ∧ H9 = H8, ?_, ?_⟩
    · exact ⟨rfl, rfl⟩
    rintro σ' H9 ⟨rfl, rfl⟩
    refine ⟨fun σ' H10 => ∃ dv, σ' = [some (.ref a), some (.int (0 + (i : Int))), some (.ref t), some (.ref na), some (.int many), some (.ref d), some (.ref D), y7, some (.ref D2), some (.int (topK kps)), some dv, y11, y12, y13, y14, y15] ∧ K0 H9 H10 ∧ Dp K H10 dv (dueD kps row), ?_, ?_⟩
    · refine ⟨_, rfl, few_n30 (xs := []) (by simp), fun c1 nc1 => ?_⟩
      have kc1 := K0.new nc1 (o := .lst [])
      have hnf := next_filter kps row
      have dps : ∀ l : List Int, DpAll K (upd H9 c1 (.lst [])) (l.map V.int) (l.map PyData.int) := fun l => by
        induction l with
        | nil => exact .nil
        | cons v r ih => exact .cons (.int _) ih
      have lays : ∀ l : List Int, PyData.canLayAll0 (l.map PyData.int) = true ∧ PyData.depthAll (l.map PyData.int) ≤ 1 := fun l => by
        induction l with
        | nil => exact ⟨rfl, by decide⟩
        | cons v r ih =>
          rw [List.map_cons]
          refine ⟨by simp only [PyData.canLayAll0, PyData.canLay0, ih.1, Bool.and_true], ?_⟩
          have := ih.2
          simp only [PyData.depthAll, PyData.depth]
          omega
      have hsh : SeqAt.shaped (.list ((row.filter (inK kps)).map PyData.int)) = true := by
        obtain ⟨a1, a2⟩ := lays (row.filter (inK kps))
        show (PyData.canLay0 (.list ((row.filter (inK kps)).map PyData.int)) && decide (PyData.depth (.list ((row.filter (inK kps)).map PyData.int)) ≤ 64)) = true
        rw [Bool.and_eq_true, decide_eq_true_iff]
        refine ⟨by simp only [PyData.canLay0, a1], ?_⟩
        simp only [PyData.depth]
        omega
      refine ⟨.list ((row.filter (inK kps)).map PyData.int), .list [], .lst (.inl (.inl (kc1.oth D2 _ hst8 (fun _ z => by cases z)))) (dps _), .lst (.inl (.inl upd_same)) .nil, hsh, rfl, _, rfl, ?_⟩
      cases ef : row.filter (inK kps) with
      | nil =>
        rw [ef] at hnf
        refine iteF ⟨_, rfl, kc1, ?_⟩
        unfold dueD
        rw [hnf]
        exact .non
      | cons p0 pr =>
        rw [ef] at hnf hst8
        refine iteT ⟨_, rfl, D2, _, 0, .int p0, rfl, rfl, .inl (.inl (kc1.oth D2 _ hst8 (fun _ z => by cases z))), atI_nat (j := 0) rfl, _, rfl, _, 1, rfl, rfl, few_n30 (xs := [.int p0, .int (topK kps + 1)]) (by simp), fun c2 nc2 => ⟨_, rfl, kc1.trans (K0.new nc2), ?_⟩⟩
        unfold dueD
        rw [hnf]
        have e1 : (1 : Int) + topK kps = topK kps + 1 := by omega
        rw [e1]
        exact .tup (.inl (.inl upd_same)) (.cons (.int _) (.cons (.int _) .nil))
    rintro σ' H10 ⟨dv, rfl, k10, hdv⟩
    have S10 := S8.k0 k10
    have hrow10 := k10.oth D _ hrow8 (fun _ z => by cases z)
    clear S8 k10 hrow8 hst8
    -- handed
    refine ⟨fun σ' H11 => ∃ hl kd rl, σ' = [some (.ref a), some (.int (0 + (i : Int))), some (.ref t), some (.ref na), some (.int many), some (.ref d), some (.ref D), y7, some (.ref D2), some (.int (topK kps)), some dv, some (.ref hl), y12, y13, y14, y15] ∧ K0 H10 H11 ∧ H11 hl = some (.lst [.ref kd, .ref rl]) ∧ H11 kd = some (.dK kvs) ∧ H11 rl = some (.lst (row.map V.int)), ?_, ?_⟩
    · refine ⟨_, rfl, d, kvs, rfl, .inl S10.hd, fun kd nkd => ?_⟩
      have kA := K0.new nkd (o := .dK kvs)
      refine ⟨_, rfl, D, _, rfl, .inl (.inl (.inl (kA.oth D _ hrow10 (fun _ z => by cases z)))), fun rl nrl => ?_⟩
      have kB := K0.new nrl (o := .lst (row.map V.int))
      refine ⟨few_n30 (xs := [.ref kd, .ref rl]) (by simp), fun hl nhl => ?_⟩
      have kC := K0.new nhl (o := .lst [.ref kd, .ref rl])
      exact ⟨hl, kd, rl, rfl, (kA.trans kB).trans kC, upd_same, (kB.trans kC).oth kd _ upd_same (fun _ z => by cases z), kC.oth rl _ upd_same (fun _ z => by cases z)⟩
    rintro σ' H11 ⟨hl, kd, rl, rfl, k11, hhl, hkd, hrl2⟩
    have S11 := S10.k0 k11
    have hdv11 := k11.dp _ _ hdv
    have hrow11 := k11.oth D _ hrow10 (fun _ z => by cases z)
    clear S10 hdv hrow10 k11
    have k01 : K0 H H1 := k0.trans k1
    have tb : ∀ {Hx : Hp} {P : Addr}, Kt t H1 Hx → TabG H P → TabG Hx P := fun {Hx P} k h => k.tab _ (k01.tab _ h)
    -- found
    refine ⟨fun σ' H12 => ∃ fv, σ' = [some (.ref a), some (.int (0 + (i : Int))), some (.ref t), some (.ref na), some (.int many), some (.ref d), some (.ref D), y7, some (.ref D2), some (.int (topK kps)), some dv, some (.ref hl), some fv, y13, y14, y15] ∧ K0 H11 H12 ∧ Dp K H12 fv (dueD kps row), ?_, ?_⟩
    · refine ⟨_, rfl, hl, _, 0, .ref kd, rfl, rfl, .inl (.inl hhl), atI_nat (j := 0) rfl, _, rfl, hl, _, 1, .ref rl, rfl, rfl, .inl (.inl hhl), atI_nat (j := 1) rfl, kd, rl, kvs, kps, n, row, rfl, hkd, S11.kv, hO, by omega, .inl (.inl hrl2), tb S11.kt z2, tb S11.kt z3, tb S11.kt z4, (fun e H12 k12 => ⟨_, rfl, k12, ?_⟩), (fun p m e q1 H12 k12 hq1 => ⟨_, rfl, k12, ?_⟩)⟩
      · unfold dueD; rw [e]; exact .non
      · unfold dueD; rw [e]; exact .tup hq1 (.cons (.int _) (.cons (.int _) .nil))
    rintro σ' H12 ⟨fv, rfl, k12, hfv⟩
    have S12 := S11.k0 k12
    have hdv12 := k12.dp _ _ hdv11
    have hrow12 := k12.oth D _ hrow11 (fun _ z => by cases z)
    have hhl12 := k12.oth hl _ hhl (fun _ z => by cases z)
    have hkd12 := k12.oth kd _ hkd (fun _ z => by cases z)
    have hrl12 := k12.oth rl _ hrl2 (fun _ z => by cases z)
    clear S11 hdv11 hrow11 hhl hkd hrl2 k12
    obtain ⟨d1, d2⟩ := dueD_ok kps row
    refine ⟨fun σ' H13 => σ' = [some (.ref a), some (.int (0 + (i : Int))), some (.ref t), some (.ref na), some (.int many), some (.ref d), some (.ref D), y7, some (.ref D2), some (.int (topK kps)), some dv, some (.ref hl), some fv, y13, y14, y15] ∧ K0 H12 H13, ?_, ?_⟩
    · refine ⟨_, rfl, _, rfl, dueD kps row, dueD kps row, hfv, hdv12, d1, d1, _, rfl, ?_⟩
      rw [d2]
      refine iteF ⟨_, rfl, _, rfl, _, rfl, few_n30 (xs := [.ref d, .ref D]) (by simp), fun lp nlp => ?_⟩
      have kl := K0.new nlp (o := .lst [.ref d, .ref D])
      have S13 := S12.k0 kl
      exact ⟨3, hl, lp, _, _, by decide, rfl, rfl, .inl (.inl (kl.oth hl _ hhl12 (fun _ z => by cases z))), .inl (.inl upd_same), eq_copies S13.kv hO.nodup (kl.oth kd _ hkd12 (fun _ z => by cases z)) S13.hd (kl.oth rl _ hrl12 (fun _ z => by cases z)) (kl.oth D _ hrow12 (fun _ z => by cases z)), _, rfl, iteF ⟨rfl, kl⟩⟩
    rintro σ' H13 ⟨rfl, k13⟩
    have S13 := S12.k0 k13
    have hfv13 := k13.dp _ _ hfv
    have hhl13 := k13.oth hl _ hhl12 (fun _ z => by cases z)
    have hkd13 := k13.oth kd _ hkd12 (fun _ z => by cases z)
    clear S12 hdv12 hrow12 hhl12 hkd12 hrl12 k13 hfv
    have hcas := due_cases hfv13
    refine ⟨fun σ' H14 => σ' = [some (.ref a), some (.int (0 + (i : Int))), some (.ref t), some (.ref na), some (.int many), some (.ref d), some (.ref D), y7, some (.ref D2), some (.int (topK kps)), some dv, some (.ref hl), some fv, y13, y14, y15] ∧ H14 = H13, ?_, ?_⟩
    · rcases hcas with e | ⟨b, p, m, e, hb⟩
      · subst e
        exact ⟨_, rfl, _, rfl, iteF (iteF ⟨rfl, rfl⟩)⟩
      · subst e
        exact ⟨_, rfl, _, rfl, iteT ⟨_, rfl, .ref b, .ty "tuple", .type "tuple", _, true, rfl, .ty "tuple", sqT_ty hb, kit_ty (tys_tuple (by decide)), _, rfl, iteF ⟨rfl, rfl⟩⟩⟩
    rintro σ' H14 ⟨rfl, rfl⟩
    refine ⟨fun σ' H15 => σ' = [some (.ref a), some (.int (0 + (i : Int))), some (.ref t), some (.ref na), some (.int many), some (.ref d), some (.ref D), y7, some (.ref D2), some (.int (topK kps)), some dv, some (.ref hl), some fv, y13, y14, y15] ∧ K0 H14 H15, ?_, ?_⟩
    · rcases hcas with e | ⟨b, p, m, e, hb⟩
      · subst e
        exact ⟨_, rfl, _, rfl, iteF (iteF ⟨rfl, K0.refl _⟩)⟩
      · subst e
        exact ⟨_, rfl, _, rfl, iteT ⟨_, rfl, b, _, 1, .int m, rfl, rfl, hb, atI_nat (j := 1) rfl, .int m, .int m, rfl, .int m, _, rfl, iteF ⟨rfl, K0.refl _⟩⟩⟩
    rintro σ' H15 ⟨rfl, k15⟩
    have S15 := S13.k0 k15
    have hhl15 := k15.oth hl _ hhl13 (fun _ z => by cases z)
    have hkd15 := k15.oth kd _ hkd13 (fun _ z => by cases z)
    clear S13 hhl13 hkd13 k15 hfv13 hcas
    -- send nets
    refine ⟨_, rfl, many, 1, rfl, rfl, many + 1, rfl, by omega, by omega, for_range (lo := 0) (n := (many + 1).toNat) (fun j σ' H' => ∃ y13 y14, σ' = [some (.ref a), some (.int (0 + (i : Int))), some (.ref t), some (.ref na), some (.int many), some (.ref d), some (.ref D), y7, some (.ref D2), some (.int (topK kps)), some dv, some (.ref hl), some fv, y13, y14, y15] ∧ K0 H15 H')
      ⟨y13, y14, rfl, K0.refl _⟩ (fun j σ' H16 hj h => ?_) (fun σ' H16 h => ?_)⟩
    · obtain ⟨y13, y14, rfl, k16⟩ := h
      have S16 := S15.k0 k16
      have hhl16 := k16.oth hl _ hhl15 (fun _ z => by cases z)
      have hkd16 := k16.oth kd _ hkd15 (fun _ z => by cases z)
      refine ⟨_, rfl, _, rfl, hl, _, 0, .ref kd, rfl, rfl, .inl (.inl hhl16), atI_nat (j := 0) rfl, _, rfl, na, kd, n, rs, kvs, kps, _, rfl, S16.net, G, hlen, by omega, hkd16, S16.kv, hO, tb S16.kt z1, tb S16.kt z2, tb S16.kt z3, tb S16.kt z4, tb S16.kt z5, tb S16.kt z6, fun q1 H17 k17 hq1 => ?_⟩
      have S17 := S16.k0 k17
      refine ⟨_, rfl, _, rfl, _, rfl, _, rfl, na, d, n, rs, kvs, kps, _, rfl, S17.net, hlen, by omega, S17.hd, S17.kv, hO, fun q2 H18 k18 hq2 => ?_⟩
      have hq1' := hq1.k0 k18
      refine ⟨_, _, hq1'.dp, hq2.dp, shaped_nt _ _, shaped_nt _ _, _, rfl, ?_⟩
      rw [eqv_nt]
      have S18 := S17.k0 k18
      have kt18 := S18.kt
      have hlen2 : (sendR n rs kps (0 + (j : Int))).length ≤ 1000 := by
        unfold sendR
        rw [List.length_append, List.length_map]
        have h1 := List.length_filter_le (stands kps) rs
        have h2 := keep_len kps (0 + (j : Int))
        omega
      refine iteF ⟨_, rfl, .ref q1, true, rfl, .inl ⟨_, hq1'.dp, fun m' rs' e => ?_, (net_yes (good_send G hO (by omega) (0 + (j : Int)))).symm⟩, tb kt18 z1, tb kt18 z2, fun H19 k19 => ⟨_, rfl, iteF ?_⟩⟩
      · cases e
        rw [List.length_map]
        exact hlen2
      have k6 := (k17.trans k18).trans k19
      have S19 := S18.k0 k19
      have hhl19 := k6.oth hl _ hhl16 (fun _ z => by cases z)
      have hkd19 := k6.oth kd _ hkd16 (fun _ z => by cases z)
      refine ⟨_, rfl, hl, _, 0, .ref kd, rfl, rfl, .inl (.inl hhl19), atI_nat (j := 0) rfl, _, rfl, kd, d, kvs, kvs, rfl, rfl, hkd19, S19.hd, rfl, fun p hp => ⟨valV_mem (S19.kv.nd hO.nodup) hp, .inr ?_⟩, _, rfl, iteF ⟨_, _, rfl, k16.trans k6⟩⟩
      obtain ⟨i2, hi2, e⟩ := List.mem_iff_getElem.mp hp
      obtain ⟨_, _, q3, _, e2, _⟩ := S19.kv.at_ (List.getElem?_eq_getElem hi2)
      rw [e] at e2
      exact ⟨q3, by rw [e2]⟩
    · obtain ⟨y13, y14, rfl, k16⟩ := h
      have S16 := S15.k0 k16
      exact ⟨_, _, _, _, _, _, _, _, _, _, _, _, _, _, _, rfl, k0.trans (K0.withT k1 nt0 S16.kt)⟩
end
end HK

set_option Elab.async false
set_option linter.all false
set_option maxRecDepth 100000
set_option maxHeartbeats 2000000
namespace HK
open PySem PySem.Spec PyProof.Rows L2 GAl GxR
/-! ### what a head by facts says of a def, in our words -/
section
variable {K : PySem.W.Frag} {x qual : Str} {st : Stmt} {f : Addr} {fd : FuncData}
theorem fun_of (F : FunD K x qual (defArgs st) (defBody st) (defScope st) [] [] f fd) : Fun K x qual st f fd := by
  obtain ⟨⟨oc, od, dV, kV, doc, pm, an, cdv, ct, osl, e, l, hcd, hD, _⟩, kp⟩ := F
  rcases hD with ⟨_, rfl⟩ | ⟨n, _⟩
  · exact ⟨⟨oc, od, kV, doc, pm, an, cdv, ct, osl, e, l, hcd⟩, kp⟩
  · exact absurd rfl n
theorem funC_of {p : He.Defn} (F : FunD K x qual (defArgs st) (defBody st) (defScope st) [] [] (He.fAd K p) fd) : FunC K x qual st (He.fAd K p) fd (He.cT K p).1 := by
  obtain ⟨⟨oc, od, dV, kV, doc, pm, an, cdv, ct, osl, e, l, hcd, hD, _⟩, kp⟩ := F
  obtain ⟨c, rfl⟩ : ∃ c, cdv = .ref c := by
    cases cdv with
    | ref c => exact ⟨c, rfl⟩
    | _ => cases hcd
  have ec : (He.cT K p).1 = c := He.codeOf_eq l (by rw [e])
  rcases hD with ⟨_, rfl⟩ | ⟨n, _⟩
  · rw [ec]
    exact ⟨⟨oc, od, kV, doc, pm, an, ct, osl, e, l, hcd⟩, kp⟩
  · exact absurd rfl n
end
def dd (x : Str) (st : Stmt) : He.DefD := ⟨(x, none), x, x, defArgs st, defBody st, defScope st, [], []⟩
def dm (c m q : Str) (st : Stmt) : He.DefD := ⟨(c, some m), m, q, defArgs st, defBody st, defScope st, [], []⟩
end HK

set_option Elab.async false
set_option linter.all false
set_option maxRecDepth 100000
set_option maxHeartbeats 0
namespace HK
open PySem PySem.Spec PyProof.Rows L2 GAl GxR
abbrev RX : PySem.W.OpenRow := PySem.W.OpenLaw.row PySem.Challenge.rw_hearkenway_k30_next_roots_and_send_nets
abbrev qX : Program := PySem.W.view RX.prog [34]
def namesX : List Str := (["__name__", "HearError", "NoNet", "NoKept", "TooMany", "is_whole", "is_within", "rises", "MOST_PLACES", "MOST_PRICE", "LEAST_LATE", "MOST_LATE", "is_net", "is_road", "is_place", "need_net", "next_root", "send_net", "need_standing", "need_room", "has_numbers", "are_numbers", "keepers_of", "_law_acell", "_law_atape"] : List Str) ++ (["_law_adigit", "_law_awhole", "_law_anet", "_law_akept", "_law_asend_net"] : List Str)
def fnX : List He.DefD := [dd "_law_acell" sACell, dd "_law_atape" sATape, dd "_law_adigit" sADigit, dd "_law_anet" sANet, dd "_law_akept" sAKept, dd "is_whole" sWhole, dd "rises" sRises, dd "are_numbers" sNums, dd "has_numbers" sHasN, dd "next_root" sNextR, dd "_law_awhole" sAWhole, dd "is_within" sWithin, dd "is_road" sIsRoad, dd "is_net" sIsNet, dd "need_net" sNeedNet, dd "is_place" sIsPlace, dd "need_standing" sNeedS, dd "need_room" sNeedRoom, dd "keepers_of" sKeepers, dd "send_net" sSendNet, dd "_law_asend_net" sASend, dd "law" sLaw]
def faX : List He.Fa := [.glo "_law_acell", .glo "_law_atape", .glo "_law_adigit", .glo "_law_anet", .glo "_law_akept", .glo "is_whole", .glo "rises", .glo "are_numbers", .glo "has_numbers", .glo "next_root", .glo "_law_awhole", .glo "is_within", .glo "is_road", .glo "is_net", .glo "need_net", .glo "is_place", .glo "need_standing", .glo "need_room", .glo "keepers_of", .glo "send_net", .glo "_law_asend_net", .glo "law", .free "len", .free "range", .free "tuple", .free "isinstance", .free "int", .free "bool", .free "zip", .free "all", .free "dict", .free "max", .free "sorted", .free "min", .free "list", .int "MOST_PRICE" 1000, .int "LEAST_LATE" 1, .int "MOST_LATE" 1000, .int "MOST_PLACES" 12]
def tfX : List He.Defn := [("is_net", none), ("rises", none), ("are_numbers", none), ("has_numbers", none), ("need_standing", none), ("keepers_of", none)]
def exX : PySem.W.Frag → Bool := fun _ => true
abbrev hkX : PySem.W.Hook := He.hookX 4 faX fnX [] tfX exX
def obX (s : PySem.W.SharedT) : He.AlX := He.obsX 4 faX fnX [] tfX exX (HandSHeadRun.getT s)
theorem obX_eq (s : PySem.W.SharedT) : obX s = hkX.obs s.abs := He.obsX_eq (HandSHeadRun.getT_eq s)
theorem at_law {w : World} {h : Heap} {K : PySem.W.Frag} {mg : Str → Option Value} {fa : Addr} (X : K.In h) (G : h.Ns mainGlobals mg) (hfa : mg "law" = some (.ref fa)) (c : He.SaysX faX fnX [] tfX exX w h K) : LamX.LawAtS PySem.Challenge.rw_hearkenway_k30_next_roots_and_send_nets w K CX0 9 63 "script" mg fa h := by
  have cd := c.t.d
  obtain ⟨fd1, D1⟩ := cd.def_ 0 (d := dd "_law_acell" sACell) rfl
  have F1 := fun_of (st := sACell) D1
  have b1 := F1.binds (ps := ["script", "k"]) fun _ _ _ _ _ _ us hl => match us, hl with | [_, _], _ => rfl
  have k1 := F1.kp
  have g1 := He.glo_ok X G (cd.fact 0 (f := .glo "_law_acell") rfl)
  obtain ⟨fd2, D2⟩ := cd.def_ 1 (d := dd "_law_atape" sATape) rfl
  have F2 := fun_of (st := sATape) D2
  have b2 := F2.binds (ps := ["script", "k"]) fun _ _ _ _ _ _ us hl => match us, hl with | [_, _], _ => rfl
  have k2 := F2.kp
  have g2 := He.glo_ok X G (cd.fact 1 (f := .glo "_law_atape") rfl)
  obtain ⟨fd3, D3⟩ := cd.def_ 2 (d := dd "_law_adigit" sADigit) rfl
  have F3 := fun_of (st := sADigit) D3
  have b3 := F3.binds (ps := ["tape", "many"]) fun _ _ _ _ _ _ us hl => match us, hl with | [_, _], _ => rfl
  have k3 := F3.kp
  have g3 := He.glo_ok X G (cd.fact 2 (f := .glo "_law_adigit") rfl)
  obtain ⟨fd4, D4⟩ := cd.def_ 3 (d := dd "_law_anet" sANet) rfl
  have F4 := fun_of (st := sANet) D4
  have b4 := F4.binds (ps := ["tape", "most"]) fun _ _ _ _ _ _ us hl => match us, hl with | [_, _], _ => rfl
  have k4 := F4.kp
  have g4 := He.glo_ok X G (cd.fact 3 (f := .glo "_law_anet") rfl)
  obtain ⟨fd5, D5⟩ := cd.def_ 4 (d := dd "_law_akept" sAKept) rfl
  have F5 := fun_of (st := sAKept) D5
  have b5 := F5.binds (ps := ["tape", "n", "many"]) fun _ _ _ _ _ _ us hl => match us, hl with | [_, _, _], _ => rfl
  have k5 := F5.kp
  have g5 := He.glo_ok X G (cd.fact 4 (f := .glo "_law_akept") rfl)
  obtain ⟨fd6, D6⟩ := cd.def_ 5 (d := dd "is_whole" sWhole) rfl
  have F6 := fun_of (st := sWhole) D6
  have b6 := F6.binds (ps := ["thing"]) fun _ _ _ _ _ _ us hl => match us, hl with | [_], _ => rfl
  have k6 := F6.kp
  have g6 := He.glo_ok X G (cd.fact 5 (f := .glo "is_whole") rfl)
  obtain ⟨fd7, D7⟩ := cd.def_ 6 (d := dd "rises" sRises) rfl
  have F7 := funC_of (p := ("rises", none)) (st := sRises) D7
  have b7 := F7.toFun.binds (ps := ["row"]) fun _ _ _ _ _ _ us hl => match us, hl with | [_], _ => rfl
  have k7 := F7.kp
  have g7 := He.glo_ok X G (cd.fact 6 (f := .glo "rises") rfl)
  obtain ⟨fd9, D9⟩ := cd.def_ 7 (d := dd "are_numbers" sNums) rfl
  have F9 := funC_of (p := ("are_numbers", none)) (st := sNums) D9
  have b9 := F9.toFun.binds (ps := ["thing"]) fun _ _ _ _ _ _ us hl => match us, hl with | [_], _ => rfl
  have k9 := F9.kp
  have g9 := He.glo_ok X G (cd.fact 7 (f := .glo "are_numbers") rfl)
  obtain ⟨fd10, D10⟩ := cd.def_ 8 (d := dd "has_numbers" sHasN) rfl
  have F10 := funC_of (p := ("has_numbers", none)) (st := sHasN) D10
  have b10 := F10.toFun.binds (ps := ["thing"]) fun _ _ _ _ _ _ us hl => match us, hl with | [_], _ => rfl
  have k10 := F10.kp
  have g10 := He.glo_ok X G (cd.fact 8 (f := .glo "has_numbers") rfl)
  obtain ⟨fd11, D11⟩ := cd.def_ 9 (d := dd "next_root" sNextR) rfl
  have F11 := fun_of (st := sNextR) D11
  have b11 := F11.binds (ps := ["kept", "row"]) fun _ _ _ _ _ _ us hl => match us, hl with | [_, _], _ => rfl
  have k11 := F11.kp
  have g11 := He.glo_ok X G (cd.fact 9 (f := .glo "next_root") rfl)
  obtain ⟨fd12, D12⟩ := cd.def_ 10 (d := dd "_law_awhole" sAWhole) rfl
  have F12 := fun_of (st := sAWhole) D12
  have b12 := F12.binds (ps := ["found"]) fun _ _ _ _ _ _ us hl => match us, hl with | [_], _ => rfl
  have k12 := F12.kp
  have g12 := He.glo_ok X G (cd.fact 10 (f := .glo "_law_awhole") rfl)
  obtain ⟨fd13, D13⟩ := cd.def_ 11 (d := dd "is_within" sWithin) rfl
  have F13 := fun_of (st := sWithin) D13
  have b13 := F13.binds (ps := ["thing", "least", "greatest"]) fun _ _ _ _ _ _ us hl => match us, hl with | [_, _, _], _ => rfl
  have k13 := F13.kp
  have g13 := He.glo_ok X G (cd.fact 11 (f := .glo "is_within") rfl)
  obtain ⟨fd14, D14⟩ := cd.def_ 12 (d := dd "is_road" sIsRoad) rfl
  have F14 := fun_of (st := sIsRoad) D14
  have b14 := F14.binds (ps := ["many", "thing"]) fun _ _ _ _ _ _ us hl => match us, hl with | [_, _], _ => rfl
  have k14 := F14.kp
  have g14 := He.glo_ok X G (cd.fact 12 (f := .glo "is_road") rfl)
  obtain ⟨fd15, D15⟩ := cd.def_ 13 (d := dd "is_net" sIsNet) rfl
  have F15 := funC_of (p := ("is_net", none)) (st := sIsNet) D15
  have b15 := F15.toFun.binds (ps := ["thing"]) fun _ _ _ _ _ _ us hl => match us, hl with | [_], _ => rfl
  have k15 := F15.kp
  have g15 := He.glo_ok X G (cd.fact 13 (f := .glo "is_net") rfl)
  obtain ⟨fd16, D16⟩ := cd.def_ 14 (d := dd "need_net" sNeedNet) rfl
  have F16 := fun_of (st := sNeedNet) D16
  have b16 := F16.binds (ps := ["net"]) fun _ _ _ _ _ _ us hl => match us, hl with | [_], _ => rfl
  have k16 := F16.kp
  have g16 := He.glo_ok X G (cd.fact 14 (f := .glo "need_net") rfl)
  obtain ⟨fd17, D17⟩ := cd.def_ 15 (d := dd "is_place" sIsPlace) rfl
  have F17 := fun_of (st := sIsPlace) D17
  have b17 := F17.binds (ps := ["net", "thing"]) fun _ _ _ _ _ _ us hl => match us, hl with | [_, _], _ => rfl
  have k17 := F17.kp
  have g17 := He.glo_ok X G (cd.fact 15 (f := .glo "is_place") rfl)
  obtain ⟨fd18, D18⟩ := cd.def_ 16 (d := dd "need_standing" sNeedS) rfl
  have F18 := funC_of (p := ("need_standing", none)) (st := sNeedS) D18
  have b18 := F18.toFun.binds (ps := ["net", "kept"]) fun _ _ _ _ _ _ us hl => match us, hl with | [_, _], _ => rfl
  have k18 := F18.kp
  have g18 := He.glo_ok X G (cd.fact 16 (f := .glo "need_standing") rfl)
  obtain ⟨fd19, D19⟩ := cd.def_ 17 (d := dd "need_room" sNeedRoom) rfl
  have F19 := fun_of (st := sNeedRoom) D19
  have b19 := F19.binds (ps := ["net"]) fun _ _ _ _ _ _ us hl => match us, hl with | [_], _ => rfl
  have k19 := F19.kp
  have g19 := He.glo_ok X G (cd.fact 17 (f := .glo "need_room") rfl)
  obtain ⟨fd20, D20⟩ := cd.def_ 18 (d := dd "keepers_of" sKeepers) rfl
  have F20 := funC_of (p := ("keepers_of", none)) (st := sKeepers) D20
  have b20 := F20.toFun.binds (ps := ["kept", "number"]) fun _ _ _ _ _ _ us hl => match us, hl with | [_, _], _ => rfl
  have k20 := F20.kp
  have g20 := He.glo_ok X G (cd.fact 18 (f := .glo "keepers_of") rfl)
  obtain ⟨fd21, D21⟩ := cd.def_ 19 (d := dd "send_net" sSendNet) rfl
  have F21 := fun_of (st := sSendNet) D21
  have b21 := F21.binds (ps := ["net", "kept", "number"]) fun _ _ _ _ _ _ us hl => match us, hl with | [_, _, _], _ => rfl
  have k21 := F21.kp
  have g21 := He.glo_ok X G (cd.fact 19 (f := .glo "send_net") rfl)
  obtain ⟨fd22, D22⟩ := cd.def_ 20 (d := dd "_law_asend_net" sASend) rfl
  have F22 := fun_of (st := sASend) D22
  have b22 := F22.binds (ps := ["net", "kept", "number"]) fun _ _ _ _ _ _ us hl => match us, hl with | [_, _, _], _ => rfl
  have k22 := F22.kp
  have g22 := He.glo_ok X G (cd.fact 20 (f := .glo "_law_asend_net") rfl)
  obtain ⟨fd23, D23⟩ := cd.def_ 21 (d := dd "law" sLaw) rfl
  have F23 := fun_of (st := sLaw) D23
  have k23 := F23.kp
  have g23 := He.glo_ok X G (cd.fact 21 (f := .glo "law") rfl)
  have m0 := He.free_ok X G (cd.fact 22 (f := .free "len") rfl)
  have m1 := He.free_ok X G (cd.fact 23 (f := .free "range") rfl)
  have m2 := He.free_ok X G (cd.fact 24 (f := .free "tuple") rfl)
  have m3 := He.free_ok X G (cd.fact 25 (f := .free "isinstance") rfl)
  have m4 := He.free_ok X G (cd.fact 26 (f := .free "int") rfl)
  have m5 := He.free_ok X G (cd.fact 27 (f := .free "bool") rfl)
  have m6 := He.free_ok X G (cd.fact 28 (f := .free "zip") rfl)
  have m7 := He.free_ok X G (cd.fact 29 (f := .free "all") rfl)
  have m8 := He.free_ok X G (cd.fact 30 (f := .free "dict") rfl)
  have m9 := He.free_ok X G (cd.fact 31 (f := .free "max") rfl)
  have m10 := He.free_ok X G (cd.fact 32 (f := .free "sorted") rfl)
  have m11 := He.free_ok X G (cd.fact 33 (f := .free "min") rfl)
  have m12 := He.free_ok X G (cd.fact 34 (f := .free "list") rfl)
  obtain ⟨t0, u0⟩ := He.int_ok X G (cd.fact 35 (f := .int "MOST_PRICE" 1000) rfl)
  obtain ⟨t1, u1⟩ := He.int_ok X G (cd.fact 36 (f := .int "LEAST_LATE" 1) rfl)
  obtain ⟨t2, u2⟩ := He.int_ok X G (cd.fact 37 (f := .int "MOST_LATE" 1000) rfl)
  obtain ⟨t3, u3⟩ := He.int_ok X G (cd.fact 38 (f := .int "MOST_PLACES" 12) rfl)
  have bl := FunD.bindsA (ps := ["script"]) D23 fun _ _ _ _ _ _ us hl => match us, hl with | [_], _ => rfl
  have e := hfa.symm.trans g23
  cases e
  have hcs : ∀ p ∈ [He.cT K ("is_net", none), He.cT K ("rises", none), He.cT K ("are_numbers", none), He.cT K ("has_numbers", none), He.cT K ("need_standing", none), He.cT K ("keepers_of", none)], ∃ d ∈ tfX, p = He.cT K d := fun p hp => by
    simp only [List.mem_cons, List.not_mem_nil, or_false] at hp
    rcases hp with rfl | rfl | rfl | rfl | rfl | rfl
    · exact ⟨("is_net", none), by simp [tfX], rfl⟩
    · exact ⟨("rises", none), by simp [tfX], rfl⟩
    · exact ⟨("are_numbers", none), by simp [tfX], rfl⟩
    · exact ⟨("has_numbers", none), by simp [tfX], rfl⟩
    · exact ⟨("need_standing", none), by simp [tfX], rfl⟩
    · exact ⟨("keepers_of", none), by simp [tfX], rfl⟩
  refine ⟨fd23, [He.cT K ("is_net", none), He.cT K ("rises", none), He.cT K ("are_numbers", none), He.cT K ("has_numbers", none), He.cT K ("need_standing", none), He.cT K ("keepers_of", none)], spLaw K (He.cT K ("is_net", none)).2 (He.cT K ("rises", none)).2 (He.cT K ("are_numbers", none)).2 (He.cT K ("has_numbers", none)).2 (He.cT K ("need_standing", none)).2 (He.cT K ("keepers_of", none)).2, fun p hp => ?_, fun p hp => ?_, fun p hp => ?_, fun s v => bl s [v] rfl, fun H a ns _ _ hH hS => ?_, fun base hK hN hB => ?_⟩
  · obtain ⟨d, hd, rfl⟩ := hcs p hp
    exact c.empty d hd
  · obtain ⟨d, hd, rfl⟩ := hcs p hp
    exact c.out d hd
  · obtain ⟨d, hd, rfl⟩ := hcs p hp
    exact PySem.W.codeHd_of_K X (c.hd d hd)
  · have tb0 : H (He.cT K ("is_net", none)).2 = some (.tbl #[]) := hH (He.cT K ("is_net", none)) (by simp)
    have tb1 : H (He.cT K ("rises", none)).2 = some (.tbl #[]) := hH (He.cT K ("rises", none)) (by simp)
    have tb2 : H (He.cT K ("are_numbers", none)).2 = some (.tbl #[]) := hH (He.cT K ("are_numbers", none)) (by simp)
    have tb3 : H (He.cT K ("has_numbers", none)).2 = some (.tbl #[]) := hH (He.cT K ("has_numbers", none)) (by simp)
    have tb4 : H (He.cT K ("need_standing", none)).2 = some (.tbl #[]) := hH (He.cT K ("need_standing", none)) (by simp)
    have tb5 : H (He.cT K ("keepers_of", none)).2 = some (.tbl #[]) := hH (He.cT K ("keepers_of", none)) (by simp)
    exact ⟨a, ns, rfl, hS, ⟨_, tb0, trivial⟩, ⟨_, tb1, trivial⟩, ⟨_, tb2, trivial⟩, ⟨_, tb3, trivial⟩, ⟨_, tb4, trivial⟩, ⟨_, tb5, trivial⟩, fun _ => rfl⟩
  · have B15 : GxR.TabB base mg (He.cT K ("is_net", none)).1 (He.cT K ("is_net", none)).2 := by
      obtain ⟨x1, x2, x3⟩ := hB (He.cT K ("is_net", none)) (by simp)
      exact ⟨x1, x2, x3⟩
    have B7 : GxR.TabB base mg (He.cT K ("rises", none)).1 (He.cT K ("rises", none)).2 := by
      obtain ⟨x1, x2, x3⟩ := hB (He.cT K ("rises", none)) (by simp)
      exact ⟨x1, x2, x3⟩
    have B9 : GxR.TabB base mg (He.cT K ("are_numbers", none)).1 (He.cT K ("are_numbers", none)).2 := by
      obtain ⟨x1, x2, x3⟩ := hB (He.cT K ("are_numbers", none)) (by simp)
      exact ⟨x1, x2, x3⟩
    have B10 : GxR.TabB base mg (He.cT K ("has_numbers", none)).1 (He.cT K ("has_numbers", none)).2 := by
      obtain ⟨x1, x2, x3⟩ := hB (He.cT K ("has_numbers", none)) (by simp)
      exact ⟨x1, x2, x3⟩
    have B18 : GxR.TabB base mg (He.cT K ("need_standing", none)).1 (He.cT K ("need_standing", none)).2 := by
      obtain ⟨x1, x2, x3⟩ := hB (He.cT K ("need_standing", none)) (by simp)
      exact ⟨x1, x2, x3⟩
    have B20 : GxR.TabB base mg (He.cT K ("keepers_of", none)).1 (He.cT K ("keepers_of", none)).2 := by
      obtain ⟨x1, x2, x3⟩ := hB (He.cT K ("keepers_of", none)) (by simp)
      exact ⟨x1, x2, x3⟩
    have O1 := ok_acell (P := PySem.Challenge.rw_hearkenway_k30_next_roots_and_send_nets.prog) (w := w) (mg := mg) (base := base) F1 m0
    have O2 := ok_atape (P := PySem.Challenge.rw_hearkenway_k30_next_roots_and_send_nets.prog) (w := w) (mg := mg) (base := base) F2 k1 b1 g1 O1 m1
    have O3 := ok_adigit (P := PySem.Challenge.rw_hearkenway_k30_next_roots_and_send_nets.prog) (w := w) (mg := mg) (base := base) F3
    have O4 := ok_anet (P := PySem.Challenge.rw_hearkenway_k30_next_roots_and_send_nets.prog) (w := w) (mg := mg) (base := base) F4 k3 b3 g3 O3 m1 m2
    have O5 := ok_akept (P := PySem.Challenge.rw_hearkenway_k30_next_roots_and_send_nets.prog) (w := w) (mg := mg) (base := base) F5 k3 b3 g3 O3 m1 m2
    have O6 := ok_whole (P := PySem.Challenge.rw_hearkenway_k30_next_roots_and_send_nets.prog) (w := w) (mg := mg) (base := base) F6 m3 m4 m5
    have O7 := ok_rises (P := PySem.Challenge.rw_hearkenway_k30_next_roots_and_send_nets.prog) (w := w) (mg := mg) (base := base) F7 B7 m6 m7
    have O8 := ok_risesI (P := PySem.Challenge.rw_hearkenway_k30_next_roots_and_send_nets.prog) (w := w) (mg := mg) (base := base) F7 B7 m6 m7
    have O9 := ok_nums (P := PySem.Challenge.rw_hearkenway_k30_next_roots_and_send_nets.prog) (w := w) (mg := mg) (base := base) F9 B9 k6 b6 g6 O6 k7 b7 g7 O8 m3 m2 m7
    have O10 := ok_hasn (P := PySem.Challenge.rw_hearkenway_k30_next_roots_and_send_nets.prog) (w := w) (mg := mg) (base := base) F10 B10 k6 b6 g6 O6 k9 b9 g9 O9 m3 m8 m7
    have O11 := ok_nextr (P := PySem.Challenge.rw_hearkenway_k30_next_roots_and_send_nets.prog) (w := w) (mg := mg) (base := base) F11 k10 b10 g10 O10 m9
    have O12 := ok_awhole (P := PySem.Challenge.rw_hearkenway_k30_next_roots_and_send_nets.prog) (w := w) (mg := mg) (base := base) F12 m3 m4 m5
    have O13 := ok_within (P := PySem.Challenge.rw_hearkenway_k30_next_roots_and_send_nets.prog) (w := w) (mg := mg) (base := base) F13 F6 b6 g6 O6
    have O14 := ok_road (P := PySem.Challenge.rw_hearkenway_k30_next_roots_and_send_nets.prog) (w := w) (mg := mg) (base := base) F14 F13 b13 g13 O13 m3 m2 m0 u0 u1 u2
    have O15 := ok_isnet (P := PySem.Challenge.rw_hearkenway_k30_next_roots_and_send_nets.prog) (w := w) (mg := mg) (base := base) F15 B15 k13 b13 g13 O13 k14 b14 g14 O14 k7 b7 g7 O7 m3 m2 m0 m7 u3
    have O16 := ok_neednet (P := PySem.Challenge.rw_hearkenway_k30_next_roots_and_send_nets.prog) (w := w) (mg := mg) (base := base) F16 k15 b15 g15 O15
    have O17 := ok_isplace (P := PySem.Challenge.rw_hearkenway_k30_next_roots_and_send_nets.prog) (w := w) (mg := mg) (base := base) F17 k13 b13 g13 O13
    have O18 := ok_needs (P := PySem.Challenge.rw_hearkenway_k30_next_roots_and_send_nets.prog) (w := w) (mg := mg) (base := base) F18 B18 k16 b16 g16 O16 k10 b10 g10 O10 k17 b17 g17 O17 m7
    have O19 := ok_needroom (P := PySem.Challenge.rw_hearkenway_k30_next_roots_and_send_nets.prog) (w := w) (mg := mg) (base := base) F19 u3
    have O20 := ok_keepers (P := PySem.Challenge.rw_hearkenway_k30_next_roots_and_send_nets.prog) (w := w) (mg := mg) (base := base) F20 B20 m2 m10
    have O21 := ok_sendnet (P := PySem.Challenge.rw_hearkenway_k30_next_roots_and_send_nets.prog) (w := w) (mg := mg) (base := base) F21 k18 b18 g18 O18 k19 b19 g19 O19 k20 b20 g20 O20 m2
    have O22 := ok_asend (P := PySem.Challenge.rw_hearkenway_k30_next_roots_and_send_nets.prog) (w := w) (mg := mg) (base := base) F22 m2 m10
    exact ok_law F23 k2 b2 g2 O2 k4 b4 g4 O4 k3 b3 g3 O3 k5 b5 g5 O5 k11 b11 g11 O11 k12 b12 g12 O12 k21 b21 g21 O21 k22 b22 g22 O22 k15 b15 g15 O15 m0 m1 m9 m11 m12 m8 m2 m3
end HK

open PySem PySem.W PySem.Calls PyProof.Rows
set_option Elab.async false
set_option linter.all false
set_option maxRecDepth 100000
set_option maxHeartbeats 0
theorem HK.runX (w : World) : HandSHeadRun.RunEq HK.RX HK.qX HK.hkX HK.obX 14000 HK.namesX w := by
  intro os
  kernel_rfl
theorem PySem.Challenge.cw_hearkenway_k30_next_roots_and_send_nets_holds : PySem.Challenge.rw_hearkenway_k30_next_roots_and_send_nets.Holds := by
  w_on; o_law
  refine HandSHeadRun.head_any (r := OpenLaw.row PySem.Challenge.rw_hearkenway_k30_next_roots_and_send_nets) (q := HK.qX) (H := HK.hkX) (ob := HK.obX) (M := 14000) (loose := HK.namesX) (d := HandSHeadRun.topDef (OpenLaw.row PySem.Challenge.rw_hearkenway_k30_next_roots_and_send_nets).prog 34) (kwd := []) HK.obX_eq
    (by kernel_rfl) (fun s => by kernel_rfl) HK.runX (by kernel_rfl) (by kernel_rfl) (by kernel_rfl) (by rfl) (by first | assumption | decide +kernel) (by decide +kernel) ⟨rfl, rfl, rfl, rfl, rfl, by decide +kernel⟩ ?hw ?hc
  case hw => w_witness2
  case hc =>
    refine LamX.walk_ofTsE (l := PySem.Challenge.rw_hearkenway_k30_next_roots_and_send_nets) (n := 63) (k := 9) (x := "script") (CX := fun _ => L2.CX0) rfl (by decide) (by kernel_rfl) ⟨rfl, by decide, by decide⟩ ?F (fun _ _ _ _ _ h => h)
    intro w mg fa h Y G hmg0
    obtain ⟨K, KX, c⟩ := Y
    have hmg : mg ("law" : PySem.Str) = some (.ref fa) := by
      have e : (HandSHeadRun.topDef (OpenLaw.row PySem.Challenge.rw_hearkenway_k30_next_roots_and_send_nets).prog 34).name = ("law" : PySem.Str) := by kernel_rfl
      rw [← e]
      exact hmg0
    exact ⟨K, KX, HK.at_law KX G hmg c⟩
