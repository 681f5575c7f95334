import PyProof.Rows.All
import Wide.All
import OpenK.AllK
import Wide.FinOn
import HandS.AnyAll
import HandS.GenOver
import HandS.ForMost
import HandS.IsInst
import HandS.EndTab
import HandS.Wide
import HandS.Style
import HandS.Evl
import HandS.TupAny
import HandS.DictComp
import HandS.More
import HandS.Walk
import HandS.WordsDict
import HandS.Conv
import KE.KDictList
import HandS.ListItems
import HandS.SetFor
import HandS.Strs
import HandS.Zip
import HandS.TupMul
import HandS.Deep
import PyProof.TupleOfGen
import HandS.Defaults
import HandS.Head0
import HandS.Head1
import HandS.Head2
import HandS.HeadEnd
import HandS.HeadHook1
import HandS.HeadHook2
import HandS.HeadHook3
import HandS.HeadHook4
import HandS.HeadWalk
import HandS.EndOwn
import PySem.Challenge.RW_hearkenway_k40_ways_of_anything
set_option Elab.async false
set_option linter.all false
set_option maxRecDepth 100000
set_option maxHeartbeats 2000000
namespace GAl
open PySem PySem.Spec PyProof.Rows L2 GxR
open Sem (wp)

theorem Inv.kall {X : Cx} {pins : List (Addr × Obj)} {σ : L2.St} {H : Hp} {s s'' : Shared} (I : Inv X pins σ H s) (ho : s''.os = s.os) (hb : AllBare s''.gens)
    (k : ∀ b o, s.heap.get? b = some o → s''.heap.get? b = some o) : Inv X pins σ H s'' := by
  obtain ⟨h', g', d', t', o'⟩ := s''
  have e : o' = s.os := ho
  subst e
  exact I.call (h' := h') (g' := g') (d' := d') (t' := t') (ch := []) (Un.kept k) (I.hok.kept k) hb (fun b z => absurd z (by simp))

theorem bare_set {s : Shared} {g : Nat} {x : GenState} (h : AllBare s.gens) (hx : x.bare = true) : AllBare (s.setGen g x).gens := by
  intro y hy
  simp only [Shared.setGen] at hy
  rcases Array.mem_or_eq_of_mem_setIfInBounds hy with z | z
  · exact h y z
  · rw [z]; exact hx

/-- the context of a generator expression's code -/
abbrev gcx (X : Cx) (A' : Around) (s : Shared) (H : Hp) (cenv : Env) (fp : List Addr) : Cx :=
  { X with A := A', s_0 := s, H_0 := H, env := cenv, outer := X.stack, stack := cenv :: X.stack, ex := fp, fn := fun _ => false, pn := [], xe := fun _ _ => False }

section
variable {X : Cx} {pins : List (Addr × Obj)} {σ : L2.St} {H : Hp} {s : Shared}

theorem gen_start {scope : Scope} {own : List (Str × Nat)} {fp : List Addr} {A' : Around} {cenv : Env} {code : Value} {m : Str → Option Value} {h5 : Heap} {g' : Array GenState} {t5 : Nat} {a : Addr} {oa : Obj}
    (I : Inv X pins σ H s) (ok : BlkOk X.N X.env.scope scope own) (hcell : ∀ y ∈ scope.names, y.2 ≠ .cell) (hN : X.N.Nodup)
    (hfp : ∀ b ∈ fp, FpOk X pins H b ∧ b < s.heap.objs.size)
    (hce : cenv = genEnv scope (cloFrom X.env.cells scope.names []) s.heap.objs.size code builtinsNs X.env)
    (hA : A'.frames = some (cenv :: X.stack)) (hh : A'.handled = none)
    (hns : h5.Ns s.heap.objs.size m) (kp : ∀ b o, s.heap.get? b = some o → h5.get? b = some o) (hb : AllBare g')
    (ha : h5.get? a = some oa) (hla : s.heap.objs.size < a) (hda : ∀ v, oa.data ≠ .cell v) :
    Inv (gcx X A' s H cenv fp) [(a, oa)] (wipe σ (own.map (·.2))) H { s with heap := h5, gens := g', toks := t5 } := by
  have hfree : ∀ y ∈ scope.names, y.2 = .free → ∃ c, X.env.cells.lookup y.1 = some c := fun y hy e => by
    rcases ok.free y hy e with k | k
    · exact I.ok.has _ (.inl k)
    · exact I.ok.has _ (.inr k)
  have hL : cenv.locals = s.heap.objs.size := by rw [hce]; rfl
  have hcl : cenv.cells = cloFrom X.env.cells scope.names [] := by rw [hce]; rfl
  have hsc : cenv.scope = scope := by rw [hce]; rfl
  have mem : ∀ {y c}, cenv.cells.lookup y = some c → X.env.cells.lookup y = some c ∧ c < s.heap.objs.size := fun {y c} e => by
    rw [hcl] at e
    rcases cloFrom_mem (PySem.mem_of_lookup e) with hm | ⟨h1, rfl⟩
    · cases hm
    · obtain ⟨c, hc⟩ := hfree _ h1 rfl
      rw [hc]
      obtain ⟨w, z⟩ := I.cell _ _ hc
      exact ⟨rfl, z.lt⟩
  have look : ∀ {y}, scope.names.lookup y = some .free → ∃ c, cenv.cells.lookup y = some c ∧ X.env.cells.lookup y = some c := fun {y} hl => by
    have hy : (y, NameKind.free) ∈ scope.names := PySem.mem_of_lookup hl
    obtain ⟨c', e'⟩ := mem_lookup (cloFrom_has (cells := X.env.cells) (acc := []) hy)
    rw [← hcl] at e'
    exact ⟨c', e', (mem e').1⟩
  have kfree : ∀ {y k}, cenv.kindOf y = some k → (k = .cell ∨ k = .free) → scope.names.lookup y = some .free := fun {y k} hk hk' => by
    unfold Env.kindOf at hk
    rw [hsc] at hk
    rcases hk' with rfl | rfl
    · exact absurd rfl (hcell _ (PySem.mem_of_lookup hk))
    · exact hk
  have okB : (gcx X A' s H cenv fp).Ok := by
    refine ⟨I.ok.mod, by show cenv.scope.kind = _; rw [hsc]; exact ok.kind, by show cenv.globals = _; rw [hce]; exact I.ok.glob, by show cenv.builtins = _; rw [hce]; rfl, by show s.heap.objs.size ≤ cenv.locals; rw [hL]; exact Nat.le_refl _,
      fun y z c e1 e2 => I.ok.inj y z c (mem e1).1 (mem e2).1, fun y hy => ?_, fun y c z e => (by cases z), fun _ => hh, hA, .inr ⟨rfl, by show cenv.frame = some cenv.locals; rw [hce]; rfl⟩, fun b hb => ⟨?_, fun y c e z => ?_⟩, I.bs, Nat.le_trans I.ok.bsz I.sz, fun b o e hb => ?_, fun b hb z => ?_, I.stack, I.stkFree⟩
    · rcases hy with hy | hy
      · obtain ⟨c, h1, _⟩ := look (kfree hy (.inl rfl)); exact ⟨c, h1⟩
      · obtain ⟨c, h1, _⟩ := look (kfree hy (.inr rfl)); exact ⟨c, h1⟩
    · show b ≠ cenv.locals
      rw [hL]; exact Nat.ne_of_lt (hfp b hb).2
    · exact (hfp b hb).1.2.2.2.2.1 y c (mem e).1 z
    · rcases (hfp b hb).1.2.2.2.1 with z | z
      · exact I.ok.noex b o e z
      · exact absurd (Nat.lt_of_lt_of_le (Heap.lt_size e) (Nat.le_trans I.ok.bsz z)) (Nat.lt_irrefl _)
    · rcases List.mem_cons.mp (I.stkSub b z) with z | z
      · exact (hfp b hb).1.2.1 z
      · exact (hfp b hb).1.2.2.1 z
  refine ⟨okB, rfl, hb, Un.kept kp, ⟨m, ?_, fun i y av e1 e2 e3 => ?_⟩, fun y c e => ?_, ?_, fun y c e => ?_, fun p hp => ?_, I.hok.kept kp, by rw [wipe_length]; exact I.len⟩
  · show Heap.Ns _ cenv.locals _
    rw [hL]
    exact hns
  · obtain ⟨e2, hne⟩ := wipe_some e2
    have hfr : scope.names.lookup y = some .free := by
      have key : ∀ k, scope.names.lookup y = some k → k = .local ∨ k = .cell ∨ k = .free → scope.names.lookup y = some .free := fun k hk hk' => by
        have no : ¬ (k = .local ∨ k = .cell) := fun hh => by
          rcases ok.own _ (PySem.mem_of_lookup hk) hh with e' | e'
          · obtain ⟨p, hp, hpy⟩ := List.mem_map.mp e'
            have e3 := ok.ix p hp
            have : p.1 = y := hpy
            rw [this] at e3
            exact hne (List.mem_map.mpr ⟨p, hp, nodup_ix hN e3 e1⟩)
          · exact e' (List.mem_of_getElem? e1)
        rcases hk' with rfl | rfl | rfl
        · exact absurd (.inl rfl) no
        · exact absurd (.inr rfl) no
        · exact hk
      have e3 : Vis cenv.scope y := e3
      rw [hsc] at e3
      rcases e3 with e3 | e3 | e3
      · exact key _ e3 (.inl rfl)
      · exact key _ e3 (.inr (.inl rfl))
      · exact key _ e3 (.inr (.inr rfl))
    obtain ⟨m, hn, hl⟩ := I.loc
    have hvis : Vis X.env.scope y := (ok.free _ (PySem.mem_of_lookup hfr) rfl).elim (fun k => .inr (.inl k)) (fun k => .inr (.inr k))
    obtain ⟨w, r, q⟩ := hl i y av e1 e2 hvis
    refine ⟨w, r, .inr ⟨.inr (by show cenv.scope.names.lookup y = _; rw [hsc]; exact hfr), ?_⟩⟩
    obtain ⟨c, h1, h2⟩ := look hfr
    rcases q with ⟨k, _⟩ | ⟨_, c', e', z⟩
    · have k : X.env.scope.names.lookup y = some .local := k
      rcases ok.free _ (PySem.mem_of_lookup hfr) rfl with k' | k' <;> rw [show X.env.scope.names.lookup y = _ from k'] at k <;> cases k
    · rw [h2] at e'; cases e'
      exact ⟨c, h1, z.keeps kp⟩
  · obtain ⟨w, z⟩ := I.cell y c (mem e).1
    exact ⟨w, z.keeps kp⟩
  · show H cenv.locals = none
    rw [hL]; exact I.hok.fresh (Nat.le_refl _)
  · exact I.freeC y c (mem e).1
  · have hp : p ∈ ([] : List (Addr × Obj)) ++ [(a, oa)] := hp
    simp only [List.nil_append, List.mem_singleton] at hp
    subst hp
    refine ⟨ha, I.hok.fresh (Nat.le_of_lt hla), ?_, ?_, hda⟩
    · show a ≠ cenv.locals
      rw [hL]; exact Nat.ne_of_gt hla
    · intro z
      have z : a ∈ frs X.stack := z
      obtain ⟨_, o, ho, _⟩ := I.stack.mem z
      exact absurd (Nat.lt_trans hla (Heap.lt_size ho)) (Nat.lt_irrefl _)
end
end GAl

set_option Elab.async false
set_option linter.all false
set_option maxRecDepth 100000
set_option maxHeartbeats 2000000
namespace GAl
open PySem PySem.Spec PyProof.Rows L2 GxR
open Sem (wp)

/-- the generator's end and what it hands out -/
def REnd (XG : Cx) (a : Addr) (oa : Obj) (σw : L2.St) (Qd : Hp → Prop) : Nat → Shared → Shared → Prop := fun _ _ s₁ => ∃ H4, Inv XG [(a, oa)] σw H4 s₁ ∧ Qd H4
def YOut (XG : Cx) (a : Addr) (oa : Obj) (stp : V → Hp → Prop → Prop) : Protocol := fun _ _ v s kap =>
  ∃ y H4 σ4, Inv XG [(a, oa)] σ4 H4 s ∧ RelV y v ∧ stp y H4 (∀ s'' : Shared, s''.os = s.os → AllBare s''.gens → (∀ b o, s.heap.get? b = some o → s''.heap.get? b = some o) → kap (.send .none) s'')

/-- what a turn asks (W by the turn and a measure) -/
def GTurn (J : It) (g : TG) (tt : TT) (te : TE) (vs : List Nat) (σw : L2.St) (Qd : Hp → Prop) (stp : V → Hp → Prop → Prop) (W : Nat → Nat → Hp → Prop) : Prop :=
  ∀ i m H, W i m H → (J.stop i H ∧ Qd H) ∨ (J.go i H ∧ ∃ Nx : Hp → Prop, (∀ H', Nx H' → ∃ m', m' < m ∧ W (i + 1) m' H') ∧ ∀ x H', J.yld i H x H' → g x σw H' fun σ2 H2 => wipe σ2 vs = σw ∧ tt σ2 H2 fun b H3 =>
    if b = true then te σ2 H3 fun y H4 => stp y H4 (Nx H4) else Nx H3)

section
variable {X : Cx} {σ : L2.St} {elt tg iter : Expr} {ifs : List Expr} {scope : Scope} {pos : Pos} {it a : Addr} {oa : Obj} {fp : List Addr} {cenv : Env} {AG : Around} {s4 : Shared} {Hs : Hp} {J : It} {tn : Nat → Heap → Prop}
  {g : TG} {tt : TT} {te : TE} {vs : List Nat} {σw : L2.St} {Qd : Hp → Prop} {stp : V → Hp → Prop → Prop} {W : Nat → Nat → Hp → Prop}

theorem gen_loop (hc : X.calm = true) (hco : cenv.scope.isCoroutine = false) (T : Turn X.prog X.w X.K tg J fp it tn) (hafp : ∀ b ∈ fp, a ≠ b)
    (hmono : ∀ y H (p q : Prop), (p → q) → stp y H p → stp y H q)
    (pg : PG (gcx X (AG.over (.compLoop (.GeneratorExp elt [⟨tg, iter, ifs, 0⟩] scope pos) 0 (.ref it) .none cenv) []) s4 Hs cenv fp) tg g)
    (pt : PTs (gcx X (AG.over (.compLoop (.GeneratorExp elt [⟨tg, iter, ifs, 0⟩] scope pos) 0 (.ref it) .none cenv) []) s4 Hs cenv fp) ifs tt)
    (pe : PE (gcx X (AG.over (.compLoop (.GeneratorExp elt [⟨tg, iter, ifs, 0⟩] scope pos) 0 (.ref it) .none cenv) []) s4 Hs cenv fp) elt te)
    (hW : GTurn J g tt te vs σw Qd stp W) :
    ∀ (m n i : Nat) (s₀ s : Shared) (H : Hp), m < n → W i m H → Inv (gcx X (AG.over (.compLoop (.GeneratorExp elt [⟨tg, iter, ifs, 0⟩] scope pos) 0 (.ref it) .none cenv) []) s4 Hs cenv fp) [(a, oa)] σw H s → tn i s.heap → (∀ b ∈ fp, H b = none) →
      Seg (model X.prog X.w) AG (fun n s₀ r s₁ => r = .ok .next ∧ REnd (gcx X (AG.over (.compLoop (.GeneratorExp elt [⟨tg, iter, ifs, 0⟩] scope pos) 0 (.ref it) .none cenv) []) s4 Hs cenv fp) a oa σw Qd n s₀ s₁)
        (YOut (gcx X (AG.over (.compLoop (.GeneratorExp elt [⟨tg, iter, ifs, 0⟩] scope pos) 0 (.ref it) .none cenv) []) s4 Hs cenv fp) a oa stp) n s₀
        (.compLoop (.GeneratorExp elt [⟨tg, iter, ifs, 0⟩] scope pos) 0 (.ref it) .none cenv)
        ((model X.prog X.w).den (.compLoop (.GeneratorExp elt [⟨tg, iter, ifs, 0⟩] scope pos) 0 (.ref it) .none cenv)) [] s := by
  generalize hXG : gcx X (AG.over (.compLoop (.GeneratorExp elt [⟨tg, iter, ifs, 0⟩] scope pos) 0 (.ref it) .none cenv) []) s4 Hs cenv fp = XG at pg pt pe ⊢
  have hA : XG.A = AG.over (.compLoop (.GeneratorExp elt [⟨tg, iter, ifs, 0⟩] scope pos) 0 (.ref it) .none cenv) [] := by rw [← hXG]
  have hP : XG.prog = X.prog := by rw [← hXG]
  have hw : XG.w = X.w := by rw [← hXG]
  have hK : XG.K = X.K := by rw [← hXG]
  have hcalm : XG.calm = true := by rw [← hXG]; exact hc
  have henv : XG.env = cenv := by rw [← hXG]
  have hxe : XG.xe = fun _ _ => False := by rw [← hXG]
  have hex : XG.ex = fp := by rw [← hXG]
  have hpn : XG.pn = [] := by rw [← hXG]
  have stat : ∀ {σ' : L2.St} {H' : Hp} {s' : Shared}, Inv XG [(a, oa)] σ' H' s' → (∀ b ∈ fp, H' b = none) → ∀ b ∈ fp, FpOk XG [(a, oa)] H' b := fun {σ' H' s'} I' hn b hb =>
    ⟨hn b hb, (I'.ok.exf b (by rw [hex]; exact hb)).1, I'.ok.exfs b (by rw [hex]; exact hb), .inl (by rw [hex]; exact hb), fun x c e => (I'.ok.exf b (by rw [hex]; exact hb)).2 x c e, fun p hp => by
      rw [hpn] at hp
      simp only [List.nil_append, List.mem_singleton] at hp
      subst hp
      exact hafp b hb⟩
  intro m
  induction m using Nat.strongRecOn with
  | ind m ih =>
    intro n i s₀ s H hmn w I st nH
    show Seg _ AG _ _ _ s₀ _ ((compTurn (.GeneratorExp elt [⟨tg, iter, ifs, 0⟩] scope pos) 0 (.ref it) .none cenv).onRaise (leaving cenv)) [] s
    rw [compTurn_gen, Sem.onRaise_eq_wrap]
    refine seg_bind_wrap (wpAny_standAt ?_)
    rcases hW i m H w with ⟨stop, qq⟩ | ⟨go, Nx, hNx, step⟩
    · have td := T.done XG hP hw hK hcalm i _ s _ H (fun _ _ => False) I (stat I nH) st stop
      rw [hA] at td
      refine seg_bind_wrap (thnF td fun r s1 ⟨hr, I1⟩ => ?_)
      subst hr
      exact seg_end (.ok .next) ⟨rfl, H, I1, qq⟩
    · have ti := T.item XG hP hw hK hcalm i _ s _ H (fun _ _ => False) I (stat I nH) st go
      rw [hA] at ti
      refine seg_bind_wrap (thnF ti fun r s1 ⟨u, hr, h1⟩ => ?_)
      subst hr
      refine seg_bind_wrap (thnF h1 fun _ s2 ⟨x, H2, I2, r2, y2, st2, n2⟩ => ?_)
      have I2' := I2.pinned (stat I2 n2) (T.obj _ _ st2)
      have rg := pg.run _ s2 _ H2 x u _ I2' r2 (step x H2 y2)
      rw [hA, hP, hw, henv, hxe] at rg
      refine seg_bind_wrap (thnF rg fun _ s3 ⟨σ3, H3, I3, hw3, q3⟩ => ?_)
      have rt := pt.run _ s3 σ3 H3 _ I3 q3
      rw [hA, hP, hw, henv, hxe] at rt
      refine seg_bind_wrap (thnF rt fun b s5 ⟨H5, I5, q5⟩ => ?_)
      have fin : ∀ {s' s'' : Shared} {H' : Hp}, Inv XG ([(a, oa)] ++ pinsAt fp s2.heap) σ3 H' s' → s''.os = s'.os → AllBare s''.gens → (∀ b o, s'.heap.get? b = some o → s''.heap.get? b = some o) → Nx H' →
          ∃ m', m' < m ∧ W (i + 1) m' H' ∧ Inv XG [(a, oa)] σw H' s'' ∧ tn (i + 1) s''.heap ∧ (∀ b ∈ fp, H' b = none) := fun {s' s'' H'} I' e1 e2 e3 nx => by
        obtain ⟨m', hm, w'⟩ := hNx H' nx
        have pin' : ∀ b ∈ fp, ∀ o, s2.heap.get? b = some o → s'.heap.get? b = some o ∧ H' b = none := fun b hb o e =>
          let z := I'.pin (b, o) (List.mem_append_right _ (List.mem_append_right _ (mem_pinsAt hb e)))
          ⟨z.1, z.2.1⟩
        have hl : σw.length = σ3.length := by rw [← hw3, wipe_length]
        refine ⟨m', hm, w', Inv.kall ((I'.unpinned (pins := [(a, oa)])).weak hl (fun j v e => ?_)) e1 e2 e3, T.keep _ _ _ st2 fun b hb o e => e3 b o (pin' b hb o e).1, fun b hb => ?_⟩
        · rw [← hw3] at e
          exact (wipe_some e).1
        · obtain ⟨o, e, _⟩ := T.obj _ _ st2 b hb
          exact (pin' b hb o e).2
      cases b with
      | false =>
        simp only [Bool.false_eq_true, if_false] at q5 ⊢
        obtain ⟨m', hm, w', I', st', n'⟩ := fin I5 rfl I5.bare (fun _ _ e => e) q5
        exact seg_again rfl (ih m' hm n (i + 1) s₀ s5 H5 (by omega) w' I' st' n')
      | true =>
        simp only [if_true] at q5 ⊢
        have hy : ∀ v, yieldOut cenv v = yieldValue v := fun v => by simp only [yieldOut, hco, Bool.false_eq_true, if_false]
        simp only [hy]
        rw [Sem.bind_eq_wrap', Sem.bind_eq_wrap', Sem.wrap_wrap, Sem.wrap_wrap]
        have re := pe.run _ s5 σ3 H5 _ I5 q5
        rw [hA, hP, hw, henv, hxe] at re
        refine seg_wrap (thnF re fun z s6 ⟨yv, H6, I6, r6, q6⟩ => ?_)
        cases n with
        | zero => exact absurd hmn (Nat.not_lt_zero _)
        | succ n =>
          refine seg_at (seg_yield rfl rfl rfl ⟨yv, H6, σ3, I6.unpinned (pins := [(a, oa)]), r6, hmono _ _ _ _ (fun nx s'' e1 e2 e3 => ?_) q6⟩)
          obtain ⟨m', hm, w', I', st', n'⟩ := fin I6 e1 e2 e3 nx
          exact seg_again rfl (ih m' hm n (i + 1) s'' s'' H6 (by omega) w' I' st' n')

theorem gen_begin (hc : X.calm = true) (hco : cenv.scope.isCoroutine = false) (T : Turn X.prog X.w X.K tg J fp it tn) (hafp : ∀ b ∈ fp, a ≠ b)
    (hmono : ∀ y H (p q : Prop), (p → q) → stp y H p → stp y H q)
    (pg : PG (gcx X (AG.over (.compLoop (.GeneratorExp elt [⟨tg, iter, ifs, 0⟩] scope pos) 0 (.ref it) .none cenv) []) s4 Hs cenv fp) tg g)
    (pt : PTs (gcx X (AG.over (.compLoop (.GeneratorExp elt [⟨tg, iter, ifs, 0⟩] scope pos) 0 (.ref it) .none cenv) []) s4 Hs cenv fp) ifs tt)
    (pe : PE (gcx X (AG.over (.compLoop (.GeneratorExp elt [⟨tg, iter, ifs, 0⟩] scope pos) 0 (.ref it) .none cenv) []) s4 Hs cenv fp) elt te)
    (hW : GTurn J g tt te vs σw Qd stp W) (m : Nat) (s₀ s : Shared) (H : Hp) (w : W 0 m H)
    (I : Inv (gcx X (AG.over (.compLoop (.GeneratorExp elt [⟨tg, iter, ifs, 0⟩] scope pos) 0 (.ref it) .none cenv) []) s4 Hs cenv fp) [(a, oa)] σw H s) (st : tn 0 s.heap) (nH : ∀ b ∈ fp, H b = none) :
      Seg (model X.prog X.w) AG (fun n s₀ r s₁ => r = .ok .next ∧ REnd (gcx X (AG.over (.compLoop (.GeneratorExp elt [⟨tg, iter, ifs, 0⟩] scope pos) 0 (.ref it) .none cenv) []) s4 Hs cenv fp) a oa σw Qd n s₀ s₁)
        (YOut (gcx X (AG.over (.compLoop (.GeneratorExp elt [⟨tg, iter, ifs, 0⟩] scope pos) 0 (.ref it) .none cenv) []) s4 Hs cenv fp) a oa stp) (m + 1) s₀
        (.compStart (.GeneratorExp elt [⟨tg, iter, ifs, 0⟩] scope pos) 0 (.ref it) .none cenv)
        ((model X.prog X.w).den (.compStart (.GeneratorExp elt [⟨tg, iter, ifs, 0⟩] scope pos) 0 (.ref it) .none cenv)) [] s := by
  have loop := gen_loop (a := a) (oa := oa) hc hco T hafp hmono pg pt pe hW m (m + 1) 0 s₀ s H (Nat.lt_succ_self _) w I st nH
  show Seg _ AG _ _ _ s₀ _ ((compStart (.GeneratorExp elt [⟨tg, iter, ifs, 0⟩] scope pos) 0 (.ref it) .none cenv).onRaise (leaving cenv)) [] s
  unfold compStart
  rw [Sem.onRaise_eq_wrap]
  show Seg _ AG _ _ _ s₀ _ ((ask >>= _).wrap _ _ _ _) [] s
  refine seg_bind_wrap (wpAny_askSetting ?_)
  split
  · exact seg_again rfl loop
  · first
      | exact seg_bind_wrap (wpAny_rule (seg_bind_wrap (wpAny_standAt (seg_bind_wrap (T.self _ 0 s _ _ st (seg_again rfl loop))))))
      | (refine seg_bind_wrap (wpAny_rule ?_); show Seg _ AG _ _ _ s₀ _ ((standAt iter.pos >>= _).wrap _ _ _ _) [] s; exact seg_bind_wrap (wpAny_standAt (seg_bind_wrap (T.self _ 0 s _ _ st (seg_again rfl loop)))))
end

/-! ### the consumer's side -/
section
variable {prog : Program} {w : World} {A : Around} {E : Value → Shared → Prop} {s : Shared}
theorem next_sz {a : Addr} {g n : Nat} {gs : GenState} {P : Nat → Shared → Shared → Prop} {Y : Protocol} {Q : Option Value → Shared → Prop} (hh : A.handled = none)
    (hl : s.heap.NoLimit) (hroom : A.depth < recursionLimit)
    (hg : s.heap.IsGen a g) (hgs : s.gens[g]? = some gs)
    (hgo : gs.Goes (model prog w) A.in1 (fun n s₀ r s₁ => r = .ok .next ∧ P n s₀ s₁) Y n (.send .none) (s.setGen g .running))
    (hY : ∀ v s₁ gs', s.gens.size ≤ s₁.gens.size → gs'.bare = true → Y (n - 1) (s.setGen g .running) v s₁ (fun r' s'' => match n with
        | 0 => False
        | m + 1 => gs'.Goes (model prog w) A.in1 (fun n s₀ r s₁ => r = .ok .next ∧ P n s₀ s₁) Y m r' s'') → Q (some v) (s₁.setGen g gs'))
    (hP : ∀ s₁, s.gens.size ≤ s₁.gens.size → P n (s.setGen g .running) s₁ → ∀ h', (∀ b o, s₁.heap.get? b = some o → h'.get? b = some o) → Q none { s₁.setGen g .finished with heap := h' }) :
    wpAny (model prog w) A (pyNext (.ref a)) Q E s := by
  refine GenW.wpAny_gsz (n := s.gens.size) (Nat.le_refl _) (wpAny_pyNext_genexpQ (E := fun e s' => s.gens.size ≤ s'.gens.size → E e s') (Q := fun r s' => s.gens.size ≤ s'.gens.size → Q r s') hh hl hroom hg hgs hgo
    (fun v s₁ gs' hb hv hz => hY v s₁ gs' (by rw [GenW.setGen_size] at hz; exact hz) hb hv)
    (fun s₁ hp h' hk hz => hP s₁ (by have z : s.gens.size ≤ (s₁.setGen g .finished).gens.size := hz; rw [GenW.setGen_size] at z; exact z) hp h' hk))
end
end GAl

set_option Elab.async false
set_option linter.all false
set_option maxRecDepth 100000
set_option maxHeartbeats 2000000
namespace GAl
open PySem PySem.Spec PyProof.Rows L2 GxR
open Sem (wp)

/-- the generator stands, ready for its next turn, at most n - 1 more are to come -/
def GSt (M : Model) (AG : Around) (P : Nat → Shared → Shared → Prop) (Y : Protocol) (a : Addr) (g n : Nat) (s : Shared) : Prop :=
  s.heap.IsGen a g ∧ s.heap.NoLimit ∧ ∃ gs, s.gens[g]? = some gs ∧ gs.Goes M AG (fun n s₀ r s₁ => r = .ok .next ∧ P n s₀ s₁) Y n (.send .none) (s.setGen g .running)

def stpAll (Qf : Hp → Prop) : V → Hp → Prop → Prop := fun y H N => ∃ c, y = .bl c ∧ (if c = true then N else Qf H)
def stpAny (Qt : Hp → Prop) : V → Hp → Prop → Prop := fun y H N => ∃ c, y = .bl c ∧ (if c = true then Qt H else N)
theorem stpAll_mono {Qf : Hp → Prop} : ∀ y H (p q : Prop), (p → q) → stpAll Qf y H p → stpAll Qf y H q := fun y H p q h ⟨c, e, k⟩ => ⟨c, e, by
  cases c with
  | true => simp only [if_true] at k ⊢; exact h k
  | false => simp only [Bool.false_eq_true, if_false] at k ⊢; exact k⟩
theorem stpAny_mono {Qf : Hp → Prop} : ∀ y H (p q : Prop), (p → q) → stpAny Qf y H p → stpAny Qf y H q := fun y H p q h ⟨c, e, k⟩ => ⟨c, e, by
  cases c with
  | false => simp only [Bool.false_eq_true, if_false] at k ⊢; exact h k
  | true => simp only [if_true] at k ⊢; exact k⟩

theorem gens_some {s : Shared} {g k : Nat} {gs : GenState} (h : s.gens[g]? = some gs) (hk : s.gens.size ≤ k) {s₁ : Shared} (e : s₁.gens.size = k) : ∃ x, s₁.gens[g]? = some x := by
  obtain ⟨hl, _⟩ := Array.getElem?_eq_some_iff.mp h
  exact ⟨_, Array.getElem?_eq_getElem (by omega)⟩

section
variable {X XG : Cx} {A : Around} {a : Addr} {oa : Obj} {g : Nat} {σw : L2.St} {Qd Qf : Hp → Prop} {R : Result → Shared → Prop}
theorem isgen_of {h h' : Heap} (hg : h.IsGen a g) (ho : h.get? a = some oa) (ho' : h'.get? a = some oa) : h'.IsGen a g := by
  obtain ⟨o, nm, qn, e, r⟩ := hg
  rw [ho] at e; cases e
  exact ⟨_, nm, qn, ho', r⟩

/-- all.loop over it -/
theorem all_loop (hprog : XG.prog = X.prog) (hw : XG.w = X.w) (hh : A.handled = none) (hroom : A.depth < recursionLimit) (hpn : XG.pn = [])
    (hfin : ∀ s' σ' H', Inv XG [(a, oa)] σ' H' s' → Qd H' → R (.ok (.ret (.bool true))) s')
    (hcut : ∀ s' σ' H', Inv XG [(a, oa)] σ' H' s' → Qf H' → R (.ok (.ret (.bool false))) s') :
    ∀ (n : Nat) (s : Shared), s.heap.get? a = some oa → GSt (model X.prog X.w) A.in1.in1 (REnd XG a oa σw Qd) (YOut XG a oa (stpAll Qf)) a g n s → codeAny (model X.prog X.w) A (.builtin "all.loop" ⟨[.ref a], []⟩) R s := by
  intro n
  induction n with
  | zero =>
    intro s hoa ⟨hg, hl, gs, hgs, hgo⟩
    refine codeAny_builtin F.entry_all_loop ?_
    rw [Around.under_plainId F.plain_all_loop _]
    show wpAny _ A.in1 (pyNext (.ref a) >>= _) _ _ s
    refine wpAny_bind (next_sz (A := A.in1) hh hl hroom hg hgs hgo (fun v s₁ gs' hsz hb hv => ?_) (fun s₁ hsz hp h' hk => ?_))
    · obtain ⟨y, H4, σ4, I4, r, c, e, k⟩ := hv
      subst e
      cases r
      refine wpAny_bind (wpAny_holding (wpAny_truthy_bool ?_))
      refine wpAny_bind (wpAny_letGo ?_)
      cases c with
      | true =>
        simp only [if_true] at k
        exact False.elim (k s₁ rfl I4.bare fun _ _ e => e)
      | false =>
        simp only [Bool.false_eq_true, if_false] at k ⊢
        refine wpAny_bind (wpAny_rule (wpAny_pure ?_))
        exact hcut _ σ4 H4 (Inv.kall I4 rfl (bare_set I4.bare hb) fun _ _ e => e) k
    · obtain ⟨H4, I4, q⟩ := hp
      refine wpAny_bind (wpAny_rule (wpAny_pure ?_))
      exact hfin _ σw H4 (Inv.kall I4 rfl (bare_set I4.bare rfl) hk) q
  | succ n ih =>
    intro s hoa ⟨hg, hl, gs, hgs, hgo⟩
    refine codeAny_builtin F.entry_all_loop ?_
    rw [Around.under_plainId F.plain_all_loop _]
    show wpAny _ A.in1 (pyNext (.ref a) >>= _) _ _ s
    refine wpAny_bind (next_sz (A := A.in1) hh hl hroom hg hgs hgo (fun v s₁ gs' hsz hb hv => ?_) (fun s₁ hsz hp h' hk => ?_))
    · obtain ⟨y, H4, σ4, I4, r, c, e, k⟩ := hv
      subst e
      cases r
      refine wpAny_bind (wpAny_holding (wpAny_truthy_bool ?_))
      refine wpAny_bind (wpAny_letGo ?_)
      cases c with
      | true =>
        simp only [if_true] at k ⊢
        have ha : s₁.heap.get? a = some oa := (I4.pin (a, oa) (by rw [hpn]; simp)).1
        obtain ⟨x, hx⟩ := gens_some hgs hsz rfl
        refine wpAny_pure ⟨plainId_quiet F.plain_all_loop _, ih (s₁.setGen g gs') ha ⟨isgen_of hg hoa ha, I4.nolimit, gs', setGen_self hx, ?_⟩⟩
        exact k ((s₁.setGen g gs').setGen g .running) rfl (bare_set (bare_set I4.bare hb) rfl) fun _ _ e => e
      | false =>
        simp only [Bool.false_eq_true, if_false] at k ⊢
        refine wpAny_bind (wpAny_rule (wpAny_pure ?_))
        exact hcut _ σ4 H4 (Inv.kall I4 rfl (bare_set I4.bare hb) fun _ _ e => e) k
    · obtain ⟨H4, I4, q⟩ := hp
      refine wpAny_bind (wpAny_rule (wpAny_pure ?_))
      exact hfin _ σw H4 (Inv.kall I4 rfl (bare_set I4.bare rfl) hk) q
/-- any.loop over it -/
theorem any_loop (hprog : XG.prog = X.prog) (hw : XG.w = X.w) (hh : A.handled = none) (hroom : A.depth < recursionLimit) (hpn : XG.pn = [])
    (hfin : ∀ s' σ' H', Inv XG [(a, oa)] σ' H' s' → Qd H' → R (.ok (.ret (.bool false))) s')
    (hcut : ∀ s' σ' H', Inv XG [(a, oa)] σ' H' s' → Qf H' → R (.ok (.ret (.bool true))) s') :
    ∀ (n : Nat) (s : Shared), s.heap.get? a = some oa → GSt (model X.prog X.w) A.in1.in1 (REnd XG a oa σw Qd) (YOut XG a oa (stpAny Qf)) a g n s → codeAny (model X.prog X.w) A (.builtin "any.loop" ⟨[.ref a], []⟩) R s := by
  intro n
  induction n with
  | zero =>
    intro s hoa ⟨hg, hl, gs, hgs, hgo⟩
    refine codeAny_builtin F.entry_any_loop ?_
    rw [Around.under_plainId F.plain_any_loop _]
    show wpAny _ A.in1 (pyNext (.ref a) >>= _) _ _ s
    refine wpAny_bind (next_sz (A := A.in1) hh hl hroom hg hgs hgo (fun v s₁ gs' hsz hb hv => ?_) (fun s₁ hsz hp h' hk => ?_))
    · obtain ⟨y, H4, σ4, I4, r, c, e, k⟩ := hv
      subst e
      cases r
      refine wpAny_bind (wpAny_holding (wpAny_truthy_bool ?_))
      refine wpAny_bind (wpAny_letGo ?_)
      cases c with
      | false =>
        simp only [Bool.false_eq_true, if_false] at k
        exact False.elim (k s₁ rfl I4.bare fun _ _ e => e)
      | true =>
        simp only [if_true] at k ⊢
        refine wpAny_bind (wpAny_rule (wpAny_pure ?_))
        exact hcut _ σ4 H4 (Inv.kall I4 rfl (bare_set I4.bare hb) fun _ _ e => e) k
    · obtain ⟨H4, I4, q⟩ := hp
      refine wpAny_bind (wpAny_rule (wpAny_pure ?_))
      exact hfin _ σw H4 (Inv.kall I4 rfl (bare_set I4.bare rfl) hk) q
  | succ n ih =>
    intro s hoa ⟨hg, hl, gs, hgs, hgo⟩
    refine codeAny_builtin F.entry_any_loop ?_
    rw [Around.under_plainId F.plain_any_loop _]
    show wpAny _ A.in1 (pyNext (.ref a) >>= _) _ _ s
    refine wpAny_bind (next_sz (A := A.in1) hh hl hroom hg hgs hgo (fun v s₁ gs' hsz hb hv => ?_) (fun s₁ hsz hp h' hk => ?_))
    · obtain ⟨y, H4, σ4, I4, r, c, e, k⟩ := hv
      subst e
      cases r
      refine wpAny_bind (wpAny_holding (wpAny_truthy_bool ?_))
      refine wpAny_bind (wpAny_letGo ?_)
      cases c with
      | false =>
        simp only [Bool.false_eq_true, if_false] at k ⊢
        have ha : s₁.heap.get? a = some oa := (I4.pin (a, oa) (by rw [hpn]; simp)).1
        obtain ⟨x, hx⟩ := gens_some hgs hsz rfl
        refine wpAny_pure ⟨plainId_quiet F.plain_any_loop _, ih (s₁.setGen g gs') ha ⟨isgen_of hg hoa ha, I4.nolimit, gs', setGen_self hx, ?_⟩⟩
        exact k ((s₁.setGen g gs').setGen g .running) rfl (bare_set (bare_set I4.bare hb) rfl) fun _ _ e => e
      | true =>
        simp only [if_true] at k ⊢
        refine wpAny_bind (wpAny_rule (wpAny_pure ?_))
        exact hcut _ σ4 H4 (Inv.kall I4 rfl (bare_set I4.bare hb) fun _ _ e => e) k
    · obtain ⟨H4, I4, q⟩ := hp
      refine wpAny_bind (wpAny_rule (wpAny_pure ?_))
      exact hfin _ σw H4 (Inv.kall I4 rfl (bare_set I4.bare rfl) hk) q
end
end GAl

set_option Elab.async false
set_option linter.all false
set_option maxRecDepth 100000
set_option maxHeartbeats 2000000
namespace GAl
open PySem PySem.Spec PyProof.Rows L2 GxR
open Sem (wp)

/-- the scope of a generator expression -/
structure GSc (N : List Str) (sc scope : Scope) (own : List (Str × Nat)) : Prop where
  blk : BlkOk N sc scope own
  co : scope.isCoroutine = false
  cell : ∀ y ∈ scope.names, y.2 ≠ .cell
  dot : scope.names.lookup (".0" : Str) = some NameKind.local
def gscC (N : List Str) (sc scope : Scope) (own : List (Str × Nat)) : Bool :=
  blkC N sc scope own && !scope.isCoroutine && (scope.names.all fun y => match y.2 with | .cell => false | _ => true) && (match scope.names.lookup (".0" : Str) with | some .local => true | _ => false)
theorem gsc_by {N : List Str} {sc scope : Scope} {own : List (Str × Nat)} (h : gscC N sc scope own = true) : GSc N sc scope own := by
  unfold gscC at h
  simp only [Bool.and_eq_true, List.all_eq_true, Bool.not_eq_true'] at h
  obtain ⟨⟨⟨h1, h2⟩, h3⟩, h4⟩ := h
  refine ⟨blkOk_by h1, h2, fun y hy e => ?_, ?_⟩
  · have q := h3 y hy
    rw [e] at q
    exact Bool.noConfusion q
  · split at h4
    · assumption
    · cases h4

/-- what a consumed generator expression asks: the walked thing, the def's table, the turns -/
def tGenB (P : Addr) (wi : TI) (g : TG) (tt : TT) (te : TE) (vs : List Nat) (stp : V → Hp → Prop → Prop) (Qd : Hp → Prop) : L2.St → Hp → Prop := fun σ H =>
  wi σ H fun J H1 => TabG H1 P ∧ ∀ H2, Tabbed P H1 H2 → ∃ W : Nat → Nat → Hp → Prop, (∃ m, W 0 m H2) ∧ GTurn J g tt te vs (wipe σ vs) Qd stp W
def tAllG (P : Addr) (wi : TI) (g : TG) (tt : TT) (te : TE) (vs : List Nat) : TE := fun σ H Q => tGenB P wi g tt te vs (stpAll (Q (.bl false))) (Q (.bl true)) σ H
def tAnyG (P : Addr) (wi : TI) (g : TG) (tt : TT) (te : TE) (vs : List Nat) : TE := fun σ H Q => tGenB P wi g tt te vs (stpAny (Q (.bl true))) (Q (.bl false)) σ H

section
variable {X : Cx} {pins : List (Addr × Obj)} {σ : L2.St} {H : Hp} {s : Shared}
theorem gen_make {c P : Addr} {elt tg iter : Expr} {ifs : List Expr} {gpos : Pos} {scope : Scope} {own : List (Str × Nat)} {wi : TI} {g : TG} {tt : TT} {te : TE} {k : Nat} {stp : V → Hp → Prop → Prop} {Qd : Hp → Prop} {Q' : Value → Shared → Prop}
    (hr : Room (k + 1) X.A) (hc : X.calm = true) (hN : X.N.Nodup) (TB : TabB X.base X.mg c P) (hcode : X.env.code = .ref c) (S : GSc X.N X.env.scope scope own) (hi : PI X tg iter wi)
    (hg : ∀ (A' : Around), Room k A' → ∀ (s : Shared) (H : Hp) (cl : List (Str × Addr)) (C : Addr) (code : Value) (fp : List Addr), PG (gcx X A' s H (genEnv scope cl C code builtinsNs X.env) fp) tg g)
    (ht : ∀ (A' : Around), Room k A' → ∀ (s : Shared) (H : Hp) (cl : List (Str × Addr)) (C : Addr) (code : Value) (fp : List Addr), PTs (gcx X A' s H (genEnv scope cl C code builtinsNs X.env) fp) ifs tt)
    (he : ∀ (A' : Around), Room k A' → ∀ (s : Shared) (H : Hp) (cl : List (Str × Addr)) (C : Addr) (code : Value) (fp : List Addr), PE (gcx X A' s H (genEnv scope cl C code builtinsNs X.env) fp) elt te)
    (hmono : ∀ y H (p q : Prop), (p → q) → stp y H p → stp y H q)
    (hs : ∀ v, genFold iter X.env v = pure v) (I : Inv X pins σ H s) (h : tGenB P wi g tt te (own.map (·.2)) stp Qd σ H)
    (hQ : ∀ (XG : Cx) (a : Addr) (oa : Obj) (gn n : Nat) (σw : L2.St) (s5 : Shared), XG.prog = X.prog → XG.w = X.w → XG.pn = [] → s5.heap.get? a = some oa →
      GSt (model X.prog X.w) X.A.in1.in1 (REnd XG a oa σw Qd) (YOut XG a oa stp) a gn n s5 → (∀ s' σ' H', Inv XG [(a, oa)] σ' H' s' → Inv X pins σ H' s') → Q' (.ref a) s5) :
    wpAny (model X.prog X.w) X.A (eval (.GeneratorExp elt [⟨tg, iter, ifs, 0⟩] scope gpos) X.env) Q' X.xe s := by
  have ok := S.blk
  have hfree : ∀ y ∈ scope.names, y.2 = .free → ∃ c, X.env.cells.lookup y.1 = some c := fun y hy e => by
    rcases ok.free y hy e with k | k
    · exact I.ok.has _ (.inl k)
    · exact I.ok.has _ (.inr k)
  refine wpAny_GeneratorExp_make S.co (closure_ok hfree) S.cell S.dot ok.kind (by have := hr.dp; omega) ?_ hs
  refine thn (hi.run pins s σ H _ I h) fun xv s1 hx => thn hx fun itv s2 h2 => ?_
  obtain ⟨it, fp, tn, J, H2, e, I2, T, st2, f2, ⟨ps, hP, hts⟩, q⟩ := h2
  subst e
  have hPs : s2.heap.get? P = some { cls := .none, data := .fields ps } := I2.hok P _ hP
  have cd : PySem.W.CodeHd s2.heap c P := TB.code.keeps fun b u e => I2.bk b u e
  have nP : ∀ b ∈ fp, b ≠ P := fun b hb z => by
    have := (f2 b hb).1
    rw [z, hP] at this; cases this
  have sz2 : ∀ b ∈ fp, b < s2.heap.objs.size := fun b hb => by
    obtain ⟨o, e, _⟩ := T.obj _ _ st2 b hb
    exact Heap.lt_size e
  have cont : ∀ (code : Value) (h3 : Heap) (tk : Nat) (ps' : Array Value), Heap.ExtBut P s2.heap h3 → s2.heap.objs.size ≤ h3.objs.size → h3.get? P = some { cls := .none, data := .fields ps' } → (∃ more, ps' = ps ++ more) → TriplesOk ps'.toList →
      wpAny (model X.prog X.w) X.A (builtinsFor X.env.globals X.env.builtins) (fun bi s₄ =>
        ∀ h', h'.Ns s₄.heap.objs.size (fun y => if y = ".0" then some (.ref it) else none) → Heap.SameBut s₄.heap.objs.size (s₄.heap.push { cls := .type "frame", data := .dict #[] }) h' →
          Q' (.ref h'.objs.size) { s₄ with
            gens := s₄.gens.push (.fresh (.compStart (.GeneratorExp elt [⟨tg, iter, ifs, 0⟩] scope gpos) 0 (.ref it) .none (genEnv scope (cloFrom X.env.cells scope.names []) s₄.heap.objs.size code bi X.env))),
            toks := s₄.toks + 1 + 1 + 1,
            heap := h'.push { cls := .type "generator", data := .fields #[.int s₄.gens.size 0, .str "<genexpr>" (s₄.toks + 1), .str (X.env.qual ++ "<genexpr>") (s₄.toks + 1 + 1)] } }) X.xe { s2 with heap := h3, toks := tk } := by
    intro code h3 tk ps' hx hsz hP3 hmore ht3
    obtain ⟨bm, ob, e1, e2, e3, e4, e5, e6, e7, e8⟩ := TB.bm
    have keep3 : ∀ b u, b ≠ P → s2.heap.get? b = some u → h3.get? b = some u := fun b u hb e => hx b u hb e
    refine wpAny_builtinsFor (m := X.mg) (by rw [I2.ok.glob]; exact (I2.mod.glob.keeps I2.bk).extBut hx TB.gP) e1 e2 (keep3 _ _ e4 (I2.bk _ _ e5)) e6 e7 e8 ?_
    intro h' hn' hs'
    obtain ⟨more, em⟩ := hmore
    have I3 : Inv X pins σ (upd H2 P (.tbl (ps ++ more))) { s2 with heap := h3, toks := tk } :=
      inv_tab (more := more) (h' := h3) (g' := s2.gens) (d' := s2.drawn) (t' := tk) I2 hP keep3 (by rw [← em]; exact hP3) I2.bare
    obtain ⟨W, ⟨m0, w0⟩, turn⟩ := q (upd H2 P (.tbl (ps ++ more))) ⟨⟨ps ++ more, upd_same, by rw [← em]; exact ht3⟩, fun b hb => upd_ne hb⟩
    generalize hH3 : upd H2 P (.tbl (ps ++ more)) = H3 at I3 w0
    generalize hs4 : ({ s2 with heap := h3, toks := tk } : Shared) = s4 at I3 hn' hs' ⊢
    have hh4 : s4.heap = h3 := by rw [← hs4]
    have st4 : tn 0 s4.heap := T.keep _ _ _ st2 fun b hb o e => by rw [hh4]; exact keep3 b o (nP b hb) e
    have f3 : ∀ b ∈ fp, FpOk X pins H3 b ∧ b < s4.heap.objs.size := fun b hb => by
      refine ⟨⟨?_, (f2 b hb).2⟩, by rw [hh4]; exact Nat.lt_of_lt_of_le (sz2 b hb) hsz⟩
      rw [← hH3, upd_ne (nP b hb)]
      exact (f2 b hb).1
    have hszh : h'.objs.size = s4.heap.objs.size + 1 := by rw [hs'.1, Heap.size_push]
    have keep' : ∀ b o, s4.heap.get? b = some o → h'.get? b = some o := fun b o e => hs'.extBut b o (Nat.ne_of_lt (Heap.lt_size e)) (Heap.get?_push_of_some _ e)
    generalize hoa : ({ cls := .type "generator", data := .fields #[.int s4.gens.size 0, .str "<genexpr>" (s4.toks + 1), .str (X.env.qual ++ "<genexpr>") (s4.toks + 1 + 1)] } : Obj) = oa
    have ga : (h'.push oa).get? h'.objs.size = some oa := Heap.get?_push_size _ (by rw [← hoa]; rfl)
    have isg : (h'.push oa).IsGen h'.objs.size s4.gens.size := by rw [← hoa]; exact ⟨_, _, _, Heap.get?_push_size _ rfl, rfl, rfl, rfl⟩
    generalize hce : genEnv scope (cloFrom X.env.cells scope.names []) s4.heap.objs.size code builtinsNs X.env = cenv
    generalize hA' : X.A.in1.in1.over (.compLoop (.GeneratorExp elt [⟨tg, iter, ifs, 0⟩] scope gpos) 0 (.ref it) .none cenv) [] = A'
    have hfr : A'.frames = some (cenv :: X.stack) := by
      rw [← hA']
      show pushEnvs [cenv] (pushEnvs [] X.A.frames) = _
      rw [I2.ok.frames]
      rfl
    have hdp : A'.depth = X.A.depth + 1 := by rw [← hA']; rfl
    have hun : A'.units = X.A.units + 5 := by rw [← hA']; rfl
    have hhd : A'.handled = none := by rw [← hA']; exact hr.hd
    have hr' : Room k A' := ⟨hhd, by rw [hdp]; have := hr.dp; omega, by rw [hun]; have := hr.un; omega⟩
    have bare5 : AllBare (s4.gens.push (.fresh (.compStart (.GeneratorExp elt [⟨tg, iter, ifs, 0⟩] scope gpos) 0 (.ref it) .none cenv))) := I3.bare.push rfl
    have I5 := gen_start (A' := A') (cenv := cenv) (code := code) (m := fun y => if y = ".0" then some (.ref it) else none) (h5 := h'.push oa) (g' := s4.gens.push (.fresh (.compStart (.GeneratorExp elt [⟨tg, iter, ifs, 0⟩] scope gpos) 0 (.ref it) .none cenv)))
      (t5 := s4.toks + 1 + 1 + 1) (a := h'.objs.size) (oa := oa) I3 ok S.cell hN f3 hce.symm hfr hhd (hn'.push _) (fun b o e => Heap.get?_push_of_some _ (keep' b o e)) bare5 ga (by omega) (by rw [← hoa]; intro v z; cases z)
    have back : ∀ s' σ' H', Inv (gcx X A' s4 H3 cenv fp) [(h'.objs.size, oa)] σ' H' s' → Inv X pins σ H' s' := fun s' σ' H' I' =>
      I3.call' (ch := fp) I'.os I'.base I'.hok I'.bare fun b hb => ⟨(f3 b hb).1.2.2.2.1, (f3 b hb).1.2.1, (f3 b hb).1.2.2.2.2.1, (f3 b hb).1.2.2.2.2.2⟩
    have pg : PG (gcx X A' s4 H3 cenv fp) tg g := by rw [← hce]; exact hg A' hr' _ _ _ _ _ _
    have pt : PTs (gcx X A' s4 H3 cenv fp) ifs tt := by rw [← hce]; exact ht A' hr' _ _ _ _ _ _
    have pe : PE (gcx X A' s4 H3 cenv fp) elt te := by rw [← hce]; exact he A' hr' _ _ _ _ _ _
    refine hQ (gcx X A' s4 H3 cenv fp) h'.objs.size oa s4.gens.size (m0 + 1) (wipe σ (own.map (·.2))) _ rfl rfl rfl ga ⟨isg, I5.nolimit, _, Array.getElem?_push_size .., ?_⟩ back
    refine ⟨rfl, ?_⟩
    subst hA'
    refine gen_begin hc (by rw [← hce]; exact S.co) T (fun b hb z => ?_) hmono pg pt pe turn m0 _ _ H3 w0 (Inv.kall I5 rfl (bare_set I5.bare rfl) fun _ _ e => e) ?_ (fun b hb => (f3 b hb).1.1)
    · have h9 := (f3 b hb).2
      rw [← z] at h9
      have h9 : h'.objs.size < s4.heap.objs.size := h9
      omega
    · exact T.keep _ _ _ st4 fun b hb o e => Heap.get?_push_of_some _ (keep' b o e)
  refine ⟨I2.nolimit, ?_⟩
  cases hf : codeAmong gpos ps.toList with
  | none =>
    refine wpAny_genexprCodeX hcode (cd.code hPs hts) (cd.tab hPs) hf fun c' h' tk hx hge hlt hco' _ htab' _ => ?_
    obtain ⟨o1, vs, f1, tf, fl, tg', inF, tx, tt', op, _, _, _, _, _, _, _, _, _, htr, _⟩ := hco'
    exact cont _ h' tk _ hx (Nat.le_trans hge (Nat.le_of_lt hlt)) htab'.2 ⟨_, rfl⟩ htr
  | some cv =>
    refine wpAny_genexprCode_hit hcode (cd.code hPs hts) hf ?_
    exact cont cv s2.heap s2.toks ps (Heap.ExtBut.refl _ _) (Nat.le_refl _) hPs ⟨#[], by simp⟩ hts

theorem pe_allG {c P : Addr} {elt tg iter : Expr} {ifs : List Expr} {p pos gpos : Pos} {scope : Scope} {own : List (Str × Nat)} {wi : TI} {g : TG} {tt : TT} {te : TE} {k : Nat}
    (hr : Room (k + 1) X.A) (hgl : Gl X "all") (hm : X.mg "all" = none) (hc : X.calm = true) (hN : X.N.Nodup) (TB : TabB X.base X.mg c P) (hcode : X.env.code = .ref c) (S : GSc X.N X.env.scope scope own) (hi : PI X tg iter wi)
    (hg : ∀ (A' : Around), Room k A' → ∀ (s : Shared) (H : Hp) (cl : List (Str × Addr)) (C : Addr) (code : Value) (fp : List Addr), PG (gcx X A' s H (genEnv scope cl C code builtinsNs X.env) fp) tg g)
    (ht : ∀ (A' : Around), Room k A' → ∀ (s : Shared) (H : Hp) (cl : List (Str × Addr)) (C : Addr) (code : Value) (fp : List Addr), PTs (gcx X A' s H (genEnv scope cl C code builtinsNs X.env) fp) ifs tt)
    (he : ∀ (A' : Around), Room k A' → ∀ (s : Shared) (H : Hp) (cl : List (Str × Addr)) (C : Addr) (code : Value) (fp : List Addr), PE (gcx X A' s H (genEnv scope cl C code builtinsNs X.env) fp) elt te)
    (hs : ∀ v, genFold iter X.env v = pure v := by intro _; rfl)
    (hst : starEach [.GeneratorExp elt [⟨tg, iter, ifs, 0⟩] scope gpos] X.env = (false, eval (.GeneratorExp elt [⟨tg, iter, ifs, 0⟩] scope gpos) X.env) :: starEach [] X.env := by rfl)
    (hb : bootBuiltins "all" = some (.builtin "all") := by decide +kernel) :
    PE X (.Call (.Name "all" p) [.GeneratorExp elt [⟨tg, iter, ifs, 0⟩] scope gpos] [] pos) (tAllG P wi g tt te (own.map (·.2))) := by
  refine ⟨fun pins s σ H Q I h => ?_⟩
  refine wpAny_Call_Name_kw (ld_blt I hgl hm hb ?_)
  refine PyProof.Rows.callWith_builtin1 ?_ hst (by rfl)
  rw [hst]
  show wpAny _ _ (spliced ((false, eval (.GeneratorExp elt [⟨tg, iter, ifs, 0⟩] scope gpos) X.env) :: backTo pos (starEach [] X.env))) _ _ s
  refine Calls.spliced_cons (gen_make hr hc hN TB hcode S hi hg ht he stpAll_mono hs I h fun XG a oa gn n σw s5 eP eW epn ha hG back => ?_)
  refine Calls.spliced_nil ?_
  refine call_function_tree F.kind_all F.plain_all F.entry_all (F.args_all1 _) ?_
  unfold Builtin.«all»
  refine wpAny_bind (m := oneArg "all" _) (wpAny_pure ?_)
  refine wpAny_bind (wpAny_pyIter_gen hG.1 ?_)
  refine wpAny_pure ⟨plainId_quiet F.plain_all_loop _, all_loop (X := X) (XG := XG) (σw := σw) (Qd := Q (.bl true)) (Qf := Q (.bl false)) eP eW hr.hd (by have := hr.dp; omega) epn (fun s' σ' H' I' q => ?_) (fun s' σ' H' I' q => ?_) n s5 ha hG⟩
  · exact ⟨.bl true, H', back s' σ' H' I', rfl, q⟩
  · exact ⟨.bl false, H', back s' σ' H' I', rfl, q⟩
theorem pe_anyG {c P : Addr} {elt tg iter : Expr} {ifs : List Expr} {p pos gpos : Pos} {scope : Scope} {own : List (Str × Nat)} {wi : TI} {g : TG} {tt : TT} {te : TE} {k : Nat}
    (hr : Room (k + 1) X.A) (hgl : Gl X "any") (hm : X.mg "any" = none) (hc : X.calm = true) (hN : X.N.Nodup) (TB : TabB X.base X.mg c P) (hcode : X.env.code = .ref c) (S : GSc X.N X.env.scope scope own) (hi : PI X tg iter wi)
    (hg : ∀ (A' : Around), Room k A' → ∀ (s : Shared) (H : Hp) (cl : List (Str × Addr)) (C : Addr) (code : Value) (fp : List Addr), PG (gcx X A' s H (genEnv scope cl C code builtinsNs X.env) fp) tg g)
    (ht : ∀ (A' : Around), Room k A' → ∀ (s : Shared) (H : Hp) (cl : List (Str × Addr)) (C : Addr) (code : Value) (fp : List Addr), PTs (gcx X A' s H (genEnv scope cl C code builtinsNs X.env) fp) ifs tt)
    (he : ∀ (A' : Around), Room k A' → ∀ (s : Shared) (H : Hp) (cl : List (Str × Addr)) (C : Addr) (code : Value) (fp : List Addr), PE (gcx X A' s H (genEnv scope cl C code builtinsNs X.env) fp) elt te)
    (hs : ∀ v, genFold iter X.env v = pure v := by intro _; rfl)
    (hst : starEach [.GeneratorExp elt [⟨tg, iter, ifs, 0⟩] scope gpos] X.env = (false, eval (.GeneratorExp elt [⟨tg, iter, ifs, 0⟩] scope gpos) X.env) :: starEach [] X.env := by rfl)
    (hb : bootBuiltins "any" = some (.builtin "any") := by decide +kernel) :
    PE X (.Call (.Name "any" p) [.GeneratorExp elt [⟨tg, iter, ifs, 0⟩] scope gpos] [] pos) (tAnyG P wi g tt te (own.map (·.2))) := by
  refine ⟨fun pins s σ H Q I h => ?_⟩
  refine wpAny_Call_Name_kw (ld_blt I hgl hm hb ?_)
  refine PyProof.Rows.callWith_builtin1 ?_ hst (by rfl)
  rw [hst]
  show wpAny _ _ (spliced ((false, eval (.GeneratorExp elt [⟨tg, iter, ifs, 0⟩] scope gpos) X.env) :: backTo pos (starEach [] X.env))) _ _ s
  refine Calls.spliced_cons (gen_make hr hc hN TB hcode S hi hg ht he stpAny_mono hs I h fun XG a oa gn n σw s5 eP eW epn ha hG back => ?_)
  refine Calls.spliced_nil ?_
  refine call_function_tree F.kind_any F.plain_any F.entry_any (F.args_any1 _) ?_
  unfold Builtin.«any»
  refine wpAny_bind (m := oneArg "any" _) (wpAny_pure ?_)
  refine wpAny_bind (wpAny_pyIter_gen hG.1 ?_)
  refine wpAny_pure ⟨plainId_quiet F.plain_any_loop _, any_loop (X := X) (XG := XG) (σw := σw) (Qd := Q (.bl false)) (Qf := Q (.bl true)) eP eW hr.hd (by have := hr.dp; omega) epn (fun s' σ' H' I' q => ?_) (fun s' σ' H' I' q => ?_) n s5 ha hG⟩
  · exact ⟨.bl false, H', back s' σ' H' I', rfl, q⟩
  · exact ⟨.bl true, H', back s' σ' H' I', rfl, q⟩
end
end GAl

set_option Elab.async false
set_option linter.all false
set_option maxRecDepth 100000
set_option maxHeartbeats 2000000
namespace HK
open PySem PySem.Spec PyProof.Rows L2 GAl GxR
/-! ### defs whose code object is known -/
structure FunC (K : PySem.W.Frag) (x qual : Str) (st : Stmt) (f : Addr) (fd : FuncData) (c : Addr) : Prop where
  ex : ∃ (oc : Value) (od : Option Addr) (kV doc pm : Value) (an : Option Addr) (ct : Value) (osl : Array (Option Value)),
    fd = PySem.W.fnOf x qual (defArgs st) (defBody st) (defScope st) .none kV doc pm an (.ref c) ct ∧ K.lookup f = some ⟨oc, od, .func fd, osl⟩ ∧ PySem.W.codeIn K (.ref c) qual = true
  kp : PySem.W.keepIn K (.ref f) = true
section
variable {P : Program} {w : World} {K : PySem.W.Frag} {mg : Str → Option Value} {base : Heap}
theorem FunC.toFun {x qual : Str} {st : Stmt} {f : Addr} {fd : FuncData} {c : Addr} (F : FunC K x qual st f fd c) : Fun K x qual st f fd := by
  obtain ⟨⟨oc, od, kV, doc, pm, an, ct, osl, e, l, h⟩, k⟩ := F
  exact ⟨⟨oc, od, kV, doc, pm, an, _, ct, osl, e, l, h⟩, k⟩
theorem FunC.ok {x qual : Str} {st : Stmt} {f : Addr} {fd : FuncData} {c : Addr} {N ps : List Str} {k : Nat} {sp : Sp} (F : FunC K x qual st f fd c) (S : FnScope N ps (defScope st)) (len : ∀ vs H Q E, sp vs H Q E → vs.length = ps.length)
    (hbody : ∀ (A : Around) (outer : List Env) (s : Shared) (H : Hp) (vs : List V) (Q : VK) (E : XK), Room k (A.deeper (envOfC qual (defScope st) s.heap.objs.size f (.ref c))) → sp vs H Q E →
      ∃ t, PSs (cxOf CX0 P w K mg base N qual (defScope st) f (.ref c) A outer s H E).nox (defBody st) t ∧ t { nx := fun _ H' => Q .non H', rt := Q } (start N vs) H) : FnOk P w K mg base CX0 (k + 1) f fd ps sp := by
  obtain ⟨oc, od, kV, doc, pm, an, ct, osl, rfl, lk, hcd⟩ := F.ex
  refine fn_of lk hcd S len fun A outer s H vs Q E hr hsp => ?_
  obtain ⟨t, h, q⟩ := hbody A outer s H vs Q E hr hsp
  exact ⟨t, h.nox, q⟩
theorem func_mk {x qual : Str} {st : Stmt} {f c : Addr} {oc : Value} {od an : Option Addr} {osl : Array (Option Value)} {kV doc pm ct : Value} (l : K.lookup f = some ⟨oc, od, .func (PySem.W.fnOf x qual (defArgs st) (defBody st) (defScope st) .none kV doc pm an (.ref c) ct), osl⟩)
    (h : PySem.W.codeIn K (.ref c) qual = true) (k : PySem.W.keepIn K (.ref f) = true) : FunC K x qual st f (PySem.W.fnOf x qual (defArgs st) (defBody st) (defScope st) .none kV doc pm an (.ref c) ct) c := ⟨⟨oc, od, kV, doc, pm, an, ct, osl, rfl, l, h⟩, k⟩
end

/-! ### what stays: everything but the list at t; tables stay tables -/
structure Kt (t : Addr) (H H' : Hp) : Prop where
  tup : ∀ b xs, H b = some (.tup xs) → H' b = some (.tup xs)
  frz : ∀ b o u, H b = some (.frz o u) → H' b = some (.frz o u)
  oth : ∀ b o, H b = some o → b ≠ t → (∀ ps, o ≠ .tbl ps) → H' b = some o
  tab : ∀ P, TabG H P → TabG H' P
  dom : ∀ b, H' b = none → H b = none
/-- everything; tables stay tables -/
structure K0 (H H' : Hp) : Prop where
  oth : ∀ b o, H b = some o → (∀ ps, o ≠ .tbl ps) → H' b = some o
  tab : ∀ P, TabG H P → TabG H' P
  dom : ∀ b, H' b = none → H b = none
theorem upd_none {H : Hp} {p b : Addr} {o : HO} (h : upd H p o b = none) : H b = none := by
  by_cases e : b = p
  · rw [e, upd_same] at h; cases h
  · rw [upd_ne e] at h; exact h
theorem K0.refl (H : Hp) : K0 H H := ⟨fun _ _ h _ => h, fun _ h => h, fun _ h => h⟩
theorem K0.trans {H H1 H2 : Hp} (a : K0 H H1) (b : K0 H1 H2) : K0 H H2 := ⟨fun x o h n => b.oth x o (a.oth x o h n) n, fun P h => b.tab P (a.tab P h), fun x h => a.dom x (b.dom x h)⟩
theorem K0.kt {t : Addr} {H H' : Hp} (a : K0 H H') : Kt t H H' := ⟨fun b xs h => a.oth b _ h (fun _ z => by cases z), fun b o u h => a.oth b _ h (fun _ z => by cases z), fun b o h _ n => a.oth b o h n, a.tab, a.dom⟩
theorem Kt.refl (t : Addr) (H : Hp) : Kt t H H := (K0.refl H).kt
theorem Kt.trans {t : Addr} {H H1 H2 : Hp} (a : Kt t H H1) (b : Kt t H1 H2) : Kt t H H2 := ⟨fun x xs h => b.tup x xs (a.tup x xs h), fun x o u h => b.frz x o u (a.frz x o u h), fun x o h n m => b.oth x o (a.oth x o h n m) n m, fun P h => b.tab P (a.tab P h), fun x h => a.dom x (b.dom x h)⟩
theorem tabG_upd {H : Hp} {p : Addr} {o : HO} (n : H p = none) {P : Addr} (h : TabG H P) : TabG (upd H p o) P := by
  obtain ⟨ps, e, ht⟩ := h
  exact ⟨ps, by rw [upd_ne (ne_of_none e n)]; exact e, ht⟩
theorem K0.new {H : Hp} {p : Addr} {o : HO} (n : H p = none) : K0 H (upd H p o) := ⟨fun b u e _ => by rw [upd_ne (ne_of_none e n)]; exact e, fun P h => tabG_upd n h, fun _ h => upd_none h⟩
theorem K0.tbd {P : Addr} {H H' : Hp} (h0 : TabG H P) (h : Tabbed P H H') : K0 H H' := ⟨fun b o e n => by
  have hb : b ≠ P := fun z => by
    obtain ⟨ps, e', _⟩ := h0
    rw [z, e'] at e
    exact n ps (Option.some.inj e).symm
  rw [h.2 b hb]; exact e, fun Q hq => by
  by_cases hQ : Q = P
  · rw [hQ]; exact h.1
  · obtain ⟨ps, e, ht⟩ := hq
    exact ⟨ps, by rw [h.2 Q hQ]; exact e, ht⟩, fun b e => by
  by_cases hb : b = P
  · obtain ⟨ps, e', _⟩ := h.1
    rw [hb, e'] at e; cases e
  · rw [h.2 b hb] at e; exact e⟩
/-- the list at t is written -/
theorem Kt.set {t : Addr} {H : Hp} {xs ys : List V} (h : H t = some (.lst xs)) : Kt t H (upd H t (.lst ys)) := ⟨fun b zs e => by
  rw [upd_ne (ne_of e h (fun z => by cases z))]; exact e, fun b o u e => by
  rw [upd_ne (ne_of e h (fun z => by cases z))]; exact e, fun b o e n _ => by rw [upd_ne n]; exact e, fun P hP => by
  obtain ⟨ps, e, ht⟩ := hP
  exact ⟨ps, by rw [upd_ne (ne_of e h (fun z => by cases z))]; exact e, ht⟩, fun _ e => upd_none e⟩
theorem Kt.sqT {K : PySem.W.Frag} {t a : Addr} {H H' : Hp} {xs : List V} (k : Kt t H H') (h : SqT K H a xs) : SqT K H' a xs := by
  rcases h with (h | ⟨o, h⟩) | h
  · exact .inl (.inl (k.tup _ _ h))
  · exact .inl (.inr ⟨o, k.frz _ _ _ h⟩)
  · exact .inr h
theorem K0.sqT {K : PySem.W.Frag} {a : Addr} {H H' : Hp} {xs : List V} (k : K0 H H') (h : SqT K H a xs) : SqT K H' a xs := (k.kt (t := 0)).sqT h
theorem K0.sqL {K : PySem.W.Frag} {a : Addr} {H H' : Hp} {xs : List V} (k : K0 H H') (h : SqL K H a xs) : SqL K H' a xs := by
  rcases h with (h | ⟨o, h⟩) | h
  · exact .inl (.inl (k.oth _ _ h (fun _ z => by cases z)))
  · exact .inl (.inr ⟨o, k.oth _ _ h (fun _ z => by cases z)⟩)
  · exact .inr h
theorem Kt.sqL {K : PySem.W.Frag} {t a : Addr} {H H' : Hp} {xs : List V} (k : Kt t H H') (n : a ≠ t) (h : SqL K H a xs) : SqL K H' a xs := by
  rcases h with (h | ⟨o, h⟩) | h
  · exact .inl (.inl (k.oth _ _ h n (fun _ z => by cases z)))
  · exact .inl (.inr ⟨o, k.frz _ _ _ h⟩)
  · exact .inr h
mutual
theorem K0.dp {K : PySem.W.Frag} {H H' : Hp} (k : K0 H H') : ∀ (d : PyData) (v : V), Dp K H v d → Dp K H' v d
  | .none, _, h => by cases h; exact .non
  | .bool _, _, h => by cases h; exact .bl _
  | .int _, _, h => by cases h; exact .int _
  | .str _, _, h => by cases h; exact .str _
  | .list ds, _, h => by cases h with | lst a b => exact .lst (k.sqL a) (K0.dpAll k ds _ b)
  | .tuple ds, _, h => by cases h with | tup a b => exact .tup (k.sqT a) (K0.dpAll k ds _ b)
  | .dict _, _, h => by cases h
theorem K0.dpAll {K : PySem.W.Frag} {H H' : Hp} (k : K0 H H') : ∀ (ds : List PyData) (vs : List V), DpAll K H vs ds → DpAll K H' vs ds
  | [], _, h => by cases h; exact .nil
  | d :: ds, _, h => by cases h with | cons a b => exact .cons (K0.dp k d _ a) (K0.dpAll k ds _ b)
end

/-! ### kinds -/
def tys : List String := ["NoneType", "bool", "int", "str", "list", "tuple", "dict"]
theorem tys_int {T : String} (h : T ∈ tys) : kitB T "int" = some (T == "int" || T == "bool") := by
  simp only [tys, List.mem_cons, List.not_mem_nil, or_false] at h
  rcases h with rfl | rfl | rfl | rfl | rfl | rfl | rfl <;> decide +kernel
theorem tys_bool {T : String} (h : T ∈ tys) : kitB T "bool" = some (T == "bool") := by
  simp only [tys, List.mem_cons, List.not_mem_nil, or_false] at h
  rcases h with rfl | rfl | rfl | rfl | rfl | rfl | rfl <;> decide +kernel
theorem tys_tuple {T : String} (h : T ∈ tys) : kitB T "tuple" = some (T == "tuple") := by
  simp only [tys, List.mem_cons, List.not_mem_nil, or_false] at h
  rcases h with rfl | rfl | rfl | rfl | rfl | rfl | rfl <;> decide +kernel
theorem tys_dict {T : String} (h : T ∈ tys) : kitB T "dict" = some (T == "dict") := by
  simp only [tys, List.mem_cons, List.not_mem_nil, or_false] at h
  rcases h with rfl | rfl | rfl | rfl | rfl | rfl | rfl <;> decide +kernel
theorem sqT_ty {K : PySem.W.Frag} {H : Hp} {a : Addr} {xs : List V} (h : SqT K H a xs) : TyX K H (.ref a) (.type "tuple") := by
  rcases h with (h | ⟨o, h⟩) | ⟨o, _, _, ho, h, _⟩
  · exact .base (.tup h)
  · exact .fTuple h
  · exact .kTuple ho h
theorem sqL_ty {K : PySem.W.Frag} {H : Hp} {a : Addr} {xs : List V} (h : SqL K H a xs) : TyX K H (.ref a) (.type "list") := by
  rcases h with (h | ⟨o, h⟩) | ⟨o, _, _, ho, h, _⟩
  · exact .base (.lst h)
  · exact .base (.frz h)
  · exact .kList ho h
def tyD : PyData → String
  | .none => "NoneType" | .bool _ => "bool" | .int _ => "int" | .str _ => "str" | .list _ => "list" | .tuple _ => "tuple" | .dict _ => "dict"
theorem tyD_mem (d : PyData) : tyD d ∈ tys := by cases d <;> simp [tyD, tys]
theorem dp_ty {K : PySem.W.Frag} {H : Hp} {v : V} {d : PyData} (h : Dp K H v d) : TyX K H v (.type (tyD d)) := by
  cases h with
  | non => exact .base .non
  | bl b => exact .base (.bl b)
  | int i => exact .base (.int i)
  | str x => exact .base (.str x)
  | lst a _ => exact sqL_ty a
  | tup a _ => exact sqT_ty a
def isWholeD : PyData → Bool
  | .int _ => true
  | _ => false
def withinD (d : PyData) (lo hi : Int) : Bool := match d with
  | .int i => decide (lo ≤ i) && decide (i ≤ hi)
  | _ => false
theorem whole_ty (d : PyData) : ((tyD d == "int" || tyD d == "bool") && !(tyD d == "bool")) = isWholeD d := by cases d <;> simp [tyD, isWholeD]
theorem dp_int {K : PySem.W.Frag} {H : Hp} {x : V} {d : PyData} (h : Dp K H x d) (e : isWholeD d = true) : ∃ i, x = .int i ∧ d = .int i := by
  cases h <;> first | exact ⟨_, rfl, rfl⟩ | cases e
end HK

set_option Elab.async false
set_option linter.all false
set_option maxRecDepth 100000
set_option maxHeartbeats 2000000
namespace HK
open PySem PySem.Spec PyProof.Rows L2 GAl GxR
def topS (i : Nat) : Stmt := PySem.Challenge.pw_hearkenway_k40_ways_of_anything.main.body.getD i (.Pass ⟨0, 0, 0, 0⟩)
abbrev sWhole : Stmt := topS 6
abbrev sWithin : Stmt := topS 7
theorem scWhole : FnScope ["thing"] ["thing"] (defScope sWhole) := ⟨rfl, rfl, rfl, by decide +kernel, rfl, by decide +kernel, by decide +kernel⟩
theorem scWithin : FnScope ["thing", "least", "greatest"] ["thing", "least", "greatest"] (defScope sWithin) := ⟨rfl, rfl, rfl, by decide +kernel, rfl, by decide +kernel, by decide +kernel⟩
theorem qeq {Q : VK} {a b : Bool} {H : Hp} (q : Q (.bl a) H) (e : a = b) : Q (.bl b) H := e ▸ q
section
variable {P : Program} {w : World} {K : PySem.W.Frag} {mg : Str → Option Value} {base : Heap}
def spWhole (K : PySem.W.Frag) : Sp := fun vs H Q _ => ∃ x d, vs = [x] ∧ Dp K H x d ∧ Q (.bl (isWholeD d)) H
theorem ok_whole {f : Addr} {fd : FuncData} (F : Fun K "is_whole" "is_whole" sWhole f fd) (mi : mg "isinstance" = none) (mI : mg "int" = none) (mB : mg "bool" = none) : FnOk P w K mg base CX0 1 f fd ["thing"] (spWhole K) := by
  refine F.ok scWhole (fun vs H Q E h => ?_) (fun cdv A outer s H vs Q E hr h => ?_)
  · obtain ⟨x, d, rfl, _⟩ := h
    rfl
  · obtain ⟨x, d, rfl, hd, q⟩ := h
    refine ⟨_, pss_one (ps_ret (pe_and (pe_callB call_isi (by rfl) mi boot_isinstance (pa_cons (pv 0) (pa_cons (pe_bltn (v := .ty "int") (by rfl) mI (by decide +kernel) rfl) pa_nil)))
      (pe_one (pe_not (pe_callB call_isi (by rfl) mi boot_isinstance (pa_cons (pv 0) (pa_cons (pe_bltn (v := .ty "bool") (by rfl) mB (by decide +kernel) rfl) pa_nil))))))), ?_⟩
    refine ⟨x, rfl, x, .ty "int", _, _, _, rfl, .ty "int", dp_ty hd, kit_ty (tys_int (tyD_mem d)), _, rfl, ite2 (fun e => ?_) (fun e => ?_)⟩
    · refine ⟨x, rfl, x, .ty "bool", _, _, _, rfl, .ty "bool", dp_ty hd, kit_ty (tys_bool (tyD_mem d)), _, rfl, ?_⟩
      exact qeq q (by rw [← whole_ty d, e, Bool.true_and])
    · have e' : (tyD d == "int" || tyD d == "bool") = false := by simpa using e
      exact qeq q (by rw [← whole_ty d, e', Bool.false_and])
def spWithin (K : PySem.W.Frag) : Sp := fun vs H Q _ => ∃ x d lo hi, vs = [x, .int lo, .int hi] ∧ Dp K H x d ∧ Q (.bl (withinD d lo hi)) H
theorem ok_within {f fW : Addr} {fd fdW : FuncData} (F : Fun K "is_within" "is_within" sWithin f fd) (FW : Fun K "is_whole" "is_whole" sWhole fW fdW) (bW : Binds K fdW ["thing"] []) (gW : mg "is_whole" = some (.ref fW))
    (GW : FnOk P w K mg base CX0 1 fW fdW ["thing"] (spWhole K)) : FnOk P w K mg base CX0 2 f fd ["thing", "least", "greatest"] (spWithin K) := by
  refine F.ok scWithin (fun vs H Q E h => ?_) (fun cdv A outer s H vs Q E hr h => ?_)
  · obtain ⟨x, d, lo, hi, rfl, _⟩ := h
    rfl
  · obtain ⟨x, d, lo, hi, rfl, hd, q⟩ := h
    refine ⟨_, pss_one (ps_ret (pe_and (pe_call GW hr (by rfl) gW FW.kp bW .nil pass0 (pa_cons (pv 0) pa_nil)) (pe_one (pe_chain op_le op_le (pv 1) (pv 0) (pv 2))))), ?_⟩
    refine ⟨x, rfl, x, d, rfl, hd, _, rfl, ite2 (fun e => ?_) (fun e => ?_)⟩
    · obtain ⟨i, rfl, rfl⟩ := dp_int hd e
      refine ⟨_, rfl, _, rfl, _, _, rfl, rfl, _, rfl, ite2 (fun e1 => ?_) (fun e1 => ?_)⟩
      · refine ⟨_, rfl, _, _, rfl, rfl, ?_⟩
        exact qeq q (by show (decide (lo ≤ i) && decide (i ≤ hi)) = _; rw [e1, Bool.true_and])
      · exact qeq q (by show (decide (lo ≤ i) && decide (i ≤ hi)) = _; simp only [Bool.not_eq_true] at e1; rw [e1, Bool.false_and])
    · exact qeq q (by cases d <;> first | rfl | exact absurd rfl e)
end
end HK

set_option Elab.async false
set_option linter.all false
set_option maxRecDepth 100000
set_option maxHeartbeats 2000000
namespace HK
open PySem PySem.Spec PyProof.Rows L2 GAl GxR
def neD : PyData → PyData → Bool
  | .int a, .int b => !decide (a = b)
  | _, _ => false
def isRoadD (n : Int) : PyData → Bool
  | .tuple [s, e, c, l] => (withinD s 0 (n - 1) && withinD e 0 (n - 1) && neD s e) && (withinD c 0 1000 && withinD l 1 1000)
  | _ => false
theorem dpAll_len {K : PySem.W.Frag} {H : Hp} : ∀ {xs : List V} {ds : List PyData}, DpAll K H xs ds → xs.length = ds.length
  | _, _, .nil => rfl
  | _, _, .cons _ t => by rw [List.length_cons, List.length_cons, dpAll_len t]
theorem within_int {d : PyData} {lo hi : Int} (h : withinD d lo hi = true) : ∃ i, d = .int i ∧ lo ≤ i ∧ i ≤ hi := by
  cases d <;> simp only [withinD] at h <;> first | cases h | skip
  rename_i i
  simp only [Bool.and_eq_true, decide_eq_true_eq] at h
  exact ⟨i, rfl, h.1, h.2⟩
theorem dp_int' {K : PySem.W.Frag} {H : Hp} {x : V} {i : Int} (h : Dp K H x (.int i)) : x = .int i := by cases h; rfl
theorem dp_tup {K : PySem.W.Frag} {H : Hp} {x : V} {ds : List PyData} (h : Dp K H x (.tuple ds)) : ∃ a xs, x = .ref a ∧ SqT K H a xs ∧ DpAll K H xs ds := by cases h with | tup a b => exact ⟨_, _, rfl, a, b⟩

section
variable {P : Program} {w : World} {K : PySem.W.Frag} {mg : Str → Option Value} {base : Heap}
def spRoad (K : PySem.W.Frag) : Sp := fun vs H Q _ => ∃ (n : Int) (x : V) (d : PyData), vs = [.int n, x] ∧ Dp K H x d ∧ Q (.bl (isRoadD n d)) H
end
end HK

set_option Elab.async false
set_option linter.all false
set_option maxRecDepth 100000
set_option maxHeartbeats 2000000
namespace HK
open PySem PySem.Spec PyProof.Rows L2 GAl GxR
theorem tyes {σ : L2.St} {H : Hp} {A B : Hp → Prop} (h : A H) : tYes σ H (fun b H3 => if b = true then A H3 else B H3) := by
  show (fun (b : Bool) (H3 : Hp) => if b = true then A H3 else B H3) true H
  simp only [if_true]
  exact h
def risesB (l : List (List Int)) : Bool := (List.range (l.length - 1)).all fun i => HT.lexLt (l.getD i []) (l.getD (i + 1) [])
theorem risesB_yes {l : List (List Int)} (h : ∀ j, j < l.length - 1 → HT.lexLt (l.getD j []) (l.getD (j + 1) []) = true) : risesB l = true := by
  unfold risesB
  rw [List.all_eq_true]
  exact fun j hj => h j (List.mem_range.mp hj)
theorem risesB_no {l : List (List Int)} {j : Nat} (hj : j < l.length - 1) (h : HT.lexLt (l.getD j []) (l.getD (j + 1) []) = false) : risesB l = false := by
  unfold risesB
  rw [Bool.eq_false_iff]
  intro z
  have := List.all_eq_true.mp z j (List.mem_range.mpr hj)
  rw [h] at this
  cases this
theorem cut1 (xs : List V) : cutV xs (some 1) none = xs.drop 1 := by
  unfold cutV
  rw [show HT.sIx xs.length 0 (some 1) = min 1 xs.length from HT.sIx_nat xs.length 0 1, HT.sIx_none]
  cases xs with
  | nil => rfl
  | cons x r =>
    rw [show min 1 (x :: r).length = 1 by
      rw [List.length_cons]
      omega]
    show (List.take ((x :: r).length - 1) r) = r
    rw [List.length_cons, Nat.add_sub_cancel]
    exact List.take_length
section
variable {P : Program} {w : World} {K : PySem.W.Frag} {mg : Str → Option Value} {base : Heap}
/-- the list at a holds tuples of ints -/
def TupsAt (K : PySem.W.Frag) (H : Hp) (xs : List V) (l : List (List Int)) : Prop := xs.length = l.length ∧ ∀ (i : Nat) (x : V), xs[i]? = some x → ∃ t, x = .ref t ∧ SqT K H t ((l.getD i []).map V.int)
theorem TupsAt.k0 {H H' : Hp} {xs : List V} {l : List (List Int)} (h : TupsAt K H xs l) (k : K0 H H') : TupsAt K H' xs l := ⟨h.1, fun i x e => by
  obtain ⟨t, e, s⟩ := h.2 i x e
  exact ⟨t, e, k.sqT s⟩⟩
def spRises (K : PySem.W.Frag) (Pr : Addr) : Sp := fun vs H Q _ => ∃ (a : Addr) (xs : List V) (l : List (List Int)), vs = [.ref a] ∧ SqL K H a xs ∧ TupsAt K H xs l ∧ TabG H Pr ∧ ∀ H', K0 H H' → Q (.bl (risesB l)) H'
end
end HK

set_option Elab.async false
set_option linter.all false
set_option maxRecDepth 100000
set_option maxHeartbeats 2000000
namespace HK
open PySem PySem.Spec PyProof.Rows L2 GAl GxR
def pairD : PyData → List Int
  | .tuple (.int s :: .int e :: _) => [s, e]
  | _ => []
def isNetD : PyData → Bool
  | .tuple [.int m, .tuple rs] => (decide (1 ≤ m) && decide (m ≤ 12)) && (rs.all (isRoadD m) && risesB (rs.map pairD))
  | _ => false
theorem road_ints {n : Int} {d : PyData} (h : isRoadD n d = true) : ∃ s e c l : Int, d = .tuple [.int s, .int e, .int c, .int l] ∧ 0 ≤ s ∧ s ≤ n - 1 ∧ 0 ≤ e ∧ e ≤ n - 1 ∧ s ≠ e ∧ 0 ≤ c ∧ c ≤ 1000 ∧ 1 ≤ l ∧ l ≤ 1000 := by
  unfold isRoadD at h
  split at h
  · rename_i s e c l
    simp only [Bool.and_eq_true] at h
    obtain ⟨⟨⟨h1, h2⟩, h3⟩, h4, h5⟩ := h
    obtain ⟨i, rfl, a1, a2⟩ := within_int h1
    obtain ⟨j, rfl, b1, b2⟩ := within_int h2
    obtain ⟨k, rfl, c1, c2⟩ := within_int h4
    obtain ⟨q, rfl, d1, d2⟩ := within_int h5
    refine ⟨i, j, k, q, rfl, a1, a2, b1, b2, fun z => ?_, c1, c2, d1, d2⟩
    rw [z] at h3
    simp [neD] at h3
  · cases h
theorem dp_ints4 {K : PySem.W.Frag} {H : Hp} {x : V} {s e c l : Int} (h : Dp K H x (.tuple [.int s, .int e, .int c, .int l])) : ∃ a, x = .ref a ∧ SqT K H a [.int s, .int e, .int c, .int l] := by
  obtain ⟨a, xs, rfl, hq, hall⟩ := dp_tup h
  cases hall with
  | cons d1 hall => cases hall with
    | cons d2 hall => cases hall with
      | cons d3 hall => cases hall with
        | cons d4 hall =>
          cases hall
          obtain rfl := dp_int' d1
          obtain rfl := dp_int' d2
          obtain rfl := dp_int' d3
          obtain rfl := dp_int' d4
          exact ⟨a, rfl, hq⟩
theorem dpAll_get {K : PySem.W.Frag} {H : Hp} : ∀ {xs : List V} {ds : List PyData} {i : Nat} {x : V}, DpAll K H xs ds → xs[i]? = some x → ∃ d, ds[i]? = some d ∧ Dp K H x d
  | _, _, _, _, .nil, e => by simp at e
  | _, _, 0, _, .cons h _, e => by simp at e; subst e; exact ⟨_, rfl, h⟩
  | _, _, i + 1, x, .cons _ t, e => by
    obtain ⟨d, h1, h2⟩ := dpAll_get (i := i) (x := x) t (by simpa using e)
    exact ⟨d, by simpa using h1, h2⟩
theorem K0.mut {H H' : Hp} {p : Addr} {o : HO} (k : K0 H H') (n : H p = none) : K0 H (upd H' p o) := ⟨fun b u e m => by
  rw [upd_ne (ne_of_none e n)]; exact k.oth b u e m, fun P h => by
  obtain ⟨ps, e, ht⟩ := h
  obtain ⟨ps', e', ht'⟩ := k.tab P ⟨ps, e, ht⟩
  exact ⟨ps', by rw [upd_ne (ne_of_none e n)]; exact e', ht'⟩, fun b e => k.dom b (upd_none e)⟩
theorem TupsAt.kt {K : PySem.W.Frag} {t : Addr} {H H' : Hp} {xs : List V} {l : List (List Int)} (h : TupsAt K H xs l) (k : Kt t H H') : TupsAt K H' xs l := ⟨h.1, fun i x e => by
  obtain ⟨t, e, s⟩ := h.2 i x e
  exact ⟨t, e, k.sqT s⟩⟩
theorem TupsAt.snoc {K : PySem.W.Frag} {H : Hp} {xs : List V} {l : List (List Int)} {t : Addr} {ns : List Int} (h : TupsAt K H xs l) (s : SqT K H t (ns.map V.int)) : TupsAt K H (xs ++ [.ref t]) (l ++ [ns]) := by
  refine ⟨by simp [h.1], fun i x e => ?_⟩
  by_cases hi : i < xs.length
  · rw [List.getElem?_append_left hi] at e
    obtain ⟨t', e', s'⟩ := h.2 i x e
    refine ⟨t', e', ?_⟩
    have : (l ++ [ns]).getD i [] = l.getD i [] := by
      simp only [List.getD_eq_getElem?_getD]
      rw [List.getElem?_append_left (by rw [← h.1]; exact hi)]
    rw [this]; exact s'
  · have hx : i = xs.length := by
      have : i < (xs ++ [V.ref t]).length := (List.getElem?_eq_some_iff.mp e).1
      rw [List.length_append, List.length_singleton] at this
      omega
    subst hx
    rw [List.getElem?_append_right (Nat.le_refl _), Nat.sub_self] at e
    have e : V.ref t = x := Option.some.inj e
    refine ⟨t, e.symm, ?_⟩
    have : (l ++ [ns]).getD xs.length [] = ns := by
      simp only [List.getD_eq_getElem?_getD]
      rw [h.1, List.getElem?_append_right (Nat.le_refl _), Nat.sub_self]; rfl
    rw [this]; exact s
theorem all_no {rs : List PyData} {p : PyData → Bool} {i : Nat} {d : PyData} (h : rs[i]? = some d) (hd : p d = false) : rs.all p = false := by
  rw [Bool.eq_false_iff]
  intro z
  have := List.all_eq_true.mp z d (List.mem_of_getElem? h)
  rw [hd] at this; cases this
theorem all_yes {rs : List PyData} {p : PyData → Bool} (h : ∀ (j : Nat) (d : PyData), rs[j]? = some d → p d = true) : rs.all p = true := by
  rw [List.all_eq_true]
  intro d hd
  obtain ⟨j, hj, e⟩ := List.getElem_of_mem hd
  exact h j d (by rw [← e]; exact List.getElem?_eq_getElem hj)

section
variable {P : Program} {w : World} {K : PySem.W.Frag} {mg : Str → Option Value} {base : Heap}
def NetAns (K : PySem.W.Frag) (H : Hp) (v : V) (b : Bool) : Prop := (∃ d, Dp K H v d ∧ (∀ m rs, d = .tuple [m, .tuple rs] → rs.length ≤ 1000) ∧ b = isNetD d) ∨ (∃ T, T ∈ tys ∧ TyX K H v (.type T) ∧ (T == "tuple") = false ∧ b = false)
def spIsNet (K : PySem.W.Frag) (Pn Pr : Addr) : Sp := fun vs H Q _ => ∃ (v : V) (b : Bool), vs = [v] ∧ NetAns K H v b ∧ TabG H Pn ∧ TabG H Pr ∧ ∀ H', K0 H H' → Q (.bl b) H'
end
end HK

set_option Elab.async false
set_option linter.all false
set_option maxRecDepth 100000
set_option maxHeartbeats 2000000
namespace HK
open PySem PySem.Spec PyProof.Rows L2 GAl GxR
open Evl (pss_cut)
theorem dpInts {K : PySem.W.Frag} {H : Hp} : ∀ ns : List Int, DpAll K H (ns.map V.int) (ns.map PyData.int)
  | [] => .nil
  | n :: ns => .cons (.int n) (dpInts ns)
/-- the script, at s: written, locked, or a list apart from the tape's at t -/
def Scr (K : PySem.W.Frag) (t : Addr) (H : Hp) (s : Addr) (ns : List Int) : Prop := (H s = some (.lst (ns.map V.int)) ∧ s ≠ t) ∨ (∃ o, H s = some (.frz o (.lst (ns.map V.int)))) ∨
  ∃ (o : Obj) (its : Array Value) (n : Nat), K.lookup s = some o ∧ o.cls = .type "list" ∧ o.dict = none ∧ o.data = .seq its n ∧ its.size ≤ sizeLine ∧ Vals (ns.map V.int) its.toList
theorem Scr.sq {K : PySem.W.Frag} {t : Addr} {H : Hp} {s : Addr} {ns : List Int} (h : Scr K t H s ns) : SqL K H s (ns.map V.int) := by
  rcases h with ⟨h, _⟩ | h | h
  · exact .inl (.inl h)
  · exact .inl (.inr h)
  · exact .inr h
theorem Scr.kt {K : PySem.W.Frag} {t : Addr} {H H' : Hp} {s : Addr} {ns : List Int} (h : Scr K t H s ns) (k : Kt t H H') : Scr K t H' s ns := by
  rcases h with ⟨h, n⟩ | ⟨o, h⟩ | h
  · exact .inl ⟨k.oth _ _ h n (fun _ z => by cases z), n⟩
  · exact .inr (.inl ⟨o, k.frz _ _ _ h⟩)
  · exact .inr (.inr h)
theorem Scr.of {K : PySem.W.Frag} {t : Addr} {H : Hp} {s : Addr} {ns : List Int} {o : HO} (h : SqL K H s (ns.map V.int)) (n : H t = none) : Scr K t (upd H t o) s ns := by
  rcases h with (h | ⟨o', h⟩) | h
  · have z := ne_of_none h n
    exact .inl ⟨by rw [upd_ne z]; exact h, z⟩
  · have z := ne_of_none h n
    exact .inr (.inl ⟨o', by rw [upd_ne z]; exact h⟩)
  · exact .inr (.inr h)
/-- the tape: the script, the next place, what is left of the number -/
def TapeV (H : Hp) (t s : Addr) : Prop := ∃ p v : Int, H t = some (.lst [.ref s, .int p, .int v]) ∧ 0 ≤ p ∧ 0 ≤ v
structure Tape (K : PySem.W.Frag) (H : Hp) (t s : Addr) (ns : List Int) : Prop where
  v : TapeV H t s
  scr : Scr K t H s ns
theorem canLay_ints : ∀ ns : List Int, SeqAt.shaped (.list (ns.map PyData.int)) = true := PySem.W.shaped_ints
theorem eqv_nil (ns : List Int) : PyData.eqv (.list (ns.map PyData.int)) (.list []) = ns.isEmpty := by
  cases ns <;> simp [PyData.eqv, PyData.eqvAll]
section
variable {P : Program} {w : World} {K : PySem.W.Frag} {mg : Str → Option Value} {base : Heap}
def spSpread : Sp := fun vs H Q _ => ∃ cell place : Int, vs = [.int cell, .int place] ∧ 0 ≤ place ∧ ∀ v : Int, 0 ≤ v → Q (.int v) H
theorem mulR {i j : Int} (h : -(2 ^ 64) < j) (h2 : j < 2 ^ 64) : CMul i j := .inr ⟨h, h2⟩
theorem mulL {i j : Int} (h : -(2 ^ 64) < i) (h2 : i < 2 ^ 64) : CMul i j := .inl ⟨h, h2⟩
def spDigit (K : PySem.W.Frag) : Sp := fun vs H Q _ => ∃ (t sc : Addr) (many : Int) (ns : List Int), vs = [.ref t, .int many] ∧ Tape K H t sc ns ∧ 0 < many ∧ many ≤ 100000000000000000000 ∧
  ∀ (d : Int) (H' : Hp), 0 ≤ d → d < many → Kt t H H' → Tape K H' t sc ns → Q (.int d) H'
end
end HK

set_option Elab.async false
set_option linter.all false
set_option maxRecDepth 100000
set_option maxHeartbeats 2000000
namespace HK
open PySem PySem.Spec PyProof.Rows L2 GAl GxR
section
variable {X : Cx}
/-- tuple(xs) of a list: the new object is known -/
theorem call_tuple_fz : CallR X (.type "tuple") (fun xs H Q => ∃ p ys, xs = [.ref p] ∧ SqL X.K H p ys ∧ ∀ l o, H l = none → o.cls = .type "tuple" → o.dict = none → Q (.ref l) (upd H l (.frz o (.tup ys)))) := by
  intro pins s σ H xs us Q I r h
  obtain ⟨p, ys, rfl, hq, q⟩ := h
  obtain ⟨u, rfl, rx⟩ := vals1 r
  cases rx
  obtain ⟨its, r', pl, hz⟩ := I.list hq
  have hlen := r'.length
  refine call_tuple_list pl.isList (fun h' kp => ?_) (by simp only [List.size_toArray] <;> omega)
  have I1 : Inv X pins σ H { s with heap := h' } := I.kept (t' := s.toks) kp
  have hget : (h'.push { cls := .type "tuple", data := .seq its.toArray }).get? h'.objs.size = some { cls := .type "tuple", data := .seq its.toArray } := Heap.get?_push_size _ rfl
  have I2 : Inv X pins σ (upd H h'.objs.size (.frz { cls := .type "tuple", data := .seq its.toArray } (.tup ys))) { s with heap := h'.push { cls := .type "tuple", data := .seq its.toArray } } :=
    I1.laid (t' := s.toks) (fun b o e => Heap.get?_push_of_some _ e) (Nat.le_refl _) (show ObjOk X.prog X.w _ _ _ (.frz _ (.tup ys)) from ⟨hget, hz, its, r', IsTup.new _ _⟩)
  exact ⟨.ref h'.objs.size, _, I2, rfl, q _ _ (I1.hok.fresh (Nat.le_refl _)) rfl rfl⟩
/-- a method of a built-in type, of an object that is known -/
def tBMF (T : String) (r : V → List V → Hp → VK → Prop) (to : TE) (t : TA) : TE := fun σ H Q => to σ H fun x H1 => (∃ a ob u, x = .ref a ∧ H1 a = some (.frz ob u) ∧ ob.cls = .type T ∧ ob.dict = none) ∧ t σ H1 fun xs H2 => r x xs H2 Q
theorem pe_bmF {o e : Expr} {es : List Expr} {to : TE} {t : TA} {name : Str} {apos cpos : Pos} {T id : String} {r : V → List V → Hp → VK → Prop}
    (pa : PlainAttrs T) (slot : Slot T name id) (hty : typeOf (.builtin id) = pure (.type "method_descriptor")) (hm : MtR X id r) (ho : PE X o to) (ha : PA X (e :: es) t)
    (hbase : attributeBase o name X.env (eval o X.env) = eval o X.env := by rfl)
    (hfew : ((backTo cpos (starEach (e :: es) X.env)).all (fun x => !x.1) && (backToKw cpos (keywordEach [] X.env)).all (fun x => x.1.isSome)
      && decide ((e :: es).length + ([] : List Keyword).length + (if ([] : List Keyword).isEmpty then 0 else 1) < 30)) = true := by rfl)
    (hline : (apos.endLine == cpos.line) = true := by rfl) (hs : starEach (e :: es) X.env = (false, eval e X.env) :: starEach es X.env := by rfl) (hplain : (backTo cpos (starEach es X.env)).any (·.1) = false := by rfl) :
    PE X (.Call (.Attribute o name apos) (e :: es) [] cpos) (tBMF T r to t) := by
  refine ⟨fun pins s σ H Q I h => ?_⟩
  refine wpAny_Call_method_late hbase hfew hline rfl (thn (ho.run pins s σ H _ I h) fun v s1 ⟨x, H1, I1, r1, ⟨a, ob, u, ex, hob, hc, hd⟩, q1⟩ => ?_)
  subst ex
  have hget := (show ObjOk X.prog X.w H1 s1.heap a (.frz ob u) from I1.hok a _ hob).1
  have ev : v = .ref a := r1
  refine ⟨T, id, pa, slot, hty, by rw [ev]; exact ⟨ob, hget, hc⟩, fun b e2 => ?_, ?_⟩
  · rw [ev] at e2
    cases e2
    exact ⟨ob, hget, hd⟩
  have hA := ha.run cpos pins s1 σ H1 _ I1 q1
  rw [hs] at hA ⊢
  refine Calls.callWith_builtin (by show (false || (backTo cpos (starEach es X.env)).any (·.1)) = false; rw [hplain] <;> rfl) (Calls.evalArgs_plain ?_)
  exact thn hA fun us s2 ⟨vs, H2, I2, r2, q2⟩ => hm pins s2 σ H2 (.ref a) vs v us Q I2 r1 r2 q2
end
end HK

set_option Elab.async false
set_option linter.all false
set_option maxRecDepth 100000
set_option maxHeartbeats 2000000
namespace HK
open PySem PySem.Spec PyProof.Rows L2 GAl GxR
open Evl (pss_cut)
structure R4 where
  s : Int
  e : Int
  c : Int
  l : Int
def R4.vs (r : R4) : List V := [.int r.s, .int r.e, .int r.c, .int r.l]
def R4.d (r : R4) : PyData := .tuple [.int r.s, .int r.e, .int r.c, .int r.l]
structure RoadOk (n : Int) (r : R4) : Prop where
  s0 : 0 ≤ r.s
  s1 : r.s < n
  e0 : 0 ≤ r.e
  e1 : r.e < n
  ne : r.s ≠ r.e
  c0 : 0 ≤ r.c
  c1 : r.c ≤ 1000
  l0 : 1 ≤ r.l
  l1 : r.l ≤ 1000
def R4.lt (a b : R4) : Prop := a.s < b.s ∨ (a.s = b.s ∧ a.e < b.e)
structure Good (n : Int) (rs : List R4) : Prop where
  n1 : 1 ≤ n
  n2 : n ≤ 12
  ok : ∀ r ∈ rs, RoadOk n r
  up : rs.Pairwise R4.lt
/-- the roads' tuples -/
def Roads (K : PySem.W.Frag) (H : Hp) (xs : List V) (rs : List R4) : Prop := DpAll K H xs (rs.map R4.d)
theorem dp_r4 {K : PySem.W.Frag} {H : Hp} {x : V} {r : R4} (h : Dp K H x r.d) : ∃ a, x = .ref a ∧ SqT K H a r.vs := dp_ints4 h
theorem r4_dp {K : PySem.W.Frag} {H : Hp} {a : Addr} {r : R4} (h : SqT K H a r.vs) : Dp K H (.ref a) r.d := .tup h (.cons (.int _) (.cons (.int _) (.cons (.int _) (.cons (.int _) .nil))))
theorem Kt.roads {K : PySem.W.Frag} {t : Addr} {H H' : Hp} (k : Kt t H H') : ∀ {xs : List V} {rs : List R4}, Roads K H xs rs → Roads K H' xs rs
  | _, [], .nil => .nil
  | _, r :: rs, .cons a b => .cons (by
      obtain ⟨p, rfl, h⟩ := dp_r4 (r := r) a
      exact r4_dp (r := r) (k.sqT h)) (Kt.roads k (rs := rs) b)
theorem dpAll_snoc {K : PySem.W.Frag} {H : Hp} : ∀ {xs : List V} {ds : List PyData} {x : V} {d : PyData}, DpAll K H xs ds → Dp K H x d → DpAll K H (xs ++ [x]) (ds ++ [d])
  | _, _, _, _, .nil, h => .cons h .nil
  | _, _, _, _, .cons a b, h => .cons a (dpAll_snoc b h)
theorem Roads.snoc {K : PySem.W.Frag} {H : Hp} {xs : List V} {rs : List R4} {a : Addr} {r : R4} (h : Roads K H xs rs) (s : SqT K H a r.vs) : Roads K H (xs ++ [.ref a]) (rs ++ [r]) := by
  unfold Roads
  rw [List.map_append]
  exact dpAll_snoc h (r4_dp s)
theorem Roads.len {K : PySem.W.Frag} {H : Hp} {xs : List V} {rs : List R4} (h : Roads K H xs rs) : xs.length = rs.length := by
  have := dpAll_len h
  rw [List.length_map] at this
  exact this
theorem Kt.mut {t : Addr} {H H' : Hp} {p : Addr} {o : HO} (k : Kt t H H') (n : H p = none) : Kt t H (upd H' p o) := ⟨fun b u e => by
  rw [upd_ne (ne_of_none e n)]; exact k.tup b u e, fun b o u e => by
  rw [upd_ne (ne_of_none e n)]; exact k.frz b o u e, fun b u e m m' => by
  rw [upd_ne (ne_of_none e n)]; exact k.oth b u e m m', fun P h => by
  obtain ⟨ps, e, ht⟩ := h
  obtain ⟨ps', e', ht'⟩ := k.tab P ⟨ps, e, ht⟩
  exact ⟨ps', by rw [upd_ne (ne_of_none e n)]; exact e', ht'⟩, fun b e => k.dom b (upd_none e)⟩
theorem Tape.k0 {K : PySem.W.Frag} {H H' : Hp} {t s : Addr} {ns : List Int} (h : Tape K H t s ns) (k : K0 H H') : Tape K H' t s ns := by
  obtain ⟨⟨p, v, e, r⟩, q⟩ := h
  exact ⟨⟨p, v, k.oth t _ e (fun _ z => by cases z), r⟩, q.kt k.kt⟩
theorem Tape.ne {K : PySem.W.Frag} {H : Hp} {t s b : Addr} {ns : List Int} (h : Tape K H t s ns) (n : H b = none) : b ≠ t := fun z => by
  obtain ⟨_, _, e, _⟩ := h.v
  rw [z, e] at n; cases n
/-- a list of the law's own, at b, is written -/
theorem Tape.mut {K : PySem.W.Frag} {H H' : Hp} {t s b : Addr} {ns : List Int} {o : HO} (h : Tape K H' t s ns) (h0 : Scr K t H s ns) (k : Kt t H H') (n : H b = none) (nb : b ≠ t) : Tape K (upd H' b o) t s ns := by
  obtain ⟨⟨p, v, e, r⟩, q⟩ := h
  exact ⟨⟨p, v, by rw [upd_ne nb.symm]; exact e, r⟩, h0.kt (k.mut n)⟩
theorem pick8 {x d : Int} (h0 : 0 ≤ d) (h1 : d < 8) (hx : 0 ≤ x ∧ x ≤ 1000) : ∃ y : Int, atI [V.int 0, .int 1, .int 1, .int 2, .int 3, .int 7, .int 1000, .int x] d = some (.int y) ∧ 0 ≤ y ∧ y ≤ 1000 := by
  obtain ⟨k, rfl⟩ := Int.eq_ofNat_of_zero_le h0
  match k, h1 with
  | 0, _ => exact ⟨0, atI_nat rfl, by omega, by omega⟩
  | 1, _ => exact ⟨1, atI_nat rfl, by omega, by omega⟩
  | 2, _ => exact ⟨1, atI_nat rfl, by omega, by omega⟩
  | 3, _ => exact ⟨2, atI_nat rfl, by omega, by omega⟩
  | 4, _ => exact ⟨3, atI_nat rfl, by omega, by omega⟩
  | 5, _ => exact ⟨7, atI_nat rfl, by omega, by omega⟩
  | 6, _ => exact ⟨1000, atI_nat rfl, by omega, by omega⟩
  | 7, _ => exact ⟨x, atI_nat rfl, hx⟩
  | k + 8, h => exact absurd h (by omega)
theorem pick7 {x d : Int} (h0 : 0 ≤ d) (h1 : d < 7) (hx : 1 ≤ x ∧ x ≤ 1000) : ∃ y : Int, atI [V.int 1, .int 1, .int 2, .int 3, .int 5, .int 1000, .int x] d = some (.int y) ∧ 1 ≤ y ∧ y ≤ 1000 := by
  obtain ⟨k, rfl⟩ := Int.eq_ofNat_of_zero_le h0
  match k, h1 with
  | 0, _ => exact ⟨1, atI_nat rfl, by omega, by omega⟩
  | 1, _ => exact ⟨1, atI_nat rfl, by omega, by omega⟩
  | 2, _ => exact ⟨2, atI_nat rfl, by omega, by omega⟩
  | 3, _ => exact ⟨3, atI_nat rfl, by omega, by omega⟩
  | 4, _ => exact ⟨5, atI_nat rfl, by omega, by omega⟩
  | 5, _ => exact ⟨1000, atI_nat rfl, by omega, by omega⟩
  | 6, _ => exact ⟨x, atI_nat rfl, hx⟩
  | k + 7, h => exact absurd h (by omega)

section
variable {P : Program} {w : World} {K : PySem.W.Frag} {mg : Str → Option Value} {base : Heap}
/-- what the law's net is -/
def NetAt (K : PySem.W.Frag) (H : Hp) (a : Addr) (n : Int) (rs : List R4) : Prop := ∃ (r : Addr) (xs : List V) (_ : Unit), SqT K H a [.int n, .ref r] ∧ SqT K H r xs ∧ True ∧ True ∧ Roads K H xs rs
theorem NetAt.kt {t : Addr} {H H' : Hp} {a : Addr} {n : Int} {rs : List R4} (h : NetAt K H a n rs) (k : Kt t H H') : NetAt K H' a n rs := by
  obtain ⟨r, xs, o, h1, h2, hc, hd, h3⟩ := h
  exact ⟨r, xs, o, k.sqT h1, k.sqT h2, hc, hd, k.roads h3⟩
def spNet (K : PySem.W.Frag) : Sp := fun vs H Q _ => ∃ (t sc : Addr) (most : Int) (ns : List Int), vs = [.ref t, .int most] ∧ Tape K H t sc ns ∧ 1 ≤ most ∧ most ≤ 12 ∧
  ∀ (a : Addr) (n : Int) (rs : List R4) (H' : Hp), Kt t H H' → Tape K H' t sc ns → NetAt K H' a n rs → n ≤ most → Good n rs → rs.length ≤ 156 → Q (.ref a) H'
/-- between the turns -/
structure NI (K : PySem.W.Frag) (H : Hp) (t sc ra : Addr) (ns : List Int) (n : Int) (i j : Nat) (H3 : Hp) : Prop where
  kt : Kt t H H3
  tp : Tape K H3 t sc ns
  ex : ∃ xs rs, H3 ra = some (.lst xs) ∧ Roads K H3 xs rs ∧ Good n rs ∧ (∀ r ∈ rs, r.s < i ∨ (r.s = i ∧ r.e < j)) ∧ rs.length ≤ 12 * i + j
end
end HK

set_option Elab.async false
set_option linter.all false
set_option maxRecDepth 100000
set_option maxHeartbeats 2000000
namespace HK
open PySem PySem.Spec PyProof.Rows L2 GAl GxR
mutual
/-- data whose lists are tracked, apart from the tape -/
inductive Dq (K : PySem.W.Frag) (T : Addr → Prop) (H : Hp) : V → PyData → Prop
  | non : Dq K T H .non .none
  | bl (b : Bool) : Dq K T H (.bl b) (.bool b)
  | int (i : Int) : Dq K T H (.int i) (.int i)
  | str (x : Str) : Dq K T H (.str x) (.str x)
  | lst {a : Addr} {xs : List V} {ds : List PyData} : H a = some (.lst xs) → ¬ T a → DqAll K T H xs ds → Dq K T H (.ref a) (.list ds)
  | tup {a : Addr} {xs : List V} {ds : List PyData} : SqT K H a xs → DqAll K T H xs ds → Dq K T H (.ref a) (.tuple ds)
inductive DqAll (K : PySem.W.Frag) (T : Addr → Prop) (H : Hp) : List V → List PyData → Prop
  | nil : DqAll K T H [] []
  | cons {v : V} {vs : List V} {d : PyData} {ds : List PyData} : Dq K T H v d → DqAll K T H vs ds → DqAll K T H (v :: vs) (d :: ds)
end
mutual
theorem Dq.dp {K : PySem.W.Frag} {T : Addr → Prop} {H : Hp} : ∀ (d : PyData) (v : V), Dq K T H v d → Dp K H v d
  | .none, _, h => by cases h; exact .non
  | .bool _, _, h => by cases h; exact .bl _
  | .int _, _, h => by cases h; exact .int _
  | .str _, _, h => by cases h; exact .str _
  | .list ds, _, h => by cases h with | lst a _ b => exact .lst (.inl (.inl a)) (DqAll.dp ds _ b)
  | .tuple ds, _, h => by cases h with | tup a b => exact .tup a (DqAll.dp ds _ b)
  | .dict _, _, h => by cases h
theorem DqAll.dp {K : PySem.W.Frag} {T : Addr → Prop} {H : Hp} : ∀ (ds : List PyData) (vs : List V), DqAll K T H vs ds → DpAll K H vs ds
  | [], _, h => by cases h; exact .nil
  | d :: ds, _, h => by cases h with | cons a b => exact .cons (Dq.dp d _ a) (DqAll.dp ds _ b)
end
mutual
theorem Dq.kt {K : PySem.W.Frag} {T : Addr → Prop} {t : Addr} {H H' : Hp} (hT : T t) (k : Kt t H H') : ∀ (d : PyData) (v : V), Dq K T H v d → Dq K T H' v d
  | .none, _, h => by cases h; exact .non
  | .bool _, _, h => by cases h; exact .bl _
  | .int _, _, h => by cases h; exact .int _
  | .str _, _, h => by cases h; exact .str _
  | .list ds, _, h => by cases h with | lst a n b => exact .lst (k.oth _ _ a (fun z => n (z ▸ hT)) (fun _ z => by cases z)) n (DqAll.kt hT k ds _ b)
  | .tuple ds, _, h => by cases h with | tup a b => exact .tup (k.sqT a) (DqAll.kt hT k ds _ b)
  | .dict _, _, h => by cases h
theorem DqAll.kt {K : PySem.W.Frag} {T : Addr → Prop} {t : Addr} {H H' : Hp} (hT : T t) (k : Kt t H H') : ∀ (ds : List PyData) (vs : List V), DqAll K T H vs ds → DqAll K T H' vs ds
  | [], _, h => by cases h; exact .nil
  | d :: ds, _, h => by cases h with | cons a b => exact .cons (Dq.kt hT k d _ a) (DqAll.kt hT k ds _ b)
end
theorem DqAll.len {K : PySem.W.Frag} {T : Addr → Prop} {H : Hp} : ∀ {vs : List V} {ds : List PyData}, DqAll K T H vs ds → vs.length = ds.length
  | _, _, .nil => rfl
  | _, _, .cons _ b => by rw [List.length_cons, List.length_cons, b.len]
theorem DqAll.app {K : PySem.W.Frag} {T : Addr → Prop} {H : Hp} : ∀ {vs ws : List V} {ds es : List PyData}, DqAll K T H vs ds → DqAll K T H ws es → DqAll K T H (vs ++ ws) (ds ++ es)
  | _, _, _, _, .nil, h => h
  | _, _, _, _, .cons a b, h => .cons a (b.app h)
theorem DqAll.take {K : PySem.W.Frag} {T : Addr → Prop} {H : Hp} : ∀ {vs : List V} {ds : List PyData} (k : Nat), DqAll K T H vs ds → DqAll K T H (vs.take k) (ds.take k)
  | _, _, 0, _ => .nil
  | _, _, _ + 1, .nil => .nil
  | _, _, k + 1, .cons a b => .cons a (b.take k)
theorem DqAll.drop {K : PySem.W.Frag} {T : Addr → Prop} {H : Hp} : ∀ {vs : List V} {ds : List PyData} (k : Nat), DqAll K T H vs ds → DqAll K T H (vs.drop k) (ds.drop k)
  | _, _, 0, h => h
  | _, _, _ + 1, .nil => .nil
  | _, _, k + 1, .cons _ b => b.drop k
theorem DqAll.get {K : PySem.W.Frag} {T : Addr → Prop} {H : Hp} : ∀ {vs : List V} {ds : List PyData} {i : Nat} {x : V}, DqAll K T H vs ds → vs[i]? = some x → ∃ d, ds[i]? = some d ∧ Dq K T H x d
  | _, _, _, _, .nil, e => by simp at e
  | _, _, 0, _, .cons h _, e => by simp at e; subst e; exact ⟨_, rfl, h⟩
  | _, _, i + 1, x, .cons _ b, e => by
    obtain ⟨d, h1, h2⟩ := DqAll.get (i := i) (x := x) b (by simpa using e)
    exact ⟨d, by simpa using h1, h2⟩
theorem DqAll.rev {K : PySem.W.Frag} {T : Addr → Prop} {H : Hp} : ∀ {vs : List V} {ds : List PyData}, DqAll K T H vs ds → DqAll K T H vs.reverse ds.reverse
  | _, _, .nil => .nil
  | _, _, .cons a b => by
    rw [List.reverse_cons, List.reverse_cons]
    exact b.rev.app (.cons a .nil)
theorem roads_dq {K : PySem.W.Frag} {T : Addr → Prop} {H : Hp} : ∀ {xs : List V} {rs : List R4}, Roads K H xs rs → DqAll K T H xs (rs.map R4.d)
  | _, [], .nil => .nil
  | _, r :: rs, .cons a b => .cons (by
      obtain ⟨p, rfl, h⟩ := dp_r4 (r := r) a
      exact .tup h (.cons (.int _) (.cons (.int _) (.cons (.int _) (.cons (.int _) .nil))))) (roads_dq (rs := rs) b)

/-- what stays, the tape a tape -/
structure Kp (K : PySem.W.Frag) (t sc : Addr) (ns : List Int) (H H' : Hp) : Prop where
  kt : Kt t H H'
  tp : Tape K H t sc ns → Tape K H' t sc ns
theorem Kp.refl {K : PySem.W.Frag} {t sc : Addr} {ns : List Int} (H : Hp) : Kp K t sc ns H H := ⟨Kt.refl _ _, fun h => h⟩
theorem Kp.trans {K : PySem.W.Frag} {t sc : Addr} {ns : List Int} {H H1 H2 : Hp} (a : Kp K t sc ns H H1) (b : Kp K t sc ns H1 H2) : Kp K t sc ns H H2 := ⟨a.kt.trans b.kt, fun h => b.tp (a.tp h)⟩
theorem K0.kp {K : PySem.W.Frag} {t sc : Addr} {ns : List Int} {H H' : Hp} (k : K0 H H') : Kp K t sc ns H H' := ⟨k.kt, fun h => h.k0 k⟩

section
variable {K : PySem.W.Frag} {T : Addr → Prop} {t sc : Addr} {ns : List Int} {H0 : Hp} {σ : L2.St}
/-- an expression makes data of which P holds -/
def Mk (K : PySem.W.Frag) (T : Addr → Prop) (t sc : Addr) (ns : List Int) (H0 : Hp) (σ : L2.St) (te : TE) (P : PyData → Prop) : Prop := T t → (∀ b, T b → H0 b ≠ none) → ∀ H, Kp K t sc ns H0 H → ∀ Q : VK, (∀ v H' d, Kp K t sc ns H H' → P d → Dq K T H' v d → Q v H') → te σ H Q
def MkL (K : PySem.W.Frag) (T : Addr → Prop) (t sc : Addr) (ns : List Int) (H0 : Hp) (σ : L2.St) (ta : TA) (P : List PyData → Prop) : Prop := T t → (∀ b, T b → H0 b ≠ none) → ∀ H, Kp K t sc ns H0 H → ∀ Q : List V → Hp → Prop, (∀ vs H' ds, Kp K t sc ns H H' → P ds → DqAll K T H' vs ds → Q vs H') → ta σ H Q
def MkI (K : PySem.W.Frag) (T : Addr → Prop) (t sc : Addr) (ns : List Int) (H0 : Hp) (σ : L2.St) (te : TE) (i : Int) : Prop := Mk K T t sc ns H0 σ te (· = .int i)
theorem Mk.imp {te : TE} {P P' : PyData → Prop} (h : Mk K T t sc ns H0 σ te P) (i : ∀ d, P d → P' d) : Mk K T t sc ns H0 σ te P' := fun hTt hdm H k Q q => h hTt hdm H k Q fun v H' d k' p dq => q v H' d k' (i d p) dq
theorem mk_int {i : Int} : Mk K T t sc ns H0 σ (tC (.int i)) (· = .int i) := fun _ _ H _ _ q => q _ H _ (Kp.refl H) rfl (.int i)
theorem mk_bl {b : Bool} : Mk K T t sc ns H0 σ (tC (.bl b)) (· = .bool b) := fun _ _ H _ _ q => q _ H _ (Kp.refl H) rfl (.bl b)
theorem mk_non : Mk K T t sc ns H0 σ (tC .non) (· = .none) := fun _ _ H _ _ q => q _ H _ (Kp.refl H) rfl .non
theorem mk_str {x : Str} : Mk K T t sc ns H0 σ (tC (.str x)) (· = .str x) := fun _ _ H _ _ q => q _ H _ (Kp.refl H) rfl (.str x)
theorem mk_var {i : Nat} {v : V} {d : PyData} (e : σ[i]? = some (some v)) (h : Dq K T H0 v d) : Mk K T t sc ns H0 σ (tVar i) (· = d) := fun hTt hdm H k _ q => ⟨v, e, q v H d (Kp.refl H) rfl (Dq.kt hTt k.kt d v h)⟩
theorem mk_add {ta tb : TE} {i j : Int} (ha : Mk K T t sc ns H0 σ ta (· = .int i)) (hb : Mk K T t sc ns H0 σ tb (· = .int j)) : Mk K T t sc ns H0 σ (tOp (rI0 fun i j => .int (i + j)) ta tb) (· = .int (i + j)) := fun hTt hdm H k Q q => ha hTt hdm H k _ fun v H1 d k1 e dq => by
  subst e; cases dq
  exact hb hTt hdm H1 (k.trans k1) _ fun v H2 d k2 e dq => by
    subst e; cases dq
    exact ⟨i, j, rfl, rfl, q _ H2 _ (k1.trans k2) rfl (.int _)⟩
theorem mk_sub {ta tb : TE} {i j : Int} (ha : Mk K T t sc ns H0 σ ta (· = .int i)) (hb : Mk K T t sc ns H0 σ tb (· = .int j)) : Mk K T t sc ns H0 σ (tOp (rI0 fun i j => .int (i - j)) ta tb) (· = .int (i - j)) := fun hTt hdm H k Q q => ha hTt hdm H k _ fun v H1 d k1 e dq => by
  subst e; cases dq
  exact hb hTt hdm H1 (k.trans k1) _ fun v H2 d k2 e dq => by
    subst e; cases dq
    exact ⟨i, j, rfl, rfl, q _ H2 _ (k1.trans k2) rfl (.int _)⟩
theorem mk_neg {ta : TE} {i : Int} (ha : Mk K T t sc ns H0 σ ta (· = .int i)) : Mk K T t sc ns H0 σ (tUn (rU fun i => .int (-i)) ta) (· = .int (-i)) := fun hTt hdm H k Q q => ha hTt hdm H k _ fun v H1 d k1 e dq => by
  subst e; cases dq
  exact ⟨i, rfl, q _ H1 _ k1 rfl (.int _)⟩
theorem mkl_nil : MkL K T t sc ns H0 σ tNil (· = []) := fun _ _ H _ _ q => q [] H [] (Kp.refl H) rfl .nil
theorem mkl_cons {te : TE} {ta : TA} {d : PyData} {ds : List PyData} (h : Mk K T t sc ns H0 σ te (· = d)) (hr : MkL K T t sc ns H0 σ ta (· = ds)) : MkL K T t sc ns H0 σ (tCons te ta) (· = d :: ds) := fun hTt hdm H k Q q => h hTt hdm H k _ fun v H1 d1 k1 e dq => hr hTt hdm H1 (k.trans k1) _ fun vs H2 es k2 e2 dqs => by
  subst e e2
  exact q _ H2 _ (k1.trans k2) rfl (.cons (Dq.kt hTt k2.kt _ _ dq) dqs)
theorem mkl_consP {te : TE} {ta : TA} {P : PyData → Prop} {ds : List PyData} (h : Mk K T t sc ns H0 σ te P) (hr : MkL K T t sc ns H0 σ ta (· = ds)) : MkL K T t sc ns H0 σ (tCons te ta) (fun l => ∃ d, P d ∧ l = d :: ds) := fun hTt hdm H k Q q => h hTt hdm H k _ fun v H1 d1 k1 e dq => hr hTt hdm H1 (k.trans k1) _ fun vs H2 es k2 e2 dqs => by
  subst e2
  exact q _ H2 _ (k1.trans k2) ⟨d1, e, rfl⟩ (.cons (Dq.kt hTt k2.kt _ _ dq) dqs)
theorem mk_tup {ta : TA} {P : List PyData → Prop} (h : MkL K T t sc ns H0 σ ta P) (hl : ∀ ds, P ds → ds.length ≤ 1000) : Mk K T t sc ns H0 σ (tTup ta) (fun d => ∃ ds, P ds ∧ d = .tuple ds) := fun hTt hdm H k Q q => h hTt hdm H k _ fun vs H1 ds k1 p dqs => by
  refine ⟨by rw [dqs.len]; exact Nat.le_of_lt (small1000 (hl ds p)), fun a na => ?_⟩
  have kn : K0 H1 (upd H1 a (.tup vs)) := K0.new na
  exact q _ _ _ (k1.trans kn.kp) ⟨ds, p, rfl⟩ (.tup (.inl (.inl upd_same)) (DqAll.kt hTt kn.kt _ _ dqs))
theorem mk_tupE {ta : TA} {ds : List PyData} (h : MkL K T t sc ns H0 σ ta (· = ds)) (hl : ds.length ≤ 1000 := by decide) : Mk K T t sc ns H0 σ (tTup ta) (· = .tuple ds) := (mk_tup h fun es e => by rw [e]; exact hl).imp fun d ⟨es, e, e2⟩ => by rw [e2, e]
theorem mk_lst {ta : TA} {P : List PyData → Prop} (h : MkL K T t sc ns H0 σ ta P) (hl : ∀ ds, P ds → ds.length ≤ 1000) : Mk K T t sc ns H0 σ (tLst ta) (fun d => ∃ ds, P ds ∧ d = .list ds) := fun hTt hdm H k Q q => h hTt hdm H k _ fun vs H1 ds k1 p dqs => by
  refine ⟨by rw [dqs.len]; exact Nat.le_of_lt (small1000 (hl ds p)), fun a na => ?_⟩
  have kn : K0 H1 (upd H1 a (.lst vs)) := K0.new na
  exact q _ _ _ (k1.trans kn.kp) ⟨ds, p, rfl⟩ (.lst upd_same (fun z => hdm _ z ((k.trans k1).kt.dom _ na)) (DqAll.kt hTt kn.kt _ _ dqs))
theorem mk_lstE {ta : TA} {ds : List PyData} (h : MkL K T t sc ns H0 σ ta (· = ds)) (hl : ds.length ≤ 1000 := by decide) : Mk K T t sc ns H0 σ (tLst ta) (· = .list ds) := (mk_lst h fun es e => by rw [e]; exact hl).imp fun d ⟨es, e, e2⟩ => by rw [e2, e]
/-- xs + ys, two lists -/
theorem mk_catL {ta tb : TE} {ds es : List PyData} (ha : Mk K T t sc ns H0 σ ta (· = .list ds)) (hb : Mk K T t sc ns H0 σ tb (· = .list es)) (hl : ds.length + es.length ≤ 1000 := by decide) : Mk K T t sc ns H0 σ (tOp rCat ta tb) (· = .list (ds ++ es)) := fun hTt hdm H k Q q => ha hTt hdm H k _ fun v H1 d k1 e dq => by
  subst e
  exact hb hTt hdm H1 (k.trans k1) _ fun v2 H2 d k2 e dq2 => by
    subst e
    have dq' := Dq.kt hTt k2.kt _ _ dq
    cases dq' with
    | @lst a xs _ h1 n1 a1 => cases dq2 with
      | @lst b ys _ h2 n2 a2 =>
        refine ⟨_, _, _, _, rfl, rfl, h1, h2, ?_, fun p np => ?_⟩
        · rw [a1.len, a2.len]; exact Nat.le_of_lt (small1000 hl)
        · have kn : K0 H2 (upd H2 p (.lst (xs ++ ys))) := K0.new np
          exact q _ _ _ ((k1.trans k2).trans kn.kp) rfl (.lst upd_same (fun z => hdm _ z (((k.trans k1).trans k2).kt.dom _ np)) (DqAll.kt hTt kn.kt _ _ (a1.app a2)))
/-- t + u, two tuples -/
theorem mk_catT {ta tb : TE} {P1 P2 : List PyData → Prop} (ha : Mk K T t sc ns H0 σ ta (fun d => ∃ ds, P1 ds ∧ d = .tuple ds)) (hb : Mk K T t sc ns H0 σ tb (fun d => ∃ ds, P2 ds ∧ d = .tuple ds)) (hl : ∀ ds es, P1 ds → P2 es → ds.length + es.length ≤ 1000) :
    Mk K T t sc ns H0 σ (tOp (rCatA K) ta tb) (fun d => ∃ ds, (∃ d1 d2, P1 d1 ∧ P2 d2 ∧ ds = d1 ++ d2) ∧ d = .tuple ds) := fun hTt hdm H k Q q => ha hTt hdm H k _ fun v H1 d k1 e dq => by
  obtain ⟨ds, p1, rfl⟩ := e
  exact hb hTt hdm H1 (k.trans k1) _ fun v2 H2 d k2 e dq2 => by
    obtain ⟨es, p2, rfl⟩ := e
    have dq' := Dq.kt hTt k2.kt _ _ dq
    cases dq' with
    | @tup a xs _ h1 a1 => cases dq2 with
      | @tup b ys _ h2 a2 =>
        refine ⟨_, _, _, _, rfl, rfl, h1, h2, ?_, fun e => ?_, fun e1 e2 => ?_, fun _ _ p np => ?_⟩
        · rw [a1.len, a2.len]; exact Nat.le_of_lt (small1000 (hl _ _ p1 p2))
        · subst e
          cases a1
          exact q _ _ _ (k1.trans k2) ⟨es, ⟨[], es, p1, p2, rfl⟩, rfl⟩ (.tup h2 a2)
        · subst e2
          cases a2
          exact q _ _ _ (k1.trans k2) ⟨ds, ⟨ds, [], p1, p2, by simp⟩, rfl⟩ (.tup h1 a1)
        · have kn : K0 H2 (upd H2 p (.tup (xs ++ ys))) := K0.new np
          exact q _ _ _ ((k1.trans k2).trans kn.kp) ⟨_, ⟨ds, es, p1, p2, rfl⟩, rfl⟩ (.tup (.inl (.inl upd_same)) (DqAll.kt hTt kn.kt _ _ (a1.app a2)))
def cutD (ds : List PyData) (lo hi : Option Int) : List PyData := (ds.drop (HT.sIx ds.length 0 lo)).take (HT.sIx ds.length ds.length hi - HT.sIx ds.length 0 lo)
def MkO (K : PySem.W.Frag) (T : Addr → Prop) (t sc : Addr) (ns : List Int) (H0 : Hp) (σ : L2.St) (to : TO) (o : Option Int) : Prop := T t → (∀ b, T b → H0 b ≠ none) → ∀ H, Kp K t sc ns H0 H → ∀ Q : Option Int → Hp → Prop, (∀ H', Kp K t sc ns H H' → Q o H') → to σ H Q
theorem mko_none : MkO K T t sc ns H0 σ tNoPart none := fun _ _ H _ _ q => q H (Kp.refl H)
theorem mko_some {te : TE} {i : Int} (h : Mk K T t sc ns H0 σ te (· = .int i)) : MkO K T t sc ns H0 σ (tPart te) (some i) := fun hTt hdm H k _ q => h hTt hdm H k _ fun v H1 d k1 e dq => by
  subst e; cases dq
  exact ⟨i, rfl, q H1 k1⟩
theorem mk_sl {te : TE} {tl th : TO} {lo hi : Option Int} {ds : List PyData} (h : Mk K T t sc ns H0 σ te (· = .tuple ds)) (h1 : MkO K T t sc ns H0 σ tl lo) (h2 : MkO K T t sc ns H0 σ th hi) : Mk K T t sc ns H0 σ (tSl (rSlA K) te tl th) (· = .tuple (cutD ds lo hi)) := fun hTt hdm H k Q q => h hTt hdm H k _ fun v H1 d k1 e dq => by
  subst e
  exact h1 hTt hdm H1 (k.trans k1) _ fun H2 k2 => h2 hTt hdm H2 ((k.trans k1).trans k2) _ fun H3 k3 => by
    have dq' := Dq.kt hTt (k2.trans k3).kt _ _ dq
    cases dq' with
    | @tup a xs _ hq hall =>
      refine ⟨_, _, rfl, hq, fun hw => ?_, fun hw p np => ?_⟩
      · have : cutD ds lo hi = ds := by
          unfold cutD
          rw [← hall.len, hw.1, hw.2, List.drop_zero, Nat.sub_zero]
          exact List.take_of_length_le (by rw [hall.len]; exact Nat.le_refl _)
        rw [this] at q
        exact q _ H3 _ ((k1.trans k2).trans k3) rfl (.tup hq hall)
      · have kn : K0 H3 (upd H3 p (.tup (cutV xs lo hi))) := K0.new np
        refine q _ _ _ (((k1.trans k2).trans k3).trans kn.kp) rfl (.tup (.inl (.inl upd_same)) (DqAll.kt hTt kn.kt _ _ ?_))
        unfold cutV cutD
        rw [hall.len]
        exact (hall.drop _).take _
/-- t[i], a tuple at a written place -/
theorem mk_ixT {te ti : TE} {ds : List PyData} {j : Nat} {d : PyData} (h : Mk K T t sc ns H0 σ te (· = .tuple ds)) (hi : Mk K T t sc ns H0 σ ti (· = .int j)) (hd : ds[j]? = some d) : Mk K T t sc ns H0 σ (tOp (rIxT K) te ti) (· = d) := fun hTt hdm H k Q q => h hTt hdm H k _ fun v H1 d1 k1 e dq => by
  subst e
  exact hi hTt hdm H1 (k.trans k1) _ fun v2 H2 d2 k2 e dq2 => by
    subst e; cases dq2
    have dq' := Dq.kt hTt k2.kt _ _ dq
    cases dq' with
    | @tup a xs _ hq hall =>
      have hl : j < xs.length := by rw [hall.len]; exact (List.getElem?_eq_some_iff.mp hd).1
      obtain ⟨d', e1, e2⟩ := hall.get (List.getElem?_eq_getElem hl)
      rw [hd] at e1; cases e1
      exact ⟨_, _, _, _, rfl, rfl, hq, atI_nat (List.getElem?_eq_getElem hl), q _ H2 _ (k1.trans k2) rfl e2⟩
end
end HK

set_option Elab.async false
set_option linter.all false
set_option maxRecDepth 100000
set_option maxHeartbeats 2000000
namespace HK
open PySem PySem.Spec PyProof.Rows L2 GAl GxR
open Evl (pss_cut)
section
variable {P : Program} {w : World} {K : PySem.W.Frag} {mg : Str → Option Value} {base : Heap}
def spSome (K : PySem.W.Frag) : Sp := fun vs H Q _ => ∃ (t sc r : Addr) (ns : List Int) (xs : List V), vs = [.ref t, .ref r] ∧ Tape K H t sc ns ∧ (SqT K H r xs ∨ (H r = some (.lst xs) ∧ r ≠ t)) ∧ 0 < xs.length ∧ xs.length ≤ 100000 ∧
  ∀ (j : Nat) (x : V) (H' : Hp), xs[j]? = some x → Kp K t sc ns H H' → Q x H'
end
end HK

set_option Elab.async false
set_option linter.all false
set_option maxHeartbeats 2000000
namespace HK
/-! ### the mathematics: going through the roads as often as there are places -/
abbrev IF := Int → Option Int
def put (f : IF) (i x : Int) : IF := fun j => if j = i then some x else f j
def Le (g f : IF) : Prop := ∀ v a, f v = some a → ∃ b, g v = some b ∧ b ≤ a
theorem Le.refl (f : IF) : Le f f := fun v a h => ⟨a, h, Int.le_refl _⟩
theorem Le.trans {f g h : IF} (a : Le f g) (b : Le g h) : Le f h := fun v x e => by
  obtain ⟨y, e1, l1⟩ := b v x e
  obtain ⟨z, e2, l2⟩ := a v y e1
  exact ⟨z, e2, by omega⟩
def rlx (src g : IF) (r : R4) : IF := match src r.s with
  | none => g
  | some a => match g r.e with
    | none => put g r.e (a + r.l)
    | some b => if a + r.l < b then put g r.e (a + r.l) else g
structure IInv (n : Int) (rs : List R4) (root : Int) (f : IF) : Prop where
  rt0 : f root = some 0
  rng : ∀ v a, f v = some a → 0 ≤ v ∧ v < n ∧ 0 ≤ a
  wt : ∀ v b, f v = some b → v = root ∨ ∃ r ∈ rs, r.e = v ∧ ∃ a, f r.s = some a ∧ a + r.l ≤ b
def Closed (rs : List R4) (f : IF) : Prop := ∀ r ∈ rs, ∀ a, f r.s = some a → ∃ b, f r.e = some b ∧ b ≤ a + r.l
section
variable {n root : Int} {rs : List R4}
theorem put_inv {g : IF} {r : R4} {x a' : Int} (I : IInv n rs root g) (hr : RoadOk n r) (hm : r ∈ rs) (ha : g r.s = some a') (hx : a' + r.l ≤ x) (hlt : ∀ b, g r.e = some b → x < b) : IInv n rs root (put g r.e x) ∧ Le (put g r.e x) g := by
  have h0 := (I.rng _ _ ha).2.2
  have hl := hr.l0
  have ne : r.e ≠ root := fun z => by
    have := hlt 0 (by rw [z]; exact I.rt0)
    omega
  have le : Le (put g r.e x) g := fun v b e => by
    by_cases hv : v = r.e
    · subst hv
      exact ⟨x, if_pos rfl, Int.le_of_lt (hlt b e)⟩
    · exact ⟨b, by unfold put; rw [if_neg hv]; exact e, Int.le_refl _⟩
  refine ⟨⟨?_, fun v b e => ?_, fun v b e => ?_⟩, le⟩
  · unfold put; rw [if_neg (fun z => ne z.symm)]; exact I.rt0
  · unfold put at e
    by_cases hv : v = r.e
    · rw [if_pos hv] at e
      cases e
      rw [hv]
      exact ⟨hr.e0, hr.e1, by omega⟩
    · rw [if_neg hv] at e
      exact I.rng v b e
  · by_cases hv : v = r.e
    · unfold put at e
      rw [if_pos hv] at e
      cases e
      exact .inr ⟨r, hm, hv.symm, a', by unfold put; rw [if_neg hr.ne]; exact ha, hx⟩
    · unfold put at e
      rw [if_neg hv] at e
      rcases I.wt v b e with h | ⟨r', h1, h2, a, h3, h4⟩
      · exact .inl h
      · obtain ⟨a2, h5, h6⟩ := le _ _ h3
        exact .inr ⟨r', h1, h2, a2, h5, by omega⟩
theorem rlx_inv {src g : IF} {r : R4} (I : IInv n rs root g) (hr : RoadOk n r) (hm : r ∈ rs) (hs : Le g src) :
    IInv n rs root (rlx src g r) ∧ Le (rlx src g r) g ∧ ∀ a, src r.s = some a → ∃ b, rlx src g r r.e = some b ∧ b ≤ a + r.l := by
  unfold rlx
  cases e : src r.s with
  | none => exact ⟨I, .refl _, fun a z => by cases z⟩
  | some a =>
    obtain ⟨a', e1, l1⟩ := hs _ _ e
    cases e2 : g r.e with
    | none =>
      obtain ⟨h1, h2⟩ := put_inv (x := a + r.l) I hr hm e1 (by omega) (fun b z => by rw [e2] at z; cases z)
      exact ⟨h1, h2, fun a2 z => by cases z; exact ⟨_, if_pos rfl, Int.le_refl _⟩⟩
    | some b =>
      by_cases hb : a + r.l < b
      · simp only [hb, if_true]
        obtain ⟨h1, h2⟩ := put_inv (x := a + r.l) I hr hm e1 (by omega) (fun b' z => by rw [e2] at z; cases z; exact hb)
        exact ⟨h1, h2, fun a2 z => by cases z; exact ⟨_, if_pos rfl, Int.le_refl _⟩⟩
      · simp only [hb, if_false]
        exact ⟨I, .refl _, fun a2 z => by cases z; exact ⟨b, e2, by omega⟩⟩
def rnd (S : IF → IF) (l : List R4) (g : IF) : IF := l.foldl (fun g r => rlx (S g) g r) g
theorem rnd_inv {S : IF → IF} {f : IF} (hS : ∀ g, Le g f → Le g (S g) ∧ Le (S g) f) : ∀ (l : List R4) (g : IF), (∀ r ∈ l, r ∈ rs ∧ RoadOk n r) → IInv n rs root g → Le g f →
    IInv n rs root (rnd S l g) ∧ Le (rnd S l g) g ∧ ∀ r ∈ l, ∀ a, f r.s = some a → ∃ b, rnd S l g r.e = some b ∧ b ≤ a + r.l
  | [], g, _, I, _ => ⟨I, .refl _, fun r h => by cases h⟩
  | r :: l, g, hl, I, hf => by
    obtain ⟨s1, s2⟩ := hS g hf
    obtain ⟨i1, i2, i3⟩ := rlx_inv I (hl r (List.mem_cons_self ..)).2 (hl r (List.mem_cons_self ..)).1 s1
    obtain ⟨j1, j2, j3⟩ := rnd_inv hS l (rlx (S g) g r) (fun q h => hl q (List.mem_cons_of_mem _ h)) i1 (i2.trans hf)
    refine ⟨j1, j2.trans i2, fun q hq a ha => ?_⟩
    rcases List.mem_cons.mp hq with rfl | hq
    · obtain ⟨a', e, le⟩ := s2 _ _ ha
      obtain ⟨b, e2, le2⟩ := i3 a' e
      obtain ⟨c, e3, le3⟩ := j2 _ _ e2
      exact ⟨c, e3, by omega⟩
    · exact j3 q hq a ha
def iter (F : IF → IF) : Nat → IF → IF
  | 0, f => f
  | k + 1, f => F (iter F k f)
theorem half {D f : IF} (hok : ∀ r ∈ rs, RoadOk n r) (c : Closed rs D) (d0 : D root = some 0) (I : IInv n rs root f) : Le D f := by
  have key : ∀ (N : Nat) (v b : Int), f v = some b → b.toNat < N → ∃ c, D v = some c ∧ c ≤ b := by
    intro N
    induction N with
    | zero => intro v b _ h; omega
    | succ N ih =>
      intro v b e hb
      have h0 := (I.rng v b e).2.2
      rcases I.wt v b e with rfl | ⟨r, hm, rfl, a, e2, le⟩
      · exact ⟨0, d0, h0⟩
      · have hl := (hok r hm).l0
        have ha := (I.rng _ _ e2).2.2
        obtain ⟨x, e3, l3⟩ := ih r.s a e2 (by omega)
        obtain ⟨y, e4, l4⟩ := c r hm x e3
        exact ⟨y, e4, by omega⟩
  exact fun v b e => key (b.toNat + 1) v b e (by omega)
theorem two_same {f g : IF} (hok : ∀ r ∈ rs, RoadOk n r) (cf : Closed rs f) (If : IInv n rs root f) (cg : Closed rs g) (Ig : IInv n rs root g) : f = g := by
  have h1 := half hok cf If.rt0 Ig
  have h2 := half hok cg Ig.rt0 If
  funext v
  cases e : f v with
  | none =>
    cases e2 : g v with
    | none => rfl
    | some b => obtain ⟨c, e3, _⟩ := h1 v b e2; rw [e] at e3; cases e3
  | some a =>
    obtain ⟨b, e2, l2⟩ := h2 v a e
    obtain ⟨c, e3, l3⟩ := h1 v b e2
    rw [e] at e3
    cases e3
    rw [e2]
    have : a = b := by omega
    rw [this]
theorem countP_lt {α : Type} {p q : α → Bool} : ∀ {l : List α}, (∀ x ∈ l, p x = true → q x = true) → (∃ x ∈ l, q x = true ∧ ¬ p x = true) → l.countP p < l.countP q
  | [], _, h => by obtain ⟨x, hx, _⟩ := h; cases hx
  | y :: l, h, hx => by
    have hm : l.countP p ≤ l.countP q := List.countP_mono_left (fun x hx => h x (List.mem_cons_of_mem _ hx))
    obtain ⟨x, hx, hq, hp⟩ := hx
    rw [List.countP_cons, List.countP_cons]
    rcases List.mem_cons.mp hx with rfl | hx
    · rw [if_pos hq, if_neg hp]; omega
    · have ih := countP_lt (fun x hx => h x (List.mem_cons_of_mem _ hx)) ⟨x, hx, hq, hp⟩
      have := h y (List.mem_cons_self ..)
      by_cases hy : p y = true
      · rw [if_pos hy, if_pos (this hy)]; omega
      · rw [if_neg hy]
        split <;> omega
variable {F : IF → IF} {f0 : IF}
def Turns (n : Int) (rs : List R4) (root : Int) (F : IF → IF) : Prop := ∀ f, IInv n rs root f → IInv n rs root (F f) ∧ Le (F f) f ∧ ∀ r ∈ rs, ∀ a, f r.s = some a → ∃ b, F f r.e = some b ∧ b ≤ a + r.l
theorem iter_inv (hF : Turns n rs root F) (I0 : IInv n rs root f0) : ∀ k, IInv n rs root (iter F k f0)
  | 0 => I0
  | k + 1 => (hF _ (iter_inv hF I0 k)).1
theorem iter_le (hF : Turns n rs root F) (I0 : IInv n rs root f0) (k : Nat) : ∀ j, Le (iter F (k + j) f0) (iter F k f0)
  | 0 => .refl _
  | j + 1 => ((hF _ (iter_inv hF I0 (k + j))).2.1).trans (iter_le hF I0 k j)
theorem stab (hF : Turns n rs root F) (I0 : IInv n rs root f0) (v : Int) : ∃ K, ∀ k, K ≤ k → iter F k f0 v = iter F K f0 v := by
  have key : ∀ (N k : Nat) (m : Int), iter F k f0 v = some m → m.toNat < N → ∃ K, ∀ k, K ≤ k → iter F k f0 v = iter F K f0 v := by
    intro N
    induction N with
    | zero => intro k m _ h; omega
    | succ N ih =>
      intro k m e hm
      by_cases hh : ∀ j, k ≤ j → iter F j f0 v = some m
      · exact ⟨k, fun j hj => by rw [hh j hj, e]⟩
      · have ⟨j, hj⟩ := Classical.not_forall.mp hh
        have ⟨hk, hj⟩ := Classical.not_imp.mp hj
        obtain ⟨d, rfl⟩ := Nat.exists_eq_add_of_le hk
        obtain ⟨b, e2, l2⟩ := iter_le hF I0 k d v m e
        have hb := ((iter_inv hF I0 (k + d)).rng _ _ e2).2.2
        have : b ≠ m := fun z => hj (by rw [e2, z])
        exact ih (k + d) b e2 (by omega)
  by_cases h : ∃ k m, iter F k f0 v = some m
  · obtain ⟨k, m, e⟩ := h
    exact key (m.toNat + 1) k m e (by omega)
  · have none : ∀ k, iter F k f0 v = none := fun k => by
      cases e : iter F k f0 v with
      | none => rfl
      | some m => exact absurd ⟨k, m, e⟩ h
    exact ⟨0, fun k _ => by rw [none k, none 0]⟩
theorem stab_all (hF : Turns n rs root F) (I0 : IInv n rs root f0) : ∀ N : Nat, ∃ K, ∀ (i : Nat), i < N → ∀ k, K ≤ k → iter F k f0 (i : Int) = iter F K f0 (i : Int)
  | 0 => ⟨0, fun i h => by omega⟩
  | N + 1 => by
    obtain ⟨K1, h1⟩ := stab_all hF I0 N
    obtain ⟨K2, h2⟩ := stab hF I0 (N : Int)
    refine ⟨max K1 K2, fun i hi k hk => ?_⟩
    have a1 : K1 ≤ max K1 K2 := Nat.le_max_left ..
    have a2 : K2 ≤ max K1 K2 := Nat.le_max_right ..
    by_cases hi' : i = N
    · subst hi'
      rw [h2 k (by omega), h2 _ a2]
    · rw [h1 i (by omega) k (by omega), h1 i (by omega) _ a1]
theorem limit (hF : Turns n rs root F) (I0 : IInv n rs root f0) : ∃ D, IInv n rs root D ∧ Closed rs D := by
  obtain ⟨K, h⟩ := stab_all hF I0 n.toNat
  have same : iter F (K + 1) f0 = iter F K f0 := by
    funext v
    by_cases hv : 0 ≤ v ∧ v < n
    · obtain ⟨i, rfl⟩ := Int.eq_ofNat_of_zero_le hv.1
      exact h i (by omega) (K + 1) (by omega)
    · have none : ∀ k, iter F k f0 v = none := fun k => by
        cases e : iter F k f0 v with
        | none => rfl
        | some m =>
          have := (iter_inv hF I0 k).rng _ _ e
          exact absurd ⟨this.1, this.2.1⟩ hv
      rw [none, none]
  refine ⟨_, iter_inv hF I0 K, fun r hr a ha => ?_⟩
  obtain ⟨b, e, l⟩ := (hF _ (iter_inv hF I0 K)).2.2 r hr a ha
  exact ⟨b, by rw [← same]; exact e, l⟩
theorem conv (hok : ∀ r ∈ rs, RoadOk n r) (hF : Turns n rs root F) (I0 : IInv n rs root f0) : Closed rs (iter F n.toNat f0) := by
  obtain ⟨D, ID, cD⟩ := limit hF I0
  have low : ∀ k, Le D (iter F k f0) := fun k => half hok cD ID.rt0 (iter_inv hF I0 k)
  have stay : ∀ k v b, D v = some b → iter F k f0 v = some b → iter F (k + 1) f0 v = some b := fun k v b hd e => by
    obtain ⟨c, e1, l1⟩ := (hF _ (iter_inv hF I0 k)).2.1 v b e
    obtain ⟨c', e2, l2⟩ := low (k + 1) v c e1
    rw [hd] at e2
    cases e2
    have : c = b := by omega
    rw [← this]; exact e1
  have prog : ∀ (k N : Nat) (v b : Int), D v = some b → b.toNat < N → iter F k f0 v ≠ some b → ∃ v' b', D v' = some b' ∧ iter F k f0 v' ≠ some b' ∧ iter F (k + 1) f0 v' = some b' := by
    intro k N
    induction N with
    | zero => intro v b _ h; omega
    | succ N ih =>
      intro v b hd hb hne
      rcases ID.wt v b hd with rfl | ⟨r, hm, rfl, a, e2, le⟩
      · rw [ID.rt0] at hd
        cases hd
        exact absurd (iter_inv hF I0 k).rt0 hne
      · have hl := (hok r hm).l0
        have ha := (ID.rng _ _ e2).2.2
        by_cases hs : iter F k f0 r.s = some a
        · obtain ⟨b', e3, l3⟩ := (hF _ (iter_inv hF I0 k)).2.2 r hm a hs
          obtain ⟨c, e4, l4⟩ := low (k + 1) r.e b' e3
          rw [hd] at e4
          cases e4
          have : b' = b := by omega
          exact ⟨r.e, b, hd, hne, by rw [← this]; exact e3⟩
        · exact ih r.s a e2 (by omega) hs
  let fin : Nat → Nat → Bool := fun k i => decide (iter F k f0 (i : Int) = D (i : Int)) && (D (i : Int)).isSome
  have hn : ∀ v b, D v = some b → ∃ i : Nat, v = (i : Int) ∧ i ∈ List.range n.toNat := fun v b e => by
    have := ID.rng v b e
    obtain ⟨i, rfl⟩ := Int.eq_ofNat_of_zero_le this.1
    exact ⟨i, rfl, List.mem_range.mpr (by omega)⟩
  have main : ∀ k, (∀ v b, D v = some b → iter F k f0 v = some b) ∨ k + 1 ≤ (List.range n.toNat).countP (fin k) := by
    intro k
    induction k with
    | zero =>
      obtain ⟨i, hi, hm⟩ := hn root 0 ID.rt0
      refine .inr (List.countP_pos_iff.mpr ⟨i, hm, ?_⟩)
      show (decide (f0 (i : Int) = D (i : Int)) && (D (i : Int)).isSome) = true
      rw [← hi, I0.rt0, ID.rt0]
      rfl
    | succ k ih =>
      rcases ih with h | h
      · exact .inl fun v b e => stay k v b e (h v b e)
      · by_cases all : ∀ v b, D v = some b → iter F k f0 v = some b
        · exact .inl fun v b e => stay k v b e (all v b e)
        · refine .inr (Nat.lt_of_le_of_lt h (countP_lt (fun i _ hi => ?_) ?_))
          · have hi' := Bool.and_eq_true_iff.mp hi
            have h1 := of_decide_eq_true hi'.1
            obtain ⟨b, e⟩ := Option.isSome_iff_exists.mp hi'.2
            have := stay k i b e (h1.trans e)
            exact Bool.and_eq_true_iff.mpr ⟨decide_eq_true (this.trans e.symm), hi'.2⟩
          · have ⟨v, hv⟩ := Classical.not_forall.mp all
            have ⟨b, hb⟩ := Classical.not_forall.mp hv
            have ⟨hd, hne⟩ := Classical.not_imp.mp hb
            obtain ⟨v', b', d', n', e'⟩ := prog k (b.toNat + 1) v b hd (by omega) hne
            obtain ⟨i, rfl, hm⟩ := hn v' b' d'
            refine ⟨i, hm, Bool.and_eq_true_iff.mpr ⟨decide_eq_true (e'.trans d'.symm), by rw [d']; rfl⟩, fun z => ?_⟩
            exact n' ((of_decide_eq_true (Bool.and_eq_true_iff.mp z).1).trans d')
  have fin' : ∀ v b, D v = some b → iter F n.toNat f0 v = some b := by
    rcases main n.toNat with h | h
    · exact h
    · have := List.countP_le_length (p := fin n.toNat) (l := List.range n.toNat)
      rw [List.length_range] at this
      omega
  have eq : iter F n.toNat f0 = D := by
    funext v
    cases e : D v with
    | some b => exact fin' v b e
    | none =>
      cases e2 : iter F n.toNat f0 v with
      | none => rfl
      | some b => obtain ⟨c, e3, _⟩ := low n.toNat v b e2; rw [e] at e3; cases e3
  rw [eq]; exact cD
/-- the two ways of going through -/
theorem turns_at (hok : ∀ r ∈ rs, RoadOk n r) : Turns n rs root (fun f => rnd id rs f) := fun f I => by
  obtain ⟨h1, h2, h3⟩ := rnd_inv (S := id) (f := f) (n := n) (rs := rs) (root := root) (fun g h => ⟨.refl _, h⟩) rs f (fun r h => ⟨h, hok r h⟩) I (.refl _)
  exact ⟨h1, h2, h3⟩
theorem turns_by (hok : ∀ r ∈ rs, RoadOk n r) : Turns n rs root (fun f => rnd (fun _ => f) rs f) := fun f I => by
  obtain ⟨h1, h2, h3⟩ := rnd_inv (S := fun _ => f) (f := f) (n := n) (rs := rs) (root := root) (fun g h => ⟨h, .refl _⟩) rs f (fun r h => ⟨h, hok r h⟩) I (.refl _)
  exact ⟨h1, h2, h3⟩
def ini (root : Int) : IF := put (fun _ => none) root 0
theorem ini_inv (h0 : 0 ≤ root) (h1 : root < n) : IInv n rs root (ini root) := by
  refine ⟨if_pos rfl, fun v a e => ?_, fun v b e => ?_⟩
  · unfold ini put at e
    by_cases hv : v = root
    · rw [if_pos hv] at e; cases e; subst hv; exact ⟨h0, h1, Int.le_refl _⟩
    · rw [if_neg hv] at e; cases e
  · unfold ini put at e
    by_cases hv : v = root
    · exact .inl hv
    · rw [if_neg hv] at e; cases e
end
/-- what is found -/
def due (n : Int) (rs : List R4) (root : Int) : IF := iter (fun f => rnd id rs f) n.toNat (ini root)
theorem due_inv {n root : Int} {rs : List R4} (hok : ∀ r ∈ rs, RoadOk n r) (h0 : 0 ≤ root) (h1 : root < n) : IInv n rs root (due n rs root) := iter_inv (turns_at hok) (ini_inv h0 h1) _
theorem due_closed {n root : Int} {rs : List R4} (hok : ∀ r ∈ rs, RoadOk n r) (h0 : 0 ≤ root) (h1 : root < n) : Closed rs (due n rs root) := conv hok (turns_at hok) (ini_inv h0 h1)
theorem due_by {n root : Int} {rs : List R4} (hok : ∀ r ∈ rs, RoadOk n r) (h0 : 0 ≤ root) (h1 : root < n) : iter (fun f => rnd (fun _ => f) rs f) n.toNat (ini root) = due n rs root :=
  two_same hok (conv hok (turns_by hok) (ini_inv h0 h1)) (iter_inv (turns_by hok) (ini_inv h0 h1) _) (due_closed hok h0 h1) (due_inv hok h0 h1)
end HK

set_option Elab.async false
set_option linter.all false
set_option maxRecDepth 100000
set_option maxHeartbeats 2000000
namespace HK
open PySem PySem.Spec PyProof.Rows L2 GAl GxR
/-! ### a dict of whole numbers by whole numbers -/
structure DI (kvs : List (Key × V)) (f : IF) : Prop where
  nd : (kvs.map (·.1)).Nodup
  ks : ∀ p ∈ kvs, ∃ i x : Int, p = (Sum.inl i, V.int x)
  val : ∀ i : Int, valV kvs (Sum.inl i) = (f i).map V.int
theorem valV_mem {κ : Type} [DecidableEq κ] : ∀ {kvs : List (κ × V)} {p : κ × V}, (kvs.map (·.1)).Nodup → p ∈ kvs → valV kvs p.1 = some p.2
  | q :: r, p, nd, h => by
    have nd' := List.nodup_cons.mp nd
    rcases List.mem_cons.mp h with rfl | h
    · exact valV_pos rfl
    · have : ¬ q.1 = p.1 := fun z => nd'.1 (List.mem_map.mpr ⟨p, h, z.symm⟩)
      rw [valV_neg this]
      exact valV_mem nd'.2 h
theorem DI.at_ {kvs : List (Key × V)} {f : IF} (h : DI kvs f) {p : Key × V} (hp : p ∈ kvs) : ∃ i x : Int, p = (Sum.inl i, V.int x) ∧ f i = some x := by
  obtain ⟨i, x, rfl⟩ := h.ks p hp
  have e := valV_mem h.nd hp
  rw [h.val] at e
  cases e2 : f i with
  | none => rw [e2] at e; cases e
  | some y => rw [e2] at e; cases e; exact ⟨i, _, rfl, e2⟩
theorem DI.mem {kvs : List (Key × V)} {f : IF} (h : DI kvs f) (i : Int) : (Sum.inl i : Key) ∈ kvs.map (·.1) ↔ (f i).isSome = true := by
  constructor
  · intro hm
    obtain ⟨p, hp, e⟩ := List.mem_map.mp hm
    obtain ⟨j, x, rfl, e2⟩ := h.at_ hp
    have e : (Sum.inl j : Key) = Sum.inl i := e
    cases e
    rw [e2]; rfl
  · intro hs
    obtain ⟨x, e⟩ := Option.isSome_iff_exists.mp hs
    exact valV_in (v := .int x) (by rw [h.val, e]; rfl)
theorem DI.put {kvs : List (Key × V)} {f : IF} (h : DI kvs f) (i x : Int) : DI (putK kvs (Sum.inl i) (.int x)) (HK.put f i x) := by
  refine ⟨?_, fun p hp => ?_, fun j => ?_⟩
  · cases e : valV kvs (Sum.inl i) with
    | none => exact nd_putK _ h.nd e
    | some v =>
      unfold putK
      rw [valV_any, e]
      simp only [Option.isSome_some, if_true]
      have : (kvs.map fun kv => if kv.1 = (Sum.inl i : Key) then (kv.1, V.int x) else kv).map (·.1) = kvs.map (·.1) := by
        rw [List.map_map]
        exact List.map_congr_left fun p _ => by
          show (if p.1 = (Sum.inl i : Key) then (p.1, V.int x) else p).1 = p.1
          split <;> rfl
      rw [this]; exact h.nd
  · unfold putK at hp
    split at hp
    · obtain ⟨q, hq, rfl⟩ := List.mem_map.mp hp
      obtain ⟨j, y, rfl⟩ := h.ks q hq
      by_cases e : (Sum.inl j : Key) = Sum.inl i
      · exact ⟨j, x, by simp only [e, if_true]⟩
      · exact ⟨j, y, by simp only [e, if_false]⟩
    · rcases List.mem_append.mp hp with hp | hp
      · exact h.ks p hp
      · exact ⟨i, x, List.mem_singleton.mp hp⟩
  · rw [valV_put, h.val]
    unfold HK.put
    by_cases e : j = i
    · subst e; simp
    · simp [e]
theorem DI.one (root : Int) : DI (mergeK [] [(Sum.inl root, V.int 0)]) (ini root) := by
  have h0 : DI [] (fun _ => none) := ⟨List.nodup_nil, fun p hp => (by cases hp), fun i => rfl⟩
  exact h0.put root 0
theorem DI.same {ks ls : List (Key × V)} {f : IF} (h : DI ks f) (g : DI ls f) : ks.length = ls.length ∧ ∀ p ∈ ks, valV ls p.1 = some p.2 ∧ flatB p.2 = true := by
  constructor
  · have : (ks.map (·.1)).Perm (ls.map (·.1)) := (List.perm_ext_iff_of_nodup h.nd g.nd).mpr fun k => by
      cases k with
      | inl i => rw [h.mem, g.mem]
      | inr s =>
        constructor
        · intro hm
          obtain ⟨p, hp, e⟩ := List.mem_map.mp hm
          obtain ⟨j, x, rfl⟩ := h.ks p hp
          cases e
        · intro hm
          obtain ⟨p, hp, e⟩ := List.mem_map.mp hm
          obtain ⟨j, x, rfl⟩ := g.ks p hp
          cases e
    have := this.length_eq
    rwa [List.length_map, List.length_map] at this
  · intro p hp
    obtain ⟨i, x, rfl, e⟩ := h.at_ hp
    exact ⟨by show valV ls (Sum.inl i) = _; rw [g.val, e]; rfl, rfl⟩
theorem DI.pair {kvs : List (Key × V)} {f : IF} (h : DI kvs f) {v x : Int} (e : f v = some x) : (Sum.inl v, V.int x) ∈ kvs := by
  have := (h.mem v).mpr (by rw [e]; rfl)
  obtain ⟨pp, hpp, ep⟩ := List.mem_map.mp this
  obtain ⟨j, z, rfl, ej⟩ := h.at_ hpp
  cases ep
  rw [e] at ej
  cases ej
  exact hpp
theorem rnd_take {S : IF → IF} {rs : List R4} {g : IF} {j : Nat} {r : R4} (h : rs[j]? = some r) : rnd S (rs.take (j + 1)) g = rlx (S (rnd S (rs.take j) g)) (rnd S (rs.take j) g) r := by
  have : rs.take (j + 1) = rs.take j ++ [r] := by rw [List.take_add_one, h]; rfl
  rw [this]
  unfold rnd
  rw [List.foldl_append]
  rfl
/-! ### a good net is one -/
def pr (r : R4) : List Int := [r.s, r.e]
theorem pairs_map (rs : List R4) : (rs.map R4.d).map pairD = rs.map pr := by rw [List.map_map]; rfl
abbrev nt (m : PyData) (ds : List PyData) : PyData := .tuple [m, .tuple ds]
theorem lex_fore {a b : R4} (h : a.lt b) : HT.lexLt (pr a) (pr b) = true := by
  have h : a.s < b.s ∨ (a.s = b.s ∧ a.e < b.e) := h
  simp only [pr, HT.lexLt]
  rcases h with h | ⟨h, h2⟩
  · rw [if_neg (by omega)]
    exact decide_eq_true (by omega)
  · rw [if_pos h, if_neg (by omega)]
    exact decide_eq_true (by omega)
/-- a good net is one -/
theorem road_yes {n : Int} {r : R4} (h : RoadOk n r) : isRoadD n r.d = true := by
  obtain ⟨h1, h2, h3, h4, h5, h6, h7, h8, h9⟩ := h
  have a1 : r.s ≤ n - 1 := by omega
  have a2 : r.e ≤ n - 1 := by omega
  simp [R4.d, isRoadD, withinD, neD, h1, a1, h3, a2, h5, h6, h7, h8, h9]
theorem net_yes {n : Int} {rs : List R4} (G : Good n rs) : isNetD (nt (.int n) (rs.map R4.d)) = true := by
  show ((decide (1 ≤ n) && decide (n ≤ 12)) && (((rs.map R4.d).all (isRoadD n)) && risesB ((rs.map R4.d).map pairD))) = true
  rw [decide_eq_true G.n1, decide_eq_true G.n2, pairs_map]
  have h1 : (rs.map R4.d).all (isRoadD n) = true := by
    rw [List.all_map, List.all_eq_true]
    exact fun r hr => road_yes (G.ok r hr)
  have h2 : risesB (rs.map pr) = true := risesB_yes fun j hj => by
    rw [List.length_map] at hj
    have hp := List.pairwise_iff_getElem.mp G.up j (j + 1) (by omega) (by omega) (by omega)
    have e1 : (rs.map pr).getD j [] = pr rs[j] := by simp [List.getD_eq_getElem?_getD, List.getElem?_eq_getElem (show j < rs.length by omega)]
    have e2 : (rs.map pr).getD (j + 1) [] = pr rs[j + 1] := by simp [List.getD_eq_getElem?_getD, List.getElem?_eq_getElem (show j + 1 < rs.length by omega)]
    rw [e1, e2]
    exact lex_fore hp
  rw [h1, h2]
  rfl
theorem NetAt.k0 {K : PySem.W.Frag} {H H' : Hp} {a : Addr} {n : Int} {rs : List R4} (h : NetAt K H a n rs) (k : K0 H H') : NetAt K H' a n rs := h.kt (k.kt (t := 0))
theorem NetAt.ans {K : PySem.W.Frag} {H : Hp} {a : Addr} {n : Int} {rs : List R4} (h : NetAt K H a n rs) (G : Good n rs) (hl : rs.length ≤ 156) : NetAns K H (.ref a) true := by
  obtain ⟨r, xs, o, h1, h2, hc, hd, h3⟩ := h
  refine .inl ⟨nt (.int n) (rs.map R4.d), .tup h1 (.cons (.int _) (.cons (.tup (h2) h3) .nil)), fun m rs' e => ?_, (net_yes G).symm⟩
  cases e
  rw [List.length_map]; omega
end HK

set_option Elab.async false
set_option linter.all false
set_option maxRecDepth 100000
set_option maxHeartbeats 2000000
namespace HK
open PySem PySem.Spec PyProof.Rows L2 GAl GxR
theorem K0.lock {H H' : Hp} {p : Addr} {u : HO} {od : Obj} (h : H p = some u) (nt : ∀ ps, u ≠ .tbl ps) (k : K0 (upd H p (.frz od u)) H') : K0 H (upd H' p u) := by
  refine ⟨fun b o e m => ?_, fun P hP => ?_, fun b e => ?_⟩
  · by_cases hb : b = p
    · subst hb
      rw [h] at e
      cases e
      exact upd_same
    · rw [upd_ne hb]
      exact k.oth b o (by rw [upd_ne hb]; exact e) m
  · obtain ⟨ps, e, ht⟩ := hP
    have hb : P ≠ p := fun z => by
      rw [z, h] at e
      exact nt ps (Option.some.inj e)
    obtain ⟨ps', e', ht'⟩ := k.tab P ⟨ps, by rw [upd_ne hb]; exact e, ht⟩
    exact ⟨ps', by rw [upd_ne hb]; exact e', ht'⟩
  · by_cases hb : b = p
    · rw [hb, upd_same] at e; cases e
    · rw [upd_ne hb] at e
      have := k.dom b e
      rwa [upd_ne hb] at this
section
variable {P : Program} {w : World} {K : PySem.W.Frag} {mg : Str → Option Value} {base : Heap}
def spIsPlace (K : PySem.W.Frag) : Sp := fun vs H Q _ => ∃ (a : Addr) (n : Int) (rs : List R4) (v : Int), vs = [.ref a, .int v] ∧ NetAt K H a n rs ∧ Q (.bl (decide (0 ≤ v) && decide (v ≤ n - 1))) H
def spNeedNet (K : PySem.W.Frag) (Pn Pr : Addr) : Sp := fun vs H Q _ => ∃ (a : Addr) (n : Int) (rs : List R4), vs = [.ref a] ∧ NetAt K H a n rs ∧ Good n rs ∧ rs.length ≤ 156 ∧ TabG H Pn ∧ TabG H Pr ∧ ∀ H', K0 H H' → Q .non H'
def spNeedPlace (K : PySem.W.Frag) : Sp := fun vs H Q _ => ∃ (a : Addr) (n : Int) (rs : List R4) (v : Int), vs = [.ref a, .int v] ∧ NetAt K H a n rs ∧ 0 ≤ v ∧ v < n ∧ Q .non H
theorem road_at {H : Hp} {xs : List V} {rs : List R4} {j : Nat} {x : V} (h3 : Roads K H xs rs) (hx : xs[j]? = some x) : ∃ (t : R4) (q1 : Addr), rs[j]? = some t ∧ x = .ref q1 ∧ SqT K H q1 t.vs := by
  obtain ⟨d, e1, e2⟩ := dpAll_get h3 hx
  obtain ⟨t, rfl, hrd⟩ : ∃ t : R4, d = t.d ∧ rs[j]? = some t := by
    rw [List.getElem?_map] at e1
    cases e3 : rs[j]? with
    | none => rw [e3] at e1; cases e1
    | some t => rw [e3] at e1; cases e1; exact ⟨t, rfl, rfl⟩
  obtain ⟨q1, rfl, hs⟩ := dp_r4 e2
  exact ⟨t, q1, hrd, rfl, hs⟩
theorem dget {H : Hp} {p : Addr} {kvs : List (Key × V)} {g : IF} {v x : Int} (hk : H p = some (.dK kvs)) (hD : DI kvs g) (e : g v = some x) : DGet H p (.int v) (some (.int x)) := by
  have := DGet.k (k := Sum.inl v) hk
  rw [hD.val, e] at this
  exact this
theorem inV_mem {i : Int} {js : List Int} (h : i ∈ js) : inV (.int i) (js.map V.int) = true := by
  unfold inV
  rw [List.any_map, List.any_eq_true]
  exact ⟨i, h, by simp [eqV]⟩
theorem upd_back {H : Hp} {p : Addr} {o : HO} (h : H p = some o) : upd H p o = H := by
  funext b
  by_cases e : b = p
  · rw [e, upd_same, h]
  · rw [upd_ne e]
theorem sqT_lock {H : Hp} {a p : Addr} {xs : List V} {kvs : List (Key × V)} {o : HO} (h : SqT K H a xs) (hp : H p = some (.dK kvs)) : SqT K (upd H p o) a xs := by
  rcases h with (h | ⟨o', h⟩) | h
  · exact .inl (.inl (by rw [upd_ne (ne_of h hp (fun z => by cases z))]; exact h))
  · exact .inl (.inr ⟨o', by rw [upd_ne (ne_of h hp (fun z => by cases z))]; exact h⟩)
  · exact .inr h
end
end HK

set_option Elab.async false
set_option linter.all false
set_option maxRecDepth 100000
set_option maxHeartbeats 4000000
namespace HK
open PySem PySem.Spec PyProof.Rows L2 GAl GxR
open Evl (pss_cut)
theorem dgetR {H : Hp} {p : Addr} {kvs : List (Key × V)} {g : IF} (hk : Rd H p (.dK kvs)) (hD : DI kvs g) (v : Int) : DGet H p (.int v) ((g v).map V.int) := .inl ⟨kvs, Sum.inl v, hk, rfl, by rw [hD.val]⟩
theorem K0.rd {H H' : Hp} {p : Addr} {kvs : List (Key × V)} (k : K0 H H') (h : Rd H p (.dK kvs)) : Rd H' p (.dK kvs) := by
  rcases h with h | ⟨o, h⟩
  · exact .inl (k.oth p _ h (fun _ z => by cases z))
  · exact .inr ⟨o, k.oth p _ h (fun _ z => by cases z)⟩
section
variable {P : Program} {w : World} {K : PySem.W.Frag} {mg : Str → Option Value} {base : Heap}
theorem tabG_lock {H : Hp} {p : Addr} {u o : HO} {Pp : Addr} (h : H p = some u) (nt : ∀ ps, u ≠ .tbl ps) (hT : TabG H Pp) : TabG (upd H p o) Pp := by
  obtain ⟨ps, e, ht⟩ := hT
  exact ⟨ps, by rw [upd_ne (fun z => by rw [z, h] at e; exact nt ps (Option.some.inj e))]; exact e, ht⟩
theorem netAt_lock {H : Hp} {a p : Addr} {n : Int} {rs : List R4} {kvs : List (Key × V)} {od : Obj} (h : NetAt K H a n rs) (hp : H p = some (.dK kvs)) : NetAt K (upd H p (.frz od (.dK kvs))) a n rs := by
  obtain ⟨r, xs, o, h1, h2, hc, hd, h3⟩ := h
  refine ⟨r, xs, o, sqT_lock h1 hp, sqT_lock h2 hp, hc, hd, ?_⟩
  clear h1 h2
  unfold Roads at h3 ⊢
  induction rs generalizing xs with
  | nil => cases h3; exact .nil
  | cons r rs ih =>
    cases h3 with
    | cons a b =>
      refine .cons ?_ (ih _ b)
      obtain ⟨q, rfl, h⟩ := dp_r4 (r := r) a
      exact r4_dp (r := r) (sqT_lock h hp)
end
end HK

set_option Elab.async false
set_option linter.all false
set_option maxRecDepth 100000
set_option maxHeartbeats 4000000
namespace HK
open PySem PySem.Spec PyProof.Rows L2 GAl GxR
open Evl (pss_cut)
abbrev sBlend : Stmt := topS 15
abbrev N_scBlend : List Str := ["cell", "place", "low", "high", "last"]
theorem scBlend : FnScope N_scBlend ["cell", "place"] (defScope sBlend) := ⟨rfl, rfl, rfl, by decide +kernel, rfl, by decide +kernel, by decide +kernel⟩
abbrev sDraw : Stmt := topS 16
abbrev N_scDraw : List Str := ["tray", "many", "place", "cell", "drawn"]
theorem scDraw : FnScope N_scDraw ["tray", "many"] (defScope sDraw) := ⟨rfl, rfl, rfl, by decide +kernel, rfl, by decide +kernel, by decide +kernel⟩
/-- the tray: the script, the next place (at most b), what is left of the number -/
structure Tray (K : PySem.W.Frag) (H : Hp) (t s : Addr) (ns : List Int) (b : Int) : Prop where
  v : ∃ p v : Int, H t = some (.lst [.ref s, .int p, .int v]) ∧ 0 ≤ p ∧ 0 ≤ v ∧ p ≤ b
  scr : Scr K t H s ns
section
variable {P : Program} {w : World} {K : PySem.W.Frag} {mg : Str → Option Value} {base : Heap}
theorem Tray.le {H : Hp} {t s : Addr} {ns : List Int} {b c : Int} (h : Tray K H t s ns b) (l : b ≤ c) : Tray K H t s ns c := by
  obtain ⟨⟨p, v, e, h1, h2, h3⟩, q⟩ := h
  exact ⟨⟨p, v, e, h1, h2, by omega⟩, q⟩
theorem Tray.k0 {H H' : Hp} {t s : Addr} {ns : List Int} {b : Int} (h : Tray K H t s ns b) (k : K0 H H') : Tray K H' t s ns b := by
  obtain ⟨⟨p, v, e, r⟩, q⟩ := h
  exact ⟨⟨p, v, k.oth t _ e (fun _ z => by cases z), r⟩, q.kt k.kt⟩
theorem Tray.ne {H : Hp} {t s x : Addr} {ns : List Int} {b : Int} (h : Tray K H t s ns b) (n : H x = none) : x ≠ t := fun z => by
  obtain ⟨_, _, e, _⟩ := h.v
  rw [z, e] at n; cases n
/-- an object of the law's own, new since H, is written -/
theorem Tray.mut {H H' : Hp} {t s x : Addr} {ns : List Int} {b b' : Int} {o : HO} (h : Tray K H' t s ns b) (h0 : Tray K H t s ns b') (k : Kt t H H') (n : H x = none) : Tray K (upd H' x o) t s ns b := by
  obtain ⟨⟨p, v, e, r⟩, q⟩ := h
  exact ⟨⟨p, v, by rw [upd_ne (h0.ne n).symm]; exact e, r⟩, h0.scr.kt (k.mut n)⟩
theorem ok_blend {f : Addr} {fd : FuncData} (F : Fun K "_law_e_blend" "_law_e_blend" sBlend f fd) : FnOk P w K mg base CX0 1 f fd ["cell", "place"] (fun vs H Q _ => ∃ cell place : Int, vs = [.int cell, .int place] ∧ 0 ≤ place ∧ place ≤ 1000000000 ∧ ∀ v : Int, 0 ≤ v → Q (.int v) H) := by
  refine F.ok scBlend (fun vs H Q E h => ?_) (fun cdv A outer s H vs Q E hr h => ?_)
  · obtain ⟨a, b, rfl, _⟩ := h
    rfl
  · obtain ⟨cell, place, rfl, hp, hp2, q⟩ := h
    refine ⟨_, (pss_cons (ps_if (pt_cmpR op_ge (pv 0) (pe_op op_pow pe_int pe_int) (nomark _)) (pss_one (ps_ret (pv 0))) pss_nil)
      (pss_cut (ps_set (i := 2) scBlend.nd rfl (.inl rfl) (pe_op op_mod (pe_op op_add (pe_op op_add (pe_op op_mul (pe_op op_mod (pv 0) pe_int) pe_int) (pe_op op_mul (pv 1) pe_int)) pe_int) pe_int))
      (pss_cut (ps_set (i := 3) scBlend.nd rfl (.inl rfl) (pe_op op_mod (pe_op op_add (pe_op op_add (pe_op op_add (pe_op op_mul (pv 2) (pv 2)) (pe_op op_mul pe_int (pv 2))) (pe_op op_mul (pv 1) (pv 1))) pe_int) pe_int))
      (pss_cut (ps_set (i := 4) scBlend.nd rfl (.inl rfl) (pe_op op_mod (pe_op op_add (pe_op op_add (pe_op op_mul (pv 3) (pv 3)) (pe_op op_mul pe_int (pv 1))) (pv 2)) pe_int))
      (pss_one (ps_ret (pe_op op_add (pe_op op_mul (pv 3) pe_int) (pv 4)))))))), ?_⟩
    refine ⟨.int cell, rfl, 10, 18, rfl, rfl, ⟨by decide, by decide, by decide⟩, cell, _, rfl, rfl, _, rfl, ite2 (fun e => ?_) (fun e => ?_)⟩
    · refine ⟨.int cell, rfl, q cell ?_⟩
      have h1 : (10 : Int) ^ (18 : Int).toNat ≤ cell := of_decide_eq_true e
      have h2 : (0 : Int) ≤ (10 : Int) ^ (18 : Int).toNat := by decide
      omega
    · refine ⟨fun σ' H' => ∃ m : Int, σ' = [some (.int cell), some (.int place), some (.int m), none, none] ∧ H' = H ∧ 0 ≤ m ∧ m < 2147483497, ?_, ?_⟩
      · exact ⟨.int cell, rfl, cell, 2147483549, rfl, rfl, (show (0 : Int) < 2147483549 by decide), _, 33797, rfl, rfl, mulR (by decide) (by decide), .int place, rfl, place, 104729, rfl, rfl, mulR (by decide) (by decide), _, _, rfl, rfl, _, 29, rfl, rfl, _, 2147483497, rfl, rfl, (show (0 : Int) < 2147483497 by decide),
          _, rfl, rfl, Int.emod_nonneg _ (by decide), Int.emod_lt_of_pos _ (by decide)⟩
      rintro σ' H' ⟨m1, rfl, rfl, b1, b2⟩
      refine ⟨fun σ' H'' => ∃ m : Int, σ' = [some (.int cell), some (.int place), some (.int m1), some (.int m), none] ∧ H'' = H' ∧ 0 ≤ m ∧ m < 2147483489, ?_, ?_⟩
      · exact ⟨.int m1, rfl, .int m1, rfl, m1, m1, rfl, rfl, mulL (by omega) (by omega), .int m1, rfl, 5077, m1, rfl, rfl, mulL (by decide) (by decide), _, _, rfl, rfl, .int place, rfl, .int place, rfl, place, place, rfl, rfl, mulL (by omega) (by omega), _, _, rfl, rfl, _, 2, rfl, rfl, _, 2147483489, rfl, rfl, (show (0 : Int) < 2147483489 by decide),
          _, rfl, rfl, Int.emod_nonneg _ (by decide), Int.emod_lt_of_pos _ (by decide)⟩
      rintro σ' H'' ⟨m2, rfl, rfl, c1, c2⟩
      refine ⟨fun σ' H' => ∃ m : Int, σ' = [some (.int cell), some (.int place), some (.int m1), some (.int m2), some (.int m)] ∧ H' = H'' ∧ 0 ≤ m, ?_, ?_⟩
      · exact ⟨.int m2, rfl, .int m2, rfl, m2, m2, rfl, rfl, mulL (by omega) (by omega), .int place, rfl, 911, place, rfl, rfl, mulL (by decide) (by decide), _, _, rfl, rfl, .int m1, rfl, _, m1, rfl, rfl, _, 2147483477, rfl, rfl, (show (0 : Int) < 2147483477 by decide),
          _, rfl, rfl, Int.emod_nonneg _ (by decide)⟩
      rintro σ' H' ⟨m3, rfl, rfl, d1⟩
      refine ⟨.int m2, rfl, m2, 2147483477, rfl, rfl, mulL (by omega) (by omega), .int m3, rfl, _, m3, rfl, rfl, ?_⟩
      exact q _ (by omega)
def spDraw (K : PySem.W.Frag) : Sp := fun vs H Q _ => ∃ (t sc : Addr) (many : Int) (ns : List Int) (b : Int), vs = [.ref t, .int many] ∧ Tray K H t sc ns b ∧ b ≤ 1000000 ∧ 0 < many ∧ many ≤ 100000000000000000001 ∧
  ∀ (d : Int) (H' : Hp), 0 ≤ d → d < many → Kt t H H' → Tray K H' t sc ns (b + 1) → Q (.int d) H'
theorem ok_draw {f : Addr} {fd : FuncData} {f_blend : Addr} {fd_blend : FuncData} (F : Fun K "_law_e_draw" "_law_e_draw" sDraw f fd) (k_blend : PySem.W.keepIn K (.ref f_blend) = true) (b_blend : Binds K fd_blend ["cell", "place"] []) (g_blend : mg "_law_e_blend" = some (.ref f_blend)) (G_blend : FnOk P w K mg base CX0 1 f_blend fd_blend ["cell", "place"] (fun vs H Q _ => ∃ cell place : Int, vs = [.int cell, .int place] ∧ 0 ≤ place ∧ place ≤ 1000000000 ∧ ∀ v : Int, 0 ≤ v → Q (.int v) H)) (m_len : mg "len" = none) : FnOk P w K mg base CX0 2 f fd ["tray", "many"] (spDraw K) := by
  refine F.ok scDraw (fun vs H Q E h => ?_) (fun cdv A outer s H vs Q E hr h => ?_)
  · obtain ⟨a, b, c, ns, b, rfl, _⟩ := h
    rfl
  · obtain ⟨t, sc, many, ns, b, rfl, ⟨⟨p, v, ht, hp, hv, hpb⟩, hScr⟩, hb, hm, hm2, q⟩ := h
    have hS := hScr.sq
    have hu := hu_of hr
    refine ⟨_, (pss_cut (ps_if (pt_cmpR op_lt (pe_ix ix_list (pv 0) pe_int (fun _ _ => rfl)) (pv 1) (nomark _)) (pss_cons (ps_set (i := 2) scDraw.nd rfl (.inl rfl) (pe_ix ix_list (pv 0) pe_int (fun _ _ => rfl)))
      (pss_cons (ps_set (i := 3) scDraw.nd rfl (.inl rfl) (pe_op op_add (pe_op op_mul pe_int (pv 2)) pe_int))
      (pss_cut (ps_if (pt_cmpR op_lt (pv 2) (pe_callB call_len_seq (by rfl) m_len PySem.boot_len (pa_cons (pe_ix ix_list (pv 0) pe_int (fun _ _ => rfl)) pa_nil)) (nomark _)) (pss_one (ps_set (i := 3) scDraw.nd rfl (.inl rfl) (pe_ix ix_list (pe_ix ix_list (pv 0) pe_int (fun _ _ => rfl)) (pv 2) (fun _ _ => rfl)))) (pss_one (ps_if (pt_cmpR op_gt (pe_callB call_len_seq (by rfl) m_len PySem.boot_len (pa_cons (pe_ix ix_list (pv 0) pe_int (fun _ _ => rfl)) pa_nil)) pe_int (nomark _)) (pss_one (ps_set (i := 3) scDraw.nd rfl (.inl rfl) (pe_op op_add (pe_op op_mod (pe_ix ix_list (pe_ix ix_list (pv 0) pe_int (fun _ _ => rfl)) (pe_op op_mod (pe_op op_mul (pv 2) pe_int) (pe_callB call_len_seq (by rfl) m_len PySem.boot_len (pa_cons (pe_ix ix_list (pv 0) pe_int (fun _ _ => rfl)) pa_nil))) (fun _ _ => rfl)) pe_int) (pe_op op_mul (pv 2) pe_int)))) pss_nil)))
      (pss_cons (ps_asg (pe_op op_add (pv 2) pe_int) (pg_sub (pv 0) pe_int set_list))
      (pss_one (ps_asg (pe_call G_blend (hr.mono (by decide)) (by rfl) g_blend k_blend b_blend .nil pass0 (pa_cons (pv 3) (pa_cons (pv 2) pa_nil))) (pg_sub (pv 0) pe_int set_list))))))) pss_nil)
      (pss_cons (ps_set (i := 4) scDraw.nd rfl (.inl rfl) (pe_op op_mod (pe_ix ix_list (pv 0) pe_int (fun _ _ => rfl)) (pv 1)))
      (pss_cons (ps_asg (pe_op op_fdivW (pe_ix ix_list (pv 0) pe_int (fun _ _ => rfl)) (pv 1)) (pg_sub (pv 0) pe_int set_list))
      (pss_one (ps_ret (pv 4)))))), ?_⟩
    refine ⟨fun σ' H' => ∃ y2 y3 y4 p' v', σ' = [some (.ref t), some (.int many), y2, y3, y4] ∧ Kt t H H' ∧ H' t = some (.lst [.ref sc, .int p', .int v']) ∧ 0 ≤ p' ∧ 0 ≤ v' ∧ p' ≤ b + 1, ?_, ?_⟩
    · refine ⟨.ref t, rfl, t, _, 2, .int v, rfl, rfl, .inl (.inl ht), atI_nat (j := 2) rfl, .int many, rfl, v, many, rfl, rfl, _, rfl, ite2 (fun e => ?_) (fun e => ?_)⟩
      · refine ⟨.ref t, rfl, t, _, 1, .int p, rfl, rfl, .inl (.inl ht), atI_nat (j := 1) rfl, .int p, rfl, 13, p, rfl, rfl, mulL (by decide) (by decide), _, 1, rfl, rfl, ?_⟩
        refine ⟨fun σ' H' => ∃ c : Int, σ' = [some (.ref t), some (.int many), some (.int p), some (.int c), none] ∧ K0 H H', ?_, ?_⟩
        · refine ⟨.int p, rfl, .ref t, rfl, t, _, 0, .ref sc, rfl, rfl, .inl (.inl ht), atI_nat (j := 0) rfl, sc, _, rfl, .inl hS, p, _, rfl, rfl, _, rfl, ite2 (fun e2 => ?_) (fun e2 => ?_)⟩
          · have hlt : p < ((ns.map V.int).length : Int) := of_decide_eq_true e2
            rw [List.length_map] at hlt
            obtain ⟨j, rfl⟩ := Int.eq_ofNat_of_zero_le hp
            have hj : j < ns.length := by omega
            refine ⟨.ref t, rfl, t, _, 0, .ref sc, rfl, rfl, .inl (.inl ht), atI_nat (j := 0) rfl, _, rfl, sc, _, _, .int ns[j], rfl, rfl, hS, atI_nat (by rw [List.getElem?_map, List.getElem?_eq_getElem hj]; rfl), ?_⟩
            exact ⟨_, rfl, K0.refl _⟩
          · refine ⟨.ref t, rfl, t, _, 0, .ref sc, rfl, rfl, .inl (.inl ht), atI_nat (j := 0) rfl, sc, _, rfl, .inl hS, _, 0, rfl, rfl, _, rfl, ite2 (fun e3 => ?_) (fun e3 => ⟨_, rfl, K0.refl _⟩)⟩
            have hl' : 0 < ((ns.map V.int).length : Int) := of_decide_eq_true e3
            have hix : ∃ k : Nat, p * 5 % ((ns.map V.int).length : Int) = (k : Int) ∧ k < ns.length := by
              have h1 := Int.emod_nonneg (p * 5) (show ((ns.map V.int).length : Int) ≠ 0 by omega)
              have h2 := Int.emod_lt_of_pos (p * 5) hl'
              obtain ⟨k, hk⟩ := Int.eq_ofNat_of_zero_le h1
              rw [List.length_map] at h2
              refine ⟨k, hk, ?_⟩
              rw [List.length_map] at hk
              omega
            obtain ⟨k, hk, hkl⟩ := hix
            refine ⟨.ref t, rfl, t, _, 0, .ref sc, rfl, rfl, .inl (.inl ht), atI_nat (j := 0) rfl, .int p, rfl, p, 5, rfl, rfl, mulR (by decide) (by decide), .ref t, rfl, t, _, 0, .ref sc, rfl, rfl, .inl (.inl ht), atI_nat (j := 0) rfl, sc, _, rfl, .inl hS, _, _, rfl, rfl, hl',
              sc, _, _, .int ns[k], rfl, rfl, hS, (by rw [hk]; exact atI_nat (by rw [List.getElem?_map, List.getElem?_eq_getElem hkl]; rfl)), _, _, rfl, rfl, (show (0 : Int) < 888888883 by decide), .int p, rfl, p, 5000000, rfl, rfl, mulR (by decide) (by decide), _, _, rfl, rfl, ?_⟩
            exact ⟨_, rfl, K0.refl _⟩
        · rintro σ' H' ⟨c, rfl, k⟩
          have ht' := k.oth t _ ht (fun _ z => by cases z)
          refine ⟨.int p, rfl, p, 1, rfl, rfl, .ref t, rfl, t, _, 1, 1, rfl, rfl, ht', rfl, ?_⟩
          refine ⟨.int c, rfl, .int p, rfl, c, p, rfl, hp, by omega, fun v' hv' => ?_⟩
          refine ⟨.ref t, rfl, t, _, 2, 2, rfl, rfl, upd_same, rfl, ?_⟩
          rw [upd_upd]
          have kk : Kt t H (upd H' t (.lst [.ref sc, .int (p + 1), .int v'])) := (k.kt).trans (Kt.set ht')
          exact ⟨_, _, _, p + 1, v', rfl, kk, upd_same, by omega, hv', by omega⟩
      · exact ⟨_, _, _, p, v, rfl, Kt.refl _ _, ht, hp, hv, by omega⟩
    · rintro σ' H' ⟨y2, y3, y4, p', v', rfl, k, ht', hp', hv', hpb'⟩
      refine ⟨.ref t, rfl, t, _, 2, .int v', rfl, rfl, .inl (.inl ht'), atI_nat (j := 2) rfl, .int many, rfl, v', many, rfl, rfl, hm, ?_⟩
      refine ⟨.ref t, rfl, t, _, 2, .int v', rfl, rfl, .inl (.inl ht'), atI_nat (j := 2) rfl, .int many, rfl, v', many, rfl, rfl, ?_, .ref t, rfl, t, _, 2, 2, rfl, rfl, ht', rfl, ?_⟩
      · exact wide_div (b := 70) hm (by omega) (by decide) (by decide)
      · refine ⟨_, rfl, q _ _ (Int.emod_nonneg _ (by omega)) (Int.emod_lt_of_pos _ hm) (k.trans (Kt.set ht')) ?_⟩
        exact ⟨⟨p', v' / many, upd_same, hp', Int.ediv_nonneg hv' (by omega), hpb'⟩, hScr.kt (k.trans (Kt.set ht'))⟩
end
end HK

set_option Elab.async false
set_option linter.all false
set_option maxRecDepth 100000
set_option maxHeartbeats 4000000
namespace HK
open PySem PySem.Spec PyProof.Rows L2 GAl GxR
open Evl (pss_cut)
abbrev sWaysL : Stmt := topS 17
abbrev N_scWaysL : List Str := ["tray", "n", "shape", "places", "place", "up", "at", "ahead"]
theorem scWaysL : FnScope N_scWaysL ["tray"] (defScope sWaysL) := ⟨rfl, rfl, rfl, by decide +kernel, rfl, by decide +kernel, by decide +kernel⟩
/-! ### ways up -/
def oV : Option Int → V
  | none => .non
  | some i => .int i
def upF (us : List (Option Int)) : IF := fun v => if 0 ≤ v then us.getD v.toNat none else none
/-- the way from a place up to the root -/
inductive Up (g : IF) : Int → List Int → Prop
  | top {v : Int} : g v = none → Up g v [v]
  | step {v u : Int} {l : List Int} : g v = some u → Up g u l → Up g v (v :: l)
structure Ways (us : List (Option Int)) : Prop where
  n1 : 1 ≤ us.length
  n8 : us.length ≤ 8
  rng : ∀ v : Int, some v ∈ us → 0 ≤ v ∧ v < us.length
  one : ∃ r : Nat, us[r]? = some none ∧ ∀ j : Nat, us[j]? = some none → j = r
  ends : ∀ v : Int, 0 ≤ v → v < us.length → ∃ l, Up (upF us) v l
def WaysAt (H : Hp) (p : Addr) (us : List (Option Int)) : Prop := ∃ o : Obj, H p = some (.frz o (.tup (us.map oV))) ∧ o.cls = .type "tuple" ∧ o.dict = none
theorem WaysAt.sq {K : PySem.W.Frag} {H : Hp} {p : Addr} {us : List (Option Int)} (h : WaysAt H p us) : SqT K H p (us.map oV) := by
  obtain ⟨o, h, _⟩ := h
  exact .inl (.inr ⟨o, h⟩)
theorem WaysAt.kt {t : Addr} {H H' : Hp} {p : Addr} {us : List (Option Int)} (h : WaysAt H p us) (k : Kt t H H') : WaysAt H' p us := by
  obtain ⟨o, h, r⟩ := h
  exact ⟨o, k.frz _ _ _ h, r⟩
theorem WaysAt.k0 {H H' : Hp} {p : Addr} {us : List (Option Int)} (h : WaysAt H p us) (k : K0 H H') : WaysAt H' p us := h.kt (k.kt (t := 0))
theorem ixN_at {n : Nat} {v : Int} (h0 : 0 ≤ v) (h1 : v < n) : ixN n v = some v.toNat := by
  unfold ixN
  rw [if_pos h0, if_pos (by omega)]
theorem upF_at {us : List (Option Int)} {v : Int} (h0 : 0 ≤ v) (h1 : v < us.length) : us[v.toNat]? = some (upF us v) := by
  unfold upF
  rw [if_pos h0, List.getD_eq_getElem?_getD, List.getElem?_eq_getElem (show v.toNat < us.length by omega)]
  rfl
theorem up_at {us : List (Option Int)} {v : Int} (h0 : 0 ≤ v) (h1 : v < us.length) : atI (us.map oV) v = some (oV (upF us v)) := by
  obtain ⟨j, rfl⟩ := Int.eq_ofNat_of_zero_le h0
  refine atI_nat ?_
  have := upF_at h0 h1
  rw [Int.toNat_natCast] at this
  rw [List.getElem?_map, this]
  rfl
/-- the places in the order in which they are drawn, and what is ahead of the first k of them -/
structure WInv (L : List Int) (us : List (Option Int)) (k : Nat) : Prop where
  len : us.length = L.length
  nd : L.Nodup
  mem : ∀ v, v ∈ L ↔ 0 ≤ v ∧ v < L.length
  at_ : ∀ (m : Nat) (v : Int), L[m]? = some v → (us[v.toNat]? = some none ∧ (m = 0 ∨ k ≤ m)) ∨ (∃ (a : Nat) (u : Int), a < m ∧ m < k ∧ L[a]? = some u ∧ us[v.toNat]? = some (some u))
theorem nodup_at {L : List Int} (nd : L.Nodup) {i j : Nat} {v : Int} (hi : L[i]? = some v) (hj : L[j]? = some v) : i = j := by
  obtain ⟨hi', ei⟩ := List.getElem?_eq_some_iff.mp hi
  obtain ⟨hj', ej⟩ := List.getElem?_eq_some_iff.mp hj
  refine Decidable.byContradiction fun ne => ?_
  have pw := List.pairwise_iff_getElem.mp nd
  rcases Nat.lt_or_gt_of_ne ne with l | l
  · exact pw i j hi' hj' l (by rw [ei, ej])
  · exact pw j i hj' hi' l (by rw [ei, ej])
theorem WInv.step {L : List Int} {us : List (Option Int)} {k a : Nat} {v u : Int} (h : WInv L us k) (hk : 1 ≤ k) (hv : L[k]? = some v) (ha : a < k) (hu : L[a]? = some u) : WInv L (us.set v.toNat (some u)) (k + 1) := by
  have hvm := (h.mem v).mp (List.mem_of_getElem? hv)
  refine ⟨by rw [List.length_set]; exact h.len, h.nd, h.mem, fun m x hx => ?_⟩
  have hxm := (h.mem x).mp (List.mem_of_getElem? hx)
  by_cases e : m = k
  · subst e
    rw [hv] at hx
    cases hx
    refine .inr ⟨a, u, ha, Nat.lt_succ_self _, hu, ?_⟩
    rw [List.getElem?_set_self (by rw [h.len]; omega)]
  · have hne : v.toNat ≠ x.toNat := fun z => e (nodup_at h.nd hx (by rw [hv]; congr 1; omega))
    rw [List.getElem?_set_ne hne]
    rcases h.at_ m x hx with ⟨h1, h2⟩ | ⟨a', u', h1, h2, h3, h4⟩
    · refine .inl ⟨h1, ?_⟩
      rcases h2 with h2 | h2
      · exact .inl h2
      · exact .inr (by omega)
    · exact .inr ⟨a', u', h1, by omega, h3, h4⟩
theorem WInv.ways {L : List Int} {us : List (Option Int)} (h : WInv L us L.length) (n1 : 1 ≤ L.length) (n8 : L.length ≤ 8) : Ways us := by
  have hat : ∀ j : Nat, j < us.length → ∃ m : Nat, L[m]? = some (j : Int) := fun j hj => by
    obtain ⟨m, hm, e⟩ := List.mem_iff_getElem.mp ((h.mem (j : Int)).mpr ⟨by omega, by rw [← h.len]; omega⟩)
    exact ⟨m, by rw [List.getElem?_eq_getElem hm, e]⟩
  have h0 : L[0]? = some L[0] := List.getElem?_eq_getElem (by omega)
  have m0 := (h.mem L[0]).mp (List.getElem_mem _)
  refine ⟨by rw [h.len]; exact n1, by rw [h.len]; exact n8, fun v hv => ?_, ⟨L[0].toNat, ?_, fun j hj => ?_⟩, ?_⟩
  · obtain ⟨j, hj⟩ := List.getElem?_of_mem hv
    have hjl := (List.getElem?_eq_some_iff.mp hj).1
    obtain ⟨m, hm⟩ := hat j hjl
    rcases h.at_ m _ hm with ⟨h1, _⟩ | ⟨a, u, _, _, h3, h4⟩
    · rw [Int.toNat_natCast, hj] at h1
      cases h1
    · rw [Int.toNat_natCast, hj] at h4
      cases h4
      rw [h.len]
      exact (h.mem v).mp (List.mem_of_getElem? h3)
  · rcases h.at_ 0 _ h0 with ⟨h1, _⟩ | ⟨a, u, h1, _⟩
    · exact h1
    · omega
  · have hjl := (List.getElem?_eq_some_iff.mp hj).1
    obtain ⟨m, hm⟩ := hat j hjl
    have hml := (List.getElem?_eq_some_iff.mp hm).1
    rcases h.at_ m _ hm with ⟨_, h2⟩ | ⟨a, u, _, _, _, h4⟩
    · have : m = 0 := by omega
      subst this
      rw [h0] at hm
      have := Option.some.inj hm
      omega
    · rw [Int.toNat_natCast, hj] at h4
      cases h4
  · have up : ∀ (m : Nat) (v : Int), L[m]? = some v → ∃ l, Up (upF us) v l := fun m => by
      induction m using Nat.strongRecOn with
      | ind m ih =>
        intro v hv
        have hvm := (h.mem v).mp (List.mem_of_getElem? hv)
        have e := upF_at hvm.1 (by rw [h.len]; exact hvm.2)
        rcases h.at_ m v hv with ⟨h1, _⟩ | ⟨a, u, h1, _, h3, h4⟩
        · exact ⟨_, .top (by rw [h1] at e; exact (Option.some.inj e).symm)⟩
        · obtain ⟨l, hl⟩ := ih a h1 u h3
          exact ⟨_, .step (by rw [h4] at e; exact (Option.some.inj e).symm) hl⟩
    intro v v0 v1
    obtain ⟨m, hm⟩ := hat v.toNat (by omega)
    rw [show ((v.toNat : Nat) : Int) = v by omega] at hm
    exact up m v hm
theorem pick4r {d a b c e m : Int} (h0 : 0 ≤ d) (h1 : d < 4) (ha : 0 ≤ a ∧ a < m) (hb : 0 ≤ b ∧ b < m) (hc : 0 ≤ c ∧ c < m) (he : 0 ≤ e ∧ e < m) : ∃ y : Int, atI [V.int a, .int b, .int c, .int e] d = some (.int y) ∧ 0 ≤ y ∧ y < m := by
  obtain ⟨k, rfl⟩ := Int.eq_ofNat_of_zero_le h0
  match k, h1 with
  | 0, _ => exact ⟨a, atI_nat rfl, ha⟩
  | 1, _ => exact ⟨b, atI_nat rfl, hb⟩
  | 2, _ => exact ⟨c, atI_nat rfl, hc⟩
  | 3, _ => exact ⟨e, atI_nat rfl, he⟩
  | k + 4, h => exact absurd h (by omega)
section
variable {P : Program} {w : World} {K : PySem.W.Frag} {mg : Str → Option Value} {base : Heap}
def spWaysL (K : PySem.W.Frag) : Sp := fun vs H Q _ => ∃ (t sc : Addr) (ns : List Int) (b : Int), vs = [.ref t] ∧ Tray K H t sc ns b ∧ b ≤ 900000 ∧
  ∀ (p : Addr) (us : List (Option Int)) (H' : Hp), Kt t H H' → Tray K H' t sc ns (b + 100) → H p = none → WaysAt H' p us → Ways us → Q (.ref p) H'
theorem ok_waysL {f : Addr} {fd : FuncData} {f_draw : Addr} {fd_draw : FuncData} (F : Fun K "_law_e_ways" "_law_e_ways" sWaysL f fd) (k_draw : PySem.W.keepIn K (.ref f_draw) = true) (b_draw : Binds K fd_draw ["tray", "many"] []) (g_draw : mg "_law_e_draw" = some (.ref f_draw)) (G_draw : FnOk P w K mg base CX0 2 f_draw fd_draw ["tray", "many"] (spDraw K)) (m_range : mg "range" = none) (m_tuple : mg "tuple" = none) : FnOk P w K mg base CX0 3 f fd ["tray"] (spWaysL K) := by
  refine F.ok scWaysL (fun vs H Q E h => ?_) (fun cdv A outer s H vs Q E hr h => ?_)
  · obtain ⟨a, b, ns, b, rfl, _⟩ := h
    rfl
  · obtain ⟨t, sc, ns, b, rfl, hT, hb, q⟩ := h
    have hu := hu_of hr
    refine ⟨_, (pss_cons (ps_set (i := 1) scWaysL.nd rfl (.inl rfl) (pe_op op_add pe_int (pe_call G_draw (hr.mono (by decide)) (by rfl) g_draw k_draw b_draw .nil pass0 (pa_cons (pv 0) (pa_cons pe_int pa_nil)))))
      (pss_cons (ps_set (i := 2) scWaysL.nd rfl (.inl rfl) (pe_call G_draw (hr.mono (by decide)) (by rfl) g_draw k_draw b_draw .nil pass0 (pa_cons (pv 0) (pa_cons pe_int pa_nil))))
      (pss_cons (ps_set (i := 3) scWaysL.nd rfl (.inl rfl) (pe_lst pa_nil))
      (pss_cut (ps_for PassesOwn.never rfl (pi_range1 (by rfl) m_range (pa_cons (pv 1) pa_nil)) (pg_name (i := 4) scWaysL.nd rfl (.inl rfl))
      (pss_one (ps_expr (pe_bm PySem.F.plainAttrs_list PySem.F.slot_list_insert PySem.F.type_list_insert mt_insert (pv 3) (pa_cons (pe_call G_draw (hr.mono (by decide)) (by rfl) g_draw k_draw b_draw .nil pass0 (pa_cons (pv 0) (pa_cons (pe_op op_add (pv 4) pe_int) pa_nil))) (pa_cons (pv 4) pa_nil))))))
      (pss_cons (ps_setLc (i := 5) (own := [("place", 4)]) (g := (gName 4)) (tt := tYes) (te := (tC .non)) rfl scWaysL.nd rfl rfl (sw_true rfl rfl rfl rfl) (pi_range1 (by rfl) m_range (pa_cons (pv 1) pa_nil)) (blkOk_by (N := N_scWaysL) (sc := defScope sWaysL) (by decide +kernel)) (fun _ _ _ _ _ => (pg_name (i := 4) scWaysL.nd rfl (.inl rfl))) (fun _ _ _ _ _ => pts_nil) (fun _ _ _ _ _ => pe_non))
      (pss_cut (ps_for PassesOwn.never rfl (pi_range2 (by rfl) m_range (pa_cons pe_int (pa_cons (pv 1) pa_nil))) (pg_name (i := 6) scWaysL.nd rfl (.inl rfl))
      (pss_cons (ps_set (i := 7) scWaysL.nd rfl (.inl rfl) (pe_ix ix_list (pe_lst (pa_cons (pe_call G_draw (hr.mono (by decide)) (by rfl) g_draw k_draw b_draw .nil pass0 (pa_cons (pv 0) (pa_cons (pv 6) pa_nil))) (pa_cons (pe_op op_sub (pv 6) pe_int) (pa_cons pe_int (pa_cons (pe_call G_draw (hr.mono (by decide)) (by rfl) g_draw k_draw b_draw .nil pass0 (pa_cons (pv 0) (pa_cons (pv 6) pa_nil))) pa_nil))))) (pv 2) (fun _ _ => rfl)))
      (pss_one (ps_asg (pe_ix ix_list (pv 3) (pv 7) (fun _ _ => rfl)) (pg_sub (pv 5) (pe_ix ix_list (pv 3) (pv 6) (fun _ _ => rfl)) set_list)))))
      (pss_one (ps_ret (pe_callTy call_tuple_fz (by rfl) m_tuple (by decide +kernel) (pa_cons (pv 5) pa_nil)))))))))), ?_⟩
    refine ⟨_, rfl, t, sc, 8, ns, b, rfl, hT, by omega, by omega, by omega, fun d1 H1 d10 d11 k1 T1 => ?_⟩
    refine ⟨_, _, rfl, rfl, ?_⟩
    refine ⟨_, rfl, t, sc, 4, ns, b + 1, rfl, T1, by omega, by omega, by omega, fun sh H2 s0 s1 k2 T2 => ?_⟩
    refine ⟨Nat.zero_le _, fun L0 nL0 => ?_⟩
    have n1 : 1 ≤ 1 + d1 := by omega
    have n8 : 1 + d1 ≤ 8 := by omega
    have k02 := k1.trans k2
    have T2' : Tray K H2 t sc ns (b + 2) := T2.le (by omega)
    obtain ⟨n, en⟩ : ∃ n : Int, n = 1 + d1 := ⟨_, rfl⟩
    rw [← en] at n1 n8
    have k3 : K0 H2 (upd H2 L0 (.lst [])) := K0.new nL0
    have T3 := T2'.k0 k3
    have hL0 : upd H2 L0 (.lst []) L0 = some (.lst (([] : List Int).map V.int)) := upd_same
    have nLH := k02.dom L0 nL0
    have k03 : Kt t H (upd H2 L0 (.lst [])) := k02.trans k3.kt
    generalize upd H2 L0 (.lst []) = H3 at k3 T3 hL0 k03
    have hLt : L0 ≠ t := hT.ne nLH
    -- places
    refine ⟨fun σ' H' => ∃ (y4 : Option V) (L : List Int), σ' = [some (.ref t), some (.int n), some (.int sh), some (.ref L0), y4, none, none, none] ∧ Kt t H H' ∧ Tray K H' t sc ns (b + 10) ∧ H' L0 = some (.lst (L.map V.int)) ∧ L.length = n.toNat ∧ L.Nodup ∧ ∀ v : Int, v ∈ L ↔ 0 ≤ v ∧ v < n, ?_, ?_⟩
    · refine ⟨_, rfl, n, by rw [en], by omega, by omega, for_range (lo := 0) (n := n.toNat) (fun i σ' H' => ∃ (y4 : Option V) (L : List Int), σ' = [some (.ref t), some (.int n), some (.int sh), some (.ref L0), y4, none, none, none] ∧ Kt t H H' ∧ Tray K H' t sc ns (b + 2 + i) ∧ H' L0 = some (.lst (L.map V.int)) ∧ L.length = i ∧ L.Nodup ∧ ∀ v : Int, v ∈ L ↔ 0 ≤ v ∧ v < i)
        ⟨none, [], by rw [en]; rfl, k03, T3.le (by omega), hL0, rfl, List.nodup_nil, fun v => ⟨fun z => by (cases z), fun z => by omega⟩⟩ (fun i σ' H' hi h => ?_) (fun σ' H' h => ?_)⟩
      · obtain ⟨y4, L, rfl, k4, T4, hL, ll, nd, mem⟩ := h
        refine ⟨_, rfl, .inl ⟨rfl, _, .inl (.inl hL)⟩, ?_⟩
        refine ⟨_, rfl, _, rfl, _, _, rfl, rfl, t, sc, (0 + (i : Int)) + 1, ns, b + 2 + i, rfl, T4, by omega, by omega, by omega, fun d H5 d0 d1 k5 T5 => ?_⟩
        have hL5 := k5.oth L0 _ hL hLt (fun _ z => by cases z)
        refine ⟨_, rfl, L0, L.map V.int, d, .int (0 + (i : Int)), rfl, rfl, hL5, Nat.lt_of_le_of_lt (m := 5000) (by rw [List.length_map]; omega) (by decide), d0, by omega, ?_⟩
        have pm : (L.take d.toNat ++ [0 + (i : Int)] ++ L.drop d.toNat).Perm ((0 + (i : Int)) :: L) := by
          rw [List.append_assoc]
          refine List.perm_middle.trans ?_
          show ((0 + (i : Int)) :: (L.take d.toNat ++ L.drop d.toNat)).Perm _
          rw [List.take_append_drop]
        refine ⟨_, L.take d.toNat ++ [0 + (i : Int)] ++ L.drop d.toNat, rfl, (k4.trans k5).mut nLH, (T5.le (by omega)).mut hT (k4.trans k5) nLH, by rw [List.map_append, List.map_append, List.map_take, List.map_drop]; exact upd_same, ?_, ?_, fun v => ?_⟩
        · rw [List.length_append, List.length_append, List.length_take, List.length_drop, List.length_singleton]; omega
        · refine pm.nodup_iff.mpr (List.nodup_cons.mpr ⟨fun z => ?_, nd⟩)
          have := (mem _).mp z
          omega
        · rw [pm.mem_iff, List.mem_cons, mem v]
          omega
      · obtain ⟨y4, L, rfl, k4, T4, hL, ll, nd, mem⟩ := h
        refine ⟨y4, L, rfl, k4, T4.le (by omega), hL, ll, nd, fun v => ?_⟩
        rw [mem v]
        omega
    rintro σ' H4 ⟨y4, L, rfl, k4, T4, hL, ll, nd, mem⟩
    -- up
    refine ⟨_, rfl, n, rfl, by omega, by omega, fun D nD => ?_⟩
    have hDt : D ≠ t := T4.ne nD
    refine lc_range (lo := 0) (n := n.toNat) (fun i H' => K0 H4 H' ∧ H' D = some (.lst ((List.replicate i (none : Option Int)).map oV))) ⟨K0.new nD, upd_same⟩ (fun i H' hi h => ?_) (fun H' h => ?_)
    · obtain ⟨k5, hD⟩ := h
      refine ⟨rfl, tyes ⟨_, hD, Nat.lt_of_le_of_lt (m := 5000) (by rw [List.length_map, List.length_replicate]; omega) (by decide), k5.mut nD, ?_⟩⟩
      rw [List.replicate_succ', List.map_append]
      exact upd_same
    obtain ⟨k5, hD⟩ := h
    have k45 := k4.trans k5.kt
    have T5 := T4.k0 k5
    have hL5 := k5.oth L0 _ hL (fun _ z => by cases z)
    have nDH := k4.dom D nD
    have W0 : WInv L (List.replicate n.toNat none) 1 := ⟨by rw [List.length_replicate, ll], nd, fun v => by rw [mem v, ll]; omega, fun m v hv => .inl ⟨by
      have := (mem v).mp (List.mem_of_getElem? hv)
      rw [List.getElem?_replicate, if_pos (by omega)], by omega⟩⟩
    have hLD : L0 ≠ D := ne_of_none hL nD
    have kD5 : K0 H4 H' := k5
    refine ⟨fun σ' H2 => ∃ (y4 y6 y7 : Option V) (us : List (Option Int)), σ' = [some (.ref t), some (.int n), some (.int sh), some (.ref L0), y4, some (.ref D), y6, y7] ∧ Kt t H H2 ∧ Tray K H2 t sc ns (b + 50) ∧ H2 D = some (.lst (us.map oV)) ∧ WInv L us L.length, ?_, ?_⟩
    · refine ⟨_, rfl, 1, n, rfl, ⟨by decide, by decide, by omega, by omega⟩, for_range (lo := 1) (n := (n - 1).toNat) (fun i σ' H2 => ∃ (y4 y6 y7 : Option V) (us : List (Option Int)), σ' = [some (.ref t), some (.int n), some (.int sh), some (.ref L0), y4, some (.ref D), y6, y7] ∧ Kt t H H2 ∧ Tray K H2 t sc ns (b + 10 + 2 * i) ∧ H2 D = some (.lst (us.map oV)) ∧ H2 L0 = some (.lst (L.map V.int)) ∧ WInv L us (1 + i))
        ⟨_, none, none, _, rfl, k45, T5.le (by omega), hD, hL5, W0⟩ (fun i σ' H2 hi h => ?_) (fun σ' H2 h => ?_)⟩
      · obtain ⟨y4, y6, y7, us, rfl, k6, T6, hD6, hL6, W6⟩ := h
        refine ⟨_, rfl, _, rfl, t, sc, 1 + (i : Int), ns, b + 10 + 2 * i, rfl, T6, by omega, by omega, by omega, fun e1 H7 e10 e11 k7 T7 => ?_⟩
        refine ⟨_, rfl, _, _, rfl, rfl, ?_⟩
        refine ⟨_, rfl, _, rfl, t, sc, 1 + (i : Int), ns, b + 10 + 2 * i + 1, rfl, T7, by omega, by omega, by omega, fun e2 H8 e20 e21 k8 T8 => ?_⟩
        have k68 := (k6.trans k7).trans k8
        have hD8 := k8.oth D _ (k7.oth D _ hD6 hDt (fun _ z => by cases z)) hDt (fun _ z => by cases z)
        have hL8 := k8.oth L0 _ (k7.oth L0 _ hL6 hLt (fun _ z => by cases z)) hLt (fun _ z => by cases z)
        refine ⟨by show 4 ≤ sizeLine; decide, fun l nl => ?_⟩
        have k9 : K0 H8 (upd H8 l (.lst [.int e1, .int (1 + (i : Int) - 1), .int 0, .int e2])) := K0.new nl
        have hD9 := k9.oth D _ hD8 (fun _ z => by cases z)
        have hL9 := k9.oth L0 _ hL8 (fun _ z => by cases z)
        have T9 := T8.k0 k9
        have k69 := k68.trans k9.kt
        obtain ⟨y, ey, y0, y1⟩ := pick4r (m := 1 + (i : Int)) s0 s1 ⟨e10, e11⟩ (show 0 ≤ 1 + (i : Int) - 1 ∧ 1 + (i : Int) - 1 < 1 + (i : Int) by omega) (show (0 : Int) ≤ 0 ∧ 0 < 1 + (i : Int) by omega) ⟨e20, e21⟩
        refine ⟨_, rfl, l, _, sh, .int y, rfl, rfl, .inl (.inl upd_same), ey, ?_⟩
        obtain ⟨ya, rfl⟩ := Int.eq_ofNat_of_zero_le y0
        have hya : ya < L.length := by omega
        have hk : 1 + i < L.length := by omega
        have ga : L[ya]? = some L[ya] := List.getElem?_eq_getElem hya
        have gk : L[1 + i]? = some L[1 + i] := List.getElem?_eq_getElem hk
        refine ⟨_, rfl, _, rfl, L0, _, _, .int L[ya], rfl, rfl, .inl (.inl hL9), atI_nat (j := ya) (by rw [List.getElem?_map, ga]; rfl), ?_⟩
        refine ⟨_, rfl, _, rfl, _, rfl, L0, _, _, .int L[1 + i], rfl, rfl, .inl (.inl hL9), (by rw [show (1 + (i : Int)) = ((1 + i : Nat) : Int) by omega]; exact atI_nat (by rw [List.getElem?_map, gk]; rfl)), ?_⟩
        have vm := (mem L[1 + i]).mp (List.getElem_mem _)
        have ul : us.length = L.length := W6.len
        refine ⟨D, _, _, _, rfl, rfl, hD9, ixN_at vm.1 (by rw [List.length_map]; omega), ?_⟩
        refine ⟨_, _, _, us.set L[1 + i].toNat (some L[ya]), rfl, k69.mut nDH, (T9.le (by omega)).mut hT k69 nDH, ?_, by rw [upd_ne hLD]; exact hL9, ?_⟩
        · rw [List.map_set]; exact upd_same
        · rw [show 1 + (i + 1) = 1 + i + 1 by omega]
          exact W6.step (by omega) gk (by omega) ga
      · obtain ⟨y4, y6, y7, us, rfl, k6, T6, hD6, hL6, W6⟩ := h
        refine ⟨y4, y6, y7, us, rfl, k6, T6.le (by omega), hD6, ?_⟩
        rw [show L.length = 1 + (n - 1).toNat by omega]
        exact W6
    rintro σ' H9 ⟨y4, y6, y7, us, rfl, k9, T9, hD9, W9⟩
    refine ⟨_, rfl, D, us.map oV, rfl, .inl (.inl hD9), fun p o np oc od => ?_⟩
    have n9 := k9.dom p np
    exact q p us _ (k9.mut n9) ((T9.le (by omega)).mut hT k9 n9) n9 ⟨o, upd_same, oc, od⟩ (W9.ways (by omega) (by omega))
end
end HK

set_option Elab.async false
set_option linter.all false
set_option maxRecDepth 100000
set_option maxHeartbeats 4000000
namespace HK
open PySem PySem.Spec PyProof.Rows L2 GAl GxR
theorem sub_len {l ks : List Int} (nl : l.Nodup) (nk : ks.Nodup) (h : ∀ x ∈ l, x ∈ ks) : l.length ≤ ks.length := by
  have pm : (ks.filter fun x => decide (x ∈ l)).Perm l := (List.perm_ext_iff_of_nodup (List.Nodup.sublist List.filter_sublist nk) nl).mpr fun x => by
    rw [List.mem_filter]
    exact ⟨fun z => of_decide_eq_true z.2, fun z => ⟨h x z, decide_eq_true z⟩⟩
  rw [← pm.length_eq]
  exact List.length_filter_le _ _
/-- the tables of generator expressions -/
def TbL (H : Hp) (l : List Addr) : Prop := ∀ P ∈ l, TabG H P
theorem TbL.kt {t : Addr} {H H' : Hp} {l : List Addr} (h : TbL H l) (k : Kt t H H') : TbL H' l := fun P hP => k.tab P (h P hP)
theorem TbL.k0 {H H' : Hp} {l : List Addr} (h : TbL H l) (k : K0 H H') : TbL H' l := fun P hP => k.tab P (h P hP)
end HK

set_option Elab.async false
set_option linter.all false
set_option maxRecDepth 100000
set_option maxHeartbeats 4000000
namespace HK
open PySem PySem.Spec PyProof.Rows L2 GAl GxR
/-! ### trees as partial functions -/
def stp (g : IF) (v : Int) : Int := (g v).getD v
def clm (g : IF) : Nat → Int → Int
  | 0, v => v
  | n + 1, v => stp g (clm g n v)
theorem stp_none {g : IF} {v : Int} (h : g v = none) : stp g v = v := by unfold stp; rw [h]; rfl
theorem stp_some {g : IF} {v x : Int} (h : g v = some x) : stp g v = x := by unfold stp; rw [h]; rfl
theorem clm_fix {g : IF} {v : Int} {i : Nat} (h : g (clm g i v) = none) : ∀ k, clm g (i + k) v = clm g i v
  | 0 => rfl
  | k + 1 => by
    show stp g (clm g (i + k) v) = _
    rw [clm_fix h k, stp_none h]
theorem clm_root {g : IF} {v root : Int} {i : Nat} (hr : g root = none) (h : clm g i v = root) (k : Nat) : clm g (i + k) v = root := by
  rw [clm_fix (by rw [h]; exact hr), h]
theorem DI.keys {kvs : List (Key × V)} {f : IF} (h : DI kvs f) : ∃ ks : List Int, ks.Nodup ∧ ks.length = kvs.length ∧ (∀ i, i ∈ ks ↔ (f i).isSome = true) ∧ kvs.map (·.1) = ks.map Sum.inl := by
  have aux : ∀ {l : List (Key × V)}, (∀ p ∈ l, ∃ i x : Int, p = (Sum.inl i, V.int x)) → ∃ ks : List Int, l.map (·.1) = ks.map Sum.inl := fun {l} => by
    induction l with
    | nil => exact fun _ => ⟨[], rfl⟩
    | cons p r ih =>
      intro hl
      obtain ⟨ks, e⟩ := ih fun q hq => hl q (List.mem_cons_of_mem _ hq)
      obtain ⟨i, x, rfl⟩ := hl p (List.mem_cons_self ..)
      exact ⟨i :: ks, by rw [List.map_cons, List.map_cons, e]⟩
  obtain ⟨ks, e⟩ := aux h.ks
  have nd := h.nd
  rw [e] at nd
  refine ⟨ks, (List.pairwise_map.mp nd).imp fun hne z => hne (by rw [z]), ?_, fun i => ?_, e⟩
  · have := congrArg List.length e
    rw [List.length_map, List.length_map] at this
    exact this.symm
  · rw [← h.mem i, e, List.mem_map]
    exact ⟨fun z => ⟨i, z, rfl⟩, fun ⟨j, hj, ej⟩ => by cases ej; exact hj⟩
/-- a way to the root takes no more steps than there are keys -/
theorem clm_len {kvs : List (Key × V)} {g : IF} {root v : Int} {m : Nat} (hD : DI kvs g) (hr : g root = none) (h : clm g m v = root) : clm g kvs.length v = root := by
  obtain ⟨ks, nk, lk, mk, _⟩ := hD.keys
  refine Decidable.byContradiction fun hn => ?_
  have absb : ∀ i, i ≤ kvs.length → clm g i v ≠ root := fun i hi z => hn (by
    have := clm_root hr z (kvs.length - i)
    rwa [show i + (kvs.length - i) = kvs.length by omega] at this)
  have lt : kvs.length < m := by
    refine Nat.lt_of_not_le fun z => absb m z h
  have dom : ∀ i, i ≤ kvs.length → (g (clm g i v)).isSome = true := fun i hi => by
    cases e : g (clm g i v) with
    | some x => rfl
    | none =>
      have := clm_fix e (m - i)
      rw [show i + (m - i) = m by omega, h] at this
      exact absurd this.symm (absb i hi)
  by_cases hd : ∀ i j, i < j → j ≤ kvs.length → clm g i v ≠ clm g j v
  · have nl : ((List.range (kvs.length + 1)).map fun i => clm g i v).Nodup := List.pairwise_map.mpr
      (List.Pairwise.imp_of_mem (fun {a b} _ hb lt => hd a b lt (by have := List.mem_range.mp hb; omega)) List.pairwise_lt_range)
    have := sub_len nl nk fun x hx => by
      obtain ⟨i, hi, rfl⟩ := List.mem_map.mp hx
      exact (mk _).mpr (dom i (by have := List.mem_range.mp hi; omega))
    rw [List.length_map, List.length_range] at this
    omega
  · obtain ⟨i, z⟩ := Classical.not_forall.mp hd
    obtain ⟨j, z⟩ := Classical.not_forall.mp z
    obtain ⟨hij, z⟩ := Classical.not_imp.mp z
    obtain ⟨hj, z⟩ := Classical.not_imp.mp z
    have e := Decidable.not_not.mp z
    have per : ∀ t, ∃ s, s ≤ kvs.length ∧ i ≤ s ∧ s < j ∧ clm g (i + t) v = clm g s v := fun t => by
      induction t with
      | zero => exact ⟨i, by omega, Nat.le_refl _, hij, rfl⟩
      | succ t ih =>
        obtain ⟨s, h1, h2, h3, h4⟩ := ih
        have e5 : clm g (i + (t + 1)) v = clm g (s + 1) v := by
          show stp g (clm g (i + t) v) = stp g (clm g s v)
          rw [h4]
        by_cases hs : s + 1 < j
        · exact ⟨s + 1, by omega, by omega, hs, e5⟩
        · exact ⟨i, by omega, Nat.le_refl _, hij, by rw [e5, show s + 1 = j by omega, e]⟩
    obtain ⟨s, h1, _, _, h4⟩ := per (m - i)
    rw [show i + (m - i) = m by omega, h] at h4
    exact absb s h1 h4.symm
/-- going ahead one stays in the tree -/
theorem clm_in {g : IF} {root v : Int} {m : Nat} (hr : g root = none) (h : clm g m v = root) (k : Nat) : clm g k v = root ∨ ∃ x, g (clm g k v) = some x := by
  by_cases hk : clm g k v = root
  · exact .inl hk
  · refine .inr ?_
    cases e : g (clm g k v) with
    | some x => exact ⟨x, rfl⟩
    | none =>
      refine absurd ?_ hk
      by_cases hm : m ≤ k
      · have := clm_root hr h (k - m)
        rwa [show m + (k - m) = k by omega] at this
      · have := clm_fix e (m - k)
        rw [show k + (m - k) = m by omega, h] at this
        exact this.symm
/-! ### the road of a pair -/
def road (rs : List R4) (a b : Int) : Option R4 := rs.find? fun r => decide (r.s = a ∧ r.e = b)
theorem road_some {rs : List R4} {a b : Int} {r : R4} (h : road rs a b = some r) : r ∈ rs ∧ r.s = a ∧ r.e = b := by
  have h2 := List.find?_some h
  exact ⟨List.mem_of_find?_eq_some h, of_decide_eq_true h2⟩
theorem road_none {rs : List R4} {a b : Int} (h : road rs a b = none) : ∀ r ∈ rs, ¬ (r.s = a ∧ r.e = b) := fun r hr z => by
  have := List.find?_eq_none.mp h r hr
  exact this (decide_eq_true z)
theorem lt_uniq {rs : List R4} (up : rs.Pairwise R4.lt) {i j : Nat} {r t : R4} (hi : rs[i]? = some r) (hj : rs[j]? = some t) (e : r.s = t.s ∧ r.e = t.e) : i = j := by
  obtain ⟨li, rfl⟩ := List.getElem?_eq_some_iff.mp hi
  obtain ⟨lj, rfl⟩ := List.getElem?_eq_some_iff.mp hj
  refine Decidable.byContradiction fun ne => ?_
  rcases Nat.lt_or_gt_of_ne ne with l | l
  · have : rs[i].s < rs[j].s ∨ (rs[i].s = rs[j].s ∧ rs[i].e < rs[j].e) := List.pairwise_iff_getElem.mp up i j li lj l
    omega
  · have : rs[j].s < rs[i].s ∨ (rs[j].s = rs[i].s ∧ rs[j].e < rs[i].e) := List.pairwise_iff_getElem.mp up j i lj li l
    omega
theorem road_of {rs : List R4} (up : rs.Pairwise R4.lt) {r : R4} (h : r ∈ rs) : road rs r.s r.e = some r := by
  cases e : road rs r.s r.e with
  | none => exact absurd ⟨rfl, rfl⟩ (road_none e r h)
  | some t =>
    obtain ⟨ht, hs⟩ := road_some e
    obtain ⟨i, hi⟩ := List.getElem?_of_mem ht
    obtain ⟨j, hj⟩ := List.getElem?_of_mem h
    have := lt_uniq up hi hj hs
    subst this
    rw [hi] at hj
    exact hj
theorem road_snoc {rs : List R4} {t : R4} (a b : Int) : road (rs ++ [t]) a b = (road rs a b).or (if t.s = a ∧ t.e = b then some t else none) := by
  unfold road
  rw [List.find?_append]
  congr 1
  by_cases h : t.s = a ∧ t.e = b
  · rw [if_pos h]
    simp [h]
  · rw [if_neg h]
    simp only [List.find?_cons, decide_eq_false h, List.find?_nil]
/-- what a dict makes a tree -/
def TreeP (rs : List R4) (root : Int) (g : IF) (m : Nat) : Prop := g root = none ∧ (∀ v x, g v = some x → (road rs x v).isSome = true) ∧ ∀ v x, g v = some x → clm g m v = root
/-- a dict from pairs to what a road has -/
def TabP (sel : R4 → Int) (rs : List R4) (kvs : List (List Key × V)) : Prop := kvs.length ≤ rs.length ∧ ∀ a b : Int, valV kvs [Sum.inl a, Sum.inl b] = (road rs a b).map fun r => V.int (sel r)
theorem TabP.put {sel : R4 → Int} {rs : List R4} {t : R4} {kvs : List (List Key × V)} (up : (rs ++ [t]).Pairwise R4.lt) (h : TabP sel rs kvs) : TabP sel (rs ++ [t]) (putK kvs [Sum.inl t.s, Sum.inl t.e] (.int (sel t))) := by
  refine ⟨?_, fun a b => ?_⟩
  · have := length_putK kvs [Sum.inl t.s, Sum.inl t.e] (V.int (sel t))
    have := h.1
    rw [List.length_append, List.length_singleton]
    omega
  · rw [valV_put, road_snoc]
    by_cases e : t.s = a ∧ t.e = b
    · obtain ⟨rfl, rfl⟩ := e
      have hno : road rs t.s t.e = none := by
        cases e : road rs t.s t.e with
        | none => rfl
        | some r =>
          obtain ⟨hr, hs⟩ := road_some e
          obtain ⟨i, hi⟩ := List.getElem?_of_mem hr
          have hlt : i < rs.length := (List.getElem?_eq_some_iff.mp hi).1
          have := lt_uniq up (i := i) (j := rs.length) (by rw [List.getElem?_append_left hlt]; exact hi) (by rw [List.getElem?_append_right (Nat.le_refl _)]; simp) hs
          omega
      rw [if_pos rfl, hno, if_pos ⟨rfl, rfl⟩]
      rfl
    · rw [if_neg (fun z => e (by simp at z; exact ⟨z.1.symm, z.2.symm⟩)), if_neg e, h.2]
      cases road rs a b <;> rfl
end HK

set_option Elab.async false
set_option linter.all false
set_option maxRecDepth 100000
set_option maxHeartbeats 4000000
namespace HK
open PySem PySem.Spec PyProof.Rows L2 GAl GxR
abbrev rLen (K : PySem.W.Frag) : List V → Hp → VK → Prop := fun xs H Q => ∃ p ys, xs = [.ref p] ∧ (SqL K H p ys ∨ SqT K H p ys) ∧ Q (.int ys.length) H
theorem clm_sh (g : IF) (v : Int) : ∀ m, clm g (m + 1) v = clm g m (stp g v)
  | 0 => rfl
  | m + 1 => by
    show stp g (clm g (m + 1) v) = stp g (clm g m (stp g v))
    rw [clm_sh g v m]
theorem Up.clm {g : IF} {v : Int} {l : List Int} (h : Up g v l) : g (clm g (l.length - 1) v) = none ∧ 1 ≤ l.length := by
  induction h with
  | top e => exact ⟨e, Nat.le_refl _⟩
  | @step v u l e h ih =>
    refine ⟨?_, by rw [List.length_cons]; omega⟩
    rw [List.length_cons, show l.length + 1 - 1 = (l.length - 1) + 1 by omega, clm_sh, stp_some e]
    exact ih.1
theorem Up.uniq {g : IF} {v : Int} {l : List Int} (h : Up g v l) : ∀ {l'}, Up g v l' → l = l' := by
  induction h with
  | top e =>
    intro l' h'
    cases h' with
    | top _ => rfl
    | step e' _ => rw [e] at e'; cases e'
  | step e _ ih =>
    intro l' h'
    cases h' with
    | top e' => rw [e] at e'; cases e'
    | step e' h'' =>
      rw [e] at e'
      cases e'
      rw [ih h'']
theorem Up.at_ {g : IF} {v : Int} {l : List Int} (h : Up g v l) : ∀ u ∈ l, ∃ t, Up g u t ∧ t.length ≤ l.length := by
  induction h with
  | top e =>
    intro u hu
    rw [List.mem_singleton.mp hu]
    exact ⟨_, .top e, Nat.le_refl _⟩
  | @step v u l e h ih =>
    intro w hw
    rcases List.mem_cons.mp hw with rfl | hw
    · exact ⟨_, .step e h, Nat.le_refl _⟩
    · obtain ⟨t, ht, hl⟩ := ih w hw
      exact ⟨t, ht, by rw [List.length_cons]; omega⟩
theorem Up.nodup {g : IF} {v : Int} {l : List Int} (h : Up g v l) : l.Nodup := by
  induction h with
  | top e => exact List.pairwise_singleton ..
  | @step v u l e h ih =>
    refine List.nodup_cons.mpr ⟨fun hm => ?_, ih⟩
    obtain ⟨t, ht, hl⟩ := h.at_ v hm
    have := (Up.step e h).uniq ht
    rw [← this, List.length_cons] at hl
    omega
theorem upF_rng {us : List (Option Int)} (hW : Ways us) {v u : Int} (e : upF us v = some u) : 0 ≤ u ∧ u < us.length := by
  unfold upF at e
  by_cases h : 0 ≤ v
  · rw [if_pos h] at e
    have : some u ∈ us := by
      rw [List.getD_eq_getElem?_getD] at e
      cases e2 : us[v.toNat]? with
      | none => rw [e2] at e; cases e
      | some x =>
        rw [e2] at e
        have e : x = some u := e
        rw [← e]
        exact List.mem_of_getElem? e2
    exact hW.rng u this
  · rw [if_neg h] at e; cases e
theorem Up.rng {us : List (Option Int)} (hW : Ways us) {v : Int} {l : List Int} (h : Up (upF us) v l) (v0 : 0 ≤ v) (v1 : v < us.length) : ∀ u ∈ l, 0 ≤ u ∧ u < us.length := by
  induction h with
  | top e => intro u hu; rw [List.mem_singleton.mp hu]; exact ⟨v0, v1⟩
  | @step v u l e h ih =>
    intro x hx
    have := upF_rng hW e
    rcases List.mem_cons.mp hx with rfl | hx
    · exact ⟨v0, v1⟩
    · exact ih this.1 this.2 x hx
theorem Up.len {us : List (Option Int)} (hW : Ways us) {v : Int} {l : List Int} (h : Up (upF us) v l) (v0 : 0 ≤ v) (v1 : v < us.length) : l.length ≤ us.length := by
  have := sub_len (ks := (List.range us.length).map fun (i : Nat) => (i : Int)) h.nodup (List.pairwise_map.mpr (List.pairwise_lt_range.imp fun a z => by omega)) fun x hx => by
    obtain ⟨h0, h1⟩ := h.rng hW v0 v1 x hx
    exact List.mem_map.mpr ⟨x.toNat, List.mem_range.mpr (by omega), by omega⟩
  simpa using this
theorem clm_rng {us : List (Option Int)} (hW : Ways us) {v : Int} (v0 : 0 ≤ v) (v1 : v < us.length) : ∀ k, 0 ≤ clm (upF us) k v ∧ clm (upF us) k v < us.length
  | 0 => ⟨v0, v1⟩
  | k + 1 => by
    show 0 ≤ stp (upF us) (clm (upF us) k v) ∧ stp (upF us) (clm (upF us) k v) < us.length
    cases e : upF us (clm (upF us) k v) with
    | none => rw [stp_none e]; exact clm_rng hW v0 v1 k
    | some u => rw [stp_some e]; exact upF_rng hW e
theorem clm_top {us : List (Option Int)} (hW : Ways us) {v : Int} (v0 : 0 ≤ v) (v1 : v < us.length) : upF us (clm (upF us) us.length v) = none := by
  obtain ⟨l, hl⟩ := hW.ends v v0 v1
  obtain ⟨h1, h2⟩ := hl.clm
  have := hl.len hW v0 v1
  have e := clm_fix h1 (us.length - (l.length - 1))
  rw [show l.length - 1 + (us.length - (l.length - 1)) = us.length by omega] at e
  rw [e]
  exact h1
theorem Ways.roots {us : List (Option Int)} (h : Ways us) : (us.filter Option.isNone).length = 1 := by
  obtain ⟨r, hr, hone⟩ := h.one
  obtain ⟨hrl, er⟩ := List.getElem?_eq_some_iff.mp hr
  have e : us = us.take r ++ us[r] :: us.drop (r + 1) := by rw [List.getElem_cons_drop, List.take_append_drop]
  have h1 : (us.take r).filter Option.isNone = [] := List.filter_eq_nil_iff.mpr fun x hx z => by
    obtain ⟨j, hj, ej⟩ := List.mem_iff_getElem.mp hx
    rw [List.getElem_take] at ej
    rw [List.length_take] at hj
    cases x with
    | some u => cases z
    | none =>
      have := hone j (by rw [List.getElem?_eq_getElem (by omega), ej])
      omega
  have h2 : (us.drop (r + 1)).filter Option.isNone = [] := List.filter_eq_nil_iff.mpr fun x hx z => by
    obtain ⟨j, hj, ej⟩ := List.mem_iff_getElem.mp hx
    rw [List.getElem_drop] at ej
    rw [List.length_drop] at hj
    cases x with
    | some u => cases z
    | none =>
      have := hone (r + 1 + j) (by rw [List.getElem?_eq_getElem (by omega), ej])
      omega
  rw [e, List.filter_append, h1, List.filter_cons, er]
  show ([] ++ (none :: List.filter Option.isNone (us.drop (r + 1)))).length = 1
  rw [h2]
  rfl
end HK

set_option Elab.async false
set_option linter.all false
set_option maxRecDepth 100000
set_option maxHeartbeats 4000000
namespace HK
open PySem PySem.Spec PyProof.Rows L2 GAl GxR
open Evl (pss_cut)
abbrev sLeadsG : Stmt := topS 11
abbrev N_scLeadsG : List Str := ["up", "place", "step"]
theorem scLeadsG : FnScope N_scLeadsG ["up", "place"] (defScope sLeadsG) := ⟨rfl, rfl, rfl, by decide +kernel, rfl, by decide +kernel, by decide +kernel⟩
abbrev sAreWaysG : Stmt := topS 10
abbrev N_scAreWaysG : List Str := ["thing", "place", "entry"]
theorem scAreWaysG : FnScope N_scAreWaysG ["thing"] (defScope sAreWaysG) := ⟨rfl, rfl, rfl, by decide +kernel, rfl, by decide +kernel, by decide +kernel⟩
abbrev sNeedWaysG : Stmt := topS 12
abbrev N_scNeedWaysG : List Str := ["up"]
theorem scNeedWaysG : FnScope N_scNeedWaysG ["up"] (defScope sNeedWaysG) := ⟨rfl, rfl, rfl, by decide +kernel, rfl, by decide +kernel, by decide +kernel⟩
/-! ### ways up, of plain data -/
def oD : Option Int → PyData
  | none => .none
  | some i => .int i
def isNoneD : PyData → Bool
  | .none => true
  | _ => false
theorem dp_none {K : PySem.W.Frag} {H : Hp} {x : V} {d : PyData} (h : Dp K H x d) : decide (x = V.non) = isNoneD d := by
  cases h with
  | non => rfl
  | bl => rfl
  | int => rfl
  | str => rfl
  | lst => rfl
  | tup => rfl
def entD (n : Nat) (d : PyData) : Bool := isNoneD d || withinD d 0 ((n : Int) - 1)
def usD (ds : List PyData) : List (Option Int) := ds.map fun d => match d with
  | .int i => some i
  | _ => none
def leadB (us : List (Option Int)) (v : Int) : Bool := (upF us (clm (upF us) us.length v)).isNone
def isWaysD : PyData → Bool
  | .tuple ds => (decide (1 ≤ ds.length) && decide (ds.length ≤ 8)) && (ds.all (entD ds.length) && (decide (((usD ds).filter Option.isNone).length = 1) && (List.range ds.length).all fun (i : Nat) => leadB (usD ds) (i : Int)))
  | _ => false
structure Rng (us : List (Option Int)) : Prop where
  n8 : us.length ≤ 8
  rng : ∀ v : Int, some v ∈ us → 0 ≤ v ∧ v < us.length
theorem Ways.toRng {us : List (Option Int)} (h : Ways us) : Rng us := ⟨h.n8, h.rng⟩
theorem upF_rngG {us : List (Option Int)} (hW : Rng us) {v u : Int} (e : upF us v = some u) : 0 ≤ u ∧ u < us.length := by
  unfold upF at e
  by_cases h : 0 ≤ v
  · rw [if_pos h, List.getD_eq_getElem?_getD] at e
    refine hW.rng u ?_
    cases e2 : us[v.toNat]? with
    | none => rw [e2] at e; cases e
    | some x =>
      rw [e2] at e
      obtain rfl : x = some u := e
      exact List.mem_of_getElem? e2
  · rw [if_neg h] at e; cases e
theorem clm_rngG {us : List (Option Int)} (hW : Rng us) {v : Int} (v0 : 0 ≤ v) (v1 : v < us.length) : ∀ k, 0 ≤ clm (upF us) k v ∧ clm (upF us) k v < us.length
  | 0 => ⟨v0, v1⟩
  | k + 1 => by
    show 0 ≤ stp (upF us) (clm (upF us) k v) ∧ stp (upF us) (clm (upF us) k v) < us.length
    cases e : upF us (clm (upF us) k v) with
    | none => rw [stp_none e]; exact clm_rngG hW v0 v1 k
    | some u => rw [stp_some e]; exact upF_rngG hW e
theorem usD_oD : ∀ us : List (Option Int), usD (us.map oD) = us
  | [] => rfl
  | none :: r => by show none :: usD (r.map oD) = _; rw [usD_oD r]
  | some i :: r => by show some i :: usD (r.map oD) = _; rw [usD_oD r]
theorem ent_oD {n : Nat} {d : PyData} (h : entD n d = true) : ∃ o : Option Int, d = oD o ∧ ∀ v, o = some v → 0 ≤ v ∧ v < n := by
  cases d with
  | none => exact ⟨none, rfl, fun v z => by cases z⟩
  | int i =>
    have h : (decide (0 ≤ i) && decide (i ≤ (n : Int) - 1)) = true := h
    rw [Bool.and_eq_true, decide_eq_true_iff, decide_eq_true_iff] at h
    exact ⟨some i, rfl, fun v z => by cases z; omega⟩
  | bool b => cases (show false = true from h)
  | str b => cases (show false = true from h)
  | list b => cases (show false = true from h)
  | tuple b => cases (show false = true from h)
  | dict b => cases (show false = true from h)
theorem ents_oD {n : Nat} : ∀ {ds : List PyData}, ds.all (entD n) = true → ∃ us : List (Option Int), ds = us.map oD ∧ ∀ v : Int, some v ∈ us → 0 ≤ v ∧ v < n
  | [], _ => ⟨[], rfl, fun v h => by cases h⟩
  | d :: ds, h => by
    rw [List.all_cons, Bool.and_eq_true] at h
    obtain ⟨o, rfl, ho⟩ := ent_oD h.1
    obtain ⟨us, rfl, hu⟩ := ents_oD h.2
    refine ⟨o :: us, rfl, fun v hv => ?_⟩
    rcases List.mem_cons.mp hv with e | e
    · exact ho v e.symm
    · exact hu v e
theorem dp_oV {K : PySem.W.Frag} {H : Hp} {x : V} {o : Option Int} (h : Dp K H x (oD o)) : x = oV o := by
  cases o with
  | none => cases h; rfl
  | some i => cases h; rfl
theorem dpAll_oV {K : PySem.W.Frag} {H : Hp} : ∀ {us : List (Option Int)} {xs : List V}, DpAll K H xs (us.map oD) → xs = us.map oV
  | [], _, h => by cases h; rfl
  | o :: us, _, h => by
    cases h with
    | cons a b =>
      rw [dp_oV a, dpAll_oV b]
      rfl
theorem oV_dp {K : PySem.W.Frag} {H : Hp} : ∀ us : List (Option Int), DpAll K H (us.map oV) (us.map oD)
  | [] => .nil
  | none :: us => .cons .non (oV_dp us)
  | some i :: us => .cons (.int i) (oV_dp us)
theorem Ways.isD {us : List (Option Int)} (h : Ways us) : isWaysD (.tuple (us.map oD)) = true := by
  show ((decide (1 ≤ (us.map oD).length) && decide ((us.map oD).length ≤ 8)) && ((us.map oD).all (entD (us.map oD).length) && (decide (((usD (us.map oD)).filter Option.isNone).length = 1) && (List.range (us.map oD).length).all fun (i : Nat) => leadB (usD (us.map oD)) (i : Int)))) = true
  rw [usD_oD, List.length_map]
  rw [Bool.and_eq_true, Bool.and_eq_true, Bool.and_eq_true, Bool.and_eq_true, decide_eq_true_iff, decide_eq_true_iff, decide_eq_true_iff]
  refine ⟨⟨h.n1, h.n8⟩, ?_, h.roots, ?_⟩
  · rw [List.all_eq_true]
    intro d hd
    obtain ⟨o, ho, rfl⟩ := List.mem_map.mp hd
    cases o with
    | none => rfl
    | some v =>
      obtain ⟨v0, v1⟩ := h.rng v ho
      show (decide (0 ≤ v) && decide (v ≤ (us.length : Int) - 1)) = true
      rw [decide_eq_true v0, decide_eq_true (by omega)]
      rfl
  · rw [List.all_eq_true]
    intro i hi
    have := List.mem_range.mp hi
    unfold leadB
    rw [clm_top h (by omega) (by omega)]
    rfl
def WaysAns (K : PySem.W.Frag) (H : Hp) (v : V) (b : Bool) : Prop := (∃ d, Dp K H v d ∧ b = isWaysD d) ∨ (∃ T, T ∈ tys ∧ TyX K H v (.type T) ∧ (T == "tuple") = false ∧ b = false)
theorem WaysAt.ans {K : PySem.W.Frag} {H : Hp} {p : Addr} {us : List (Option Int)} (h : WaysAt H p us) (hW : Ways us) : WaysAns K H (.ref p) true := .inl ⟨.tuple (us.map oD), .tup h.sq (oV_dp us), hW.isD.symm⟩
section
variable {P : Program} {w : World} {K : PySem.W.Frag} {mg : Str → Option Value} {base : Heap}
def spLeadsG (K : PySem.W.Frag) : Sp := fun vs H Q _ => ∃ (p : Addr) (us : List (Option Int)) (v : Int), vs = [.ref p, .int v] ∧ SqT K H p (us.map oV) ∧ Rng us ∧ 0 ≤ v ∧ v < us.length ∧ Q (.bl (leadB us v)) H
theorem ok_leadsG {f : Addr} {fd : FuncData} (F : Fun K "leads_up" "leads_up" sLeadsG f fd) (m_range : mg "range" = none) (m_len : mg "len" = none) : FnOk P w K mg base CX0 1 f fd ["up", "place"] (spLeadsG K) := by
  refine F.ok scLeadsG (fun vs H Q E h => ?_) (fun cdv A outer s H vs Q E hr h => ?_)
  · obtain ⟨a, us, v, rfl, _⟩ := h
    rfl
  · obtain ⟨p, us, v, rfl, hp, hW, v0, v1, q⟩ := h
    have hu := hu_of hr
    refine ⟨_, (pss_cons (ps_for PassesOwn.never rfl (pi_range1 (by rfl) m_range (pa_cons (pe_callB call_len_seq (by rfl) m_len PySem.boot_len (pa_cons (pv 0) pa_nil)) pa_nil)) (pg_name (i := 2) scLeadsG.nd rfl (.inl rfl))
      (pss_one (ps_if (pt_cmp (pc_notN (pe_ix ix_tup (pv 0) (pv 1) (fun _ _ => rfl)))) (pss_one (ps_set (i := 1) scLeadsG.nd rfl (.inl rfl) (pe_ix ix_tup (pv 0) (pv 1) (fun _ _ => rfl)))) pss_nil)))
      (pss_one (ps_ret (pe_cmp (pc_isN (pe_ix ix_tup (pv 0) (pv 1) (fun _ _ => rfl))))))), ?_⟩
    have n8 := hW.n8
    refine ⟨_, rfl, p, _, rfl, .inr hp, _, rfl, by rw [List.length_map]; omega, by rw [List.length_map]; omega, for_range (lo := 0) (n := (us.map oV).length) (fun i σ' H' => ∃ y2, σ' = [some (.ref p), some (.int (clm (upF us) i v)), y2] ∧ H' = H)
      ⟨none, rfl, rfl⟩ (fun i σ' H' hi h => ?_) (fun σ' H' h => ?_)⟩
    · obtain ⟨y2, rfl, rfl⟩ := h
      obtain ⟨c0, c1⟩ := clm_rngG hW v0 v1 i
      refine ⟨_, rfl, _, rfl, p, _, _, _, rfl, rfl, hp, up_at c0 c1, ?_⟩
      cases e : upF us (clm (upF us) i v) with
      | none =>
        refine ⟨_, rfl, iteF ⟨some (.int (0 + (i : Int))), ?_, rfl⟩⟩
        rw [show clm (upF us) (i + 1) v = clm (upF us) i v from stp_none e]
        rfl
      | some u =>
        refine ⟨_, rfl, iteT ⟨_, rfl, _, rfl, p, _, _, _, rfl, rfl, hp, up_at c0 c1, ?_⟩⟩
        rw [e]
        refine ⟨some (.int (0 + (i : Int))), ?_, rfl⟩
        rw [show clm (upF us) (i + 1) v = u from stp_some e]
        rfl
    · obtain ⟨y2, rfl, rfl⟩ := h
      rw [List.length_map]
      obtain ⟨c0, c1⟩ := clm_rngG hW v0 v1 us.length
      refine ⟨_, rfl, _, rfl, p, _, _, _, rfl, rfl, hp, up_at c0 c1, ?_⟩
      refine qeq q ?_
      unfold leadB
      cases upF us (clm (upF us) us.length v) <;> rfl
def spAreWaysG (K : PySem.W.Frag) (Pw : Addr) : Sp := fun vs H Q _ => ∃ (v : V) (b : Bool), vs = [v] ∧ WaysAns K H v b ∧ TabG H Pw ∧ ∀ H', K0 H H' → Q (.bl b) H'
set_option maxHeartbeats 16000000 in
theorem ok_areWaysG {f c Pw : Addr} {fd : FuncData} {t8 : Tok} {f_within f_leadsup : Addr} {fd_within fd_leadsup : FuncData} (F : FunC K "are_ways" "are_ways" sAreWaysG f fd c) (TB : TabB base mg c Pw) (k_within : PySem.W.keepIn K (.ref f_within) = true) (b_within : Binds K fd_within ["thing", "least", "greatest"] []) (g_within : mg "is_within" = some (.ref f_within)) (G_within : FnOk P w K mg base CX0 2 f_within fd_within ["thing", "least", "greatest"] (spWithin K))
    (k_leadsup : PySem.W.keepIn K (.ref f_leadsup) = true) (b_leadsup : Binds K fd_leadsup ["up", "place"] []) (g_leadsup : mg "leads_up" = some (.ref f_leadsup)) (G_leadsup : FnOk P w K mg base CX0 1 f_leadsup fd_leadsup ["up", "place"] (spLeadsG K))
    (m_isinstance : mg "isinstance" = none) (m_tuple : mg "tuple" = none) (m_len : mg "len" = none) (m_all : mg "all" = none) (m_range : mg "range" = none) (c_MOST_ENTRIES : mg "MOST_ENTRIES" = some (.int 8 t8)) : FnOk P w K mg base CX0 4 f fd ["thing"] (spAreWaysG K Pw) := by
  refine F.ok scAreWaysG (fun vs H Q E h => ?_) (fun A outer s H vs Q E hr h => ?_)
  · obtain ⟨a, b, rfl, _⟩ := h
    rfl
  · obtain ⟨v, b, rfl, hA, tw, q⟩ := h
    have hu := hu_of hr
    refine ⟨_, (pss_cons (ps_if (pt_not (PW.pt (pw_and (pt_val (pe_callB call_isi (by rfl) m_isinstance boot_isinstance (pa_cons (pv 0) (pa_cons (pe_bltn (v := .ty "tuple") (by rfl) m_tuple (by decide +kernel) rfl) pa_nil)))) (pw_and1 (pt_chain op_le op_le pe_int (pe_callB call_len_seq (by rfl) m_len PySem.boot_len (pa_cons (pv 0) pa_nil)) (pe_glob (v := .int 8) (by rfl) c_MOST_ENTRIES ⟨_, rfl⟩)))))) (pss_one (ps_ret pe_bl)) pss_nil)
      (pss_cons (ps_if (pt_not (pt_val (pe_allG (own := [("entry", 2)]) (k := 2) (g := (gName 2)) (tt := tYes) (te := (tOrV (tIsN (tVar 2)) (tCall (spWithin K) [] E0 (tCons (tVar 2) (tCons (tC (.int 0)) (tCons (tOp (rI0 fun i j => .int (i - j)) (tCB (rLen K) (tCons (tVar 0) tNil)) (tC (.int 1))) tNil)))))) (hr.mono (by decide)) (by rfl) m_all rfl scAreWaysG.nd TB rfl (gsc_by (N := N_scAreWaysG) (sc := defScope sAreWaysG) (by decide +kernel)) (pi_tup (pv 0)) (fun A' hr' _ _ _ _ _ _ => (pg_name (i := 2) scAreWaysG.nd rfl (.inl rfl))) (fun A' hr' _ _ _ _ _ _ => pts_nil) (fun A' hr' _ _ _ _ _ _ => (pe_or (pe_cmp (pc_isN (pv 2))) (pe_one (pe_call G_within (hr'.mono (by decide)) (by rfl) g_within k_within b_within .nil pass0 (pa_cons (pv 2) (pa_cons pe_int (pa_cons (pe_op op_sub (pe_callB call_len_seq (by rfl) m_len PySem.boot_len (pa_cons (pv 0) pa_nil)) pe_int) pa_nil)))))))))) (pss_one (ps_ret pe_bl)) pss_nil)
      (pss_cons (ps_if (pt_cmpR op_ne (pe_callB call_len_seq (by rfl) m_len PySem.boot_len (pa_cons (pe_lc (own := [("entry", 2)]) (g := (gName 2)) (tt := (tB (tIsN (tVar 2)))) (te := (tVar 2)) rfl scAreWaysG.nd (pi_tup (pv 0)) (blkOk_by (N := N_scAreWaysG) (sc := defScope sAreWaysG) (by decide +kernel)) (fun _ _ _ _ _ => (pg_name (i := 2) scAreWaysG.nd rfl (.inl rfl))) (fun _ _ _ _ _ => (pts_one (pt_cmp (pc_isN (pv 2))))) (fun _ _ _ _ _ => (pv 2))) pa_nil)) pe_int (nomark _)) (pss_one (ps_ret pe_bl)) pss_nil)
      (pss_one (ps_ret (pe_allG (own := [("place", 1)]) (k := 2) (g := (gName 1)) (tt := tYes) (te := (tCall (spLeadsG K) [] E0 (tCons (tVar 0) (tCons (tVar 1) tNil)))) (hr.mono (by decide)) (by rfl) m_all rfl scAreWaysG.nd TB rfl (gsc_by (N := N_scAreWaysG) (sc := defScope sAreWaysG) (by decide +kernel)) (pi_range1 (by rfl) m_range (pa_cons (pe_callB call_len_seq (by rfl) m_len PySem.boot_len (pa_cons (pv 0) pa_nil)) pa_nil)) (fun A' hr' _ _ _ _ _ _ => (pg_name (i := 1) scAreWaysG.nd rfl (.inl rfl))) (fun A' hr' _ _ _ _ _ _ => pts_nil) (fun A' hr' _ _ _ _ _ _ => (pe_call G_leadsup (hr'.mono (by decide)) (by rfl) g_leadsup k_leadsup b_leadsup .nil pass0 (pa_cons (pv 0) (pa_cons (pv 1) pa_nil)))))))))), ?_⟩
    rcases hA with ⟨d, hd, rfl⟩ | ⟨T, hT, hty, hne, rfl⟩
    · refine ⟨v, rfl, v, .ty "tuple", _, _, _, rfl, .ty "tuple", dp_ty hd, kit_ty (tys_tuple (tyD_mem d)), _, rfl, ite2 (fun e => ?_) (fun e => ?_)⟩
      · obtain ⟨ds, rfl⟩ : ∃ ds, d = .tuple ds := by cases d <;> first | exact ⟨_, rfl⟩ | (simp [tyD] at e)
        obtain ⟨p, xs, rfl, hS, hall⟩ := dp_tup hd
        have hln : xs.length = ds.length := dpAll_len hall
        have hsh : isWaysD (.tuple ds) = ((decide (1 ≤ ds.length) && decide (ds.length ≤ 8)) && (ds.all (entD ds.length) && (decide (((usD ds).filter Option.isNone).length = 1) && (List.range ds.length).all fun (i : Nat) => leadB (usD ds) (i : Int)))) := rfl
        rw [hsh] at q
        refine ⟨_, rfl, p, _, rfl, .inr hS, 1, _, rfl, rfl, _, rfl, ?_⟩
        by_cases h1 : 1 ≤ ds.length
        · rw [decide_eq_true (show (1 : Int) ≤ xs.length by omega)]
          refine iteT ⟨_, 8, rfl, rfl, _, rfl, ?_⟩
          by_cases h8 : ds.length ≤ 8
          · rw [decide_eq_true (show (xs.length : Int) ≤ 8 by omega)]
            rw [decide_eq_true h1, decide_eq_true h8, Bool.true_and, Bool.true_and] at q
            refine iteF ?_
            -- each entry
            refine ⟨_, rfl, p, rfl, ⟨_, hS⟩, tw, fun H2 hT2 => ?_⟩
            have k2 : K0 H H2 := K0.tbd tw hT2
            refine ⟨fun i m H3 => i + m = xs.length ∧ K0 H H3 ∧ ∀ (j : Nat) (d : PyData), j < i → ds[j]? = some d → entD ds.length d = true, ⟨xs.length, by omega, k2, fun j _ hj => absurd hj (Nat.not_lt_zero _)⟩, fun i m H3 hWi => ?_⟩
            obtain ⟨em, k3, hlt⟩ := hWi
            have hA : SqT K H3 p xs := k3.sqT hS
            by_cases hi : i < xs.length
            · have g1 : xs[i]? = some xs[i] := List.getElem?_eq_getElem hi
              obtain ⟨di, hdi, hDi⟩ := dpAll_get hall g1
              refine .inr ⟨⟨_, _, hA, g1⟩, fun H' => K0 H H' ∧ entD ds.length di = true, fun H' hN => ?_, fun x H' hy => ?_⟩
              · obtain ⟨k', hb'⟩ := hN
                refine ⟨m - 1, by omega, by omega, k', fun j d hj hd => ?_⟩
                by_cases e : j = i
                · subst e
                  rw [hdi] at hd; cases hd; exact hb'
                · exact hlt j d (by omega) hd
              · obtain ⟨rfl, fx⟩ := hy
                have ex : x = xs[i] := Option.some.inj ((fx _ hA).symm.trans g1)
                subst ex
                refine ⟨rfl, tyes ?_⟩
                refine ⟨_, rfl, _, rfl, ?_⟩
                rw [dp_none hDi]
                cases hn : isNoneD di with
                | true =>
                  have he : entD ds.length di = true := by unfold entD; rw [hn]; rfl
                  exact iteT ⟨_, rfl, iteT ⟨k3, he⟩⟩
                | false =>
                  refine iteF ⟨_, rfl, _, rfl, p, _, rfl, .inr hA, _, _, rfl, rfl, _, di, 0, _, rfl, K0.dp k3 di _ hDi, _, rfl, ?_⟩
                  have he : entD ds.length di = withinD di 0 ((xs.length : Int) - 1) := by unfold entD; rw [hn, hln]; rfl
                  rw [← he]
                  cases hb : entD ds.length di with
                  | true => exact iteT ⟨k3, rfl⟩
                  | false => exact iteF ⟨_, rfl, iteT (qeq (q _ k3) (by rw [all_no hdi hb, Bool.false_and]))⟩
            · refine .inl ⟨⟨_, hA, by omega⟩, _, rfl, iteF ?_⟩
              have hat : ds.all (entD ds.length) = true := all_yes fun j d hd => hlt j d (by
                have := (List.getElem?_eq_some_iff.mp hd).1
                omega) hd
              rw [hat, Bool.true_and] at q
              obtain ⟨us, eus, hrng⟩ := ents_oD hat
              subst eus
              obtain rfl := dpAll_oV hall
              rw [usD_oD] at q
              rw [List.length_map] at hrng h1 h8 hln q
              have hW : Rng us := ⟨h8, hrng⟩
              -- one root
              refine ⟨_, rfl, p, rfl, ⟨_, hA⟩, fun D nD => ?_⟩
              refine lc_tup (K := K) (a := p) (xs := us.map oV) (fun i H2 => K0 H3 H2 ∧ H2 D = some (.lst (((us.take i).filter Option.isNone).map oV))) ⟨K0.new nD, by rw [List.take_zero]; exact upd_same⟩ (fun i H2 _ h => h.1.sqT hA) (fun i x H2 hx h => ?_) (fun H2 h => ?_)
              · obtain ⟨k, hl2⟩ := h
                rw [List.getElem?_map] at hx
                cases ev : us[i]? with
                | none => rw [ev] at hx; cases hx
                | some v =>
                rw [ev] at hx
                cases hx
                have hi : i < us.length := (List.getElem?_eq_some_iff.mp ev).1
                rw [List.take_add_one, ev]
                cases v with
                | none =>
                  refine ⟨rfl, _, rfl, _, rfl, iteT ⟨_, rfl, _, hl2, Nat.lt_of_le_of_lt (m := 5000) (by
                    rw [List.length_map]
                    have := List.length_filter_le Option.isNone (us.take i)
                    have := List.length_take_le i us
                    omega) (by decide), k.mut nD, ?_⟩⟩
                  rw [List.filter_append, List.map_append]
                  exact upd_same
                | some u =>
                  refine ⟨rfl, _, rfl, _, rfl, iteF ⟨k, ?_⟩⟩
                  rw [List.filter_append]
                  show _ = some (HO.lst ((List.filter Option.isNone (us.take i) ++ []).map oV))
                  rw [List.append_nil]
                  exact hl2
              obtain ⟨k, hl2⟩ := h
              rw [List.length_map, List.take_of_length_le (Nat.le_refl _)] at hl2
              have k13 := k3.trans k
              refine ⟨D, _, rfl, .inl (.inl (.inl hl2)), rfl, _, rfl, ?_⟩
              rw [List.length_map]
              by_cases hone : (us.filter Option.isNone).length = 1
              · rw [decide_eq_true hone, Bool.true_and] at q
                rw [decide_eq_true (show V.int ((us.filter Option.isNone).length : Int) = V.int 1 by rw [hone]; rfl)]
                refine iteF ?_
                -- each way ends
                have hA2 := k13.sqT hS
                have tw2 := k13.tab _ tw
                have hlm : (us.map oV).length = us.length := List.length_map ..
                refine ⟨_, rfl, p, _, rfl, .inr hA2, _, rfl, by rw [hlm]; omega, by rw [hlm]; omega, tw2, fun H4 hT4 => ?_⟩
                have k4 := k13.trans (K0.tbd tw2 hT4)
                refine ⟨fun i m H5 => i + m = us.length ∧ K0 H H5 ∧ ∀ j : Nat, j < i → leadB us (j : Int) = true, ⟨us.length, by omega, k4, fun j hj => absurd hj (Nat.not_lt_zero _)⟩, fun i m H5 hWi => ?_⟩
                obtain ⟨em, k5, hle⟩ := hWi
                by_cases hi : i < us.length
                · refine .inr ⟨(show i < ((us.map oV).length : Int).toNat by rw [hlm]; omega), fun H' => K0 H H' ∧ leadB us (i : Int) = true, fun H' hN => ⟨m - 1, by omega, by omega, hN.1, fun j hj => ?_⟩, fun x H' hy => ?_⟩
                  · by_cases e : j = i
                    · subst e; exact hN.2
                    · exact hle j (by omega)
                  · obtain ⟨rfl, rfl⟩ := hy
                    refine ⟨rfl, tyes ⟨_, rfl, _, rfl, p, us, 0 + (i : Int), rfl, k5.sqT hS, hW, by omega, by omega, _, rfl, ?_⟩⟩
                    rw [show (0 : Int) + (i : Int) = (i : Int) by omega]
                    cases hb : leadB us (i : Int) with
                    | true => exact iteT ⟨k5, rfl⟩
                    | false => exact iteF (qeq (q _ k5) (by rw [List.all_eq_false]; exact ⟨i, List.mem_range.mpr hi, by rw [hb]; decide⟩))
                · exact .inl ⟨(show ((us.map oV).length : Int).toNat ≤ i by rw [hlm]; omega), qeq (q _ k5) (by
                    rw [List.all_eq_true]
                    intro j hj
                    have := List.mem_range.mp hj
                    exact hle j (by omega))⟩
              · rw [decide_eq_false (show ¬ V.int ((us.filter Option.isNone).length : Int) = V.int 1 from fun z => hone (by have := V.int.inj z; omega))]
                rw [decide_eq_false hone, Bool.false_and] at q
                exact iteT (q _ k13)
          · rw [decide_eq_false (show ¬ (xs.length : Int) ≤ 8 by omega)]
            rw [decide_eq_false h8, Bool.and_false, Bool.false_and] at q
            exact iteT (q _ (K0.refl _))
        · rw [decide_eq_false (show ¬ (1 : Int) ≤ xs.length by omega)]
          rw [decide_eq_false h1, Bool.false_and, Bool.false_and] at q
          exact iteF ⟨_, rfl, iteT (q _ (K0.refl _))⟩
      · have e' : (tyD d == "tuple") = false := by simpa using e
        have : isWaysD d = false := by cases d <;> first | rfl | (simp [tyD] at e')
        rw [this] at q
        exact iteT (q _ (K0.refl _))
    · refine ⟨v, rfl, v, .ty "tuple", _, _, _, rfl, .ty "tuple", hty, kit_ty (tys_tuple hT), _, rfl, ?_⟩
      rw [hne]
      exact iteF (iteT (q _ (K0.refl _)))
def spNeedWaysG (K : PySem.W.Frag) (Pw : Addr) : Sp := fun vs H Q _ => ∃ (v : V), vs = [v] ∧ WaysAns K H v true ∧ TabG H Pw ∧ ∀ H', K0 H H' → Q .non H'
theorem ok_needWaysG {f Pw : Addr} {fd : FuncData} {f_areways : Addr} {fd_areways : FuncData} (F : Fun K "need_ways" "need_ways" sNeedWaysG f fd) (k_areways : PySem.W.keepIn K (.ref f_areways) = true) (b_areways : Binds K fd_areways ["thing"] []) (g_areways : mg "are_ways" = some (.ref f_areways)) (G_areways : FnOk P w K mg base CX0 4 f_areways fd_areways ["thing"] (spAreWaysG K Pw)) : FnOk P w K mg base CX0 5 f fd ["up"] (spNeedWaysG K Pw) := by
  refine F.ok scNeedWaysG (fun vs H Q E h => ?_) (fun cdv A outer s H vs Q E hr h => ?_)
  · obtain ⟨v, rfl, _⟩ := h
    rfl
  · obtain ⟨v, rfl, hA, tw, q⟩ := h
    refine ⟨_, (pss_one (ps_if (pt_not (pt_val (pe_call G_areways hr (by rfl) g_areways k_areways b_areways .nil pass0 (pa_cons (pv 0) pa_nil)))) pss_never pss_nil)), ?_⟩
    exact ⟨_, rfl, v, true, rfl, hA, tw, fun H' k => ⟨_, rfl, iteF (q H' k)⟩⟩
end
end HK

set_option Elab.async false
set_option linter.all false
set_option maxRecDepth 100000
set_option maxHeartbeats 4000000
namespace HK
open PySem PySem.Spec PyProof.Rows L2 GAl GxR
abbrev sGoodW : Stmt := topS 21
abbrev N_scGoodW : List Str := ["thing", "ahead", "place", "one", "turn"]
theorem scGoodW : FnScope N_scGoodW ["thing"] (defScope sGoodW) := ⟨rfl, rfl, rfl, by decide +kernel, rfl, by decide +kernel, by decide +kernel⟩
theorem none_len {us : List (Option Int)} : ((us.map oD).filter isNoneD).length = (us.filter Option.isNone).length := by
  induction us with
  | nil => rfl
  | cons o us ih =>
    cases o with
    | none => show (PyData.none :: List.filter isNoneD (us.map oD)).length = _; rw [List.length_cons, ih]; rfl
    | some i => exact ih
/-- what the entries must be, ahead of the count -/
theorem ways_bad {ds : List PyData} (h : ds.length ≤ 8 → ds.all (entD ds.length) = true → (ds.filter isNoneD).length = 1 → ∃ i : Nat, i < ds.length ∧ leadB (usD ds) (i : Int) = false) : isWaysD (.tuple ds) = false := by
  show ((decide (1 ≤ ds.length) && decide (ds.length ≤ 8)) && (ds.all (entD ds.length) && (decide (((usD ds).filter Option.isNone).length = 1) && (List.range ds.length).all fun (i : Nat) => leadB (usD ds) (i : Int)))) = false
  rw [Bool.eq_false_iff]
  intro z
  simp only [Bool.and_eq_true, decide_eq_true_iff] at z
  obtain ⟨⟨_, h8⟩, ha, hc, hl⟩ := z
  obtain ⟨us, rfl, _⟩ := ents_oD ha
  rw [usD_oD] at hc hl h
  obtain ⟨i, hi, hf⟩ := h h8 ha (by rw [none_len]; exact hc)
  have := List.all_eq_true.mp hl i (List.mem_range.mpr hi)
  rw [hf] at this
  cases this
theorem ways_ok {us : List (Option Int)} (h8 : us.length ≤ 8) (ha : (us.map oD).all (entD (us.map oD).length) = true) (hc : (us.filter Option.isNone).length = 1) (hl : ∀ i : Nat, i < us.length → leadB us (i : Int) = true) : isWaysD (.tuple (us.map oD)) = true := by
  show ((decide (1 ≤ (us.map oD).length) && decide ((us.map oD).length ≤ 8)) && ((us.map oD).all (entD (us.map oD).length) && (decide (((usD (us.map oD)).filter Option.isNone).length = 1) && (List.range (us.map oD).length).all fun (i : Nat) => leadB (usD (us.map oD)) (i : Int)))) = true
  have h1 : 1 ≤ us.length := by
    have := List.length_filter_le Option.isNone us
    omega
  rw [ha, usD_oD, hc, List.length_map, decide_eq_true h1, decide_eq_true h8, show (List.range us.length).all (fun (i : Nat) => leadB us (i : Int)) = true from List.all_eq_true.mpr fun i hi => hl i (List.mem_range.mp hi)]
  rfl
section
variable {P : Program} {w : World} {K : PySem.W.Frag} {mg : Str → Option Value} {base : Heap}
def spGoodW (K : PySem.W.Frag) : Sp := fun vs H Q _ => ∃ (v : V) (d : PyData), vs = [v] ∧ Dp K H v d ∧ ∀ H', K0 H H' → Q (.bl (isWaysD d)) H'
set_option maxHeartbeats 16000000 in
theorem ok_goodW {f : Addr} {fd : FuncData} (F : Fun K "_law_e_good" "_law_e_good" sGoodW f fd) (m_isinstance : mg "isinstance" = none) (m_tuple : mg "tuple" = none) (m_len : mg "len" = none) (m_int : mg "int" = none) (m_bool : mg "bool" = none) (m_range : mg "range" = none) :
    FnOk P w K mg base CX0 1 f fd ["thing"] (spGoodW K) := by
  refine F.ok scGoodW (fun vs H Q E h => ?_) (fun cdv A outer s H vs Q E hr h => ?_)
  · obtain ⟨v, d, rfl, _⟩ := h
    rfl
  · obtain ⟨v, d, rfl, hd, q⟩ := h
    have hu := hu_of hr
    refine ⟨_, (pss_cons (ps_if (PW.pt (pw_or (pt_not (pt_val (pe_callB call_isi (by rfl) m_isinstance boot_isinstance (pa_cons (pv 0) (pa_cons (pe_bltn (v := .ty "tuple") (by rfl) m_tuple (by decide +kernel) rfl) pa_nil))))) (pw_or (pt_cmpR op_gt (pe_callB call_len_seq (by rfl) m_len PySem.boot_len (pa_cons (pv 0) pa_nil)) pe_int (nomark _)) (pw_or1 (pt_cmpR op_ne (pe_callB call_len_seq (by rfl) m_len PySem.boot_len (pa_cons (pe_lc (own := [("ahead", 1)]) (g := (gName 1)) (tt := (tB (tIsN (tVar 1)))) (te := (tVar 1)) rfl scGoodW.nd (pi_tup (pv 0)) (blkOk_by (N := N_scGoodW) (sc := defScope sGoodW) (by decide +kernel)) (fun _ _ _ _ _ => (pg_name (i := 1) scGoodW.nd rfl (.inl rfl))) (fun _ _ _ _ _ => (pts_one (pt_cmp (pc_isN (pv 1))))) (fun _ _ _ _ _ => (pv 1))) pa_nil)) pe_int (nomark _)))))) (pss_one (ps_ret pe_bl)) pss_nil)
      (pss_cons (ps_for PassesOwn.never rfl (pi_tup (pv 0)) (pg_name (i := 1) scGoodW.nd rfl (.inl rfl))
      (pss_cons (ps_if (PW.pt (pw_and (pt_cmp (pc_notN (pv 1))) (pw_and1 (PW.pt (pw_or (pt_not (pt_val (pe_callB call_isi (by rfl) m_isinstance boot_isinstance (pa_cons (pv 1) (pa_cons (pe_bltn (v := .ty "int") (by rfl) m_int (by decide +kernel) rfl) pa_nil))))) (pw_or1 (pt_val (pe_callB call_isi (by rfl) m_isinstance boot_isinstance (pa_cons (pv 1) (pa_cons (pe_bltn (v := .ty "bool") (by rfl) m_bool (by decide +kernel) rfl) pa_nil)))))))))) (pss_one (ps_ret pe_bl)) pss_nil)
      (pss_one (ps_if (PW.pt (pw_and (pt_cmp (pc_notN (pv 1))) (pw_and1 (pt_not (pt_chain op_le op_lt pe_int (pv 1) (pe_callB call_len_seq (by rfl) m_len PySem.boot_len (pa_cons (pv 0) pa_nil))))))) (pss_one (ps_ret pe_bl)) pss_nil))))
      (pss_cons (ps_for PassesOwn.never rfl (pi_range1 (by rfl) m_range (pa_cons (pe_callB call_len_seq (by rfl) m_len PySem.boot_len (pa_cons (pv 0) pa_nil)) pa_nil)) (pg_name (i := 2) scGoodW.nd rfl (.inl rfl))
      (pss_cons (ps_set (i := 3) scGoodW.nd rfl (.inl rfl) (pv 2))
      (pss_cons (ps_for PassesOwn.never rfl (pi_range1 (by rfl) m_range (pa_cons (pe_callB call_len_seq (by rfl) m_len PySem.boot_len (pa_cons (pv 0) pa_nil)) pa_nil)) (pg_name (i := 4) scGoodW.nd rfl (.inl rfl))
      (pss_one (ps_if (pt_cmp (pc_notN (pe_ix ix_tup (pv 0) (pv 3) (fun _ _ => rfl)))) (pss_one (ps_set (i := 3) scGoodW.nd rfl (.inl rfl) (pe_ix ix_tup (pv 0) (pv 3) (fun _ _ => rfl)))) pss_nil)))
      (pss_one (ps_if (pt_cmp (pc_notN (pe_ix ix_tup (pv 0) (pv 3) (fun _ _ => rfl)))) (pss_one (ps_ret pe_bl)) pss_nil)))))
      (pss_one (ps_ret pe_bl))))), ?_⟩
    refine ⟨v, rfl, v, .ty "tuple", _, _, _, rfl, .ty "tuple", dp_ty hd, kit_ty (tys_tuple (tyD_mem d)), _, rfl, ?_⟩
    cases e : (tyD d == "tuple") with
    | false =>
      have : isWaysD d = false := by cases d <;> first | rfl | (simp [tyD] at e)
      rw [this] at q
      exact iteT (iteT (q _ (K0.refl _)))
    | true =>
    obtain ⟨ds, rfl⟩ : ∃ ds, d = .tuple ds := by cases d <;> first | exact ⟨_, rfl⟩ | (simp [tyD] at e)
    obtain ⟨p, xs, rfl, hS, hall⟩ := dp_tup hd
    have hln : xs.length = ds.length := dpAll_len hall
    refine iteF ⟨_, rfl, p, _, rfl, .inr hS, _, _, rfl, rfl, _, rfl, ?_⟩
    by_cases h8 : ds.length ≤ 8
    · rw [decide_eq_false (show ¬ (8 : Int) < xs.length by omega)]
      refine iteF ?_
      refine ⟨_, rfl, p, rfl, ⟨_, hS⟩, fun D nD => ?_⟩
      refine lc_tup (K := K) (a := p) (xs := xs) (fun i H2 => K0 H H2 ∧ ∃ zs, H2 D = some (.lst zs) ∧ zs.length = ((ds.take i).filter isNoneD).length) ⟨K0.new nD, [], upd_same, rfl⟩ (fun i H2 _ h => h.1.sqT hS) (fun i x H2 hx h => ?_) (fun H2 h => ?_)
      · obtain ⟨k, zs, hl2, hzl⟩ := h
        obtain ⟨di, hdi, hDi⟩ := dpAll_get hall hx
        have hi : i < ds.length := (List.getElem?_eq_some_iff.mp hdi).1
        have hlt := List.length_filter_le isNoneD (ds.take i)
        have hlt2 := List.length_take_le i ds
        refine ⟨rfl, _, rfl, _, rfl, ?_⟩
        rw [List.take_add_one, hdi, List.filter_append, List.length_append, dp_none hDi]
        cases hn : isNoneD di with
        | true =>
          refine iteT ⟨_, rfl, zs, hl2, Nat.lt_of_le_of_lt (m := 5000) (by omega) (by decide), k.mut nD, _, upd_same, ?_⟩
          rw [List.length_append, hzl]
          show _ + 1 = _ + (List.filter isNoneD [di]).length
          rw [List.filter_cons, hn]
          rfl
        | false =>
          refine iteF ⟨k, zs, hl2, ?_⟩
          rw [hzl]
          show _ = _ + (List.filter isNoneD [di]).length
          rw [List.filter_cons, hn]
          rfl
      obtain ⟨k, zs, hl2, hzl⟩ := h
      rw [List.take_of_length_le (by omega)] at hzl
      refine ⟨D, _, rfl, .inl (.inl (.inl hl2)), rfl, _, rfl, ?_⟩
      by_cases hone : (ds.filter isNoneD).length = 1
      · rw [decide_eq_true (show V.int (zs.length : Int) = V.int 1 by rw [hzl, hone]; rfl)]
        refine iteF ?_
        -- the entries
        refine ⟨_, rfl, p, rfl, ⟨_, k.sqT hS⟩, for_tup (K := K) (a := p) (xs := xs) (fun i σ' H' => ∃ y1, σ' = [some (.ref p), y1, none, none, none] ∧ K0 H H' ∧ ∀ (j : Nat) (d : PyData), j < i → ds[j]? = some d → entD ds.length d = true)
          ⟨none, rfl, k, fun j _ hj => absurd hj (Nat.not_lt_zero _)⟩ (fun i σ' H' _ h => ?_) (fun i x σ' H' hx h => ?_) (fun σ' H' h => ?_)⟩
        · obtain ⟨_, _, k', _⟩ := h
          exact k'.sqT hS
        · obtain ⟨y1, rfl, k', hlt⟩ := h
          obtain ⟨di, hdi, hDi⟩ := dpAll_get hall hx
          have bad : entD ds.length di = false → isWaysD (.tuple ds) = false := fun hb => ways_bad fun _ ha _ => by
            have := List.all_eq_true.mp ha di (List.mem_of_getElem? hdi)
            rw [hb] at this
            cases this
          have nxt : entD ds.length di = true → ∀ (j : Nat) (d : PyData), j < i + 1 → ds[j]? = some d → entD ds.length d = true := fun hb j d hj hd' => by
            by_cases e : j = i
            · subst e
              rw [hdi] at hd'
              cases hd'
              exact hb
            · exact hlt j d (by omega) hd'
          have hDx := K0.dp k' di _ hDi
          have hS' := k'.sqT hS
          refine ⟨_, rfl, _, rfl, ?_⟩
          rw [dp_none hDi]
          cases hn : isNoneD di with
          | true =>
            refine iteF (iteF ⟨_, rfl, _, rfl, ?_⟩)
            rw [dp_none hDi, hn]
            exact iteF (iteF ⟨_, rfl, k', nxt (by unfold entD; rw [hn]; rfl)⟩)
          | false =>
            refine iteT ⟨x, rfl, x, .ty "int", _, _, _, rfl, .ty "int", dp_ty hDx, kit_ty (tys_int (tyD_mem di)), _, rfl, ?_⟩
            cases e1 : (tyD di == "int" || tyD di == "bool") with
            | false =>
              have hb : entD ds.length di = false := by
                unfold entD
                rw [hn]
                cases di <;> first | rfl | (simp [tyD] at e1)
              have := bad hb
              rw [this] at q
              exact iteT (iteT (q _ k'))
            | true =>
              refine iteF ⟨x, rfl, x, .ty "bool", _, _, _, rfl, .ty "bool", dp_ty hDx, kit_ty (tys_bool (tyD_mem di)), _, rfl, ?_⟩
              cases e2 : (tyD di == "bool") with
              | true =>
                have hb : entD ds.length di = false := by
                  unfold entD
                  rw [hn]
                  cases di <;> first | rfl | (simp [tyD] at e2)
                have := bad hb
                rw [this] at q
                exact iteT (q _ k')
              | false =>
                obtain ⟨u, rfl⟩ : ∃ u, di = .int u := by cases di <;> first | exact ⟨_, rfl⟩ | (simp [tyD] at e1 e2)
                obtain rfl := dp_int' hDi
                refine iteF ⟨_, rfl, _, rfl, iteT ⟨_, rfl, _, _, rfl, rfl, _, rfl, ?_⟩⟩
                have he : entD ds.length (.int u) = (decide (0 ≤ u) && decide (u ≤ (ds.length : Int) - 1)) := rfl
                by_cases u0 : 0 ≤ u
                · rw [decide_eq_true u0]
                  refine iteT ⟨_, rfl, p, _, rfl, .inr hS', _, _, rfl, rfl, _, rfl, ?_⟩
                  by_cases u1 : u < ds.length
                  · rw [decide_eq_true (show u < xs.length by omega)]
                    exact iteF ⟨_, rfl, k', nxt (by rw [he, decide_eq_true u0, decide_eq_true (by omega)]; rfl)⟩
                  · rw [decide_eq_false (show ¬ u < xs.length by omega)]
                    have := bad (by rw [he, decide_eq_true u0, decide_eq_false (by omega)]; rfl)
                    rw [this] at q
                    exact iteT (q _ k')
                · rw [decide_eq_false u0]
                  have := bad (by rw [he, decide_eq_false u0]; rfl)
                  rw [this] at q
                  exact iteF ⟨_, rfl, iteT (q _ k')⟩
        · obtain ⟨y1, rfl, k', hlt⟩ := h
          have hat : ds.all (entD ds.length) = true := all_yes fun j d hd => hlt j d (by
            have := (List.getElem?_eq_some_iff.mp hd).1
            omega) hd
          obtain ⟨us, rfl, hrng⟩ := ents_oD hat
          obtain rfl := dpAll_oV hall
          rw [none_len] at hone
          rw [List.length_map] at hrng h8 hln
          have hW : Rng us := ⟨h8, hrng⟩
          have hlm : (us.map oV).length = us.length := List.length_map ..
          have hS' := k'.sqT hS
          refine ⟨_, rfl, p, _, rfl, .inr hS', _, rfl, by rw [hlm]; omega, by rw [hlm]; omega, for_range (lo := 0) (n := (us.map oV).length) (fun i σ' H' => ∃ y2 y3 y4, σ' = [some (.ref p), y1, y2, y3, y4] ∧ K0 H H' ∧ ∀ j : Nat, j < i → leadB us (j : Int) = true)
            ⟨none, none, none, rfl, k', fun j hj => absurd hj (Nat.not_lt_zero _)⟩ (fun i σ' H' hi h => ?_) (fun σ' H' h => ?_)⟩
          · obtain ⟨y2, y3, y4, rfl, k'', hle⟩ := h
            have hi' : i < us.length := by rw [hlm] at hi; exact hi
            have hS2 := k''.sqT hS
            refine ⟨_, rfl, ?_⟩
            refine ⟨_, rfl, p, _, rfl, .inr hS2, _, rfl, by rw [hlm]; omega, by rw [hlm]; omega, for_range (lo := 0) (n := (us.map oV).length) (fun m σ' H' => ∃ y4, σ' = [some (.ref p), y1, some (.int (0 + (i : Int))), some (.int (clm (upF us) m (i : Int))), y4] ∧ K0 H H')
              ⟨_, by rw [show (0 : Int) + (i : Int) = (i : Int) by omega]; rfl, k''⟩ (fun m σ' H' hm h => ?_) (fun σ' H' h => ?_)⟩
            · obtain ⟨y4, rfl, k3⟩ := h
              obtain ⟨c0, c1⟩ := clm_rngG hW (show (0 : Int) ≤ (i : Int) by omega) (by omega) m
              have hS3 := k3.sqT hS
              refine ⟨_, rfl, _, rfl, p, _, _, _, rfl, rfl, hS3, up_at c0 c1, ?_⟩
              cases e : upF us (clm (upF us) m (i : Int)) with
              | none =>
                refine ⟨_, rfl, iteF ⟨some (.int (0 + (m : Int))), ?_, k3⟩⟩
                rw [show clm (upF us) (m + 1) (i : Int) = clm (upF us) m (i : Int) from stp_none e]
                rfl
              | some u =>
                refine ⟨_, rfl, iteT ⟨_, rfl, _, rfl, p, _, _, _, rfl, rfl, hS3, up_at c0 c1, ?_⟩⟩
                rw [e]
                refine ⟨some (.int (0 + (m : Int))), ?_, k3⟩
                rw [show clm (upF us) (m + 1) (i : Int) = u from stp_some e]
                rfl
            · obtain ⟨y4, rfl, k3⟩ := h
              rw [hlm]
              obtain ⟨c0, c1⟩ := clm_rngG hW (show (0 : Int) ≤ (i : Int) by omega) (by omega) us.length
              have hS3 := k3.sqT hS
              refine ⟨_, rfl, _, rfl, p, _, _, _, rfl, rfl, hS3, up_at c0 c1, ?_⟩
              cases e : upF us (clm (upF us) us.length (i : Int)) with
              | none =>
                refine ⟨_, rfl, iteF ⟨_, _, _, rfl, k3, fun j hj => ?_⟩⟩
                by_cases ej : j = i
                · subst ej
                  unfold leadB
                  rw [e]
                  rfl
                · exact hle j (by omega)
              | some u =>
                have : isWaysD (.tuple (us.map oD)) = false := ways_bad fun _ _ _ => ⟨i, by rw [List.length_map]; exact hi', by rw [usD_oD]; unfold leadB; rw [e]; rfl⟩
                rw [this] at q
                exact ⟨_, rfl, iteT (q _ k3)⟩
          · obtain ⟨y2, y3, y4, rfl, k'', hle⟩ := h
            have : isWaysD (.tuple (us.map oD)) = true := ways_ok h8 hat hone fun j hj => hle j (by rw [hlm]; exact hj)
            rw [this] at q
            exact q _ k''
      · rw [decide_eq_false (show ¬ V.int (zs.length : Int) = V.int 1 from fun z => hone (by have := V.int.inj z; omega))]
        have : isWaysD (.tuple ds) = false := ways_bad fun _ _ hc => absurd hc hone
        rw [this] at q
        exact iteT (q _ k)
    · rw [decide_eq_true (show (8 : Int) < xs.length by omega)]
      have : isWaysD (.tuple ds) = false := ways_bad fun h _ _ => absurd h h8
      rw [this] at q
      exact iteT (iteT (q _ (K0.refl _)))
end
end HK

set_option Elab.async false
set_option linter.all false
set_option maxRecDepth 100000
set_option maxHeartbeats 2000000
/-! list(d.values()); set(t) of a tuple of whole numbers -/
namespace HkL
open PySem PySem.Spec PyProof.Rows L2
section
variable {X : Cx} {e : Expr} {te : TE} {p apos cpos pos : Pos}
def tListVals (te : TE) : TE := fun σ H Q => te σ H fun x H1 => ∃ (d : Addr) (kvs : List (Key × V)), x = .ref d ∧ Rd H1 d (.dK kvs) ∧ kvs.length ≤ sizeLine ∧ ∀ q, H1 q = none → Q (.ref q) (upd H1 q (.lst (kvs.map (·.2))))
theorem dict_at {pins : List (Addr × Obj)} {σ : L2.St} {H : Hp} {s : Shared} {d : Addr} {kvs : List (Key × V)} (I : Inv X pins σ H s) (h : Rd H d (.dK kvs)) : ∃ vs ep, KV kvs vs ∧ s.heap.DictAt (mixKind X.prog X.w) d vs ep ∧ (d == sysModules) = false := by
  rcases h with h | ⟨o, h⟩
  · obtain ⟨z, lo, vs, rk, hd⟩ := (show ObjOk X.prog X.w H s.heap d (.dK kvs) from I.hok d _ h)
    obtain ⟨ep, hat⟩ := hd.dictAt
    exact ⟨vs, ep, rk, hat, lo⟩
  · obtain ⟨hs, hgd, hx, es, ep, vs, hdt, hsz, kv, hm⟩ := I.frzK h
    exact ⟨vs, ep, kv, hm, hs⟩
theorem pe_listVals (hc : X.calm = true) (he : PE X e te) (hg : Gl X "list") (hm : X.mg "list" = none) (hv : bootBuiltins "list" = some (.type "list")) (hbase : attributeBase e "values" X.env (eval e X.env) = eval e X.env := by rfl) (hline : (apos.endLine == cpos.line) = true := by rfl)
    (hs : starEach [.Call (.Attribute e "values" apos) [] [] cpos] X.env = (false, eval (.Call (.Attribute e "values" apos) [] [] cpos) X.env) :: starEach [] X.env := by rfl) :
    PE X (.Call (.Name "list" p) [.Call (.Attribute e "values" apos) [] [] cpos] [] pos) (tListVals te) := by
  refine ⟨fun pins s σ H Q I hq => ?_⟩
  refine wpAny_Call_Name_kw (ld_blt I hg hm hv ?_)
  refine PyProof.Rows.callWith_type1 ?_ hs rfl
  rw [hs]
  show wpAny _ _ (spliced ((false, eval (.Call (.Attribute e "values" apos) [] [] cpos) X.env) :: backTo pos (starEach [] X.env))) _ _ s
  refine Calls.spliced_cons ?_
  refine wpAny_Call_method (T := "dict") (id := "dict.values") hbase rfl hline F.plainAttrs_dict F.slot_dict_values F.type_dict_values (thn (he.run pins s σ H _ I hq) fun u s1 ⟨x, H1, I1, rx, d, kvs, ex, hd, hz, q⟩ => ?_)
  subst ex
  obtain rfl : u = Value.ref d := rx
  obtain ⟨vs, ep, kv, hat, hs0⟩ := dict_at I1 hd
  have hdo := hat.dictOf
  have lk : kvs.length = vs.length := Paired.length kv
  have I2 : Inv X pins σ H1 { s1 with heap := s1.heap.push { cls := .type "dict_values", data := .fields #[.ref d] } } := I1.kept (t' := s1.toks) fun b ob q => Heap.get?_push_of_some _ q
  refine ⟨hdo.typeIs, hdo.mapOf.noDict, ?_⟩
  show wpAny _ _ (callWith cpos (.builtin "dict.values") [.ref d] [] []) _ X.xe s1
  refine method_meetsIn F.slot_dict_values F.entry_dict_values rfl (PySem.evalArgs_none ⟨rfl, hdo.typeIs, F.args_dict_values_1 _, _, meets_dict_values (mixKind X.prog X.w) d hs0, ⟨vs, hdo⟩, ?_⟩)
  refine Calls.spliced_nil ?_
  refine PySem.W.kdl_call (PySem.W.kdl_values (knd := mixKind X.prog X.w) (kvs := vs) (ep := ep) (r := s1.heap.objs.size) (d := d)) (I1.ok.hd hc) ⟨⟨_, Heap.get?_push_size _ rfl, rfl, rfl⟩, hat.push _⟩ (by rw [← lk]; exact hz) fun h' tk acc' c' hkeep hS hacc => ?_
  refine ⟨.ref _, upd H1 _ (.lst (kvs.map (·.2))), I2.laid hkeep (Nat.le_refl _) (show ObjOk X.prog X.w _ _ _ (.lst (kvs.map (·.2))) from ⟨?_, acc'.toList, c', ?_, ?_⟩), rfl, q _ (I2.hok.fresh (Nat.le_refl _))⟩
  · rw [List.length_map]; exact hz
  · have el : acc'.toList.length = acc'.size := by simp
    refine vals_of_at (by rw [List.length_map, el, hacc.1, lk]) fun j x w h1 h2 => ?_
    obtain ⟨k, hky⟩ := hacc.2 j w (by rw [← Array.getElem?_toList]; exact h2)
    rw [List.getElem?_map] at h1
    cases e2 : kvs[j]? with
    | none => rw [e2] at h1; cases h1
    | some pk =>
      rw [e2] at h1
      cases h1
      obtain ⟨qv, g1, g2, g3⟩ := LiI.paired_get kv e2
      rw [hky] at g1
      cases g1
      exact g3
  · rw [Array.toArray_toList]; exact hS
/-- tuple(l), tuple(t) -/
def rTup (K : PySem.W.Frag) : List V → Hp → VK → Prop := fun xs H Q => ∃ p ys, xs = [.ref p] ∧ ((SqL K H p ys ∧ ∀ l, H l = none → Q (.ref l) (upd H l (.tup ys))) ∨ (SqT K H p ys ∧ Q (.ref p) H))
theorem call_tupR : CallR X (.type "tuple") (rTup X.K) := call_tuple_of
/-- set(t) -/
def rSetT (K : PySem.W.Frag) (w : World) : List V → Hp → VK → Prop := fun vs H Q => ∃ (l : Addr) (ns : List Int), vs = [.ref l] ∧ SqT K H l (ns.map V.int) ∧ ns.length ≤ 1000 ∧ ∀ (p : Addr) (c : Nat), H p = none → c ≤ ns.length → Q (.ref p) (upd H p (SetO w p (fun j => decide (j ∈ ns)) c))
theorem cr_setT (hc : X.calm = true) : CallR X (.type "set") (rSetT X.K X.w) := by
  intro pins s σ H vs us Q I r h
  obtain ⟨l, ns, rfl, hl, hb, q⟩ := h
  cases r with
  | cons r rr =>
    cases rr
    cases r
    obtain ⟨its, rv, pt, hz⟩ := I.tuple hl
    have hi : IntsAre its.toArray.toList ns := ints_of_vals rv
    refine call_set_tupI ns (I.ok.hd hc) (show s.heap.IsTuple l its.toArray from pt) hi (by unfold scanBound; omega) fun h' tk c R1 hcn k => ?_
    exact ⟨.ref _, upd H s.heap.objs.size (SetO X.w s.heap.objs.size (fun j => decide (j ∈ ns)) c), I.laid k (Nat.le_refl _) (setO_new R1), rfl, q _ c (I.hok.fresh (Nat.le_refl _)) hcn⟩
end
end HkL

set_option Elab.async false
set_option linter.all false
set_option maxRecDepth 100000
set_option maxHeartbeats 4000000
namespace HK
open PySem PySem.Spec PyProof.Rows L2 GAl GxR
abbrev sRing : Stmt := topS 18
abbrev N_scRing : List Str := ["up", "place", "found", "one"]
theorem scRing : FnScope N_scRing ["up", "place"] (defScope sRing) := ⟨rfl, rfl, rfl, by decide +kernel, rfl, by decide +kernel, by decide +kernel⟩
abbrev sWithRoot : Stmt := topS 19
abbrev N_scWithRoot : List Str := ["found", "place"]
theorem scWithRoot : FnScope N_scWithRoot ["found", "place"] (defScope sWithRoot) := ⟨rfl, rfl, rfl, by decide +kernel, rfl, by decide +kernel, by decide +kernel⟩
/-! ### plain things without lists -/
mutual
def noL : PyData → Bool
  | .list _ => false
  | .tuple ds => noLs ds
  | _ => true
def noLs : List PyData → Bool
  | [] => true
  | d :: ds => noL d && noLs ds
end
mutual
theorem Kt.dpN {K : PySem.W.Frag} {t : Addr} {H H' : Hp} (k : Kt t H H') : ∀ (d : PyData) (v : V), noL d = true → Dp K H v d → Dp K H' v d
  | .none, _, _, h => by cases h; exact .non
  | .bool _, _, _, h => by cases h; exact .bl _
  | .int _, _, _, h => by cases h; exact .int _
  | .str _, _, _, h => by cases h; exact .str _
  | .list ds, _, n, h => by cases n
  | .tuple ds, _, n, h => by cases h with | tup a b => exact .tup (k.sqT a) (Kt.dpNs k ds _ n b)
  | .dict _, _, _, h => by cases h
theorem Kt.dpNs {K : PySem.W.Frag} {t : Addr} {H H' : Hp} (k : Kt t H H') : ∀ (ds : List PyData) (vs : List V), noLs ds = true → DpAll K H vs ds → DpAll K H' vs ds
  | [], _, _, h => by cases h; exact .nil
  | d :: ds, _, n, h => by
    have n : (noL d && noLs ds) = true := n
    rw [Bool.and_eq_true] at n
    cases h with | cons a b => exact .cons (Kt.dpN k d _ n.1 a) (Kt.dpNs k ds _ n.2 b)
end
/-- a plain value -/
def PV (K : PySem.W.Frag) (H : Hp) (x : V) : Prop := ∃ d, Dp K H x d ∧ noL d = true
/-- a tuple of at most n plain values -/
def PT (K : PySem.W.Frag) (H : Hp) (p : Addr) (n : Nat) : Prop := ∃ xs, SqT K H p xs ∧ xs.length ≤ n ∧ ∀ x ∈ xs, PV K H x
theorem PV.kt {K : PySem.W.Frag} {t : Addr} {H H' : Hp} {x : V} (h : PV K H x) (k : Kt t H H') : PV K H' x := by
  obtain ⟨d, h1, h2⟩ := h
  exact ⟨d, k.dpN d x h2 h1, h2⟩
theorem PV.k0 {K : PySem.W.Frag} {H H' : Hp} {x : V} (h : PV K H x) (k : K0 H H') : PV K H' x := h.kt (k.kt (t := 0))
theorem PT.kt {K : PySem.W.Frag} {t : Addr} {H H' : Hp} {p : Addr} {n : Nat} (h : PT K H p n) (k : Kt t H H') : PT K H' p n := by
  obtain ⟨xs, h1, h2, h3⟩ := h
  exact ⟨xs, k.sqT h1, h2, fun x hx => (h3 x hx).kt k⟩
theorem PT.k0 {K : PySem.W.Frag} {H H' : Hp} {p : Addr} {n : Nat} (h : PT K H p n) (k : K0 H H') : PT K H' p n := h.kt (k.kt (t := 0))
theorem PT.le {K : PySem.W.Frag} {H : Hp} {p : Addr} {n m : Nat} (h : PT K H p n) (l : n ≤ m) : PT K H p m := by
  obtain ⟨xs, h1, h2, h3⟩ := h
  exact ⟨xs, h1, Nat.le_trans h2 l, h3⟩
theorem dps_of {K : PySem.W.Frag} {H : Hp} : ∀ {xs : List V}, (∀ x ∈ xs, PV K H x) → ∃ ds, DpAll K H xs ds ∧ noLs ds = true
  | [], _ => ⟨[], .nil, rfl⟩
  | x :: xs, h => by
    obtain ⟨d, h1, h2⟩ := h x (List.mem_cons_self ..)
    obtain ⟨ds, h3, h4⟩ := dps_of (xs := xs) fun y hy => h y (List.mem_cons_of_mem _ hy)
    exact ⟨d :: ds, .cons h1 h3, by show (noL d && noLs ds) = true; rw [h2, h4]; rfl⟩
theorem PT.pv {K : PySem.W.Frag} {H : Hp} {p : Addr} {n : Nat} (h : PT K H p n) : PV K H (.ref p) := by
  obtain ⟨xs, h1, _, h3⟩ := h
  obtain ⟨ds, h4, h5⟩ := dps_of h3
  exact ⟨.tuple ds, .tup h1 h4, h5⟩
theorem PV.non {K : PySem.W.Frag} {H : Hp} : PV K H .non := ⟨.none, .non, rfl⟩
theorem PV.int {K : PySem.W.Frag} {H : Hp} {i : Int} : PV K H (.int i) := ⟨.int i, .int i, rfl⟩
theorem pv_oV {K : PySem.W.Frag} {H : Hp} {us : List (Option Int)} : ∀ x ∈ us.map oV, PV K H x := fun x hx => by
  obtain ⟨o, _, rfl⟩ := List.mem_map.mp hx
  cases o with
  | none => exact .non
  | some i => exact .int
theorem PT.of_us {K : PySem.W.Frag} {H : Hp} {p : Addr} {us : List (Option Int)} (h : SqT K H p (us.map oV)) : PT K H p us.length := ⟨_, h, by rw [List.length_map]; exact Nat.le_refl _, pv_oV⟩
theorem PT.new {K : PySem.W.Frag} {H : Hp} {p : Addr} {xs : List V} (np : H p = none) (h : ∀ x ∈ xs, PV K H x) : PT K (upd H p (.tup xs)) p xs.length := ⟨xs, .inl (.inl upd_same), Nat.le_refl _, fun x hx => (h x hx).k0 (K0.new np)⟩
theorem PT.cat {K : PySem.W.Frag} {H : Hp} {p q : Addr} {n m : Nat} {Q : VK} (h : PT K H p n) (g : PT K H q m) (hz : n + m ≤ 1000) (hq : ∀ (b : Addr) (H' : Hp), K0 H H' → PT K H' b (n + m) → Q (.ref b) H') : rCatA K (.ref p) (.ref q) H Q := by
  obtain ⟨xs, h1, h2, h3⟩ := h
  obtain ⟨ys, g1, g2, g3⟩ := g
  refine ⟨p, q, xs, ys, rfl, rfl, h1, g1, by rw [sizeLine_eq]; omega, fun e => ?_, fun _ e => ?_, fun _ _ b nb => ?_⟩
  · exact hq q H (K0.refl _) ⟨ys, g1, by omega, g3⟩
  · exact hq p H (K0.refl _) ⟨xs, h1, by omega, h3⟩
  · refine hq b _ (K0.new nb) ((PT.new nb fun x hx => ?_).le (by rw [List.length_append]; omega))
    rcases List.mem_append.mp hx with hx | hx
    · exact h3 x hx
    · exact g3 x hx
theorem PT.slice {K : PySem.W.Frag} {H : Hp} {p : Addr} {n : Nat} {lo hi : Option Int} {Q : VK} (h : PT K H p n) (hq : ∀ (b : Addr) (H' : Hp), K0 H H' → PT K H' b n → Q (.ref b) H') : rSlA K (.ref p) lo hi H Q := by
  obtain ⟨xs, h1, h2, h3⟩ := h
  refine ⟨p, xs, rfl, h1, fun _ => hq p H (K0.refl _) ⟨xs, h1, h2, h3⟩, fun _ b nb => ?_⟩
  have sub : (cutV xs lo hi).Sublist xs := by
    unfold cutV
    exact (List.take_sublist ..).trans (List.drop_sublist ..)
  exact hq b _ (K0.new nb) ((PT.new nb fun x hx => h3 x (sub.mem hx)).le (Nat.le_trans sub.length_le h2))
section
variable {P : Program} {w : World} {K : PySem.W.Frag} {mg : Str → Option Value} {base : Heap}
def spWithRoot (K : PySem.W.Frag) : Sp := fun vs H Q _ => ∃ (p : Addr) (v : Int) (n : Nat), vs = [.ref p, .int v] ∧ PT K H p n ∧ n ≤ 100 ∧ ∀ (q : Addr) (H' : Hp), K0 H H' → PT K H' q (n + 1 + n) → Q (.ref q) H'
theorem ok_withroot {f : Addr} {fd : FuncData} (F : Fun K "_law_e_with_root" "_law_e_with_root" sWithRoot f fd) : FnOk P w K mg base CX0 1 f fd ["found", "place"] (spWithRoot K) := by
  refine F.ok scWithRoot (fun vs H Q E h => ?_) (fun cdv A outer s H vs Q E hr h => ?_)
  · obtain ⟨p, v, n, rfl, _⟩ := h
    rfl
  · obtain ⟨p, v, n, rfl, hp, hn, q⟩ := h
    have hu := hu_of hr
    refine ⟨_, (pss_one (ps_ret (pe_op op_catA (pe_op op_catA (pe_slice sl_tupA (pv 0) po_none (po_some (pv 1))) (pe_tup (pa_cons pe_non pa_nil))) (pe_slice sl_tupA (pv 0) (po_some (pe_op op_add (pv 1) pe_int)) po_none)))), ?_⟩
    refine ⟨_, rfl, _, rfl, _, rfl, PT.slice hp fun b H1 k1 hb => ?_⟩
    refine ⟨by rw [sizeLine_eq]; decide, fun c nc => ?_⟩
    have kc := K0.new nc (o := .tup [.non])
    have hc : PT K (upd H1 c (.tup [.non])) c 1 := PT.new nc fun x hx => by
      rcases List.mem_cons.mp hx with rfl | z
      · exact .non
      · cases z
    refine PT.cat (hb.k0 kc) hc (by omega) fun e H2 k2 he => ?_
    have k12 := (k1.trans kc).trans k2
    refine ⟨_, rfl, _, rfl, _, 1, rfl, rfl, _, rfl, ?_⟩
    unfold tNoPart
    refine PT.slice (hp.k0 k12) fun g H3 k3 hg => ?_
    exact PT.cat (he.k0 k3) hg (by omega) fun b2 H4 k4 h4 => q b2 H4 ((k12.trans k3).trans k4) h4
def spRing (K : PySem.W.Frag) : Sp := fun vs H Q _ => ∃ (p : Addr) (us : List (Option Int)) (v : Int), vs = [.ref p, .int v] ∧ SqT K H p (us.map oV) ∧ Ways us ∧ 0 ≤ v ∧ v < us.length ∧ ∀ (q : Addr) (H' : Hp), K0 H H' → PT K H' q us.length → Q (.ref q) H'
theorem ok_ring {f : Addr} {fd : FuncData} (F : Fun K "_law_e_ring" "_law_e_ring" sRing f fd) (m_list : mg "list" = none) (m_tuple : mg "tuple" = none) : FnOk P w K mg base CX0 1 f fd ["up", "place"] (spRing K) := by
  refine F.ok scRing (fun vs H Q E h => ?_) (fun cdv A outer s H vs Q E hr h => ?_)
  · obtain ⟨p, us, v, rfl, _⟩ := h
    rfl
  · obtain ⟨p, us, v, rfl, hp, hW, v0, v1, q⟩ := h
    have hu := hu_of hr
    refine ⟨_, (pss_cons (ps_set (i := 2) scRing.nd rfl (.inl rfl) (pe_callTy call_list_of (by rfl) m_list (by decide +kernel) (pa_cons (pv 0) pa_nil)))
      (pss_cons (ps_set (i := 3) scRing.nd rfl (.inl rfl) (pv 1))
      (pss_cons (ps_while PassesOwn.never (pt_cmp (pc_notN (pe_ix ix_list (pv 2) (pv 3) (fun _ _ => rfl))))
      (pss_one (ps_set (i := 3) scRing.nd rfl (.inl rfl) (pe_ix ix_list (pv 2) (pv 3) (fun _ _ => rfl)))))
      (pss_cons (ps_asg (pv 1) (pg_sub (pv 2) (pv 3) set_list))
      (pss_one (ps_ret (pe_callTy HkL.call_tupR (by rfl) m_tuple (by decide +kernel) (pa_cons (pv 2) pa_nil)))))))), ?_⟩
    refine ⟨_, rfl, p, _, rfl, .inr hp, fun L nL => ?_⟩
    have kL := K0.new nL (o := .lst (us.map oV))
    have hL : (upd H L (.lst (us.map oV))) L = some (.lst (us.map oV)) := upd_same
    obtain ⟨l, hl⟩ := hW.ends v v0 v1
    refine ⟨_, rfl, fun m σ' H' => ∃ (at_ : Int) (l' : List Int), σ' = [some (.ref p), some (.int v), some (.ref L), some (.int at_)] ∧ H' = upd H L (.lst (us.map oV)) ∧ Up (upF us) at_ l' ∧ 0 ≤ at_ ∧ at_ < us.length ∧ m = l'.length, ⟨l.length, v, l, rfl, rfl, hl, v0, v1, rfl⟩, ?_⟩
    rintro m σ' H' ⟨at_, l', rfl, rfl, hU, a0, a1, rfl⟩
    refine ⟨_, rfl, _, rfl, L, _, at_, _, rfl, rfl, .inl (.inl hL), up_at a0 a1, ?_⟩
    cases hU with
    | @step _ u l2 e h2 =>
      have hr := upF_rng hW e
      rw [e]
      refine ⟨_, rfl, iteT ⟨fun σ' H' => σ' = [some (.ref p), some (.int v), some (.ref L), some (.int u)] ∧ H' = upd H L (.lst (us.map oV)), fun σ' H' hN => ⟨l2.length, by rw [List.length_cons]; omega, u, l2, hN.1, hN.2, h2, hr.1, hr.2, rfl⟩, ?_⟩⟩
      refine ⟨_, rfl, _, rfl, L, _, at_, _, rfl, rfl, .inl (.inl hL), up_at a0 a1, ?_⟩
      rw [e]
      exact ⟨rfl, rfl⟩
    | top e =>
      rw [e]
      refine ⟨_, rfl, iteF ?_⟩
      refine ⟨_, rfl, _, rfl, _, rfl, L, _, at_, at_.toNat, rfl, rfl, hL, ?_, ?_⟩
      · rw [List.length_map]
        exact ixN_at a0 a1
      rw [upd_upd]
      have kS := K0.new nL (o := .lst ((us.map oV).set at_.toNat (.int v)))
      refine ⟨_, rfl, L, _, rfl, .inl ⟨.inl (.inl upd_same), fun q1 nq => ?_⟩⟩
      have kq := K0.new nq (o := .tup ((us.map oV).set at_.toNat (.int v)))
      refine q q1 _ (kS.trans kq) ((PT.new nq fun x hx => ?_).le (by rw [List.length_set, List.length_map]; exact Nat.le_refl _))
      rcases List.mem_or_eq_of_mem_set hx with hx | rfl
      · exact pv_oV x hx
      · exact .int
end
end HK

set_option Elab.async false
set_option linter.all false
set_option maxRecDepth 100000
set_option maxHeartbeats 4000000
namespace HK
open PySem PySem.Spec PyProof.Rows L2 GAl GxR
open Evl (pss_cut)
abbrev sSpoilt : Stmt := topS 20
abbrev N_scSpoilt : List Str := ["tray", "up", "n", "at", "far", "found", "bad", "others", "k"]
theorem scSpoilt : FnScope N_scSpoilt ["tray", "up"] (defScope sSpoilt) := ⟨rfl, rfl, rfl, by decide +kernel, rfl, by decide +kernel, by decide +kernel⟩
theorem few_sizeG {xs : List V} (h : xs.length ≤ 1000) : xs.length ≤ sizeLine := by
  rw [sizeLine_eq]
  omega
theorem shapedIG (ns : List Int) : SeqAt.shaped (.list (ns.map PyData.int)) = true := PySem.W.shaped_ints ns
theorem eqv_nilG : ∀ l : List Int, PyData.eqv (.list (l.map PyData.int)) (.list ([] : List PyData)) = l.isEmpty
  | [] => rfl
  | a :: l => rfl
/-- the list of spoilt things: plain values, and the list at l -/
def SL (K : PySem.W.Frag) (H : Hp) (G l : Addr) (m : Nat) : Prop := ∃ xs, H G = some (.lst xs) ∧ (∀ x ∈ xs, PV K H x ∨ x = .ref l) ∧ xs.length ≤ m
theorem SL.le {K : PySem.W.Frag} {H : Hp} {G l : Addr} {m n : Nat} (h : SL K H G l m) (e : m ≤ n) : SL K H G l n := by
  obtain ⟨xs, h1, h2, h3⟩ := h
  exact ⟨xs, h1, h2, Nat.le_trans h3 e⟩
theorem SL.k0 {K : PySem.W.Frag} {H H' : Hp} {G l : Addr} {m : Nat} (h : SL K H G l m) (k : K0 H H') : SL K H' G l m := by
  obtain ⟨xs, h1, h2, h3⟩ := h
  exact ⟨xs, k.oth G _ h1 (fun _ z => by cases z), fun x hx => (h2 x hx).imp (fun z => z.k0 k) id, h3⟩
theorem SL.kt {K : PySem.W.Frag} {t : Addr} {H H' : Hp} {G l : Addr} {m : Nat} (h : SL K H G l m) (k : Kt t H H') (n : G ≠ t) : SL K H' G l m := by
  obtain ⟨xs, h1, h2, h3⟩ := h
  exact ⟨xs, k.oth G _ h1 n (fun _ z => by cases z), fun x hx => (h2 x hx).imp (fun z => z.kt k) id, h3⟩
theorem SL.push {K : PySem.W.Frag} {H : Hp} {G l : Addr} {xs : List V} {x : V} {m : Nat} (h1 : H G = some (.lst xs)) (h2 : ∀ x ∈ xs, PV K H x ∨ x = .ref l) (h3 : xs.length ≤ m) (hx : PV K H x) : SL K (upd H G (.lst (xs ++ [x]))) G l (m + 1) := by
  have k := Kt.set h1 (ys := xs ++ [x])
  refine ⟨_, upd_same, fun y hy => ?_, by rw [List.length_append]; exact Nat.add_le_add_right h3 1⟩
  rcases List.mem_append.mp hy with hy | hy
  · exact (h2 y hy).imp (fun z => z.kt k) id
  · rcases List.mem_cons.mp hy with rfl | z
    · exact .inl (hx.kt k)
    · cases z
theorem SL.cat {K : PySem.W.Frag} {H : Hp} {F M G l : Addr} {m k : Nat} {xs ys : List V} (nG : H G = none) (h : ∀ x ∈ xs, PV K H x ∨ x = .ref l) (g : ∀ x ∈ ys, PV K H x ∨ x = .ref l) (hl : xs.length ≤ m) (gl : ys.length ≤ k) : SL K (upd H G (.lst (xs ++ ys))) G l (m + k) := by
  refine ⟨_, upd_same, fun x hx => ?_, by rw [List.length_append]; omega⟩
  rcases List.mem_append.mp hx with hx | hx
  · exact (h x hx).imp (fun z => z.k0 (K0.new nG)) id
  · exact (g x hx).imp (fun z => z.k0 (K0.new nG)) id
def PL (K : PySem.W.Frag) (H : Hp) (G : Addr) (m : Nat) : Prop := ∃ xs, H G = some (.lst xs) ∧ (∀ x ∈ xs, PV K H x) ∧ xs.length ≤ m
theorem PL.push {K : PySem.W.Frag} {H : Hp} {G : Addr} {xs : List V} {x : V} {m : Nat} (h1 : H G = some (.lst xs)) (h2 : ∀ x ∈ xs, PV K H x) (h3 : xs.length ≤ m) (hx : PV K H x) : PL K (upd H G (.lst (xs ++ [x]))) G (m + 1) := by
  have k := Kt.set h1 (ys := xs ++ [x])
  refine ⟨_, upd_same, fun y hy => ?_, by rw [List.length_append]; exact Nat.add_le_add_right h3 1⟩
  rcases List.mem_append.mp hy with hy | hy
  · exact (h2 y hy).kt k
  · rcases List.mem_cons.mp hy with rfl | z
    · exact hx.kt k
    · cases z
section
variable {P : Program} {w : World} {K : PySem.W.Frag} {mg : Str → Option Value} {base : Heap}
def spSpoilt (K : PySem.W.Frag) : Sp := fun vs H Q _ => ∃ (t sc : Addr) (ns : List Int) (b : Int) (p : Addr) (us : List (Option Int)), vs = [.ref t, .ref p] ∧ Tray K H t sc ns b ∧ b ≤ 900000 ∧ WaysAt H p us ∧ Ways us ∧
  ∀ (q : Addr) (xs : List V) (H' : Hp), Kt t H H' → Tray K H' t sc ns (b + 10) → H' q = some (.lst xs) → q ≠ t → (∀ x ∈ xs, ∃ d, Dp K H' x d) → Q (.ref q) H'
set_option maxHeartbeats 32000000 in
theorem ok_spoilt {f : Addr} {fd : FuncData} {f_draw f_ring f_withroot : Addr} {fd_draw fd_ring fd_withroot : FuncData} (F : Fun K "_law_e_spoilt" "_law_e_spoilt" sSpoilt f fd) (k_draw : PySem.W.keepIn K (.ref f_draw) = true) (b_draw : Binds K fd_draw ["tray", "many"] []) (g_draw : mg "_law_e_draw" = some (.ref f_draw)) (G_draw : FnOk P w K mg base CX0 2 f_draw fd_draw ["tray", "many"] (spDraw K))
    (k_ring : PySem.W.keepIn K (.ref f_ring) = true) (b_ring : Binds K fd_ring ["up", "place"] []) (g_ring : mg "_law_e_ring" = some (.ref f_ring)) (G_ring : FnOk P w K mg base CX0 1 f_ring fd_ring ["up", "place"] (spRing K))
    (k_withroot : PySem.W.keepIn K (.ref f_withroot) = true) (b_withroot : Binds K fd_withroot ["found", "place"] []) (g_withroot : mg "_law_e_with_root" = some (.ref f_withroot)) (G_withroot : FnOk P w K mg base CX0 1 f_withroot fd_withroot ["found", "place"] (spWithRoot K))
    (m_len : mg "len" = none) (m_range : mg "range" = none) (m_list : mg "list" = none) : FnOk P w K mg base CX0 3 f fd ["tray", "up"] (spSpoilt K) := by
  refine F.ok scSpoilt (fun vs H Q E h => ?_) (fun cdv A outer s H vs Q E hr h => ?_)
  · obtain ⟨t, sc, ns, b, p, us, rfl, _⟩ := h
    rfl
  · obtain ⟨t, sc, ns, b, p, us, rfl, tr, hb, hA, hW, q⟩ := h
    have hu := hu_of hr
    refine ⟨_, (pss_cons (ps_set (i := 2) scSpoilt.nd rfl (.inl rfl) (pe_callB call_len_seq (by rfl) m_len PySem.boot_len (pa_cons (pv 1) pa_nil)))
      (pss_cons (ps_set (i := 3) scSpoilt.nd rfl (.inl rfl) (pe_call G_draw (hr.mono (by decide)) (by rfl) g_draw k_draw b_draw .nil pass0 (pa_cons (pv 0) (pa_cons (pv 2) pa_nil))))
      (pss_cons (ps_set (i := 4) scSpoilt.nd rfl (.inl rfl) (pe_call G_draw (hr.mono (by decide)) (by rfl) g_draw k_draw b_draw .nil pass0 (pa_cons (pv 0) (pa_cons (pe_op op_pow pe_int pe_int) pa_nil))))
      (pss_cons (ps_set (i := 5) scSpoilt.nd rfl (.inl rfl) (pe_lst pa_nil))
      (pss_cons (ps_for PassesOwn.never rfl (pi_list (pe_lst (pa_cons (pv 3) (pa_cons (pe_un un_neg pe_int) (pa_cons (pv 2) (pa_cons (pe_op op_add (pv 2) (pv 4)) (pa_cons (pe_op op_sub (pe_un un_neg pe_int) (pv 4)) (pa_cons pe_bl (pa_cons pe_str (pa_cons (pe_tup (pa_cons pe_int pa_nil)) pa_nil)))))))))) (pg_name (i := 6) scSpoilt.nd rfl (.inl rfl))
      (pss_one (ps_expr (pe_bm PySem.F.plainAttrs_list PySem.F.slot_list_append PySem.F.type_list_append mt_append (pv 5) (pa_cons (pe_op op_catA (pe_op op_catA (pe_slice sl_tupA (pv 1) po_none (po_some (pv 3))) (pe_tup (pa_cons (pv 6) pa_nil))) (pe_slice sl_tupA (pv 1) (po_some (pe_op op_add (pv 3) pe_int)) po_none)) pa_nil)))))
      (pss_cons (ps_set (i := 5) scSpoilt.nd rfl (.inl rfl) (pe_op op_cat (pv 5) (pe_lst (pa_cons (pe_callTy call_list_of (by rfl) m_list (by decide +kernel) (pa_cons (pv 1) pa_nil)) (pa_cons (pe_op op_catA (pv 1) (pe_tup (pa_cons pe_non pa_nil))) (pa_cons (pe_op op_catA (pe_tup (pa_cons pe_non pa_nil)) (pv 1)) (pa_cons (pe_call G_ring (hr.mono (by decide)) (by rfl) g_ring k_ring b_ring .nil pass0 (pa_cons (pv 1) (pa_cons (pv 3) pa_nil))) (pa_cons (pe_op op_catA (pv 1) (pe_tup (pa_cons (pv 2) pa_nil))) pa_nil))))))))
      (pss_cons (ps_set (i := 5) scSpoilt.nd rfl (.inl rfl) (pe_op op_cat (pv 5) (pe_lst (pa_cons (pe_op op_catA (pe_tup (pa_cons pe_non pa_nil)) (pe_op op_repT (pe_tup (pa_cons pe_int pa_nil)) pe_int)) (pa_cons pe_non pa_nil)))))
      (pss_cons (ps_setLc (i := 7) (own := [("k", 8)]) (g := (gName 8)) (tt := (tB (tNotN (tOp (rIxT K) (tVar 1) (tVar 8))))) (te := (tVar 8)) rfl scSpoilt.nd rfl rfl (sw_true rfl rfl rfl rfl) (pi_range1 (by rfl) m_range (pa_cons (pv 2) pa_nil)) (blkOk_by (N := N_scSpoilt) (sc := defScope sSpoilt) (by decide +kernel)) (fun _ _ _ _ _ => (pg_name (i := 8) scSpoilt.nd rfl (.inl rfl))) (fun _ _ _ _ _ => (pts_one (pt_cmp (pc_notN (pe_ix ix_tup (pv 1) (pv 8) (fun _ _ => rfl)))))) (fun _ _ _ _ _ => (pv 8)))
      (pss_cut (ps_if (pt_cmpR (op_neD hr.units) (pv 7) (pe_lst pa_nil) (nomark _)) (pss_one (ps_expr (pe_bm PySem.F.plainAttrs_list PySem.F.slot_list_append PySem.F.type_list_append mt_append (pv 5) (pa_cons (pe_call G_withroot (hr.mono (by decide)) (by rfl) g_withroot k_withroot b_withroot .nil pass0 (pa_cons (pv 1) (pa_cons (pe_ix ix_list (pv 7) (pe_call G_draw (hr.mono (by decide)) (by rfl) g_draw k_draw b_draw .nil pass0 (pa_cons (pv 0) (pa_cons (pe_callB call_len_seq (by rfl) m_len PySem.boot_len (pa_cons (pv 7) pa_nil)) pa_nil))) (fun _ _ => rfl)) pa_nil))) pa_nil)))) pss_nil)
      (pss_cut (ps_if (pt_cmpR op_gt (pe_callB call_len_seq (by rfl) m_len PySem.boot_len (pa_cons (pv 7) pa_nil)) pe_int (nomark _)) (pss_one (ps_expr (pe_bm PySem.F.plainAttrs_list PySem.F.slot_list_append PySem.F.type_list_append mt_append (pv 5) (pa_cons (pe_call G_withroot (hr.mono (by decide)) (by rfl) g_withroot k_withroot b_withroot .nil pass0 (pa_cons (pe_call G_ring (hr.mono (by decide)) (by rfl) g_ring k_ring b_ring .nil pass0 (pa_cons (pv 1) (pa_cons (pe_ix ix_list (pv 7) pe_int (fun _ _ => rfl)) pa_nil))) (pa_cons (pe_ix ix_list (pv 7) pe_int (fun _ _ => rfl)) pa_nil))) pa_nil)))) pss_nil)
      (pss_one (ps_ret (pv 5))))))))))))), ?_⟩
    have hS := hA.sq (K := K)
    have w1 := hW.n1
    have w8 := hW.n8
    have hln : (us.map oV).length = us.length := List.length_map ..
    refine ⟨_, rfl, p, _, rfl, .inr hS, ?_⟩
    rw [hln]
    obtain ⟨n, en⟩ : ∃ n : Int, (us.length : Int) = n := ⟨_, rfl⟩
    rw [en]
    refine ⟨_, rfl, _, rfl, t, sc, n, ns, b, rfl, tr, by omega, by omega, by omega, fun at_ H1 a0 a1 k1 tr1 => ?_⟩
    refine ⟨_, rfl, 10, 20, rfl, rfl, ⟨by decide, by decide, by decide⟩, t, sc, _, ns, b + 1, rfl, tr1, by omega, by decide, by decide, fun far H2 f0 f1 k2 tr2 => ?_⟩
    have k12 := k1.trans k2
    refine ⟨few_sizeG (Nat.zero_le _), fun F nF => ?_⟩
    have kF := K0.new nF (o := .lst [])
    have hF : (upd H2 F (.lst [])) F = some (.lst []) := upd_same
    generalize upd H2 F (.lst []) = H3 at kF hF ⊢
    refine ⟨_, rfl, 1, rfl, _, rfl, _, rfl, _, rfl, n, far, rfl, rfl, 1, rfl, _, rfl, -1, far, rfl, rfl, few_sizeG (show 1 ≤ 1000 by decide), fun z nz => ?_⟩
    have kz := K0.new nz (o := .tup [.int 0])
    have Pz : PV K (upd H3 z (.tup [.int 0])) (.ref z) := (PT.new nz (xs := [.int 0]) fun x hx => by
      rcases List.mem_cons.mp hx with rfl | w
      · exact .int
      · cases w).pv
    generalize upd H3 z (.tup [.int 0]) = H4 at kz Pz ⊢
    refine ⟨few_sizeG (show 8 ≤ 1000 by decide), fun L nL => ?_⟩
    have kL := K0.new nL (o := .lst [.int at_, .int (-1), .int n, .int (n + far), .int (-1 - far), .bl true, .str "0", .ref z])
    have hL : (upd H4 L (.lst [.int at_, .int (-1), .int n, .int (n + far), .int (-1 - far), .bl true, .str "0", .ref z])) L = some (.lst [.int at_, .int (-1), .int n, .int (n + far), .int (-1 - far), .bl true, .str "0", .ref z]) := upd_same
    have hF4 := kz.oth F _ hF (fun _ w => by cases w)
    have hLF : L ≠ F := fun w => by rw [w, hF4] at nL; cases nL
    have Pz5 := Pz.k0 kL
    have k25 := (kF.trans kz).trans kL
    have S5 : PL K (upd H4 L (.lst [.int at_, .int (-1), .int n, .int (n + far), .int (-1 - far), .bl true, .str "0", .ref z])) F 0 := ⟨[], kL.oth F _ hF4 (fun _ w => by cases w), fun x hx => (by cases hx), Nat.le_refl _⟩
    generalize upd H4 L (.lst [.int at_, .int (-1), .int n, .int (n + far), .int (-1 - far), .bl true, .str "0", .ref z]) = H5 at kL hL Pz5 k25 S5 ⊢
    have cat3 : ∀ {H' : Hp} {x : V} {Q : VK}, PT K H' p us.length → PV K H' x → True := fun _ _ => trivial
    refine ⟨L, rfl, ⟨_, .inl (.inl hL)⟩, for_list (K := K) (a := L) (xs := [.int at_, .int (-1), .int n, .int (n + far), .int (-1 - far), .bl true, .str "0", .ref z]) (fun i σ' H' => ∃ y6, σ' = [some (.ref t), some (.ref p), some (.int n), some (.int at_), some (.int far), some (.ref F), y6, none, none] ∧ Kt F H5 H' ∧ K0 H2 H' ∧ PL K H' F i)
      ⟨none, rfl, Kt.refl _ _, k25, S5⟩ (fun i σ' H' _ h => ?_) (fun i x σ' H' hx h => ?_) (fun σ' H' h => ?_)⟩
    · obtain ⟨_, _, k, _⟩ := h
      exact k.sqL hLF (.inl (.inl hL))
    · obtain ⟨y6, rfl, k, kk, hSL⟩ := h
      have hxv : PV K H' x := by
        have : x ∈ [V.int at_, .int (-1), .int n, .int (n + far), .int (-1 - far), .bl true, .str "0", .ref z] := List.mem_of_getElem? hx
        simp only [List.mem_cons, List.not_mem_nil, or_false] at this
        rcases this with rfl | rfl | rfl | rfl | rfl | rfl | rfl | rfl
        · exact .int
        · exact .int
        · exact .int
        · exact .int
        · exact .int
        · exact ⟨.bool true, .bl _, rfl⟩
        · exact ⟨.str _, .str _, rfl⟩
        · exact Pz5.kt k
      have hi : i < 8 := (List.getElem?_eq_some_iff.mp hx).1
      have hP : PT K H' p us.length := (PT.of_us (kk.sqT (k12.sqT hS)))
      obtain ⟨xs, e1, e2, e3⟩ := hSL
      refine ⟨_, rfl, .inl ⟨rfl, _, .inl (.inl e1)⟩, _, rfl, _, rfl, _, rfl, PT.slice hP fun c G1 q1 hc => ?_⟩
      refine ⟨_, rfl, few_sizeG (show 1 ≤ 1000 by decide), fun e ne => ?_⟩
      have qe := K0.new ne (o := .tup [x])
      have he : PT K (upd G1 e (.tup [x])) e 1 := PT.new ne fun y hy => by
        rcases List.mem_cons.mp hy with rfl | w
        · exact hxv.k0 q1
        · cases w
      refine PT.cat (hc.k0 qe) he (by omega) fun c2 G2 q2 hc2 => ?_
      have q12 := (q1.trans qe).trans q2
      refine ⟨_, rfl, _, rfl, _, 1, rfl, rfl, _, rfl, ?_⟩
      unfold tNoPart
      refine PT.slice (hP.k0 q12) fun c3 G3 q3 hc3 => ?_
      refine PT.cat (hc2.k0 q3) hc3 (by omega) fun c4 G4 q4 hc4 => ?_
      have q14 := (q12.trans q3).trans q4
      have e1' := q14.oth F _ e1 (fun _ w => by cases w)
      refine ⟨F, xs, .ref c4, rfl, rfl, e1', Nat.lt_of_le_of_lt (m := 1000) (by omega) (by decide), ?_⟩
      exact ⟨_, rfl, k.trans (q14.kt.trans (Kt.set e1')), (kk.trans q14).mut nF, PL.push e1' (fun y hy => (e2 y hy).k0 q14) e3 hc4.pv⟩
    obtain ⟨y6, rfl, k, kk, hSL⟩ := h
    -- list(up), up + (None,), (None,) + up, ring, up + (n,)
    have kU := k12.trans kk.kt
    have hSU := kU.sqT hS
    obtain ⟨xs, e1, e2, e3⟩ := hSL
    have e3 : xs.length ≤ 8 := e3
    refine ⟨_, rfl, _, rfl, p, _, rfl, .inr hSU, fun l nl => ?_⟩
    have ql := K0.new nl (o := .lst (us.map oV))
    have hl : (upd H' l (.lst (us.map oV))) l = some (.lst (us.map oV)) := upd_same
    have hPl : PT K (upd H' l (.lst (us.map oV))) p us.length := PT.of_us (ql.sqT hSU)
    generalize upd H' l (.lst (us.map oV)) = G0 at ql hl hPl ⊢
    refine ⟨_, rfl, few_sizeG (show 1 ≤ 1000 by decide), fun c nc => ?_⟩
    have qc := K0.new nc (o := .tup [.non])
    have pnon : ∀ {H : Hp}, ∀ x ∈ [V.non], PV K H x := fun x hx => by
      rcases List.mem_cons.mp hx with rfl | w
      · exact .non
      · cases w
    have hc1 := PT.new (K := K) nc pnon
    refine PT.cat (hPl.k0 qc) hc1 (by show us.length + 1 ≤ 1000; omega) fun d1 G1 q1 hd1 => ?_
    have r1 := qc.trans q1
    refine ⟨few_sizeG (show 1 ≤ 1000 by decide), fun c' nc' => ?_⟩
    have qc' := K0.new nc' (o := .tup [.non])
    have hc2 := PT.new (K := K) nc' pnon
    refine ⟨_, rfl, PT.cat hc2 (hPl.k0 (r1.trans qc')) (by show 1 + us.length ≤ 1000; omega) fun d2 G2 q2 hd2 => ?_⟩
    have r2 := (r1.trans qc').trans q2
    have q02 := ql.trans r2
    refine ⟨_, rfl, _, rfl, p, us, at_, rfl, q02.sqT hSU, hW, a0, by omega, fun d3 G3 q3 hd3 => ?_⟩
    have r3 := r2.trans q3
    refine ⟨_, rfl, _, rfl, few_sizeG (show 1 ≤ 1000 by decide), fun c3 nc3 => ?_⟩
    have qc3 := K0.new nc3 (o := .tup [.int n])
    have hc3 := PT.new (K := K) nc3 (xs := [.int n]) fun x hx => by
      rcases List.mem_cons.mp hx with rfl | w
      · exact .int
      · cases w
    refine PT.cat (hPl.k0 (r3.trans qc3)) hc3 (by show us.length + 1 ≤ 1000; omega) fun d4 G4 q4 hd4 => ?_
    have r4 := (r3.trans qc3).trans q4
    refine ⟨few_sizeG (show 5 ≤ 1000 by decide), fun M nM => ?_⟩
    have qM := K0.new nM (o := .lst [.ref l, .ref d1, .ref d2, .ref d3, .ref d4])
    have hM : (upd G4 M (.lst [.ref l, .ref d1, .ref d2, .ref d3, .ref d4])) M = some (.lst [.ref l, .ref d1, .ref d2, .ref d3, .ref d4]) := upd_same
    have r5 := (ql.trans r4).trans qM
    have hMe : ∀ x ∈ [V.ref l, .ref d1, .ref d2, .ref d3, .ref d4], PV K (upd G4 M (.lst [.ref l, .ref d1, .ref d2, .ref d3, .ref d4])) x ∨ x = .ref l := fun x hx => by
      simp only [List.mem_cons, List.not_mem_nil, or_false] at hx
      rcases hx with rfl | rfl | rfl | rfl | rfl
      · exact .inr rfl
      · exact .inl (hd1.k0 ((((((qc'.trans q2).trans q3).trans qc3).trans q4).trans qM))).pv
      · exact .inl (hd2.k0 (((q3.trans qc3).trans q4).trans qM)).pv
      · exact .inl (hd3.k0 ((qc3.trans q4).trans qM)).pv
      · exact .inl (hd4.k0 qM).pv
    have hlM := (r4.trans qM).oth l _ hl (fun _ w => by cases w)
    generalize upd G4 M (.lst [.ref l, .ref d1, .ref d2, .ref d3, .ref d4]) = G5 at qM hM r5 hMe hlM ⊢
    refine ⟨F, M, xs, _, rfl, rfl, r5.oth F _ e1 (fun _ w => by cases w), hM, by rw [sizeLine_eq]; show xs.length + 5 ≤ _; omega, fun G nG => ?_⟩
    have qG := K0.new nG (o := .lst (xs ++ [.ref l, .ref d1, .ref d2, .ref d3, .ref d4]))
    have SG := SL.cat (F := F) (M := M) nG (fun x hx => .inl ((e2 x hx).k0 r5)) hMe e3 (show [V.ref l, .ref d1, .ref d2, .ref d3, .ref d4].length ≤ 5 from Nat.le_refl 5)
    have r6 := r5.trans qG
    have hlG := qG.oth l _ hlM (fun _ w => by cases w)
    generalize upd G5 G (.lst (xs ++ [.ref l, .ref d1, .ref d2, .ref d3, .ref d4])) = G6 at SG r6 hlG ⊢
    -- (None,) + (0,) * 8, None
    obtain ⟨xs2, g1, g2, g3⟩ := SG
    refine ⟨_, rfl, few_sizeG (show 1 ≤ 1000 by decide), fun u1 nu1 => ?_⟩
    have qu1 := K0.new nu1 (o := .tup [.non])
    have hu1 := PT.new (K := K) nu1 pnon
    refine ⟨few_sizeG (show 1 ≤ 1000 by decide), fun u2 nu2 => ?_⟩
    have qu2 := K0.new nu2 (o := .tup [.int 0])
    refine ⟨u2, 8, [.int 0], rfl, rfl, .inl (.inl upd_same), (by intro w; cases w), by decide, by decide, by decide, fun u3 nu3 => ?_⟩
    have qu3 := K0.new nu3 (o := .tup (List.replicate (8 : Int).toNat [V.int 0]).flatten)
    have hu3 := PT.new (K := K) nu3 (xs := (List.replicate (8 : Int).toNat [V.int 0]).flatten) fun x hx => by
      have : x ∈ [V.int 0, .int 0, .int 0, .int 0, .int 0, .int 0, .int 0, .int 0] := hx
      simp only [List.mem_cons, List.not_mem_nil, or_false, or_self] at this
      rw [this]
      exact .int
    refine PT.cat (hu1.k0 (qu2.trans qu3)) hu3 (by show 1 + 8 ≤ 1000; decide) fun u4 G7 q7 hu4 => ?_
    have r7 := ((qu1.trans qu2).trans qu3).trans q7
    refine ⟨few_sizeG (show 2 ≤ 1000 by decide), fun M2 nM2 => ?_⟩
    have qM2 := K0.new nM2 (o := .lst [.ref u4, .non])
    have r8 := r7.trans qM2
    refine ⟨G, M2, xs2, _, rfl, rfl, r8.oth G _ g1 (fun _ w => by cases w), upd_same, by rw [sizeLine_eq]; show xs2.length + 2 ≤ _; omega, fun X nX => ?_⟩
    have qX := K0.new nX (o := .lst (xs2 ++ [.ref u4, .non]))
    have SX := SL.cat (F := G) (M := M2) (l := l) nX (fun x hx => (g2 x hx).imp (fun w => w.k0 r8) id) (ys := [.ref u4, .non]) (fun x hx => by
      simp only [List.mem_cons, List.not_mem_nil, or_false] at hx
      rcases hx with rfl | rfl
      · exact .inl (hu4.k0 qM2).pv
      · exact .inl .non) g3 (show 2 ≤ 2 from Nat.le_refl 2)
    have r9 := (r6.trans r8).trans qX
    have hlX := (r8.trans qX).oth l _ hlG (fun _ w => by cases w)
    have nX0 := (r6.trans r8).dom X nX
    have hlne : l ≠ X := fun w => by
      have := r8.oth l _ hlG (fun _ w => by cases w)
      rw [w, nX] at this
      cases this
    generalize upd _ X (.lst (xs2 ++ [.ref u4, .non])) = G9 at SX r9 hlX ⊢
    have kA := kU.trans r9.kt
    have trA := tr2.k0 (kk.trans r9)
    have hXt : X ≠ t := (tr2.k0 kk).ne nX0
    have hlt : l ≠ t := (tr2.k0 kk).ne nl
    have hpt : ∀ {H' : Hp}, Kt t H H' → PT K H' p us.length := fun k => PT.of_us (k.sqT hS)
    -- others
    refine ⟨_, rfl, n, rfl, by omega, by omega, fun D nD => ?_⟩
    have hDX : D ≠ X := fun w => by
      obtain ⟨_, w1, _⟩ := SX
      rw [← w, nD] at w1
      cases w1
    have hDt : D ≠ t := trA.ne nD
    refine lc_range (lo := 0) (n := n.toNat) (fun i H' => K0 G9 H' ∧ ∃ ks : List Int, H' D = some (.lst (ks.map V.int)) ∧ (∀ v ∈ ks, 0 ≤ v ∧ v < n) ∧ ks.length ≤ i) ⟨K0.new nD, [], upd_same, (by intro v hv; cases hv), Nat.le_refl _⟩ (fun i H' hi h => ?_) (fun H' h => ?_)
    · obtain ⟨k5, ks, hD, hks, hkl⟩ := h
      have hS5 := (kA.trans k5.kt).sqT hS
      refine ⟨rfl, _, rfl, _, rfl, p, _, 0 + (i : Int), _, rfl, rfl, hS5, up_at (by omega) (by omega), ?_⟩
      cases upF us (0 + (i : Int)) with
      | none => exact ⟨_, rfl, iteF ⟨k5, ks, hD, hks, by omega⟩⟩
      | some u =>
        refine ⟨_, rfl, iteT ⟨_, rfl, _, hD, Nat.lt_of_le_of_lt (m := 5000) (by rw [List.length_map]; omega) (by decide), k5.mut nD, ks ++ [0 + (i : Int)], by rw [List.map_append]; exact upd_same, fun v hv => ?_, by rw [List.length_append, List.length_singleton]; omega⟩⟩
        rcases List.mem_append.mp hv with hv | hv
        · exact hks v hv
        · have := List.mem_singleton.mp hv
          omega
    obtain ⟨k5, ks, hD, hks, hkl⟩ := h
    have kB := kA.trans k5.kt
    have trB := trA.k0 k5
    have SB := SX.k0 k5
    have hlB := k5.oth l _ hlX (fun _ w => by cases w)
    refine ⟨fun σ' H2 => σ' = [some (.ref t), some (.ref p), some (.int n), some (.int at_), some (.int far), some (.ref X), y6, some (.ref D), none] ∧ Kt t H H2 ∧ Tray K H2 t sc ns (b + 5) ∧ SL K H2 X l 30 ∧ H2 l = some (.lst (us.map oV)) ∧ H2 D = some (.lst (ks.map V.int)), ?_, ?_⟩
    · refine ⟨_, rfl, few_sizeG (Nat.zero_le _), fun pe npe => ?_⟩
      have ke := K0.new npe (o := .lst [])
      have hDe := ke.oth D _ hD (fun _ w => by cases w)
      have SE := SB.k0 ke
      have hlE := ke.oth l _ hlB (fun _ w => by cases w)
      have trE := trB.k0 ke
      have kE := kB.trans ke.kt
      refine ⟨_, _, .lst (.inl (.inl hDe)) (dpInts ks), .lst (.inl (.inl upd_same)) .nil, shapedIG ks, shapedIG [], _, rfl, ?_⟩
      rw [show PyData.eqv (.list (ks.map PyData.int)) (.list ([] : List PyData)) = ks.isEmpty from eqv_nilG ks]
      generalize upd _ pe (.lst []) = G10 at ke hDe SE hlE trE kE ⊢
      obtain ⟨xs3, x1, x2, x3⟩ := SE
      cases hk : ks.isEmpty with
      | true => exact iteF ⟨rfl, kE, trE.le (by omega), ⟨xs3, x1, x2, by omega⟩, hlE, hDe⟩
      | false =>
        have hk0 : 0 < ks.length := by
          cases ks with
          | nil => cases hk
          | cons a r => exact Nat.succ_pos _
        refine iteT ⟨_, rfl, .inl ⟨rfl, _, .inl (.inl x1)⟩, _, rfl, _, rfl, _, rfl, _, rfl, D, _, rfl, .inl (.inl (.inl hDe)), t, sc, _, ns, b + 1 + 1, rfl, trE, by omega, by rw [List.length_map]; omega, by rw [List.length_map]; omega, fun dr G11 d0 d1 q11 tr11 => ?_⟩
        rw [List.length_map] at d1
        obtain ⟨j, rfl⟩ := Int.eq_ofNat_of_zero_le d0
        have hj : j < ks.length := by omega
        have hD11 := q11.oth D _ hDe hDt (fun _ w => by cases w)
        refine ⟨D, _, _, .int ks[j], rfl, rfl, .inl (.inl hD11), atI_nat (by rw [List.getElem?_map, List.getElem?_eq_getElem hj]; rfl), p, ks[j], us.length, rfl, hpt (kE.trans q11), by omega, fun c G12 q12 hc => ?_⟩
        have x1' := q12.oth X _ (q11.oth X _ x1 hXt (fun _ w => by cases w)) (fun _ w => by cases w)
        refine ⟨X, xs3, .ref c, rfl, rfl, x1', Nat.lt_of_le_of_lt (m := 1000) (by omega) (by decide), ?_⟩
        have q1112 := q11.trans q12.kt
        have ks' := Kt.set x1' (ys := xs3 ++ [.ref c])
        have hX0 := kU.dom X nX0
        refine ⟨rfl, (kE.trans q1112).mut hX0, ((tr11.k0 q12).mut tr (kE.trans q1112) hX0).le (by omega), (SL.push x1' (fun y hy => (x2 y hy).imp (fun w => w.kt q1112) id) x3 hc.pv).le (by decide), ?_, ?_⟩
        · rw [upd_ne hlne]
          exact q12.oth l _ (q11.oth l _ hlE hlt (fun _ w => by cases w)) (fun _ w => by cases w)
        · rw [upd_ne hDX]
          exact q12.oth D _ hD11 (fun _ w => by cases w)
    rintro σ' H6 ⟨rfl, k6, tr6, hSL6, hl6, hD6⟩
    have fin : ∀ {H7 : Hp}, Kt t H H7 → Tray K H7 t sc ns (b + 5) → SL K H7 X l 40 → H7 l = some (.lst (us.map oV)) → Q (.ref X) H7 := fun k7 tr7 hS7 hl7 => by
      obtain ⟨xs5, y1, y2, y3⟩ := hS7
      refine q X xs5 _ k7 (tr7.le (by omega)) y1 hXt fun x hx => ?_
      rcases y2 x hx with ⟨d, h1, _⟩ | rfl
      · exact ⟨d, h1⟩
      · exact ⟨.list (us.map oD), .lst (.inl (.inl hl7)) (oV_dp us)⟩
    refine ⟨fun σ' H2 => ∃ y6, σ' = [some (.ref t), some (.ref p), some (.int n), some (.int at_), some (.int far), some (.ref X), y6, some (.ref D), none] ∧ Q (.ref X) H2, ?_, ?_⟩
    · refine ⟨_, rfl, D, _, rfl, .inl (.inl (.inl hD6)), _, 1, rfl, rfl, _, rfl, ?_⟩
      rw [List.length_map]
      match hks4 : ks, hks, hD6 with
      | [], _, _ => exact iteF ⟨_, rfl, fin k6 tr6 (hSL6.le (by decide)) hl6⟩
      | [a], _, _ => exact iteF ⟨_, rfl, fin k6 tr6 (hSL6.le (by decide)) hl6⟩
      | a :: b' :: r, hks, hD6 =>
        rw [decide_eq_true (show (1 : Int) < ((a :: b' :: r).length : Nat) by simp only [List.length_cons]; omega)]
        obtain ⟨xs4, x1, x2, x3⟩ := hSL6
        obtain ⟨ha0, ha1⟩ := hks a (List.mem_cons_self ..)
        refine iteT ⟨_, rfl, .inl ⟨rfl, _, .inl (.inl x1)⟩, _, rfl, _, rfl, D, _, 0, .int a, rfl, rfl, .inl (.inl hD6), atI_nat (j := 0) rfl, p, us, a, rfl, k6.sqT hS, hW, ha0, by omega, fun c G11 q11 hc => ?_⟩
        have hD11 := q11.oth D _ hD6 (fun _ w => by cases w)
        refine ⟨_, rfl, D, _, 1, .int b', rfl, rfl, .inl (.inl hD11), atI_nat (j := 1) rfl, c, b', us.length, rfl, hc, by omega, fun c2 G12 q12 hc2 => ?_⟩
        have q1112 := q11.trans q12
        have x1' := q1112.oth X _ x1 (fun _ w => by cases w)
        have hX0 := kU.dom X nX0
        have k7 := k6.trans q1112.kt
        refine ⟨X, xs4, .ref c2, rfl, rfl, x1', Nat.lt_of_le_of_lt (m := 1000) (by omega) (by decide), _, rfl, fin (k7.mut hX0) ((tr6.k0 q1112).mut tr k7 hX0) ((SL.push x1' (fun y hy => (x2 y hy).imp (fun w => w.k0 q1112) id) x3 hc2.pv).le (by decide)) ?_⟩
        rw [upd_ne hlne]
        exact q1112.oth l _ hl6 (fun _ w => by cases w)
    rintro σ' H7 ⟨y6', rfl, hq⟩
    exact ⟨_, rfl, hq⟩
end
end HK

set_option Elab.async false
set_option linter.all false
set_option maxRecDepth 100000
set_option maxHeartbeats 2000000
namespace HK
open PySem PySem.Spec PyProof.Rows L2 GAl GxR
section
variable {X : Cx}
/-! ### t.index(x), data -/
def rIndexT (K : PySem.W.Frag) : V → List V → Hp → VK → Prop := fun x xs H Q => ∃ (a : Addr) (y : V) (d : PyData) (ds : List PyData) (j : Nat) (z : PyData), x = V.ref a ∧ xs = [y] ∧ Dp K H (V.ref a) (.tuple ds) ∧ Dp K H y d ∧
  SeqAt.shaped (.tuple ds) = true ∧ SeqAt.shaped d = true ∧ ds[j]? = some z ∧ PyData.eqv z d = true ∧ (∀ (m : Nat) (z' : PyData), m < j → ds[m]? = some z' → PyData.eqv z' d = false) ∧ Q (.int (j : Nat)) H
theorem mt_indexT (hu : X.A.units + 65 < cLine) : MtR X "tuple.index" (rIndexT X.K) := by
  intro pins s σ H x xs v us Q I rx rxs h
  obtain ⟨a, y, d, ds, j, z, rfl, rfl, hl, hy, sl, sd, hz, hzj, hno, q⟩ := h
  cases rx
  cases rxs with
  | cons ry rt =>
    rename_i uy ut
    cases rt
    obtain ⟨bs, r1⟩ := Dp.reads I d y uy hy ry
    have hxs : PyData.canLayAll0 ds = true := SeqAt.canLay_of_shaped sl
    have hroom : X.A.units + 1 + min (PyData.depthAll ds) d.depth < cLine := room_in_shaped sd hu
    cases hl with
    | tup hs ha =>
      obtain ⟨its, rv, ⟨⟨cls, dd, data, sls⟩, ho, hc, n, hdt⟩, hlen⟩ := I.tuple hs
      simp only at hc hdt
      subst hc hdt
      obtain ⟨as, h4⟩ := Dp.readsAll I ds _ its ha rv
      have hn : its.length = ds.length := SeqAt.ReadsAll.length ds its as h4
      have hmap : its.map (SeqAt.readOf s.heap) = ds := SeqAt.readsAll_map ds its as hxs h4
      obtain ⟨hjd, _⟩ := List.getElem?_eq_some_iff.mp hz
      have hjl : j < its.length := by omega
      have hj : j < its.toArray.size := by simpa using hjl
      have at_ : ∀ (m : Nat) (hm : m < its.toArray.size) (z' : PyData), ds[m]? = some z' → SeqAt.readOf s.heap its.toArray[m] = z' := by
        intro m hm z' hz'
        have hml : m < its.length := by simpa using hm
        rw [← hmap, List.getElem?_map, List.getElem?_eq_getElem hml] at hz'
        have e1 : SeqAt.readOf s.heap its[m] = z' := Option.some.inj (show some (SeqAt.readOf s.heap its[m]) = some z' from hz')
        simpa using e1
      refine call_meets PySem.F.slot_tuple_index ⟨_, ho, rfl⟩ PySem.F.entry_tuple_index (PySem.F.args_tuple_index_2 _ _)
        (TI.tuple_indexAt a its.toArray n dd sls uy (fun u => PyData.eqv (SeqAt.readOf s.heap u) d) j hj ?_ ?_) ⟨ho, SeqAt.items_eqAt (vs := its.toArray) (show ReadsAll s.heap its.toArray.toList ds as from h4) r1 hxs (SeqAt.canLay_of_shaped sd) hroom, ?_⟩
      · show PyData.eqv (SeqAt.readOf s.heap its.toArray[j]) d = true
        rw [at_ j hj z hz]
        exact hzj
      · intro m hm hmj
        have hmd : m < ds.length := by
          have : m < its.length := by simpa using hm
          omega
        have hz' : ds[m]? = some ds[m] := List.getElem?_eq_getElem hmd
        show PyData.eqv (SeqAt.readOf s.heap its.toArray[m]) d = false
        rw [at_ m hm _ hz']
        exact hno m _ hmj hz'
      · exact ⟨.int (j : Nat), H, I.tok _, ⟨_, rfl⟩, q⟩
end
end HK

set_option Elab.async false
set_option linter.all false
set_option maxRecDepth 100000
set_option maxHeartbeats 2000000
namespace GAl
open PySem PySem.Spec PyProof.Rows L2 GxR
open Sem (wp)
/-! ### generator expressions whose consumer keeps a record S of its own -/

theorem Inv.kallS {X : Cx} {ps : List (Addr × Obj)} {S : Addr} {oS oS' : Obj} {σ : L2.St} {H : Hp} {s s'' : Shared} (I : Inv X (ps ++ [(S, oS)]) σ H s) (hy : S ∈ X.ex ∨ X.s_0.heap.objs.size ≤ S) (hps : ∀ p ∈ X.pn ++ ps, p.1 ≠ S)
    (ho : s''.os = s.os) (hb : AllBare s''.gens) (k : ∀ b o, b ≠ S → s.heap.get? b = some o → s''.heap.get? b = some o) (hS : s''.heap.get? S = some oS') (hd : ∀ v, oS'.data ≠ .cell v) : Inv X (ps ++ [(S, oS')]) σ H s'' := by
  obtain ⟨h1, h2, h3, h4, h5⟩ := I.pin (S, oS) (List.mem_append_right _ (List.mem_append_right _ (List.mem_singleton.mpr rfl)))
  have hcell : ∀ x c, X.env.cells.lookup x = some c → c ≠ S := fun x c e z => by
    obtain ⟨v, o, q, d⟩ := I.cell x c e
    have h1 : s.heap.get? S = some oS := h1
    rw [z, h1] at q
    cases q
    exact h5 _ d
  have I' : Inv X ps σ H s := I.unpinned
  have I1 := I'.turned (it := S) (h' := s''.heap) (t' := s.toks) k h2 h3 hy hcell hps
  have I2 : Inv X ps σ H s'' := Inv.kall I1 ho hb (fun _ _ e => e)
  refine I2.pins_of fun p hp => ?_
  rcases List.mem_append.mp hp with hp | hp
  · exact I2.pin p (List.mem_append_right _ hp)
  · have := List.mem_singleton.mp hp
    subst this
    exact ⟨hS, h2, h3, h4, hd⟩

section
variable {G : Type}
def REndS (XG : Cx) (a : Addr) (oa : Obj) (S : Addr) (Rep : Obj → G → Prop) (σw : L2.St) (Qd : G → Hp → Prop) : Nat → Shared → Shared → Prop := fun _ s₀ s₁ =>
  ∃ γ oS H4, s₀.heap.get? S = some oS ∧ Rep oS γ ∧ Inv XG ([(a, oa)] ++ [(S, oS)]) σw H4 s₁ ∧ Qd γ H4
def YOutS (XG : Cx) (a : Addr) (oa : Obj) (S : Addr) (Rep : Obj → G → Prop) (stp : G → V → Hp → (G → Prop) → Prop) : Protocol := fun _ s₀ v s kap =>
  ∃ γ oS y H4 σ4, s₀.heap.get? S = some oS ∧ Rep oS γ ∧ Inv XG ([(a, oa)] ++ [(S, oS)]) σ4 H4 s ∧ RelV y v ∧
    stp γ y H4 (fun γ' => ∀ (s'' : Shared) (oS' : Obj), s''.os = s.os → AllBare s''.gens → (∀ b o, b ≠ S → s.heap.get? b = some o → s''.heap.get? b = some o) → s''.heap.get? S = some oS' → Rep oS' γ' → (∀ v, oS'.data ≠ .cell v) → kap (.send .none) s'')
/-- what a turn asks -/
def GTurnS (J : It) (g : TG) (tt : TT) (te : TE) (vs : List Nat) (σw : L2.St) (Qd : Nat → G → Hp → Prop) (stp : G → V → Hp → (G → Prop) → Prop) (W : Nat → Nat → G → Hp → Prop) : Prop :=
  ∀ i m γ H, W i m γ H → (J.stop i H ∧ Qd m γ H) ∨ (J.go i H ∧ ∃ Nx : G → Hp → Prop, (∀ γ' H', Nx γ' H' → ∃ m', m' < m ∧ W (i + 1) m' γ' H') ∧ ∀ x H', J.yld i H x H' → g x σw H' fun σ2 H2 => wipe σ2 vs = σw ∧ tt σ2 H2 fun b H3 =>
    if b = true then te σ2 H3 fun y H4 => stp γ y H4 (fun γ' => Nx γ' H4) else Nx γ H3)
/-- one turn of the last clause -/
@[reducible] def turnOf (tg iter : Expr) (ifs : List Expr) (elt : Expr) (it : Value) (cenv : Env) (c : Code) : Sem Fin := do
  standAt iter.pos
  match ← pyNext it with
  | none => pure (.done .next)
  | some v =>
    letOwnedTupleGo tg it v
    assign tg cenv v
    let mut ok := true
    for c in ifs do
      if ok then ok ← isTrue c cenv (eval c cenv)
    if ok then
      (do let v ← eval elt cenv; standAt elt.pos; let _ ← yieldOut cenv v)
    again c
/-- what the iterator's objects are, whatever stands in the heap -/
def FpSt (X : Cx) (b : Addr) : Prop := b ≠ X.env.locals ∧ b ∉ X.fs ∧ (b ∈ X.ex ∨ X.s_0.heap.objs.size ≤ b) ∧ (∀ x c, X.env.cells.lookup x = some c → c ≠ b)
end

section
variable {G : Type} {X XG XI : Cx} {elt tg iter : Expr} {ifs : List Expr} {it a S : Addr} {oa : Obj} {fp : List Addr} {cenv : Env} {AG : Around} {c : Code} {fs : List Frame} {lv : Value → Sem Unit} {J : It} {tn : Nat → Heap → Prop} {R : GenEnd} {ps : List (Addr × Obj)}
  {g : TG} {tt : TT} {te : TE} {vs : List Nat} {σw : L2.St} {Qd : Nat → G → Hp → Prop} {Rep : Obj → G → Prop} {stp : G → V → Hp → (G → Prop) → Prop} {W : Nat → Nat → G → Hp → Prop}

theorem gen_loopS (hA : XI.A = AG.over c fs) (hP : XI.prog = X.prog) (hw : XI.w = X.w) (hK : XI.K = X.K) (hcalm : XI.calm = true) (henv : XI.env = cenv) (hxe : XI.xe = fun _ _ => False) (hpn : XI.pn = [])
    (hden : (model X.prog X.w).den c = (turnOf tg iter ifs elt (.ref it) cenv c).onRaise lv) (hcq : c.quiet = true) (hfs : splitAtGen fs = none) (hfg : fs.any Frame.guarded = false)
    (hco : cenv.scope.isCoroutine = false) (T : Turn X.prog X.w X.K tg J fp it tn) (hst : ∀ b ∈ fp, FpSt XI b) (hSy : S ∈ XI.ex ∨ XI.s_0.heap.objs.size ≤ S) (hSfp : ∀ b ∈ fp, S ≠ b) (hpsS : ∀ p ∈ ps, p.1 ≠ S) (hpsf : ∀ p ∈ ps, ∀ b ∈ fp, p.1 ≠ b) (haps : (a, oa) ∈ ps)
    (hmono : ∀ γ y H (p q : G → Prop), (∀ γ', p γ' → q γ') → stp γ y H p → stp γ y H q)
    (htr : ∀ ps σ H s, Inv XI ps σ H s → Inv XG ps σ H s)
    (hend : ∀ m n γ oS s₀ s H, m < n → s₀.heap.get? S = some oS → Rep oS γ → Inv XI (ps ++ [(S, oS)]) σw H s → Qd m γ H → Seg (model X.prog X.w) AG R (YOutS XG a oa S Rep stp) n s₀ c (leafOf (.ok .next)) fs s)
    (pg : PG XI tg g) (pt : PTs XI ifs tt) (pe : PE XI elt te) (hW : GTurnS J g tt te vs σw Qd stp W) :
    ∀ (m n i : Nat) (γ : G) (oS : Obj) (s₀ s : Shared) (H : Hp), m < n → W i m γ H → s₀.heap.get? S = some oS → Rep oS γ → Inv XI (ps ++ [(S, oS)]) σw H s → tn i s.heap → (∀ b ∈ fp, H b = none) →
      Seg (model X.prog X.w) AG R (YOutS XG a oa S Rep stp) n s₀ c ((model X.prog X.w).den c) fs s := by
  have stat : ∀ {oS : Obj} {σ' : L2.St} {H' : Hp} {s' : Shared}, Inv XI (ps ++ [(S, oS)]) σ' H' s' → (∀ b ∈ fp, H' b = none) → ∀ b ∈ fp, FpOk XI (ps ++ [(S, oS)]) H' b := fun {oS σ' H' s'} I' hn b hb =>
    ⟨hn b hb, (hst b hb).1, (hst b hb).2.1, (hst b hb).2.2.1, (hst b hb).2.2.2, fun p hp => by
      rw [hpn, List.nil_append] at hp
      rcases List.mem_append.mp hp with hp | hp
      · exact hpsf p hp b hb
      · have := List.mem_singleton.mp hp
        subst this
        exact hSfp b hb⟩
  have hpsS' : ∀ p ∈ XI.pn ++ ps, p.1 ≠ S := by rw [hpn]; exact hpsS
  intro m
  induction m using Nat.strongRecOn with
  | ind m ih =>
    intro n i γ oS s₀ s H hmn w hS0 hRep I st nH
    rw [hden, Sem.onRaise_eq_wrap]
    refine seg_bind_wrap (wpAny_standAt ?_)
    rcases hW i m γ H w with ⟨stop, qq⟩ | ⟨go, Nx, hNx, step⟩
    · have td := T.done XI hP hw hK hcalm i _ s _ H (fun _ _ => False) I (stat I nH) st stop
      rw [hA] at td
      refine seg_bind_wrap (thnF td fun r s1 ⟨hr, I1⟩ => ?_)
      subst hr
      exact hend m n γ oS s₀ s1 H hmn hS0 hRep I1 qq
    · have ti := T.item XI hP hw hK hcalm i _ s _ H (fun _ _ => False) I (stat I nH) st go
      rw [hA] at ti
      refine seg_bind_wrap (thnF ti fun r s1 ⟨u, hr, h1⟩ => ?_)
      subst hr
      refine seg_bind_wrap (thnF h1 fun _ s2 ⟨x, H2, I2, r2, y2, st2, n2⟩ => ?_)
      have I2' := I2.pinned (stat I2 n2) (T.obj _ _ st2)
      have rg := pg.run _ s2 _ H2 x u _ I2' r2 (step x H2 y2)
      rw [hA, hP, hw, henv, hxe] at rg
      refine seg_bind_wrap (thnF rg fun _ s3 ⟨σ3, H3, I3, hw3, q3⟩ => ?_)
      have rt := pt.run _ s3 σ3 H3 _ I3 q3
      rw [hA, hP, hw, henv, hxe] at rt
      refine seg_bind_wrap (thnF rt fun b s5 ⟨H5, I5, q5⟩ => ?_)
      have hl : σw.length = σ3.length := by rw [← hw3, wipe_length]
      have pin' : ∀ {H' : Hp} {s' : Shared} {σ' : L2.St}, Inv XI ((ps ++ [(S, oS)]) ++ pinsAt fp s2.heap) σ' H' s' → ∀ b ∈ fp, ∀ o, s2.heap.get? b = some o → s'.heap.get? b = some o ∧ H' b = none := fun {H' s' σ'} I' b hb o e =>
        let z := I'.pin (b, o) (List.mem_append_right _ (List.mem_append_right _ (mem_pinsAt hb e)))
        ⟨z.1, z.2.1⟩
      cases b with
      | false =>
        simp only [Bool.false_eq_true, if_false] at q5 ⊢
        obtain ⟨m', hm, w'⟩ := hNx γ H5 q5
        refine seg_again hcq (ih m' hm n (i + 1) γ oS s₀ s5 H5 (by omega) w' hS0 hRep ((I5.unpinned (pins := ps ++ [(S, oS)])).weak hl (fun j v e => ?_)) (T.keep _ _ _ st2 fun b hb o e => (pin' I5 b hb o e).1) (fun b hb => ?_))
        · rw [← hw3] at e
          exact (wipe_some e).1
        · obtain ⟨o, e, _⟩ := T.obj _ _ st2 b hb
          exact (pin' I5 b hb o e).2
      | true =>
        simp only [if_true] at q5 ⊢
        have hy : ∀ v, yieldOut cenv v = yieldValue v := fun v => by simp only [yieldOut, hco, Bool.false_eq_true, if_false]
        simp only [hy]
        rw [Sem.bind_eq_wrap', Sem.bind_eq_wrap', Sem.wrap_wrap, Sem.wrap_wrap]
        have re := pe.run _ s5 σ3 H5 _ I5 q5
        rw [hA, hP, hw, henv, hxe] at re
        refine seg_wrap (thnF re fun z s6 ⟨yv, H6, I6, r6, q6⟩ => ?_)
        cases n with
        | zero => exact absurd hmn (Nat.not_lt_zero _)
        | succ n =>
          have I6' : Inv XI (ps ++ [(S, oS)]) σ3 H6 s6 := I6.unpinned
          have I6w : Inv XI (ps ++ [(S, oS)]) σw H6 s6 := I6'.weak hl (fun j v e => by rw [← hw3] at e; exact (wipe_some e).1)
          refine seg_at (seg_yield hfs rfl hfg ⟨γ, oS, yv, H6, σ3, hS0, hRep, htr _ _ _ _ (I6'.pins_of fun p hp => I6'.pin p (List.mem_append_right _ ?_)), r6, hmono _ _ _ _ _ (fun γ' nx s'' oS' e1 e2 e3 e4 e5 e6 => ?_) q6⟩)
          · rcases List.mem_append.mp hp with hp | hp
            · have := List.mem_singleton.mp hp
              subst this
              exact List.mem_append_left _ haps
            · exact List.mem_append_right _ hp
          · obtain ⟨m', hm, w'⟩ := hNx γ' H6 nx
            refine seg_again hcq (ih m' hm n (i + 1) γ' oS' s'' s'' H6 (by omega) w' e4 e5 (Inv.kallS I6w hSy hpsS' e1 e2 e3 e4 e6) (T.keep _ _ _ st2 fun b hb o e => e3 b o (fun z => hSfp b hb z.symm) (pin' I6 b hb o e).1) (fun b hb => ?_))
            obtain ⟨o, e, _⟩ := T.obj _ _ st2 b hb
            exact (pin' I6 b hb o e).2
end
end GAl

set_option Elab.async false
set_option linter.all false
set_option maxRecDepth 100000
set_option maxHeartbeats 2000000
namespace GAl
open PySem PySem.Spec PyProof.Rows L2 GxR
open Sem (wp)
section
variable {G : Type} {X : Cx} {elt tg iter : Expr} {ifs : List Expr} {scope : Scope} {pos : Pos} {it a S : Addr} {oa : Obj} {fp : List Addr} {cenv : Env} {AG : Around} {s4 : Shared} {Hs : Hp} {J : It} {tn : Nat → Heap → Prop}
  {g : TG} {tt : TT} {te : TE} {vs : List Nat} {σw : L2.St} {Qd : G → Hp → Prop} {Rep : Obj → G → Prop} {stp : G → V → Hp → (G → Prop) → Prop} {W : Nat → Nat → G → Hp → Prop}
theorem gen_beginS (hc : X.calm = true) (hco : cenv.scope.isCoroutine = false) (T : Turn X.prog X.w X.K tg J fp it tn) (hafp : ∀ b ∈ fp, a ≠ b) (hSfp : ∀ b ∈ fp, S ≠ b) (haS : a ≠ S) (hSy : s4.heap.objs.size ≤ S)
    (hmono : ∀ γ y H (p q : G → Prop), (∀ γ', p γ' → q γ') → stp γ y H p → stp γ y H q)
    (pg : PG (gcx X (AG.over (.compLoop (.GeneratorExp elt [⟨tg, iter, ifs, 0⟩] scope pos) 0 (.ref it) .none cenv) []) s4 Hs cenv fp) tg g)
    (pt : PTs (gcx X (AG.over (.compLoop (.GeneratorExp elt [⟨tg, iter, ifs, 0⟩] scope pos) 0 (.ref it) .none cenv) []) s4 Hs cenv fp) ifs tt)
    (pe : PE (gcx X (AG.over (.compLoop (.GeneratorExp elt [⟨tg, iter, ifs, 0⟩] scope pos) 0 (.ref it) .none cenv) []) s4 Hs cenv fp) elt te)
    (hW : GTurnS J g tt te vs σw (fun _ => Qd) stp W) (m : Nat) (γ : G) (oS : Obj) (s₀ s : Shared) (H : Hp) (w : W 0 m γ H) (hS0 : s₀.heap.get? S = some oS) (hRep : Rep oS γ)
    (I : Inv (gcx X (AG.over (.compLoop (.GeneratorExp elt [⟨tg, iter, ifs, 0⟩] scope pos) 0 (.ref it) .none cenv) []) s4 Hs cenv fp) ([(a, oa)] ++ [(S, oS)]) σw H s) (st : tn 0 s.heap) (nH : ∀ b ∈ fp, H b = none) :
      Seg (model X.prog X.w) AG (fun n s₀ r s₁ => r = .ok .next ∧ REndS (gcx X (AG.over (.compLoop (.GeneratorExp elt [⟨tg, iter, ifs, 0⟩] scope pos) 0 (.ref it) .none cenv) []) s4 Hs cenv fp) a oa S Rep σw Qd n s₀ s₁)
        (YOutS (gcx X (AG.over (.compLoop (.GeneratorExp elt [⟨tg, iter, ifs, 0⟩] scope pos) 0 (.ref it) .none cenv) []) s4 Hs cenv fp) a oa S Rep stp) (m + 1) s₀
        (.compStart (.GeneratorExp elt [⟨tg, iter, ifs, 0⟩] scope pos) 0 (.ref it) .none cenv)
        ((model X.prog X.w).den (.compStart (.GeneratorExp elt [⟨tg, iter, ifs, 0⟩] scope pos) 0 (.ref it) .none cenv)) [] s := by
  have hst : ∀ b ∈ fp, FpSt (gcx X (AG.over (.compLoop (.GeneratorExp elt [⟨tg, iter, ifs, 0⟩] scope pos) 0 (.ref it) .none cenv) []) s4 Hs cenv fp) b := fun b hb =>
    ⟨(I.ok.exf b hb).1, I.ok.exfs b hb, .inl hb, fun x c e => (I.ok.exf b hb).2 x c e⟩
  have loop := gen_loopS (a := a) (oa := oa) (S := S) (ps := [(a, oa)]) (R := fun n s₀ r s₁ => r = .ok .next ∧ REndS (gcx X (AG.over (.compLoop (.GeneratorExp elt [⟨tg, iter, ifs, 0⟩] scope pos) 0 (.ref it) .none cenv) []) s4 Hs cenv fp) a oa S Rep σw Qd n s₀ s₁) (Rep := Rep) (Qd := fun _ => Qd)
    (c := .compLoop (.GeneratorExp elt [⟨tg, iter, ifs, 0⟩] scope pos) 0 (.ref it) .none cenv) (fs := []) (cenv := cenv) (iter := iter) (lv := leaving cenv) (X := X) (AG := AG)
    (XG := gcx X (AG.over (.compLoop (.GeneratorExp elt [⟨tg, iter, ifs, 0⟩] scope pos) 0 (.ref it) .none cenv) []) s4 Hs cenv fp)
    (XI := gcx X (AG.over (.compLoop (.GeneratorExp elt [⟨tg, iter, ifs, 0⟩] scope pos) 0 (.ref it) .none cenv) []) s4 Hs cenv fp)
    rfl rfl rfl rfl hc rfl rfl rfl rfl rfl rfl rfl hco T hst (.inr hSy) hSfp
    (fun p hp => by have := List.mem_singleton.mp hp; subst this; exact haS) (fun p hp b hb => by have := List.mem_singleton.mp hp; subst this; exact hafp b hb) (List.mem_singleton.mpr rfl)
    hmono (fun _ _ _ _ I => I) (fun m n γ oS s₀ s H _ e1 e2 I q => seg_end (.ok .next) ⟨rfl, γ, oS, H, e1, e2, I, q⟩) pg pt pe hW m (m + 1) 0 γ oS s₀ s H (Nat.lt_succ_self _) w hS0 hRep I st nH
  show Seg _ AG _ _ _ s₀ _ ((compStart (.GeneratorExp elt [⟨tg, iter, ifs, 0⟩] scope pos) 0 (.ref it) .none cenv).onRaise (leaving cenv)) [] s
  unfold compStart
  rw [Sem.onRaise_eq_wrap]
  show Seg _ AG _ _ _ s₀ _ ((ask >>= _).wrap _ _ _ _) [] s
  refine seg_bind_wrap (wpAny_askSetting ?_)
  split
  · exact seg_again rfl loop
  · first
      | exact seg_bind_wrap (wpAny_rule (seg_bind_wrap (wpAny_standAt (seg_bind_wrap (T.self _ 0 s _ _ st (seg_again rfl loop))))))
      | (refine seg_bind_wrap (wpAny_rule ?_); show Seg _ AG _ _ _ s₀ _ ((standAt iter.pos >>= _).wrap _ _ _ _) [] s; exact seg_bind_wrap (wpAny_standAt (seg_bind_wrap (T.self _ 0 s _ _ st (seg_again rfl loop)))))
end

/-- what a consumed generator expression asks: the walked thing, the def's table, the turns -/
def tGenS {G : Type} (P : Addr) (wi : TI) (g : TG) (tt : TT) (te : TE) (vs : List Nat) (stp : G → V → Hp → (G → Prop) → Prop) (γ0 : G) (Qd : G → Hp → Prop) : L2.St → Hp → Prop := fun σ H =>
  wi σ H fun J H1 => TabG H1 P ∧ ∀ H2, Tabbed P H1 H2 → ∃ W : Nat → Nat → G → Hp → Prop, (∃ m, W 0 m γ0 H2) ∧ GTurnS J g tt te vs (wipe σ vs) (fun _ => Qd) stp W

section
variable {G : Type} {X : Cx} {pins : List (Addr × Obj)} {σ : L2.St} {H : Hp} {s : Shared}
theorem gen_makeS {c P : Addr} {elt tg iter : Expr} {ifs : List Expr} {gpos : Pos} {scope : Scope} {own : List (Str × Nat)} {wi : TI} {g : TG} {tt : TT} {te : TE} {k : Nat} {stp : G → V → Hp → (G → Prop) → Prop} {Rep : Obj → G → Prop} {γ0 : G} {Qd : G → Hp → Prop} {Q' : Value → Shared → Prop}
    (hr : Room (k + 1) X.A) (hc : X.calm = true) (hN : X.N.Nodup) (TB : TabB X.base X.mg c P) (hcode : X.env.code = .ref c) (SC : GSc X.N X.env.scope scope own) (hi : PI X tg iter wi)
    (hg : ∀ (A' : Around), Room k A' → ∀ (s : Shared) (H : Hp) (cl : List (Str × Addr)) (C : Addr) (code : Value) (fp : List Addr), PG (gcx X A' s H (genEnv scope cl C code builtinsNs X.env) fp) tg g)
    (ht : ∀ (A' : Around), Room k A' → ∀ (s : Shared) (H : Hp) (cl : List (Str × Addr)) (C : Addr) (code : Value) (fp : List Addr), PTs (gcx X A' s H (genEnv scope cl C code builtinsNs X.env) fp) ifs tt)
    (he : ∀ (A' : Around), Room k A' → ∀ (s : Shared) (H : Hp) (cl : List (Str × Addr)) (C : Addr) (code : Value) (fp : List Addr), PE (gcx X A' s H (genEnv scope cl C code builtinsNs X.env) fp) elt te)
    (hmono : ∀ γ y H (p q : G → Prop), (∀ γ', p γ' → q γ') → stp γ y H p → stp γ y H q)
    (hs : ∀ v, genFold iter X.env v = pure v) (I : Inv X pins σ H s) (h : tGenS P wi g tt te (own.map (·.2)) stp γ0 Qd σ H)
    (hQ : ∀ (XG : Cx) (a : Addr) (oa : Obj) (gn n : Nat) (σw : L2.St) (s5 : Shared) (gs : GenState), XG.prog = X.prog → XG.w = X.w → XG.pn = [] → s5.heap.get? a = some oa → s5.heap.IsGen a gn → s5.gens[gn]? = some gs → s5.heap.NoLimit → AllBare s5.gens →
      (∀ (S : Addr) (s'' : Shared) (oS : Obj), s5.heap.objs.size ≤ S → s''.os = s5.os → AllBare s''.gens → (∀ b o, s5.heap.get? b = some o → s''.heap.get? b = some o) → s''.heap.get? S = some oS → Rep oS γ0 → (∀ v, oS.data ≠ .cell v) →
        gs.Goes (model X.prog X.w) X.A.in1.in1 (fun n s₀ r s₁ => r = .ok .next ∧ REndS XG a oa S Rep σw Qd n s₀ s₁) (YOutS XG a oa S Rep stp) n (.send .none) s'') →
      (∀ S, s5.heap.objs.size ≤ S → XG.s_0.heap.objs.size ≤ S) → (∀ s' ps σ' H', Inv XG ps σ' H' s' → Inv X pins σ H' s') → Q' (.ref a) s5) :
    wpAny (model X.prog X.w) X.A (eval (.GeneratorExp elt [⟨tg, iter, ifs, 0⟩] scope gpos) X.env) Q' X.xe s := by
  have ok := SC.blk
  have hfree : ∀ y ∈ scope.names, y.2 = .free → ∃ c, X.env.cells.lookup y.1 = some c := fun y hy e => by
    rcases ok.free y hy e with k | k
    · exact I.ok.has _ (.inl k)
    · exact I.ok.has _ (.inr k)
  refine wpAny_GeneratorExp_make SC.co (closure_ok hfree) SC.cell SC.dot ok.kind (by have := hr.dp; omega) ?_ hs
  refine thn (hi.run pins s σ H _ I h) fun xv s1 hx => thn hx fun itv s2 h2 => ?_
  obtain ⟨it, fp, tn, J, H2, e, I2, T, st2, f2, ⟨ps, hP, hts⟩, q⟩ := h2
  subst e
  have hPs : s2.heap.get? P = some { cls := .none, data := .fields ps } := I2.hok P _ hP
  have cd : PySem.W.CodeHd s2.heap c P := TB.code.keeps fun b u e => I2.bk b u e
  have nP : ∀ b ∈ fp, b ≠ P := fun b hb z => by
    have := (f2 b hb).1
    rw [z, hP] at this; cases this
  have sz2 : ∀ b ∈ fp, b < s2.heap.objs.size := fun b hb => by
    obtain ⟨o, e, _⟩ := T.obj _ _ st2 b hb
    exact Heap.lt_size e
  have cont : ∀ (code : Value) (h3 : Heap) (tk : Nat) (ps' : Array Value), Heap.ExtBut P s2.heap h3 → s2.heap.objs.size ≤ h3.objs.size → h3.get? P = some { cls := .none, data := .fields ps' } → (∃ more, ps' = ps ++ more) → TriplesOk ps'.toList →
      wpAny (model X.prog X.w) X.A (builtinsFor X.env.globals X.env.builtins) (fun bi s₄ =>
        ∀ h', h'.Ns s₄.heap.objs.size (fun y => if y = ".0" then some (.ref it) else none) → Heap.SameBut s₄.heap.objs.size (s₄.heap.push { cls := .type "frame", data := .dict #[] }) h' →
          Q' (.ref h'.objs.size) { s₄ with
            gens := s₄.gens.push (.fresh (.compStart (.GeneratorExp elt [⟨tg, iter, ifs, 0⟩] scope gpos) 0 (.ref it) .none (genEnv scope (cloFrom X.env.cells scope.names []) s₄.heap.objs.size code bi X.env))),
            toks := s₄.toks + 1 + 1 + 1,
            heap := h'.push { cls := .type "generator", data := .fields #[.int s₄.gens.size 0, .str "<genexpr>" (s₄.toks + 1), .str (X.env.qual ++ "<genexpr>") (s₄.toks + 1 + 1)] } }) X.xe { s2 with heap := h3, toks := tk } := by
    intro code h3 tk ps' hx hsz hP3 hmore ht3
    obtain ⟨bm, ob, e1, e2, e3, e4, e5, e6, e7, e8⟩ := TB.bm
    have keep3 : ∀ b u, b ≠ P → s2.heap.get? b = some u → h3.get? b = some u := fun b u hb e => hx b u hb e
    refine wpAny_builtinsFor (m := X.mg) (by rw [I2.ok.glob]; exact (I2.mod.glob.keeps I2.bk).extBut hx TB.gP) e1 e2 (keep3 _ _ e4 (I2.bk _ _ e5)) e6 e7 e8 ?_
    intro h' hn' hs'
    obtain ⟨more, em⟩ := hmore
    have I3 : Inv X pins σ (upd H2 P (.tbl (ps ++ more))) { s2 with heap := h3, toks := tk } :=
      inv_tab (more := more) (h' := h3) (g' := s2.gens) (d' := s2.drawn) (t' := tk) I2 hP keep3 (by rw [← em]; exact hP3) I2.bare
    obtain ⟨W, ⟨m0, w0⟩, turn⟩ := q (upd H2 P (.tbl (ps ++ more))) ⟨⟨ps ++ more, upd_same, by rw [← em]; exact ht3⟩, fun b hb => upd_ne hb⟩
    generalize hH3 : upd H2 P (.tbl (ps ++ more)) = H3 at I3 w0
    generalize hs4 : ({ s2 with heap := h3, toks := tk } : Shared) = s4 at I3 hn' hs' ⊢
    have hh4 : s4.heap = h3 := by rw [← hs4]
    have st4 : tn 0 s4.heap := T.keep _ _ _ st2 fun b hb o e => by rw [hh4]; exact keep3 b o (nP b hb) e
    have f3 : ∀ b ∈ fp, FpOk X pins H3 b ∧ b < s4.heap.objs.size := fun b hb => by
      refine ⟨⟨?_, (f2 b hb).2⟩, by rw [hh4]; exact Nat.lt_of_lt_of_le (sz2 b hb) hsz⟩
      rw [← hH3, upd_ne (nP b hb)]
      exact (f2 b hb).1
    have hszh : h'.objs.size = s4.heap.objs.size + 1 := by rw [hs'.1, Heap.size_push]
    have keep' : ∀ b o, s4.heap.get? b = some o → h'.get? b = some o := fun b o e => hs'.extBut b o (Nat.ne_of_lt (Heap.lt_size e)) (Heap.get?_push_of_some _ e)
    generalize hoa : ({ cls := .type "generator", data := .fields #[.int s4.gens.size 0, .str "<genexpr>" (s4.toks + 1), .str (X.env.qual ++ "<genexpr>") (s4.toks + 1 + 1)] } : Obj) = oa
    have ga : (h'.push oa).get? h'.objs.size = some oa := Heap.get?_push_size _ (by rw [← hoa]; rfl)
    have isg : (h'.push oa).IsGen h'.objs.size s4.gens.size := by rw [← hoa]; exact ⟨_, _, _, Heap.get?_push_size _ rfl, rfl, rfl, rfl⟩
    generalize hce : genEnv scope (cloFrom X.env.cells scope.names []) s4.heap.objs.size code builtinsNs X.env = cenv
    generalize hA' : X.A.in1.in1.over (.compLoop (.GeneratorExp elt [⟨tg, iter, ifs, 0⟩] scope gpos) 0 (.ref it) .none cenv) [] = A'
    have hfr : A'.frames = some (cenv :: X.stack) := by
      rw [← hA']
      show pushEnvs [cenv] (pushEnvs [] X.A.frames) = _
      rw [I2.ok.frames]
      rfl
    have hdp : A'.depth = X.A.depth + 1 := by rw [← hA']; rfl
    have hun : A'.units = X.A.units + 5 := by rw [← hA']; rfl
    have hhd : A'.handled = none := by rw [← hA']; exact hr.hd
    have hr' : Room k A' := ⟨hhd, by rw [hdp]; have := hr.dp; omega, by rw [hun]; have := hr.un; omega⟩
    have bare5 : AllBare (s4.gens.push (.fresh (.compStart (.GeneratorExp elt [⟨tg, iter, ifs, 0⟩] scope gpos) 0 (.ref it) .none cenv))) := I3.bare.push rfl
    have I5 := gen_start (A' := A') (cenv := cenv) (code := code) (m := fun y => if y = ".0" then some (.ref it) else none) (h5 := h'.push oa) (g' := s4.gens.push (.fresh (.compStart (.GeneratorExp elt [⟨tg, iter, ifs, 0⟩] scope gpos) 0 (.ref it) .none cenv)))
      (t5 := s4.toks + 1 + 1 + 1) (a := h'.objs.size) (oa := oa) I3 ok SC.cell hN f3 hce.symm hfr hhd (hn'.push _) (fun b o e => Heap.get?_push_of_some _ (keep' b o e)) bare5 ga (by omega) (by rw [← hoa]; intro v z; cases z)
    have back : ∀ s' ps' σ' H', Inv (gcx X A' s4 H3 cenv fp) ps' σ' H' s' → Inv X pins σ H' s' := fun s' ps' σ' H' I' =>
      I3.call' (ch := fp) I'.os I'.base I'.hok I'.bare fun b hb => ⟨(f3 b hb).1.2.2.2.1, (f3 b hb).1.2.1, (f3 b hb).1.2.2.2.2.1, (f3 b hb).1.2.2.2.2.2⟩
    have pg : PG (gcx X A' s4 H3 cenv fp) tg g := by rw [← hce]; exact hg A' hr' _ _ _ _ _ _
    have pt : PTs (gcx X A' s4 H3 cenv fp) ifs tt := by rw [← hce]; exact ht A' hr' _ _ _ _ _ _
    have pe : PE (gcx X A' s4 H3 cenv fp) elt te := by rw [← hce]; exact he A' hr' _ _ _ _ _ _
    refine hQ (gcx X A' s4 H3 cenv fp) h'.objs.size oa s4.gens.size (m0 + 1) (wipe σ (own.map (·.2))) _ _ rfl rfl rfl ga isg (Array.getElem?_push_size ..) I5.nolimit bare5 (fun S s'' oS hS e1 e2 e3 e4 e5 e6 => ?_) (fun S hS => Nat.le_trans I5.sz hS) back
    refine ⟨rfl, ?_⟩
    have hS : h'.objs.size + 1 ≤ S := by
      have hS : (h'.push oa).objs.size ≤ S := hS
      rwa [Heap.size_push] at hS
    have fS := I5.fpOk (b := S) (H' := H3) (by show (h'.push oa).objs.size ≤ S; rw [Heap.size_push]; exact hS) (I5.hok.fresh (by show (h'.push oa).objs.size ≤ S; rw [Heap.size_push]; exact hS))
    have I6 : Inv (gcx X A' s4 H3 cenv fp) ([(h'.objs.size, oa)] ++ [(S, oS)]) (wipe σ (own.map (·.2))) H3 s'' := by
      have I6 := Inv.kall I5 e1 e2 e3
      refine I6.pins_of fun p hp => ?_
      rcases List.mem_append.mp hp with hp | hp
      · exact I6.pin p (List.mem_append_right _ hp)
      · have := List.mem_singleton.mp hp
        subst this
        exact ⟨e4, fS.1, fS.2.1, fS.2.2.1, e6⟩
    subst hA'
    refine gen_beginS hc (by rw [← hce]; exact SC.co) T (fun b hb => Nat.ne_of_gt (Nat.lt_trans (f3 b hb).2 (by omega))) (fun b hb => Nat.ne_of_gt (Nat.lt_of_lt_of_le (f3 b hb).2 (by omega))) (Nat.ne_of_lt hS) (by omega) hmono pg pt pe turn m0 γ0 oS _ _ H3 w0 e4 e5 I6 ?_ (fun b hb => (f3 b hb).1.1)
    exact T.keep _ _ _ st4 fun b hb o e => e3 b o (Heap.get?_push_of_some _ (keep' b o e))
  refine ⟨I2.nolimit, ?_⟩
  cases hf : codeAmong gpos ps.toList with
  | none =>
    refine wpAny_genexprCodeX hcode (cd.code hPs hts) (cd.tab hPs) hf fun c' h' tk hx hge hlt hco' _ htab' _ => ?_
    obtain ⟨o1, vs, f1, tf, fl, tg', inF, tx, tt', op, _, _, _, _, _, _, _, _, _, htr, _⟩ := hco'
    exact cont _ h' tk _ hx (Nat.le_trans hge (Nat.le_of_lt hlt)) htab'.2 ⟨_, rfl⟩ htr
  | some cv =>
    refine wpAny_genexprCode_hit hcode (cd.code hPs hts) hf ?_
    exact cont cv s2.heap s2.toks ps (Heap.ExtBut.refl _ _) (Nat.le_refl _) hPs ⟨#[], by simp⟩ hts
end
end GAl

set_option Elab.async false
set_option linter.all false
set_option maxRecDepth 100000
set_option maxHeartbeats 2000000
namespace GAl
open PySem PySem.Spec PyProof.Rows L2 GxR
open Sem (wp)
/-! ### a generator expression that is consumed two codes deeper -/
section
variable {G : Type} {X : Cx} {pins : List (Addr × Obj)} {σ : L2.St} {H : Hp} {s : Shared}
theorem gen_makeS4 {c P : Addr} {elt tg iter : Expr} {ifs : List Expr} {gpos : Pos} {scope : Scope} {own : List (Str × Nat)} {wi : TI} {g : TG} {tt : TT} {te : TE} {k : Nat} {stp : G → V → Hp → (G → Prop) → Prop} {Rep : Obj → G → Prop} {γ0 : G} {Qd : G → Hp → Prop} {Q' : Value → Shared → Prop}
    (hr : Room (k + 1) X.A) (hc : X.calm = true) (hN : X.N.Nodup) (TB : TabB X.base X.mg c P) (hcode : X.env.code = .ref c) (SC : GSc X.N X.env.scope scope own) (hi : PI X tg iter wi)
    (hg : ∀ (A' : Around), Room k A' → ∀ (s : Shared) (H : Hp) (cl : List (Str × Addr)) (C : Addr) (code : Value) (fp : List Addr), PG (gcx X A' s H (genEnv scope cl C code builtinsNs X.env) fp) tg g)
    (ht : ∀ (A' : Around), Room k A' → ∀ (s : Shared) (H : Hp) (cl : List (Str × Addr)) (C : Addr) (code : Value) (fp : List Addr), PTs (gcx X A' s H (genEnv scope cl C code builtinsNs X.env) fp) ifs tt)
    (he : ∀ (A' : Around), Room k A' → ∀ (s : Shared) (H : Hp) (cl : List (Str × Addr)) (C : Addr) (code : Value) (fp : List Addr), PE (gcx X A' s H (genEnv scope cl C code builtinsNs X.env) fp) elt te)
    (hmono : ∀ γ y H (p q : G → Prop), (∀ γ', p γ' → q γ') → stp γ y H p → stp γ y H q)
    (hs : ∀ v, genFold iter X.env v = pure v) (I : Inv X pins σ H s) (h : tGenS P wi g tt te (own.map (·.2)) stp γ0 Qd σ H)
    (hQ : ∀ (XG : Cx) (a : Addr) (oa : Obj) (gn n : Nat) (σw : L2.St) (s5 : Shared) (gs : GenState), XG.prog = X.prog → XG.w = X.w → XG.pn = [] → s5.heap.get? a = some oa → s5.heap.IsGen a gn → s5.gens[gn]? = some gs → s5.heap.NoLimit → AllBare s5.gens →
      (∀ (S : Addr) (s'' : Shared) (oS : Obj), s5.heap.objs.size ≤ S → s''.os = s5.os → AllBare s''.gens → (∀ b o, s5.heap.get? b = some o → s''.heap.get? b = some o) → s''.heap.get? S = some oS → Rep oS γ0 → (∀ v, oS.data ≠ .cell v) →
        gs.Goes (model X.prog X.w) X.A.in1.in1.in1.in1 (fun n s₀ r s₁ => r = .ok .next ∧ REndS XG a oa S Rep σw Qd n s₀ s₁) (YOutS XG a oa S Rep stp) n (.send .none) s'') →
      (∀ S, s5.heap.objs.size ≤ S → XG.s_0.heap.objs.size ≤ S) → (∀ s' ps σ' H', Inv XG ps σ' H' s' → Inv X pins σ H' s') → Q' (.ref a) s5) :
    wpAny (model X.prog X.w) X.A (eval (.GeneratorExp elt [⟨tg, iter, ifs, 0⟩] scope gpos) X.env) Q' X.xe s := by
  have ok := SC.blk
  have hfree : ∀ y ∈ scope.names, y.2 = .free → ∃ c, X.env.cells.lookup y.1 = some c := fun y hy e => by
    rcases ok.free y hy e with k | k
    · exact I.ok.has _ (.inl k)
    · exact I.ok.has _ (.inr k)
  refine wpAny_GeneratorExp_make SC.co (closure_ok hfree) SC.cell SC.dot ok.kind (by have := hr.dp; omega) ?_ hs
  refine thn (hi.run pins s σ H _ I h) fun xv s1 hx => thn hx fun itv s2 h2 => ?_
  obtain ⟨it, fp, tn, J, H2, e, I2, T, st2, f2, ⟨ps, hP, hts⟩, q⟩ := h2
  subst e
  have hPs : s2.heap.get? P = some { cls := .none, data := .fields ps } := I2.hok P _ hP
  have cd : PySem.W.CodeHd s2.heap c P := TB.code.keeps fun b u e => I2.bk b u e
  have nP : ∀ b ∈ fp, b ≠ P := fun b hb z => by
    have := (f2 b hb).1
    rw [z, hP] at this; cases this
  have sz2 : ∀ b ∈ fp, b < s2.heap.objs.size := fun b hb => by
    obtain ⟨o, e, _⟩ := T.obj _ _ st2 b hb
    exact Heap.lt_size e
  have cont : ∀ (code : Value) (h3 : Heap) (tk : Nat) (ps' : Array Value), Heap.ExtBut P s2.heap h3 → s2.heap.objs.size ≤ h3.objs.size → h3.get? P = some { cls := .none, data := .fields ps' } → (∃ more, ps' = ps ++ more) → TriplesOk ps'.toList →
      wpAny (model X.prog X.w) X.A (builtinsFor X.env.globals X.env.builtins) (fun bi s₄ =>
        ∀ h', h'.Ns s₄.heap.objs.size (fun y => if y = ".0" then some (.ref it) else none) → Heap.SameBut s₄.heap.objs.size (s₄.heap.push { cls := .type "frame", data := .dict #[] }) h' →
          Q' (.ref h'.objs.size) { s₄ with
            gens := s₄.gens.push (.fresh (.compStart (.GeneratorExp elt [⟨tg, iter, ifs, 0⟩] scope gpos) 0 (.ref it) .none (genEnv scope (cloFrom X.env.cells scope.names []) s₄.heap.objs.size code bi X.env))),
            toks := s₄.toks + 1 + 1 + 1,
            heap := h'.push { cls := .type "generator", data := .fields #[.int s₄.gens.size 0, .str "<genexpr>" (s₄.toks + 1), .str (X.env.qual ++ "<genexpr>") (s₄.toks + 1 + 1)] } }) X.xe { s2 with heap := h3, toks := tk } := by
    intro code h3 tk ps' hx hsz hP3 hmore ht3
    obtain ⟨bm, ob, e1, e2, e3, e4, e5, e6, e7, e8⟩ := TB.bm
    have keep3 : ∀ b u, b ≠ P → s2.heap.get? b = some u → h3.get? b = some u := fun b u hb e => hx b u hb e
    refine wpAny_builtinsFor (m := X.mg) (by rw [I2.ok.glob]; exact (I2.mod.glob.keeps I2.bk).extBut hx TB.gP) e1 e2 (keep3 _ _ e4 (I2.bk _ _ e5)) e6 e7 e8 ?_
    intro h' hn' hs'
    obtain ⟨more, em⟩ := hmore
    have I3 : Inv X pins σ (upd H2 P (.tbl (ps ++ more))) { s2 with heap := h3, toks := tk } :=
      inv_tab (more := more) (h' := h3) (g' := s2.gens) (d' := s2.drawn) (t' := tk) I2 hP keep3 (by rw [← em]; exact hP3) I2.bare
    obtain ⟨W, ⟨m0, w0⟩, turn⟩ := q (upd H2 P (.tbl (ps ++ more))) ⟨⟨ps ++ more, upd_same, by rw [← em]; exact ht3⟩, fun b hb => upd_ne hb⟩
    generalize hH3 : upd H2 P (.tbl (ps ++ more)) = H3 at I3 w0
    generalize hs4 : ({ s2 with heap := h3, toks := tk } : Shared) = s4 at I3 hn' hs' ⊢
    have hh4 : s4.heap = h3 := by rw [← hs4]
    have st4 : tn 0 s4.heap := T.keep _ _ _ st2 fun b hb o e => by rw [hh4]; exact keep3 b o (nP b hb) e
    have f3 : ∀ b ∈ fp, FpOk X pins H3 b ∧ b < s4.heap.objs.size := fun b hb => by
      refine ⟨⟨?_, (f2 b hb).2⟩, by rw [hh4]; exact Nat.lt_of_lt_of_le (sz2 b hb) hsz⟩
      rw [← hH3, upd_ne (nP b hb)]
      exact (f2 b hb).1
    have hszh : h'.objs.size = s4.heap.objs.size + 1 := by rw [hs'.1, Heap.size_push]
    have keep' : ∀ b o, s4.heap.get? b = some o → h'.get? b = some o := fun b o e => hs'.extBut b o (Nat.ne_of_lt (Heap.lt_size e)) (Heap.get?_push_of_some _ e)
    generalize hoa : ({ cls := .type "generator", data := .fields #[.int s4.gens.size 0, .str "<genexpr>" (s4.toks + 1), .str (X.env.qual ++ "<genexpr>") (s4.toks + 1 + 1)] } : Obj) = oa
    have ga : (h'.push oa).get? h'.objs.size = some oa := Heap.get?_push_size _ (by rw [← hoa]; rfl)
    have isg : (h'.push oa).IsGen h'.objs.size s4.gens.size := by rw [← hoa]; exact ⟨_, _, _, Heap.get?_push_size _ rfl, rfl, rfl, rfl⟩
    generalize hce : genEnv scope (cloFrom X.env.cells scope.names []) s4.heap.objs.size code builtinsNs X.env = cenv
    generalize hA' : X.A.in1.in1.in1.in1.over (.compLoop (.GeneratorExp elt [⟨tg, iter, ifs, 0⟩] scope gpos) 0 (.ref it) .none cenv) [] = A'
    have hfr : A'.frames = some (cenv :: X.stack) := by
      rw [← hA']
      show pushEnvs [cenv] (pushEnvs [] X.A.frames) = _
      rw [I2.ok.frames]
      rfl
    have hdp : A'.depth = X.A.depth + 1 := by rw [← hA']; rfl
    have hun : A'.units = X.A.units + 7 := by rw [← hA']; rfl
    have hhd : A'.handled = none := by rw [← hA']; exact hr.hd
    have hr' : Room k A' := ⟨hhd, by rw [hdp]; have := hr.dp; omega, by rw [hun]; have := hr.un; omega⟩
    have bare5 : AllBare (s4.gens.push (.fresh (.compStart (.GeneratorExp elt [⟨tg, iter, ifs, 0⟩] scope gpos) 0 (.ref it) .none cenv))) := I3.bare.push rfl
    have I5 := gen_start (A' := A') (cenv := cenv) (code := code) (m := fun y => if y = ".0" then some (.ref it) else none) (h5 := h'.push oa) (g' := s4.gens.push (.fresh (.compStart (.GeneratorExp elt [⟨tg, iter, ifs, 0⟩] scope gpos) 0 (.ref it) .none cenv)))
      (t5 := s4.toks + 1 + 1 + 1) (a := h'.objs.size) (oa := oa) I3 ok SC.cell hN f3 hce.symm hfr hhd (hn'.push _) (fun b o e => Heap.get?_push_of_some _ (keep' b o e)) bare5 ga (by omega) (by rw [← hoa]; intro v z; cases z)
    have back : ∀ s' ps' σ' H', Inv (gcx X A' s4 H3 cenv fp) ps' σ' H' s' → Inv X pins σ H' s' := fun s' ps' σ' H' I' =>
      I3.call' (ch := fp) I'.os I'.base I'.hok I'.bare fun b hb => ⟨(f3 b hb).1.2.2.2.1, (f3 b hb).1.2.1, (f3 b hb).1.2.2.2.2.1, (f3 b hb).1.2.2.2.2.2⟩
    have pg : PG (gcx X A' s4 H3 cenv fp) tg g := by rw [← hce]; exact hg A' hr' _ _ _ _ _ _
    have pt : PTs (gcx X A' s4 H3 cenv fp) ifs tt := by rw [← hce]; exact ht A' hr' _ _ _ _ _ _
    have pe : PE (gcx X A' s4 H3 cenv fp) elt te := by rw [← hce]; exact he A' hr' _ _ _ _ _ _
    refine hQ (gcx X A' s4 H3 cenv fp) h'.objs.size oa s4.gens.size (m0 + 1) (wipe σ (own.map (·.2))) _ _ rfl rfl rfl ga isg (Array.getElem?_push_size ..) I5.nolimit bare5 (fun S s'' oS hS e1 e2 e3 e4 e5 e6 => ?_) (fun S hS => Nat.le_trans I5.sz hS) back
    refine ⟨rfl, ?_⟩
    have hS : h'.objs.size + 1 ≤ S := by
      have hS : (h'.push oa).objs.size ≤ S := hS
      rwa [Heap.size_push] at hS
    have fS := I5.fpOk (b := S) (H' := H3) (by show (h'.push oa).objs.size ≤ S; rw [Heap.size_push]; exact hS) (I5.hok.fresh (by show (h'.push oa).objs.size ≤ S; rw [Heap.size_push]; exact hS))
    have I6 : Inv (gcx X A' s4 H3 cenv fp) ([(h'.objs.size, oa)] ++ [(S, oS)]) (wipe σ (own.map (·.2))) H3 s'' := by
      have I6 := Inv.kall I5 e1 e2 e3
      refine I6.pins_of fun p hp => ?_
      rcases List.mem_append.mp hp with hp | hp
      · exact I6.pin p (List.mem_append_right _ hp)
      · have := List.mem_singleton.mp hp
        subst this
        exact ⟨e4, fS.1, fS.2.1, fS.2.2.1, e6⟩
    subst hA'
    refine gen_beginS hc (by rw [← hce]; exact SC.co) T (fun b hb => Nat.ne_of_gt (Nat.lt_trans (f3 b hb).2 (by omega))) (fun b hb => Nat.ne_of_gt (Nat.lt_of_lt_of_le (f3 b hb).2 (by omega))) (Nat.ne_of_lt hS) (by omega) hmono pg pt pe turn m0 γ0 oS _ _ H3 w0 e4 e5 I6 ?_ (fun b hb => (f3 b hb).1.1)
    exact T.keep _ _ _ st4 fun b hb o e => e3 b o (Heap.get?_push_of_some _ (keep' b o e))
  refine ⟨I2.nolimit, ?_⟩
  cases hf : codeAmong gpos ps.toList with
  | none =>
    refine wpAny_genexprCodeX hcode (cd.code hPs hts) (cd.tab hPs) hf fun c' h' tk hx hge hlt hco' _ htab' _ => ?_
    obtain ⟨o1, vs, f1, tf, fl, tg', inF, tx, tt', op, _, _, _, _, _, _, _, _, _, htr, _⟩ := hco'
    exact cont _ h' tk _ hx (Nat.le_trans hge (Nat.le_of_lt hlt)) htab'.2 ⟨_, rfl⟩ htr
  | some cv =>
    refine wpAny_genexprCode_hit hcode (cd.code hPs hts) hf ?_
    exact cont cv s2.heap s2.toks ps (Heap.ExtBut.refl _ _) (Nat.le_refl _) hPs ⟨#[], by simp⟩ hts
end
end GAl

set_option Elab.async false
set_option linter.all false
set_option maxRecDepth 100000
set_option maxHeartbeats 2000000
namespace GAl
open PySem PySem.Spec PyProof.Rows L2 GxR
open Sem (wp)
/-! ### tuple of a generator expression -/
abbrev lstObj (acc : Array Value) (c : Nat) : Obj := { cls := .type "list", dict := none, data := .seq acc c, slots := #[] }
def RepT : Obj → List V → Prop := fun o γ => ∃ acc c, o = lstObj acc c ∧ Vals γ acc.toList
def stpT : List V → V → Hp → (List V → Prop) → Prop := fun γ y _ N => γ.length ≤ 1000 ∧ N (γ ++ [y])
theorem stpT_mono : ∀ γ y H (p q : List V → Prop), (∀ γ', p γ' → q γ') → stpT γ y H p → stpT γ y H q := fun _ _ _ _ _ h ⟨k, n⟩ => ⟨k, h _ n⟩
theorem vals_snoc {γ : List V} {us : List Value} {y : V} {v : Value} (h : Vals γ us) (r : RelV y v) : Vals (γ ++ [y]) (us ++ [v]) := by
  induction h with
  | nil => exact .cons r .nil
  | cons a _ ih => exact .cons a ih
section
variable {X XG : Cx} {A : Around} {a S : Addr} {oa : Obj} {g : Nat} {σw : L2.St} {Qd : List V → Hp → Prop} {R : Result → Shared → Prop}
theorem tup_loop (hh : A.handled = none) (hroom : A.depth < recursionLimit) (hpn : XG.pn = []) (hSy : S ∈ XG.ex ∨ XG.s_0.heap.objs.size ≤ S) (res : Value)
    (hfin : ∀ s' ps σ' H' γ acc c, Inv XG ps σ' H' s' → s'.heap.get? S = some (lstObj acc c) → Vals γ acc.toList → Qd γ H' → R (.ok (.ret res)) s') :
    ∀ (n : Nat) (s : Shared) (acc : Array Value) (c : Nat), s.heap.get? a = some oa → s.heap.get? S = some (lstObj acc c) → a ≠ S →
      GSt (model X.prog X.w) A.in1.in1 (REndS XG a oa S RepT σw Qd) (YOutS XG a oa S RepT stpT) a g n s → codeAny (model X.prog X.w) A (.builtin "list.extend.loop" ⟨[.ref S, .ref a, res], []⟩) R s := by
  intro n
  induction n with
  | zero =>
    intro s acc c hoa hS haS ⟨hg, hl, gs, hgs, hgo⟩
    refine codeAny_builtin F.entry_extend_loop ?_
    rw [Around.under_plainId F.plain_extend_loop _]
    show wpAny _ A.in1 (pyNext (.ref a) >>= _) _ _ s
    refine wpAny_bind (next_sz (A := A.in1) hh hl hroom hg hgs hgo (fun v s₁ gs' hsz hb hv => ?_) (fun s₁ hsz hp h' hk => ?_))
    · obtain ⟨γ, oS', y, H4, σ4, e1, e2, I4, r, k, nn⟩ := hv
      have e1 : s.heap.get? S = some oS' := e1
      rw [hS] at e1; cases e1
      obtain ⟨acc', c', e3, hV⟩ := e2
      cases e3
      have hS' : s₁.heap.get? S = some (lstObj acc c) := (I4.pin (S, lstObj acc c) (by rw [hpn]; simp)).1
      have hln : γ.length = acc.size := by rw [hV.length]; simp
      show wpAny _ A.in1 (updateSeq S (·.push v) >>= _) _ _ _
      refine wpAny_bind (wpAny_updateSeq hS' rfl (wpAny_pure ⟨plainId_quiet F.plain_extend_loop _, ?_⟩) (by rw [sizeLine_eq]; omega) (by show (acc.push v).size ≤ sizeLine + 1; rw [Array.size_push, sizeLine_eq]; omega))
      exact False.elim (nn (Shared.setGen { s₁ with heap := s₁.heap.update S (Obj.mapSeq (·.push v)) } g gs') _ rfl (bare_set I4.bare hb) (fun b o hb' e => (Heap.get?_update_other _ _ (Ne.symm hb')).trans e) (Heap.get?_update_self _ hS' rfl) ⟨_, _, rfl, by
        rw [Array.toList_push]
        exact vals_snoc hV r⟩ (fun v z => by cases z))
    · obtain ⟨γ, oS', H4, e1, e2, I4, q⟩ := hp
      have e1 : s.heap.get? S = some oS' := e1
      rw [hS] at e1; cases e1
      obtain ⟨acc', c', e3, hV⟩ := e2
      cases e3
      have hS1 : s₁.heap.get? S = some (lstObj acc c) := (I4.pin (S, lstObj acc c) (by rw [hpn]; simp)).1
      exact wpAny_pure (hfin _ _ σw H4 _ _ _ (Inv.kall I4 rfl (bare_set I4.bare rfl) hk) (hk _ _ hS1) hV q)
  | succ n ih =>
    intro s acc c hoa hS haS ⟨hg, hl, gs, hgs, hgo⟩
    refine codeAny_builtin F.entry_extend_loop ?_
    rw [Around.under_plainId F.plain_extend_loop _]
    show wpAny _ A.in1 (pyNext (.ref a) >>= _) _ _ s
    refine wpAny_bind (next_sz (A := A.in1) hh hl hroom hg hgs hgo (fun v s₁ gs' hsz hb hv => ?_) (fun s₁ hsz hp h' hk => ?_))
    · obtain ⟨γ, oS', y, H4, σ4, e1, e2, I4, r, k, nn⟩ := hv
      have e1 : s.heap.get? S = some oS' := e1
      rw [hS] at e1; cases e1
      obtain ⟨acc', c', e3, hV⟩ := e2
      cases e3
      have hS' : s₁.heap.get? S = some (lstObj acc c) := (I4.pin (S, lstObj acc c) (by rw [hpn]; simp)).1
      have ha : s₁.heap.get? a = some oa := (I4.pin (a, oa) (by rw [hpn]; simp)).1
      obtain ⟨x, hx⟩ := gens_some hgs hsz rfl
      have hln : γ.length = acc.size := by rw [hV.length]; simp
      show wpAny _ A.in1 (updateSeq S (·.push v) >>= _) _ _ _
      refine wpAny_bind (wpAny_updateSeq hS' rfl (wpAny_pure ⟨plainId_quiet F.plain_extend_loop _, ?_⟩) (by rw [sizeLine_eq]; omega) (by show (acc.push v).size ≤ sizeLine + 1; rw [Array.size_push, sizeLine_eq]; omega))
      have oth : ∀ b o, b ≠ S → s₁.heap.get? b = some o → (s₁.heap.update S (Obj.mapSeq (·.push v))).get? b = some o := fun b o hb' e => (Heap.get?_update_other _ _ (Ne.symm hb')).trans e
      have hS3 := Heap.get?_update_self (Obj.mapSeq (·.push v)) hS' rfl
      have hV' : Vals (γ ++ [y]) (acc.push v).toList := by
        rw [Array.toList_push]
        exact vals_snoc hV r
      refine ih _ (acc.push v) _ (oth a oa haS ha) hS3 haS ⟨isgen_of hg hoa (oth a oa haS ha), ?_, gs', setGen_self hx, ?_⟩
      · exact (Inv.kallS (ps := [(a, oa)]) (s'' := { s₁.setGen g gs' with heap := s₁.heap.update S (Obj.mapSeq (·.push v)) }) I4 hSy (by rw [hpn]; intro p hp; have := List.mem_singleton.mp hp; subst this; exact haS) rfl (bare_set I4.bare hb) oth hS3 (fun v z => by cases z)).nolimit
      · exact nn (Shared.setGen { s₁.setGen g gs' with heap := s₁.heap.update S (Obj.mapSeq (·.push v)) } g .running) _ rfl (bare_set (bare_set I4.bare hb) rfl) oth hS3 ⟨_, _, rfl, hV'⟩ (fun v z => by cases z)
    · obtain ⟨γ, oS', H4, e1, e2, I4, q⟩ := hp
      have e1 : s.heap.get? S = some oS' := e1
      rw [hS] at e1; cases e1
      obtain ⟨acc', c', e3, hV⟩ := e2
      cases e3
      have hS1 : s₁.heap.get? S = some (lstObj acc c) := (I4.pin (S, lstObj acc c) (by rw [hpn]; simp)).1
      exact wpAny_pure (hfin _ _ σw H4 _ _ _ (Inv.kall I4 rfl (bare_set I4.bare rfl) hk) (hk _ _ hS1) hV q)
end
section
variable {prog : Program} {w : World} {A : Around} {E : Value → Shared → Prop} {s : Shared} {a : Addr} {g : Nat}
theorem keeps_push {h : Heap} {o : Obj} : ∀ b u, h.get? b = some u → (h.push o).get? b = some u := fun b u e => Heap.get?_push_of_some _ e
/-- a generator is collected by the loop that extends a new list -/
theorem collect_by {Q : List Value → Shared → Prop} (hG : s.heap.IsGen a g)
    (hQ : ∀ (h' : Heap) (S : Addr) (c tk : Nat), s.heap.objs.size ≤ S → (∀ b o, s.heap.get? b = some o → h'.get? b = some o) → h'.get? S = some (lstObj #[] c) →
      codeAny (model prog w) A (.builtin "list.extend.loop" ⟨[.ref S, .ref a, .ref S], []⟩) (fun r s' => ∃ acc c', r = .ok (.ret (.ref S)) ∧ s'.heap.get? S = some (lstObj acc c') ∧ Q acc.toList s') { s with heap := h', toks := tk }) :
    wpAny (model prog w) A (collect (.ref a)) Q E s := by
  obtain ⟨oa, hoa⟩ : ∃ oa, s.heap.get? a = some oa := by
    obtain ⟨_, _, _, o, _⟩ := hG
    exact ⟨_, o⟩
  have hlt := Heap.lt_size hoa
  have hSa : s.heap.objs.size ≠ a := fun e => Nat.lt_irrefl _ (e ▸ hlt)
  unfold collect
  refine wpAny_bind (wpAny_runValue (codeAny_builtin F.entry_proto_collect ?_))
  rw [Around.under_plainId F.plain_proto_collect _]
  show wpAny _ A.in1 (newList [] >>= fun l => again (.builtin "list.__iadd__" ⟨[l, .ref a], []⟩)) _ _ s
  refine wpAny_bind (wpAny_newObj_type ?_)
  refine wpAny_pure ⟨plainId_quiet F.plain_list_iadd _, codeAny_builtin F.entry_list_iadd ?_⟩
  rw [Around.under_plainId F.plain_list_iadd _]
  have hG1 : (s.heap.push (lstObj #[] 0)).IsGen a g := hG.push _
  have ty : (⟨s.heap.push (lstObj #[] 0), s.gens, s.drawn, s.toks, s.os⟩ : Shared).TypeIs (.ref a) "generator" := Heap.IsGen.typeIs (s := ⟨s.heap.push (lstObj #[] 0), s.gens, s.drawn, s.toks, s.os⟩) hG1
  show wpAny _ A.in1 (Builtin.List.listExtendWith (.ref s.heap.objs.size) (.ref a) (.ref s.heap.objs.size)) _ _ _
  unfold Builtin.List.listExtendWith
  refine wpAny_bind (wpAny_typeOf ty ?_)
  simp only [show Builtin.List.listSameRef (.ref s.heap.objs.size) (.ref a) = false by simp [Builtin.List.listSameRef, hSa], show (Value.type "generator" == Value.type "list") = false by decide, show (Value.type "generator" == Value.type "tuple") = false by decide, Bool.or_false, Bool.false_eq_true, if_false]
  refine wpAny_bind (wpAny_pyIter_gen hG1 ?_)
  refine wpAny_bind (wpAny_holding ?_)
  unfold Builtin.List.listLengthHint
  refine wpAny_bind (wpAny_specialOf ty F.gen_no_len ?_)
  show wpAny _ A.in1 (specialOf (Value.ref a) (Str.ofString "__length_hint__") >>= _) _ _ _
  refine wpAny_bind (wpAny_specialOf ty F.gen_no_hint ?_)
  apply wpAny_pure
  show wpAny _ A.in1 (rule "list.extend.makes-room" >>= fun _ => Builtin.List.listTouch (.ref s.heap.objs.size) >>= fun _ => again (.builtin "list.extend.loop" ⟨[.ref s.heap.objs.size, .ref a, .ref s.heap.objs.size], []⟩)) _ _ _
  refine wpAny_bind (wpAny_rule (wpAny_bind ?_))
  have g1 : (s.heap.push (lstObj #[] 0)).get? s.heap.objs.size = some (lstObj #[] 0) := Heap.get?_push_size _ rfl
  show wpAny _ A.in1 (updateSeq s.heap.objs.size (·.push .none) >>= fun _ => updateSeq s.heap.objs.size (·.pop)) _ _ _
  refine wpAny_bind (wpAny_updateSeq g1 rfl ?_)
  have g2 := Heap.get?_update_self (Obj.mapSeq (·.push Value.none)) g1 rfl
  refine wpAny_updateSeq g2 rfl ?_
  have g3 := Heap.get?_update_self (Obj.mapSeq (·.pop)) g2 rfl
  refine wpAny_pure ⟨plainId_quiet F.plain_extend_loop _, codeAny_mono (hQ _ _ _ _ (Nat.le_refl _) (fun b o e => ?_) g3) fun r s' hr => ?_⟩
  · have hb : b ≠ s.heap.objs.size := Nat.ne_of_lt (Heap.lt_size e)
    exact (Heap.get?_update_other _ _ (Ne.symm hb)).trans ((Heap.get?_update_other _ _ (Ne.symm hb)).trans (keeps_push b o e))
  · obtain ⟨acc, c', rfl, h1, h2⟩ := hr
    show wpAny _ A (load s.heap.objs.size >>= _) _ _ s'
    exact wpAny_bind (wpAny_load h1 (wpAny_pure h2))
/-- tuple(g) -/
theorem call_tup_by {Q : Value → Shared → Prop} (hG : s.heap.IsGen a g)
    (hQ : ∀ (h' : Heap) (S : Addr) (c tk : Nat), s.heap.objs.size ≤ S → (∀ b o, s.heap.get? b = some o → h'.get? b = some o) → h'.get? S = some (lstObj #[] c) →
      codeAny (model prog w) A.in1.in1 (.builtin "list.extend.loop" ⟨[.ref S, .ref a, .ref S], []⟩) (fun r s' => ∃ acc c', r = .ok (.ret (.ref S)) ∧ s'.heap.get? S = some (lstObj acc c') ∧ acc.size ≤ sizeLine ∧ Q (.ref s'.heap.objs.size) { s' with heap := s'.heap.push { cls := .type "tuple", data := .seq acc } }) { s with heap := h', toks := tk }) :
    wpAny (model prog w) A (call (.type "tuple") [.ref a]) Q E s := by
  refine callType_codes (Q₁ := fun obj s₁ => s₁.TypeIs obj "tuple" ∧ Q obj s₁) F.called_tuple (F.typeCall_tuple_1 _) F.entry_object_init ?_ fun obj s₁ h₁ => ⟨h₁.1, F.args_object_init_2 obj _, object_init_meets F.called_tuple.init.lookup F.called_tuple.made (by decide) prog w A.in1 _ s₁ ⟨h₁.1, rfl, h₁.2⟩⟩
  refine codeAny_of_tree ?_
  show wpAny _ A.in1.in1 (do checkBuiltinCall "tuple.__new__" ⟨[.type "tuple", .ref a], []⟩; again (.builtin "tuple.__new__" ⟨[.type "tuple", .ref a], []⟩)) _ _ s
  refine wpAny_bind (wpAny_of_eq (F.newCall_tuple_1 _) (wpAny_pure ⟨plainId_quiet F.plain_tuple_new _, codeAny_builtin F.entry_tuple_new ?_⟩))
  rw [Around.under_plainId F.plain_tuple_new _]
  have e1 := sub_tuple_self
  have e2 := init_tuple_lookup
  have e3 := madeHere_tuple
  have e4 := hG.typeIs
  wp_walk using wpAny_typeOf e4, collect_by hG
  intro h' S c tk hS hk h1
  refine codeAny_mono (hQ h' S c tk hS hk h1) fun r s' hr => ?_
  obtain ⟨acc, c', rfl, h2, h3, h4⟩ := hr
  refine ⟨acc, c', rfl, h2, ?_⟩
  show wpAny _ _ (Builtin.Tuple.tupleExact acc.toList.toArray >>= fun v => ret v) _ _ _
  unfold Builtin.Tuple.tupleExact
  refine wpAny_bind (wpAny_newObj_type ?_ (by rw [Array.toArray_toList]; exact h3))
  refine wpAny_pure ?_
  rw [Array.toArray_toList]
  exact ⟨⟨_, Heap.get?_push_size _ rfl, rfl⟩, h4⟩
end
section
variable {X : Cx}
def tTupG (P : Addr) (wi : TI) (g : TG) (tt : TT) (te : TE) (vs : List Nat) : TE := fun σ H Q => tGenS P wi g tt te vs stpT ([] : List V) (fun γ H' => γ.length ≤ 1001 ∧ ∀ p, H' p = none → Q (.ref p) (upd H' p (.tup γ))) σ H
theorem pe_tupG {c P : Addr} {elt tg iter : Expr} {ifs : List Expr} {p pos gpos : Pos} {scope : Scope} {own : List (Str × Nat)} {wi : TI} {g : TG} {tt : TT} {te : TE} {k : Nat}
    (hr : Room (k + 1) X.A) (hgl : Gl X "tuple") (hm : X.mg "tuple" = none) (hc : X.calm = true) (hN : X.N.Nodup) (TB : TabB X.base X.mg c P) (hcode : X.env.code = .ref c) (S : GSc X.N X.env.scope scope own) (hi : PI X tg iter wi)
    (hg : ∀ (A' : Around), Room k A' → ∀ (s : Shared) (H : Hp) (cl : List (Str × Addr)) (C : Addr) (code : Value) (fp : List Addr), PG (gcx X A' s H (genEnv scope cl C code builtinsNs X.env) fp) tg g)
    (ht : ∀ (A' : Around), Room k A' → ∀ (s : Shared) (H : Hp) (cl : List (Str × Addr)) (C : Addr) (code : Value) (fp : List Addr), PTs (gcx X A' s H (genEnv scope cl C code builtinsNs X.env) fp) ifs tt)
    (he : ∀ (A' : Around), Room k A' → ∀ (s : Shared) (H : Hp) (cl : List (Str × Addr)) (C : Addr) (code : Value) (fp : List Addr), PE (gcx X A' s H (genEnv scope cl C code builtinsNs X.env) fp) elt te)
    (hs : ∀ v, genFold iter X.env v = pure v := by intro _; rfl)
    (hst : starEach [.GeneratorExp elt [⟨tg, iter, ifs, 0⟩] scope gpos] X.env = (false, eval (.GeneratorExp elt [⟨tg, iter, ifs, 0⟩] scope gpos) X.env) :: starEach [] X.env := by rfl)
    (hb : bootBuiltins "tuple" = some (.type "tuple") := by decide +kernel) :
    PE X (.Call (.Name "tuple" p) [.GeneratorExp elt [⟨tg, iter, ifs, 0⟩] scope gpos] [] pos) (tTupG P wi g tt te (own.map (·.2))) := by
  refine ⟨fun pins s σ H Q I h => ?_⟩
  refine wpAny_Call_Name_kw (ld_blt I hgl hm hb ?_ (by decide) (by decide))
  refine PyProof.Rows.callWith_type1 ?_ hst (by rfl)
  rw [hst]
  show wpAny _ _ (spliced ((false, eval (.GeneratorExp elt [⟨tg, iter, ifs, 0⟩] scope gpos) X.env) :: backTo pos (starEach [] X.env))) _ _ s
  refine Calls.spliced_cons (gen_makeS4 (Rep := RepT) hr hc hN TB hcode S hi hg ht he stpT_mono hs I h fun XG a oa gn n σw s5 gs eP eW epn ha hG hgs hnl hb5 go hy back => ?_)
  refine Calls.spliced_nil ?_
  show wpAny _ _ (call (.type "tuple") [.ref a]) _ _ _
  refine call_tup_by hG fun h' L c tk hL hk h1 => ?_
  have haL : a ≠ L := Nat.ne_of_lt (Nat.lt_of_lt_of_le (Heap.lt_size ha) hL)
  refine tup_loop (A := X.A.in1.in1) (X := X) (XG := XG) (oa := oa) (g := gn) (σw := σw) (Qd := fun γ H' => γ.length ≤ 1001 ∧ ∀ p, H' p = none → Q (.ref p) (upd H' p (.tup γ))) hr.hd (by have := hr.dp; show X.A.depth < _; omega) epn (.inr (hy _ hL)) _ (fun s' ps σ' H' γ acc c' I' hS' hV q => ?_) n ({ s5 with heap := h', toks := tk } : Shared) #[] c (hk _ _ ha) h1 haL ⟨isgen_of hG ha (hk _ _ ha), (Heap.NoLimit.keeps hnl hk : h'.NoLimit), gs, hgs, ?_⟩
  · obtain ⟨ql, q⟩ := q
    have hln : γ.length = acc.size := by rw [hV.length]; simp
    have hsz : acc.size ≤ sizeLine := by rw [sizeLine_eq]; omega
    refine ⟨acc, c', rfl, hS', hsz, ?_⟩
    have I2 := back s' _ σ' H' I'
    have new : H' s'.heap.objs.size = none := I2.hok.fresh (Nat.le_refl _)
    refine ⟨.ref s'.heap.objs.size, upd H' s'.heap.objs.size (.tup γ), I2.laid (a := s'.heap.objs.size) (o := .tup γ) (h' := s'.heap.push { cls := .type "tuple", data := .seq acc }) (t' := s'.toks) (fun _ _ e => Heap.get?_push_of_some _ e) (Nat.le_refl _) ?_, rfl, q _ new⟩
    refine ⟨by rw [sizeLine_eq]; omega, acc.toList, hV, ?_⟩
    rw [Array.toArray_toList]
    exact ⟨_, Heap.get?_push_size _ rfl, rfl, 0, rfl⟩
  · exact go L (Shared.setGen _ gn .running) _ hL rfl (bare_set hb5 rfl) hk h1 ⟨_, _, rfl, .nil⟩ (fun v z => by cases z)
end
end GAl

set_option Elab.async false
set_option linter.all false
set_option maxRecDepth 100000
set_option maxHeartbeats 4000000
namespace HK
open PySem PySem.Spec PyProof.Rows L2 GAl GxR
def methS (i j : Nat) : Stmt := match topS i with
  | .ClassDef _ _ _ body _ _ _ _ _ _ _ => body.getD j (.Pass ⟨0, 0, 0, 0⟩)
  | s => s
abbrev sInit : Stmt := methS 13 0
abbrev N_scInit : List Str := ["self", "up", "place"]
theorem scInit : FnScope N_scInit ["self", "up"] (defScope sInit) := ⟨rfl, rfl, rfl, by decide +kernel, rfl, by decide +kernel, by decide +kernel⟩
abbrev sHearers : Stmt := methS 13 12
abbrev N_scHearers : List Str := ["self", "place"]
theorem scHearers : FnScope N_scHearers ["self"] (defScope sHearers) := ⟨rfl, rfl, rfl, by decide +kernel, rfl, by decide +kernel, by decide +kernel⟩
def hearF : List Str := ["ahead", "root", "counted", "hears", "counts", "served", "letter_rows", "copy_rows", "stay_lists", "emitted", "letter_sum", "copy_sum"]
/-- the fields that a Hearing has -/
structure HearN (K : PySem.W.Frag) (C : Addr) : Prop where
  c : Cls K C
  n : ∀ f ∈ (["ahead", "root", "counted", "hears", "counts", "served", "letter_rows", "copy_rows", "stay_lists", "emitted", "letter_sum", "copy_sum"] : List Str), NoAttr K C f
theorem shaped_us (us : List (Option Int)) : SeqAt.shaped (.tuple (us.map oD)) = true := by
  have h1 : ∀ us : List (Option Int), PyData.canLayAll0 (us.map oD) = true := fun us => by
    induction us with
    | nil => rfl
    | cons o r ih => cases o <;> (rw [List.map_cons]; simp only [PyData.canLayAll0, ih, oD, PyData.canLay0, Bool.and_true])
  have h2 : ∀ us : List (Option Int), PyData.depthAll (us.map oD) ≤ 1 := fun us => by
    induction us with
    | nil => decide
    | cons o r ih => cases o <;> (rw [List.map_cons]; simp only [PyData.depthAll, oD, PyData.depth]; omega)
  show (PyData.canLay0 (.tuple (us.map oD)) && decide (PyData.depth (.tuple (us.map oD)) ≤ 64)) = true
  rw [Bool.and_eq_true, decide_eq_true_iff]
  refine ⟨by simp only [PyData.canLay0, h1 us], ?_⟩
  have := h2 us
  simp only [PyData.depth]
  omega
theorem Kt.setI {t : Addr} {H : Hp} {C dx : Addr} {fs gs : List (Str × V)} (h : H t = some (.ins C dx fs)) : Kt t H (upd H t (.ins C dx gs)) := ⟨fun b zs e => by
  rw [upd_ne (ne_of e h (fun z => by cases z))]; exact e, fun b o u e => by
  rw [upd_ne (ne_of e h (fun z => by cases z))]; exact e, fun b o e n _ => by rw [upd_ne n]; exact e, fun P hP => by
  obtain ⟨ps, e, ht⟩ := hP
  exact ⟨ps, by rw [upd_ne (ne_of e h (fun z => by cases z))]; exact e, ht⟩, fun _ e => upd_none e⟩
/-- the object while it is made -/
structure HI (K : PySem.W.Frag) (H H' : Hp) (x C dx p : Addr) (fs : List (Str × V)) (m : Nat) : Prop where
  k : Kt x H H'
  x : H' x = some (.ins C dx fs)
  l : fs.length ≤ m
  a : fs.lookup ("ahead" : Str) = some (.ref p)
  o : ∀ g : Str, g ∉ hearF → fs.lookup g = none
theorem HI.put {K : PySem.W.Frag} {H H' H'' : Hp} {x C dx p : Addr} {fs : List (Str × V)} {m : Nat} (h : HI K H H' x C dx p fs m) (k : K0 H' H'') (f : Str) (y : V) (hf : ("ahead" : Str) ≠ f) (hm : f ∈ hearF := by simp [hearF]) : HI K H (upd H'' x (.ins C dx (putF f y fs))) x C dx p (putF f y fs) (m + 1) := by
  have hx := k.oth x _ h.x (fun _ z => by cases z)
  refine ⟨(h.k.trans k.kt).trans (Kt.setI hx), upd_same, Nat.le_trans (length_putF f y fs) (Nat.add_le_add_right h.l 1), ?_, ?_⟩
  · rw [lookup_putF, if_neg hf]
    exact h.a
  · intro g hg
    rw [lookup_putF, if_neg (fun z : g = f => hg (by rw [z]; exact hm))]
    exact h.o g hg
theorem lk_put {f g : Str} {y : V} {fs : List (Str × V)} {z : V} (h : fs.lookup g = some z) (hf : g ≠ f) : (putF f y fs).lookup g = some z := by
  rw [lookup_putF, if_neg hf]
  exact h
section
variable {P : Program} {w : World} {K : PySem.W.Frag} {mg : Str → Option Value} {base : Heap}
def spInit (K : PySem.W.Frag) (C Pw : Addr) : Sp := fun vs H Q _ => ∃ (x dx p : Addr) (us : List (Option Int)), vs = [.ref x, .ref p] ∧ H x = some (.ins C dx []) ∧ WaysAt H p us ∧ Ways us ∧ TabG H Pw ∧
  ∀ (fs : List (Str × V)) (h : Addr) (H' : Hp), Kt x H H' → H' x = some (.ins C dx fs) → fs.lookup ("ahead" : Str) = some (.ref p) → fs.lookup ("hears" : Str) = some (.ref h) → H' h = some (.lst (List.replicate us.length (.bl false))) → (∀ g : Str, g ∉ hearF → fs.lookup g = none) → Q .non H'
theorem ok_init {f C Pw : Addr} {fd : FuncData} {f_needways : Addr} {fd_needways : FuncData} (F : Fun K "__init__" "Hearing.__init__" sInit f fd) (hC : HearN K C) (k_needways : PySem.W.keepIn K (.ref f_needways) = true) (b_needways : Binds K fd_needways ["up"] []) (g_needways : mg "need_ways" = some (.ref f_needways)) (G_needways : FnOk P w K mg base CX0 5 f_needways fd_needways ["up"] (spNeedWaysG K Pw)) : FnOk P w K mg base CX0 6 f fd ["self", "up"] (spInit K C Pw) := by
  refine F.ok scInit (fun vs H Q E h => ?_) (fun cdv A outer s H vs Q E hr h => ?_)
  · obtain ⟨x, dx, p, us, rfl, _⟩ := h
    rfl
  · obtain ⟨x, dx, p, us, rfl, hx, hA, hW, tw, q⟩ := h
    have hu := hu_of hr
    have cn : ∀ f ∈ (["ahead", "root", "counted", "hears", "counts", "served", "letter_rows", "copy_rows", "stay_lists", "emitted", "letter_sum", "copy_sum"] : List Str), NoAttr K C f := hC.n
    refine ⟨_, (pss_cons (ps_expr (pe_call G_needways (hr.mono (by decide)) (by rfl) g_needways k_needways b_needways .nil pass0 (pa_cons (pv 1) pa_nil)))
      (pss_cons (ps_fld (pv 0) (pv 1) rfl)
      (pss_cons (ps_fld (pv 0) (pe_bmF PySem.F.plainAttrs_tuple PySem.F.slot_tuple_index PySem.F.type_tuple_index (mt_indexT (show (A.deeper (envOfC "Hearing.__init__" (defScope sInit) s.heap.objs.size f cdv)).units + 65 < cLine by have := hr.un; omega)) (pv 1) (pa_cons pe_non pa_nil)) rfl)
      (pss_cons (ps_fld (pv 0) pe_bl rfl)
      (pss_cons (ps_fld (pv 0) (pe_lc (own := [("place", 2)]) (g := (gName 2)) (tt := tYes) (te := (tC (.bl false))) rfl scInit.nd (pi_tup (pv 1)) (blkOk_by (N := N_scInit) (sc := defScope sInit) (by decide +kernel)) (fun _ _ _ _ _ => (pg_name (i := 2) scInit.nd rfl (.inl rfl))) (fun _ _ _ _ _ => pts_nil) (fun _ _ _ _ _ => pe_bl)) rfl)
      (pss_cons (ps_fld (pv 0) (pe_lc (own := [("place", 2)]) (g := (gName 2)) (tt := tYes) (te := (tC (.int 0))) rfl scInit.nd (pi_tup (pv 1)) (blkOk_by (N := N_scInit) (sc := defScope sInit) (by decide +kernel)) (fun _ _ _ _ _ => (pg_name (i := 2) scInit.nd rfl (.inl rfl))) (fun _ _ _ _ _ => pts_nil) (fun _ _ _ _ _ => pe_int)) rfl)
      (pss_cons (ps_fld (pv 0) (pe_lc (own := [("place", 2)]) (g := (gName 2)) (tt := tYes) rfl scInit.nd (pi_tup (pv 1)) (blkOk_by (N := N_scInit) (sc := defScope sInit) (by decide +kernel)) (fun _ _ _ _ _ => (pg_name (i := 2) scInit.nd rfl (.inl rfl))) (fun _ _ _ _ _ => pts_nil) (fun _ _ _ _ _ => pe_dnewK)) rfl)
      (pss_cons (ps_fld (pv 0) (pe_lc (own := [("place", 2)]) (g := (gName 2)) (tt := tYes) rfl scInit.nd (pi_tup (pv 1)) (blkOk_by (N := N_scInit) (sc := defScope sInit) (by decide +kernel)) (fun _ _ _ _ _ => (pg_name (i := 2) scInit.nd rfl (.inl rfl))) (fun _ _ _ _ _ => pts_nil) (fun _ _ _ _ _ => (pe_lst pa_nil))) rfl)
      (pss_cons (ps_fld (pv 0) (pe_lc (own := [("place", 2)]) (g := (gName 2)) (tt := tYes) rfl scInit.nd (pi_tup (pv 1)) (blkOk_by (N := N_scInit) (sc := defScope sInit) (by decide +kernel)) (fun _ _ _ _ _ => (pg_name (i := 2) scInit.nd rfl (.inl rfl))) (fun _ _ _ _ _ => pts_nil) (fun _ _ _ _ _ => (pe_lst pa_nil))) rfl)
      (pss_cons (ps_fld (pv 0) (pe_lc (own := [("place", 2)]) (g := (gName 2)) (tt := tYes) rfl scInit.nd (pi_tup (pv 1)) (blkOk_by (N := N_scInit) (sc := defScope sInit) (by decide +kernel)) (fun _ _ _ _ _ => (pg_name (i := 2) scInit.nd rfl (.inl rfl))) (fun _ _ _ _ _ => pts_nil) (fun _ _ _ _ _ => (pe_lst pa_nil))) rfl)
      (pss_cons (ps_fld (pv 0) pe_int rfl)
      (pss_cons (ps_fld (pv 0) pe_int rfl)
      (pss_one (ps_fld (pv 0) pe_int rfl)))))))))))))), ?_⟩
    refine ⟨_, rfl, .ref p, rfl, hA.ans hW, tw, fun H1 k1 => ?_⟩
    have hx1 := k1.oth x _ hx (fun _ z => by cases z)
    have hS := (hA.k0 k1).sq (K := K)
    have hl0 : (us.map oV).length = us.length := List.length_map ..
    have w8 := hW.n8
    refine ⟨_, rfl, _, rfl, x, C, dx, [], rfl, hx1, hC.c, cn _ (by simp), (by decide), ?_⟩
    have I1 : HI K H (upd H1 x (.ins C dx (putF "ahead" (.ref p) []))) x C dx p (putF "ahead" (.ref p) []) 1 := ⟨k1.kt.trans (Kt.setI hx1), upd_same, length_putF _ _ _, by rw [lookup_putF, if_pos rfl], fun g hg => by rw [lookup_putF, if_neg (fun z : g = ("ahead" : Str) => hg (by rw [z]; simp [hearF]))]; rfl⟩
    generalize upd H1 x (.ins C dx (putF "ahead" (.ref p) [])) = G1 at I1 ⊢
    generalize putF "ahead" (.ref p) [] = f1 at I1 ⊢
    obtain ⟨r, hr0, hr1⟩ := hW.one
    obtain ⟨o, hpo, oc, od⟩ := hA.kt I1.k
    refine ⟨_, rfl, ⟨p, o, _, rfl, hpo, oc, od⟩, p, .non, .none, us.map oD, r, .none, rfl, rfl, .tup (.inl (.inr ⟨o, hpo⟩)) (oV_dp us), .non, shaped_us us, by decide +kernel, by rw [List.getElem?_map, hr0]; rfl, by decide +kernel, fun m z' hm hz' => ?_, ?_⟩
    · rw [List.getElem?_map] at hz'
      cases e : us[m]? with
      | none => rw [e] at hz'; cases hz'
      | some x =>
        rw [e] at hz'
        cases hz'
        cases x with
        | none => have := hr1 m e; omega
        | some u => simp [oD, PyData.eqv]
    refine ⟨_, rfl, x, C, dx, f1, rfl, I1.x, hC.c, cn _ (by simp), Nat.lt_of_le_of_lt I1.l (by decide), ?_⟩
    have I2 := I1.put (K0.refl _) "root" (.int r) (by decide)
    generalize upd G1 x (.ins C dx (putF "root" (.int r) f1)) = G2 at I2 ⊢
    generalize putF "root" (.int r) f1 = f2 at I2 ⊢
    refine ⟨_, rfl, x, C, dx, f2, rfl, I2.x, hC.c, cn _ (by simp), Nat.lt_of_le_of_lt I2.l (by decide), ?_⟩
    have I3 := I2.put (K0.refl _) "counted" (.bl true) (by decide)
    generalize upd G2 x (.ins C dx (putF "counted" (.bl true) f2)) = G3 at I3 ⊢
    generalize putF "counted" (.bl true) f2 = f3 at I3 ⊢
    have hS3 := (hA.kt I3.k).sq (K := K)
    refine ⟨_, rfl, p, rfl, ⟨_, hS3⟩, fun D nD => ?_⟩
    refine lc_tup (K := K) (a := p) (xs := us.map oV) (fun i H' => K0 G3 H' ∧ H' D = some (.lst (List.replicate i (.bl false)))) ⟨K0.new nD, upd_same⟩ (fun i H' _ h => h.1.sqT hS3) (fun i z H' hz h => ?_) (fun H' h => ?_)
    · obtain ⟨k, hD⟩ := h
      have hi := (List.getElem?_eq_some_iff.mp hz).1
      refine ⟨rfl, tyes ⟨_, hD, Nat.lt_of_le_of_lt (m := 5000) (by rw [List.length_replicate]; omega) (by decide), k.mut nD, ?_⟩⟩
      rw [List.replicate_succ']
      exact upd_same
    obtain ⟨k, hD⟩ := h
    rw [hl0] at hD
    have hxD : D ≠ x := fun w => by rw [w, I3.x] at nD; cases nD
    refine ⟨_, rfl, x, C, dx, f3, rfl, k.oth x _ I3.x (fun _ w => by cases w), hC.c, cn _ (by simp), Nat.lt_of_le_of_lt I3.l (by decide), ?_⟩
    have I4 := I3.put k "hears" (.ref D) (by decide)
    have la4 : (putF "hears" (.ref D) f3).lookup ("hears" : Str) = some (.ref D) := by rw [lookup_putF, if_pos rfl]
    have hh4 : (upd H' x (.ins C dx (putF "hears" (.ref D) f3))) D = some (.lst (List.replicate us.length (.bl false))) := by rw [upd_ne hxD]; exact hD
    generalize upd H' x (.ins C dx (putF "hears" (.ref D) f3)) = G4 at I4 hh4 ⊢
    generalize putF "hears" (.ref D) f3 = f4 at I4 la4 ⊢
    have hS4 := (hA.kt I4.k).sq (K := K)
    refine ⟨_, rfl, p, rfl, ⟨_, hS4⟩, fun D4 nD4 => ?_⟩
    refine lc_tup (K := K) (a := p) (xs := us.map oV) (fun i H' => K0 G4 H' ∧ ∃ acc, H' D4 = some (.lst acc) ∧ acc.length = i) ⟨K0.new nD4, [], upd_same, rfl⟩ (fun i H' _ h => h.1.sqT hS4) (fun i z H' hz h => ?_) (fun H' h => ?_)
    · obtain ⟨k, acc, hacc, hal⟩ := h
      have hi := (List.getElem?_eq_some_iff.mp hz).1
      exact ⟨rfl, tyes ⟨_, hacc, Nat.lt_of_le_of_lt (m := 5000) (by omega) (by decide), k.mut nD4, _, upd_same, by rw [List.length_append, hal]; rfl⟩⟩
    obtain ⟨k4', acc4, hacc4, hal4⟩ := h
    refine ⟨_, rfl, x, C, dx, f4, rfl, k4'.oth x _ I4.x (fun _ w => by cases w), hC.c, cn _ (by simp), Nat.lt_of_le_of_lt I4.l (by decide), ?_⟩
    have I5 := I4.put k4' "counts" (.ref D4) (by decide)
    have la5 := lk_put (f := "counts") (y := .ref D4) la4 (by decide)
    have hh5 : (upd H' x (.ins C dx (putF "counts" (.ref D4) f4))) D = some (.lst (List.replicate us.length (.bl false))) := by rw [upd_ne hxD]; exact k4'.oth D _ hh4 (fun _ w => by cases w)
    generalize upd H' x (.ins C dx (putF "counts" (.ref D4) f4)) = G5 at I5 hh5 ⊢
    generalize putF "counts" (.ref D4) f4 = f5 at I5 la5 ⊢
    have hS5 := (hA.kt I5.k).sq (K := K)
    refine ⟨_, rfl, p, rfl, ⟨_, hS5⟩, fun D5 nD5 => ?_⟩
    refine lc_tup (K := K) (a := p) (xs := us.map oV) (fun i H' => K0 G5 H' ∧ ∃ acc, H' D5 = some (.lst acc) ∧ acc.length = i) ⟨K0.new nD5, [], upd_same, rfl⟩ (fun i H' _ h => h.1.sqT hS5) (fun i z H' hz h => ?_) (fun H' h => ?_)
    · obtain ⟨k, acc, hacc, hal⟩ := h
      have hi := (List.getElem?_eq_some_iff.mp hz).1
      refine ⟨rfl, tyes fun q nq => ?_⟩
      have kq := K0.new nq (o := .dK [])
      exact ⟨_, kq.oth D5 _ hacc (fun _ w => by cases w), Nat.lt_of_le_of_lt (m := 5000) (by omega) (by decide), (k.trans kq).mut nD5, _, upd_same, by rw [List.length_append, hal]; rfl⟩
    obtain ⟨k5', acc5, hacc5, hal5⟩ := h
    refine ⟨_, rfl, x, C, dx, f5, rfl, k5'.oth x _ I5.x (fun _ w => by cases w), hC.c, cn _ (by simp), Nat.lt_of_le_of_lt I5.l (by decide), ?_⟩
    have I6 := I5.put k5' "served" (.ref D5) (by decide)
    have la6 := lk_put (f := "served") (y := .ref D5) la5 (by decide)
    have hh6 : (upd H' x (.ins C dx (putF "served" (.ref D5) f5))) D = some (.lst (List.replicate us.length (.bl false))) := by rw [upd_ne hxD]; exact k5'.oth D _ hh5 (fun _ w => by cases w)
    generalize upd H' x (.ins C dx (putF "served" (.ref D5) f5)) = G6 at I6 hh6 ⊢
    generalize putF "served" (.ref D5) f5 = f6 at I6 la6 ⊢
    have hS6 := (hA.kt I6.k).sq (K := K)
    refine ⟨_, rfl, p, rfl, ⟨_, hS6⟩, fun D6 nD6 => ?_⟩
    refine lc_tup (K := K) (a := p) (xs := us.map oV) (fun i H' => K0 G6 H' ∧ ∃ acc, H' D6 = some (.lst acc) ∧ acc.length = i) ⟨K0.new nD6, [], upd_same, rfl⟩ (fun i H' _ h => h.1.sqT hS6) (fun i z H' hz h => ?_) (fun H' h => ?_)
    · obtain ⟨k, acc, hacc, hal⟩ := h
      have hi := (List.getElem?_eq_some_iff.mp hz).1
      refine ⟨rfl, tyes ⟨Nat.zero_le _, fun q nq => ?_⟩⟩
      have kq := K0.new nq (o := .lst [])
      exact ⟨_, kq.oth D6 _ hacc (fun _ w => by cases w), Nat.lt_of_le_of_lt (m := 5000) (by omega) (by decide), (k.trans kq).mut nD6, _, upd_same, by rw [List.length_append, hal]; rfl⟩
    obtain ⟨k6', acc6, hacc6, hal6⟩ := h
    refine ⟨_, rfl, x, C, dx, f6, rfl, k6'.oth x _ I6.x (fun _ w => by cases w), hC.c, cn _ (by simp), Nat.lt_of_le_of_lt I6.l (by decide), ?_⟩
    have I7 := I6.put k6' "letter_rows" (.ref D6) (by decide)
    have la7 := lk_put (f := "letter_rows") (y := .ref D6) la6 (by decide)
    have hh7 : (upd H' x (.ins C dx (putF "letter_rows" (.ref D6) f6))) D = some (.lst (List.replicate us.length (.bl false))) := by rw [upd_ne hxD]; exact k6'.oth D _ hh6 (fun _ w => by cases w)
    generalize upd H' x (.ins C dx (putF "letter_rows" (.ref D6) f6)) = G7 at I7 hh7 ⊢
    generalize putF "letter_rows" (.ref D6) f6 = f7 at I7 la7 ⊢
    have hS7 := (hA.kt I7.k).sq (K := K)
    refine ⟨_, rfl, p, rfl, ⟨_, hS7⟩, fun D7 nD7 => ?_⟩
    refine lc_tup (K := K) (a := p) (xs := us.map oV) (fun i H' => K0 G7 H' ∧ ∃ acc, H' D7 = some (.lst acc) ∧ acc.length = i) ⟨K0.new nD7, [], upd_same, rfl⟩ (fun i H' _ h => h.1.sqT hS7) (fun i z H' hz h => ?_) (fun H' h => ?_)
    · obtain ⟨k, acc, hacc, hal⟩ := h
      have hi := (List.getElem?_eq_some_iff.mp hz).1
      refine ⟨rfl, tyes ⟨Nat.zero_le _, fun q nq => ?_⟩⟩
      have kq := K0.new nq (o := .lst [])
      exact ⟨_, kq.oth D7 _ hacc (fun _ w => by cases w), Nat.lt_of_le_of_lt (m := 5000) (by omega) (by decide), (k.trans kq).mut nD7, _, upd_same, by rw [List.length_append, hal]; rfl⟩
    obtain ⟨k7', acc7, hacc7, hal7⟩ := h
    refine ⟨_, rfl, x, C, dx, f7, rfl, k7'.oth x _ I7.x (fun _ w => by cases w), hC.c, cn _ (by simp), Nat.lt_of_le_of_lt I7.l (by decide), ?_⟩
    have I8 := I7.put k7' "copy_rows" (.ref D7) (by decide)
    have la8 := lk_put (f := "copy_rows") (y := .ref D7) la7 (by decide)
    have hh8 : (upd H' x (.ins C dx (putF "copy_rows" (.ref D7) f7))) D = some (.lst (List.replicate us.length (.bl false))) := by rw [upd_ne hxD]; exact k7'.oth D _ hh7 (fun _ w => by cases w)
    generalize upd H' x (.ins C dx (putF "copy_rows" (.ref D7) f7)) = G8 at I8 hh8 ⊢
    generalize putF "copy_rows" (.ref D7) f7 = f8 at I8 la8 ⊢
    have hS8 := (hA.kt I8.k).sq (K := K)
    refine ⟨_, rfl, p, rfl, ⟨_, hS8⟩, fun D8 nD8 => ?_⟩
    refine lc_tup (K := K) (a := p) (xs := us.map oV) (fun i H' => K0 G8 H' ∧ ∃ acc, H' D8 = some (.lst acc) ∧ acc.length = i) ⟨K0.new nD8, [], upd_same, rfl⟩ (fun i H' _ h => h.1.sqT hS8) (fun i z H' hz h => ?_) (fun H' h => ?_)
    · obtain ⟨k, acc, hacc, hal⟩ := h
      have hi := (List.getElem?_eq_some_iff.mp hz).1
      refine ⟨rfl, tyes ⟨Nat.zero_le _, fun q nq => ?_⟩⟩
      have kq := K0.new nq (o := .lst [])
      exact ⟨_, kq.oth D8 _ hacc (fun _ w => by cases w), Nat.lt_of_le_of_lt (m := 5000) (by omega) (by decide), (k.trans kq).mut nD8, _, upd_same, by rw [List.length_append, hal]; rfl⟩
    obtain ⟨k8', acc8, hacc8, hal8⟩ := h
    refine ⟨_, rfl, x, C, dx, f8, rfl, k8'.oth x _ I8.x (fun _ w => by cases w), hC.c, cn _ (by simp), Nat.lt_of_le_of_lt I8.l (by decide), ?_⟩
    have I9 := I8.put k8' "stay_lists" (.ref D8) (by decide)
    have la9 := lk_put (f := "stay_lists") (y := .ref D8) la8 (by decide)
    have hh9 : (upd H' x (.ins C dx (putF "stay_lists" (.ref D8) f8))) D = some (.lst (List.replicate us.length (.bl false))) := by rw [upd_ne hxD]; exact k8'.oth D _ hh8 (fun _ w => by cases w)
    generalize upd H' x (.ins C dx (putF "stay_lists" (.ref D8) f8)) = G9 at I9 hh9 ⊢
    generalize putF "stay_lists" (.ref D8) f8 = f9 at I9 la9 ⊢
    refine ⟨_, rfl, x, C, dx, f9, rfl, I9.x, hC.c, cn _ (by simp), Nat.lt_of_le_of_lt I9.l (by decide), ?_⟩
    have I10 := I9.put (K0.refl _) "emitted" (.int 0) (by decide)
    have la10 := lk_put (f := "emitted") (y := (.int 0)) la9 (by decide)
    have hh10 : (upd G9 x (.ins C dx (putF "emitted" (.int 0) f9))) D = some (.lst (List.replicate us.length (.bl false))) := by rw [upd_ne hxD]; exact hh9
    generalize upd G9 x (.ins C dx (putF "emitted" (.int 0) f9)) = G10 at I10 hh10 ⊢
    generalize putF "emitted" (.int 0) f9 = f10 at I10 la10 ⊢
    refine ⟨_, rfl, x, C, dx, f10, rfl, I10.x, hC.c, cn _ (by simp), Nat.lt_of_le_of_lt I10.l (by decide), ?_⟩
    have I11 := I10.put (K0.refl _) "letter_sum" (.int 0) (by decide)
    have la11 := lk_put (f := "letter_sum") (y := (.int 0)) la10 (by decide)
    have hh11 : (upd G10 x (.ins C dx (putF "letter_sum" (.int 0) f10))) D = some (.lst (List.replicate us.length (.bl false))) := by rw [upd_ne hxD]; exact hh10
    generalize upd G10 x (.ins C dx (putF "letter_sum" (.int 0) f10)) = G11 at I11 hh11 ⊢
    generalize putF "letter_sum" (.int 0) f10 = f11 at I11 la11 ⊢
    refine ⟨_, rfl, x, C, dx, f11, rfl, I11.x, hC.c, cn _ (by simp), Nat.lt_of_le_of_lt I11.l (by decide), ?_⟩
    have I12 := I11.put (K0.refl _) "copy_sum" (.int 0) (by decide)
    have la12 := lk_put (f := "copy_sum") (y := (.int 0)) la11 (by decide)
    have hh12 : (upd G11 x (.ins C dx (putF "copy_sum" (.int 0) f11))) D = some (.lst (List.replicate us.length (.bl false))) := by rw [upd_ne hxD]; exact hh11
    generalize upd G11 x (.ins C dx (putF "copy_sum" (.int 0) f11)) = G12 at I12 hh12 ⊢
    generalize putF "copy_sum" (.int 0) f11 = f12 at I12 la12 ⊢
    exact q f12 D G12 I12.k I12.x I12.a la12 hh12 I12.o
/-- the places of the truths -/
def hearL (bs : List Bool) : List Int := ((List.range bs.length).filter fun i => bs.getD i false).map fun (i : Nat) => (i : Int)
def hearK (bs : List Bool) (k : Nat) : List Int := ((List.range k).filter fun i => bs.getD i false).map fun (i : Nat) => (i : Int)
theorem hearK_succ (bs : List Bool) (k : Nat) : hearK bs (k + 1) = hearK bs k ++ (if bs.getD k false = true then [(k : Int)] else []) := by
  unfold hearK
  rw [List.range_succ, List.filter_append, List.map_append]
  congr 1
  cases h : bs.getD k false with
  | true => rw [if_pos rfl, List.filter_cons, h]; rfl
  | false => rw [if_neg Bool.false_ne_true, List.filter_cons, h]; rfl
theorem hearK_len (bs : List Bool) (k : Nat) : (hearK bs k).length ≤ k := by
  unfold hearK
  rw [List.length_map]
  exact Nat.le_trans (List.length_filter_le _ _) (by rw [List.length_range]; exact Nat.le_refl _)
def spHearers (K : PySem.W.Frag) (C Ph : Addr) : Sp := fun vs H Q _ => ∃ (x dx p h : Addr) (fs : List (Str × V)) (xs : List V) (bs : List Bool), vs = [.ref x] ∧ H x = some (.ins C dx fs) ∧ fs.lookup ("ahead" : Str) = some (.ref p) ∧ SqT K H p xs ∧
  fs.lookup ("hears" : Str) = some (.ref h) ∧ H h = some (.lst (bs.map V.bl)) ∧ bs.length = xs.length ∧ xs.length ≤ 100 ∧ TabG H Ph ∧ ∀ (q : Addr) (H' : Hp), K0 H H' → SqT K H' q ((hearL bs).map V.int) → Q (.ref q) H'
set_option maxHeartbeats 16000000 in
theorem ok_hearers {f c C Ph : Addr} {fd : FuncData} (F : FunC K "hearers" "Hearing.hearers" sHearers f fd c) (TB : TabB base mg c Ph) (hC : HearN K C) (m_tuple : mg "tuple" = none) (m_range : mg "range" = none) (m_len : mg "len" = none) : FnOk P w K mg base CX0 3 f fd ["self"] (spHearers K C Ph) := by
  refine F.ok scHearers (fun vs H Q E h => ?_) (fun A outer s H vs Q E hr h => ?_)
  · obtain ⟨x, dx, p, h, fs, xs, bs, rfl, _⟩ := h
    rfl
  · obtain ⟨x, dx, p, h, fs, xs, bs, rfl, hx, la, hS, lh, hh, hbl, hxl, tc, q⟩ := h
    have hu := hu_of hr
    refine ⟨_, (pss_one (ps_ret (pe_tupG (own := [("place", 1)]) (k := 1) (g := (gName 1)) (tt := (tB (tOp (rIxL K) (tFld K (tVar 0) "hears") (tVar 1)))) (te := (tVar 1)) (hr.mono (by decide)) (by rfl) m_tuple rfl scHearers.nd TB rfl (gsc_by (N := N_scHearers) (sc := defScope sHearers) (by decide +kernel)) (pi_range1 (by rfl) m_range (pa_cons (pe_callB call_len_seq (by rfl) m_len PySem.boot_len (pa_cons (pe_fld (pv 0) rfl) pa_nil)) pa_nil)) (fun A' hr' _ _ _ _ _ _ => (pg_name (i := 1) scHearers.nd rfl (.inl rfl))) (fun A' hr' _ _ _ _ _ _ => (pts_one (pt_val (pe_ix ix_list (pe_fld (pv 0) rfl) (pv 1) (fun _ _ => rfl))))) (fun A' hr' _ _ _ _ _ _ => (pv 1))))), ?_⟩
    refine ⟨_, rfl, x, C, dx, fs, .ref p, rfl, hx, hC.c, hC.n _ (by simp), la, p, _, rfl, .inr hS, _, rfl, by omega, by omega, tc, fun H2 hT2 => ?_⟩
    have k2 : K0 H H2 := K0.tbd tc hT2
    refine ⟨fun i m γ H5 => i + m = xs.length ∧ K0 H H5 ∧ γ = (hearK bs i).map V.int, ⟨xs.length, by omega, k2, rfl⟩, fun i m γ H5 hW => ?_⟩
    obtain ⟨em, k5, eγ⟩ := hW
    by_cases hi : i < xs.length
    · refine .inr ⟨(show i < ((xs.length : Nat) : Int).toNat by omega), fun γ' H' => K0 H H' ∧ γ' = (hearK bs (i + 1)).map V.int, fun γ' H' hN => ⟨m - 1, by omega, by omega, hN⟩, fun z H' hy => ?_⟩
      obtain ⟨rfl, rfl⟩ := hy
      have hib : i < bs.length := by omega
      have gb : bs.getD i false = bs[i] := by rw [List.getD_eq_getElem?_getD, List.getElem?_eq_getElem hib]; rfl
      refine ⟨rfl, _, rfl, x, C, dx, fs, .ref h, rfl, k5.oth x _ hx (fun _ w => by cases w), hC.c, hC.n _ (by simp), lh, _, rfl, h, _, _, .bl bs[i], rfl, rfl, .inl (.inl (k5.oth h _ hh (fun _ w => by cases w))), ?_, bs[i], rfl, ?_⟩
      · rw [show (0 : Int) + (i : Int) = ((i : Nat) : Int) by omega]
        exact atI_nat (by rw [List.getElem?_map, List.getElem?_eq_getElem hib]; rfl)
      · cases hb : bs[i] with
        | true =>
          refine iteT ⟨_, rfl, ?_, k5, ?_⟩
          · rw [eγ, List.length_map]
            exact Nat.le_trans (hearK_len bs i) (by omega)
          · rw [eγ, hearK_succ, gb, hb, if_pos rfl, List.map_append, show (0 : Int) + (i : Int) = ((i : Nat) : Int) by omega]
            rfl
        | false =>
          refine iteF ⟨k5, ?_⟩
          rw [eγ, hearK_succ, gb, hb, if_neg Bool.false_ne_true, List.append_nil]
    · refine .inl ⟨(show ((xs.length : Nat) : Int).toNat ≤ i by omega), ?_, fun q1 nq => ?_⟩
      · rw [eγ, List.length_map]
        exact Nat.le_trans (hearK_len bs i) (by omega)
      · refine q q1 _ (k5.trans (K0.new nq)) (.inl (.inl ?_))
        rw [upd_same, eγ, show i = bs.length by omega]
        rfl
end
end HK

set_option Elab.async false
set_option linter.all false
set_option maxRecDepth 100000
set_option maxHeartbeats 4000000
namespace HK
open PySem PySem.Spec PyProof.Rows L2 GAl GxR
open Evl (pss_cut)
abbrev sLaw : Stmt := topS 22
abbrev N_scLaw : List Str := ["script", "tray", "k", "up", "turn", "thing", "found"]
theorem scLaw : FnScope N_scLaw ["script"] (defScope sLaw) := ⟨rfl, rfl, rfl, by decide +kernel, rfl, by decide +kernel, by decide +kernel⟩
theorem K0.withO {L : Addr} {H H1 H' : Hp} (k1 : K0 H H1) (nL : H L = none) (kl : Kt L H1 H') : K0 H H' := ⟨fun b o e m => kl.oth b o (k1.oth b o e m) (ne_of_none e nL) m, fun P hP => kl.tab P (k1.tab P hP), fun b e => k1.dom b (kl.dom b e)⟩
theorem hearL_none (n : Nat) : hearL (List.replicate n false) = [] := by
  unfold hearL
  rw [List.filter_eq_nil_iff.mpr]
  · rfl
  · intro i hi z
    rw [List.getD_eq_getElem?_getD, List.getElem?_replicate] at z
    by_cases h : i < n
    · rw [if_pos h] at z; cases z
    · rw [if_neg h] at z; cases z
/-- things that are no ways -/
def BadW (K : PySem.W.Frag) (H : Hp) (x : V) : Prop := (∃ d, Dp K H x d ∧ isWaysD d = false) ∨ (∃ p, x = .ref p ∧ H p = some (.dK []))
theorem BadW.k0 {K : PySem.W.Frag} {H H' : Hp} {x : V} (h : BadW K H x) (k : K0 H H') : BadW K H' x := by
  rcases h with ⟨d, h1, h2⟩ | ⟨p, h1, h2⟩
  · exact .inl ⟨d, k.dp d x h1, h2⟩
  · exact .inr ⟨p, h1, k.oth p _ h2 (fun _ z => by cases z)⟩
theorem BadW.ans {K : PySem.W.Frag} {H : Hp} {x : V} (h : BadW K H x) : WaysAns K H x false := by
  rcases h with ⟨d, h1, h2⟩ | ⟨p, rfl, h2⟩
  · exact .inl ⟨d, h1, h2.symm⟩
  · exact .inr ⟨"dict", by simp [tys], .base (.dK h2), rfl, rfl⟩
section
variable {P : Program} {w : World} {K : PySem.W.Frag} {mg : Str → Option Value} {base : Heap}
def spLaw (K : PySem.W.Frag) (Pw Ph : Addr) : Sp := fun vs H Q _ => ∃ (a : Addr) (ns : List Int), vs = [.ref a] ∧ SqL K H a (ns.map V.int) ∧ TabG H Pw ∧ TabG H Ph ∧ ∀ H', Q (.bl true) H'
set_option maxHeartbeats 32000000 in
theorem ok_law {f C f_I f_h : Addr} {fd fd_I fd_h : FuncData} {f_waysl f_spoilt f_goodw f_areways : Addr} {fd_waysl fd_spoilt fd_goodw fd_areways : FuncData} {Pw Ph : Addr} (F : Fun K "law" "law" sLaw f fd)
    (k_waysl : PySem.W.keepIn K (.ref f_waysl) = true) (b_waysl : Binds K fd_waysl ["tray"] []) (g_waysl : mg "_law_e_ways" = some (.ref f_waysl)) (G_waysl : FnOk P w K mg base CX0 3 f_waysl fd_waysl ["tray"] (spWaysL K))
    (k_spoilt : PySem.W.keepIn K (.ref f_spoilt) = true) (b_spoilt : Binds K fd_spoilt ["tray", "up"] []) (g_spoilt : mg "_law_e_spoilt" = some (.ref f_spoilt)) (G_spoilt : FnOk P w K mg base CX0 3 f_spoilt fd_spoilt ["tray", "up"] (spSpoilt K))
    (k_goodw : PySem.W.keepIn K (.ref f_goodw) = true) (b_goodw : Binds K fd_goodw ["thing"] []) (g_goodw : mg "_law_e_good" = some (.ref f_goodw)) (G_goodw : FnOk P w K mg base CX0 1 f_goodw fd_goodw ["thing"] (spGoodW K))
    (k_areways : PySem.W.keepIn K (.ref f_areways) = true) (b_areways : Binds K fd_areways ["thing"] []) (g_areways : mg "are_ways" = some (.ref f_areways)) (G_areways : FnOk P w K mg base CX0 4 f_areways fd_areways ["thing"] (spAreWaysG K Pw))
    (hC : HearN K C) (g_H : mg "Hearing" = some (.ref C)) (M_H : L2.Mk K C f_I) (b_I : Binds K fd_I ["self", "up"] []) (G_I : FnOk P w K mg base CX0 6 f_I fd_I ["self", "up"] (spInit K C Pw)) (M_h : Meth K C "hearers" f_h) (b_h : Binds K fd_h ["self"] []) (G_h : FnOk P w K mg base CX0 3 f_h fd_h ["self"] (spHearers K C Ph))
    (m_len : mg "len" = none) (m_range : mg "range" = none) (m_isinstance : mg "isinstance" = none) (m_bool : mg "bool" = none) : FnOk P w K mg base CX0 8 f fd ["script"] (spLaw K Pw Ph) := by
  refine F.ok scLaw (fun vs H Q E h => ?_) (fun cdv A outer s H vs Q E hr h => ?_)
  · obtain ⟨a, ns, rfl, _⟩ := h
    rfl
  · obtain ⟨a, ns, rfl, hS, tw, th, q⟩ := h
    have hu := hu_of hr
    refine ⟨_, (pss_cons (ps_set (i := 1) scLaw.nd rfl (.inl rfl) (pe_lst (pa_cons (pv 0) (pa_cons pe_int (pa_cons pe_int pa_nil)))))
      (pss_cut (ps_for PassesOwn.never rfl (pi_range1 (by rfl) m_range (pa_cons pe_int pa_nil)) (pg_name (i := 2) scLaw.nd rfl (.inl rfl))
      (pss_cut (ps_if (PW.pt (pw_and (pt_cmpR op_gt (pv 2) pe_int (nomark _)) (pw_and1 (pt_cmpR op_ge (pe_ix ix_list (pv 1) pe_int (fun _ _ => rfl)) (pe_callB call_len_seq (by rfl) m_len PySem.boot_len (pa_cons (pv 0) pa_nil)) (nomark _))))) (pss_one ps_break) pss_nil)
      (pss_cons (ps_set (i := 3) scLaw.nd rfl (.inl rfl) (pe_call G_waysl (hr.mono (by decide)) (by rfl) g_waysl k_waysl b_waysl .nil pass0 (pa_cons (pv 1) pa_nil)))
      (pss_cons (ps_for PassesOwn.never rfl (pi_range1 (by rfl) m_range (pa_cons pe_int pa_nil)) (pg_name (i := 4) scLaw.nd rfl (.inl rfl))
      (pss_one (ps_if (pt_cmpR op_notBl (pe_call G_areways (hr.mono (by decide)) (by rfl) g_areways k_areways b_areways .nil pass0 (pa_cons (pv 3) pa_nil)) pe_bl (nomark _)) (pss_one (ps_ret pe_bl)) pss_nil)))
      (pss_cons (ps_if (pt_cmpR (op_neD hr.units) (pe_meth0 (pe_make M_H G_I (hr.mono (by decide)) (by rfl) g_H b_I .nil pass0 (pa_cons (pv 3) pa_nil)) hC.c M_h G_h (hr.mono (by decide)) b_h .nil pass0) (pe_tup pa_nil) (nomark _)) (pss_one (ps_ret pe_bl)) pss_nil)
      (pss_one (ps_for PassesOwn.never rfl (pi_list (pe_call G_spoilt (hr.mono (by decide)) (by rfl) g_spoilt k_spoilt b_spoilt .nil pass0 (pa_cons (pv 1) (pa_cons (pv 3) pa_nil)))) (pg_name (i := 5) scLaw.nd rfl (.inl rfl))
      (pss_cons (ps_set (i := 6) scLaw.nd rfl (.inl rfl) (pe_call G_areways (hr.mono (by decide)) (by rfl) g_areways k_areways b_areways .nil pass0 (pa_cons (pv 5) pa_nil)))
      (pss_one (ps_if (PW.pt (pw_or (pt_not (pt_val (pe_callB call_isi (by rfl) m_isinstance boot_isinstance (pa_cons (pv 6) (pa_cons (pe_bltn (v := .ty "bool") (by rfl) m_bool (by decide +kernel) rfl) pa_nil))))) (pw_or1 (pt_cmpR op_ne (pv 6) (pe_call G_goodw (hr.mono (by decide)) (by rfl) g_goodw k_goodw b_goodw .nil pass0 (pa_cons (pv 5) pa_nil)) (nomark _))))) (pss_one (ps_ret pe_bl)) pss_nil))))))))))
      (pss_cons (ps_for PassesOwn.never rfl (pi_list (pe_lst (pa_cons (pe_tup pa_nil) (pa_cons (pe_lst pa_nil) (pa_cons pe_dnewK (pa_cons pe_non (pa_cons pe_bl (pa_cons pe_int (pa_cons pe_str (pa_cons (pe_tup (pa_cons pe_int pa_nil)) (pa_cons (pe_tup (pa_cons pe_non (pa_cons pe_non pa_nil))) (pa_cons (pe_tup (pa_cons pe_int (pa_cons pe_int pa_nil))) (pa_cons (pe_tup (pa_cons (pe_tup (pa_cons pe_non pa_nil)) pa_nil)) (pa_cons (pe_tup (pa_cons pe_non (pa_cons pe_non (pa_cons pe_int pa_nil)))) pa_nil)))))))))))))) (pg_name (i := 5) scLaw.nd rfl (.inl rfl))
      (pss_one (ps_if (pt_cmpR op_notBl (pe_call G_areways (hr.mono (by decide)) (by rfl) g_areways k_areways b_areways .nil pass0 (pa_cons (pv 5) pa_nil)) pe_bl (nomark _)) (pss_one (ps_ret pe_bl)) pss_nil)))
      (pss_one (ps_ret (pe_and (pe_cmpR op_isBl (pe_call G_areways (hr.mono (by decide)) (by rfl) g_areways k_areways b_areways .nil pass0 (pa_cons (pe_tup (pa_cons pe_non pa_nil)) pa_nil)) pe_bl (nomark _)) (pe_one (pe_cmpR op_isBl (pe_call G_areways (hr.mono (by decide)) (by rfl) g_areways k_areways b_areways .nil pass0 (pa_cons (pe_tup (pa_cons pe_int (pa_cons pe_int (pa_cons pe_int (pa_cons pe_int (pa_cons pe_int (pa_cons pe_int (pa_cons pe_int (pa_cons pe_non pa_nil))))))))) pa_nil)) pe_bl (nomark _))))))))), ?_⟩
    -- tray
    refine ⟨.ref a, rfl, few_sizeG (show 3 ≤ 1000 by decide), fun t hnt => ?_⟩
    have k1 : K0 H (upd H t (.lst [.ref a, .int 0, .int 0])) := K0.new hnt
    have htp : Tray K (upd H t (.lst [.ref a, .int 0, .int 0])) t a ns 0 := ⟨⟨0, 0, upd_same, by omega, by omega, by omega⟩, Scr.of hS hnt⟩
    generalize upd H t (.lst [.ref a, .int 0, .int 0]) = H1 at k1 htp ⊢
    have tw1 := k1.tab _ tw
    have th1 := k1.tab _ th
    refine ⟨fun σ' H' => ∃ y2 y3 y4 y5 y6, σ' = [some (.ref a), some (.ref t), y2, y3, y4, y5, y6] ∧ Kt t H1 H', ?_, ?_⟩
    · refine ⟨5, rfl, by decide, by decide, for_range (lo := 0) (n := 5) (fun i σ' H' => ∃ y2 y3 y4 y5 y6, σ' = [some (.ref a), some (.ref t), y2, y3, y4, y5, y6] ∧ Kt t H1 H' ∧ Tray K H' t a ns (200 * i))
        ⟨none, none, none, none, none, rfl, Kt.refl _ _, htp.le (by omega)⟩ (fun i σ' H' hi h => ?_) (fun σ' H' h => ?_)⟩
      · obtain ⟨y2, y3, y4, y5, y6, rfl, k, htp'⟩ := h
        refine ⟨fun σ' H' => σ' = [some (.ref a), some (.ref t), some (.int (0 + (i : Int))), y3, y4, y5, y6] ∧ Kt t H1 H' ∧ Tray K H' t a ns (200 * i), ?_, ?_⟩
        · refine ⟨_, rfl, _, 1, rfl, rfl, _, rfl, ite2 (fun e => ?_) (fun e => iteF ⟨rfl, k, htp'⟩)⟩
          have htp'' := htp'
          obtain ⟨⟨p, v, et, _⟩, hscr⟩ := htp'
          refine ⟨.ref t, rfl, t, _, 1, .int p, rfl, rfl, .inl (.inl et), atI_nat (j := 1) rfl, .ref a, rfl, a, _, rfl, .inl hscr.sq, p, _, rfl, rfl, _, rfl, ite2 (fun e2 => ?_) (fun e2 => ⟨rfl, k, htp''⟩)⟩
          exact ⟨_, _, _, _, _, rfl, k⟩
        rintro σ' H2 ⟨rfl, k2, tp2⟩
        refine ⟨_, rfl, t, a, ns, _, rfl, tp2, by omega, fun p us H3 k3 tp3 np hA hW => ?_⟩
        have kt3 := k2.trans k3
        refine ⟨2, rfl, by decide, by decide, for_range (lo := 0) (n := 2) (fun j σ' H' => ∃ y4, σ' = [some (.ref a), some (.ref t), some (.int (0 + (i : Int))), some (.ref p), y4, y5, y6] ∧ K0 H3 H')
          ⟨_, rfl, K0.refl _⟩ (fun j σ' H' hj h => ?_) (fun σ' H' h => ?_)⟩
        · obtain ⟨y4', rfl, kj⟩ := h
          refine ⟨_, rfl, .ref p, true, rfl, (hA.k0 kj).ans hW, (kt3.trans kj.kt).tab _ tw1, fun H8 k8 => ⟨true, true, rfl, rfl, _, rfl, iteF ⟨_, rfl, kj.trans k8⟩⟩⟩
        obtain ⟨y4', rfl, kj⟩ := h
        have hA4 := hA.k0 kj
        have ktj := kt3.trans kj.kt
        have w8 := hW.n8
        -- Hearing(up).hearers()
        refine ⟨_, rfl, fun x dx nx ndx hne => ?_⟩
        have kx1 := K0.new ndx (o := .own x)
        have nx1 : (upd _ dx (.own x)) x = none := (upd_ne hne.symm).trans nx
        have kx := kx1.trans (K0.new nx1 (o := .ins C dx []))
        refine ⟨x, dx, p, us, rfl, upd_same, hA4.k0 kx, hW, (ktj.trans kx.kt).tab _ tw1, fun fs h H5 k5 hx5 la lh hh ho => ?_⟩
        have k45 := K0.withO kx nx k5
        refine ⟨rfl, x, dx, fs, rfl, hx5, ho _ (by decide +kernel), ?_⟩
        refine ⟨x, dx, p, h, fs, us.map oV, List.replicate us.length false, rfl, hx5, la, (hA4.k0 k45).sq, lh, by rw [List.map_replicate]; exact hh, by rw [List.length_replicate, List.length_map], by rw [List.length_map]; omega, (ktj.trans k45.kt).tab _ th1, fun q1 H6 k6 hq => ?_⟩
        rw [hearL_none] at hq
        have k46 := k45.trans k6
        refine ⟨few_sizeG (Nat.zero_le _), fun e ne => ?_⟩
        have ke := K0.new ne (o := .tup [])
        have k47 := k46.trans ke
        refine ⟨.tuple [], .tuple [], .tup (ke.sqT hq) .nil, .tup (.inl (.inl upd_same)) .nil, by decide, by decide, _, rfl, iteF ?_⟩
        have kt7 := ktj.trans k47.kt
        have tp7 := (tp3.k0 kj).k0 k47
        -- spoilt ways
        refine ⟨_, rfl, _, rfl, t, a, ns, _, p, us, rfl, tp7, by omega, hA4.k0 k47, hW, fun F xs H8 k8 tp8 hF hFt hD => ?_⟩
        have kt8 := kt7.trans k8
        refine ⟨F, rfl, ⟨_, .inl (.inl hF)⟩, for_list (K := K) (a := F) (xs := xs) (fun j σ' H' => ∃ y5 y6, σ' = [some (.ref a), some (.ref t), some (.int (0 + (i : Int))), some (.ref p), y4', y5, y6] ∧ K0 H8 H')
          ⟨_, _, rfl, K0.refl _⟩ (fun j σ' H' _ h => ?_) (fun j x σ' H' hx h => ?_) (fun σ' H' h => ?_)⟩
        · obtain ⟨_, _, _, k⟩ := h
          exact k.sqL (.inl (.inl hF))
        · obtain ⟨y5', y6', rfl, k⟩ := h
          obtain ⟨d, hd⟩ := hD x (List.mem_of_getElem? hx)
          refine ⟨_, rfl, x, isWaysD d, rfl, .inl ⟨d, k.dp d x hd, rfl⟩, (kt8.trans k.kt).tab _ tw1, fun H9 k9 => ?_⟩
          have hdb : Dp K H9 (.bl (isWaysD d)) (.bool (isWaysD d)) := .bl _
          refine ⟨_, rfl, .bl (isWaysD d), .ty "bool", _, _, _, rfl, .ty "bool", dp_ty hdb, kit_ty (tys_bool (tyD_mem (.bool (isWaysD d)))), _, rfl, ?_⟩
          cases e2 : (tyD (PyData.bool (isWaysD d)) == "bool") with
          | false => simp [tyD] at e2
          | true =>
            refine iteF ⟨_, rfl, _, rfl, x, d, rfl, (k.trans k9).dp d x hd, fun H10 k10 => ⟨rfl, _, rfl, ?_⟩⟩
            rw [decide_eq_true (show V.bl (isWaysD d) = V.bl (isWaysD d) from rfl)]
            exact iteF ⟨_, _, rfl, (k.trans k9).trans k10⟩
        · obtain ⟨y5', y6', rfl, k⟩ := h
          exact ⟨_, _, _, _, _, rfl, kt8.trans k.kt, (tp8.k0 k).le (by omega)⟩
      · obtain ⟨y2, y3, y4, y5, y6, rfl, k, _⟩ := h
        exact ⟨_, _, _, _, _, rfl, k⟩
    rintro σ' H2 ⟨y2, y3, y4, y5, y6, rfl, k2⟩
    have e0 : isWaysD (.tuple []) = false := rfl
    refine ⟨few_sizeG (Nat.zero_le _), fun a1 n1 => ?_⟩
    have q1 := K0.new n1 (o := .tup [])
    have B1 : BadW K (upd H2 a1 (.tup [])) (.ref a1) := .inl ⟨.tuple [], .tup (.inl (.inl upd_same)) .nil, rfl⟩
    generalize upd H2 a1 (.tup []) = G1 at q1 B1 ⊢
    refine ⟨few_sizeG (Nat.zero_le _), fun a2 n2 => ?_⟩
    have q2 := K0.new n2 (o := .lst [])
    have B2 : BadW K (upd G1 a2 (.lst [])) (.ref a2) := .inl ⟨.list [], .lst (.inl (.inl upd_same)) .nil, rfl⟩
    generalize upd G1 a2 (.lst []) = G2 at q2 B2 ⊢
    refine fun a3 n3 => ?_
    have q3 := K0.new n3 (o := .dK [])
    have B3 : BadW K (upd G2 a3 (.dK [])) (.ref a3) := .inr ⟨a3, rfl, upd_same⟩
    generalize upd G2 a3 (.dK []) = G3 at q3 B3 ⊢
    refine ⟨few_sizeG (show 1 ≤ 1000 by decide), fun a4 n4 => ?_⟩
    have q4 := K0.new n4 (o := .tup [.int 0])
    have B4 : BadW K (upd G3 a4 (.tup [.int 0])) (.ref a4) := .inl ⟨.tuple [.int 0], .tup (.inl (.inl upd_same)) (.cons (.int 0) .nil), by decide +kernel⟩
    generalize upd G3 a4 (.tup [.int 0]) = G4 at q4 B4 ⊢
    refine ⟨few_sizeG (show 2 ≤ 1000 by decide), fun a5 n5 => ?_⟩
    have q5 := K0.new n5 (o := .tup [.non, .non])
    have B5 : BadW K (upd G4 a5 (.tup [.non, .non])) (.ref a5) := .inl ⟨.tuple [.none, .none], .tup (.inl (.inl upd_same)) (.cons .non (.cons .non .nil)), by decide +kernel⟩
    generalize upd G4 a5 (.tup [.non, .non]) = G5 at q5 B5 ⊢
    refine ⟨few_sizeG (show 2 ≤ 1000 by decide), fun a6 n6 => ?_⟩
    have q6 := K0.new n6 (o := .tup [.int 1, .int 0])
    have B6 : BadW K (upd G5 a6 (.tup [.int 1, .int 0])) (.ref a6) := .inl ⟨.tuple [.int 1, .int 0], .tup (.inl (.inl upd_same)) (.cons (.int 1) (.cons (.int 0) .nil)), by decide +kernel⟩
    generalize upd G5 a6 (.tup [.int 1, .int 0]) = G6 at q6 B6 ⊢
    refine ⟨few_sizeG (show 1 ≤ 1000 by decide), fun a7 n7 => ?_⟩
    have q7 := K0.new n7 (o := .tup [.non])
    have D7 : Dp K (upd G6 a7 (.tup [.non])) (.ref a7) (.tuple [.none]) := .tup (.inl (.inl upd_same)) (.cons .non .nil)
    generalize upd G6 a7 (.tup [.non]) = G7 at q7 D7 ⊢
    refine ⟨few_sizeG (show 1 ≤ 1000 by decide), fun a8 n8 => ?_⟩
    have q8 := K0.new n8 (o := .tup [.ref a7])
    have B8 : BadW K (upd G7 a8 (.tup [.ref a7])) (.ref a8) := .inl ⟨.tuple [.tuple [.none]], .tup (.inl (.inl upd_same)) (.cons (q8.dp _ _ D7) .nil), by decide +kernel⟩
    generalize upd G7 a8 (.tup [.ref a7]) = G8 at q8 B8 ⊢
    refine ⟨few_sizeG (show 3 ≤ 1000 by decide), fun a9 n9 => ?_⟩
    have q9 := K0.new n9 (o := .tup [.non, .non, .int 0])
    have B9 : BadW K (upd G8 a9 (.tup [.non, .non, .int 0])) (.ref a9) := .inl ⟨.tuple [.none, .none, .int 0], .tup (.inl (.inl upd_same)) (.cons .non (.cons .non (.cons (.int 0) .nil))), by decide +kernel⟩
    generalize upd G8 a9 (.tup [.non, .non, .int 0]) = G9 at q9 B9 ⊢
    refine ⟨few_sizeG (show 12 ≤ 1000 by decide), fun L nL => ?_⟩
    have qL := K0.new nL (o := .lst [.ref a1, .ref a2, .ref a3, .non, .bl true, .int 0, .str "ways", .ref a4, .ref a5, .ref a6, .ref a8, .ref a9])
    have hL : (upd G9 L (.lst [.ref a1, .ref a2, .ref a3, .non, .bl true, .int 0, .str "ways", .ref a4, .ref a5, .ref a6, .ref a8, .ref a9])) L = some (.lst [.ref a1, .ref a2, .ref a3, .non, .bl true, .int 0, .str "ways", .ref a4, .ref a5, .ref a6, .ref a8, .ref a9]) := upd_same
    have q29 := ((((((((q1.trans q2).trans q3).trans q4).trans q5).trans q6).trans q7).trans q8).trans q9).trans qL
    have hB : ∀ x ∈ [V.ref a1, .ref a2, .ref a3, .non, .bl true, .int 0, .str "ways", .ref a4, .ref a5, .ref a6, .ref a8, .ref a9], BadW K (upd G9 L (.lst [.ref a1, .ref a2, .ref a3, .non, .bl true, .int 0, .str "ways", .ref a4, .ref a5, .ref a6, .ref a8, .ref a9])) x := fun x hx => by
      have r9 := qL
      have r8 := q9.trans r9
      have r6 := (q7.trans q8).trans r8
      have r5 := q6.trans r6
      have r4 := q5.trans r5
      have r3 := q4.trans r4
      have r2 := q3.trans r3
      have r1 := q2.trans r2
      simp only [List.mem_cons, List.not_mem_nil, or_false] at hx
      rcases hx with rfl | rfl | rfl | rfl | rfl | rfl | rfl | rfl | rfl | rfl | rfl | rfl
      · exact B1.k0 r1
      · exact B2.k0 r2
      · exact B3.k0 r3
      · exact .inl ⟨.none, .non, rfl⟩
      · exact .inl ⟨.bool true, .bl _, rfl⟩
      · exact .inl ⟨.int 0, .int 0, rfl⟩
      · exact .inl ⟨.str _, .str _, rfl⟩
      · exact B4.k0 r4
      · exact B5.k0 r5
      · exact B6.k0 r6
      · exact B8.k0 r8
      · exact B9.k0 r9
    generalize upd G9 L (.lst [.ref a1, .ref a2, .ref a3, .non, .bl true, .int 0, .str "ways", .ref a4, .ref a5, .ref a6, .ref a8, .ref a9]) = GL at qL hL q29 hB ⊢
    have kt2 := k2.trans q29.kt
    refine ⟨L, rfl, ⟨_, .inl (.inl hL)⟩, for_list (K := K) (a := L) (xs := [.ref a1, .ref a2, .ref a3, .non, .bl true, .int 0, .str "ways", .ref a4, .ref a5, .ref a6, .ref a8, .ref a9]) (fun j σ' H' => ∃ y5, σ' = [some (.ref a), some (.ref t), y2, y3, y4, y5, y6] ∧ K0 GL H')
      ⟨_, rfl, K0.refl _⟩ (fun j σ' H' _ h => ?_) (fun j x σ' H' hx h => ?_) (fun σ' H' h => ?_)⟩
    · obtain ⟨_, _, k⟩ := h
      exact k.sqL (.inl (.inl hL))
    · obtain ⟨y5', rfl, k⟩ := h
      exact ⟨_, rfl, x, false, rfl, ((hB x (List.mem_of_getElem? hx)).k0 k).ans, (kt2.trans k.kt).tab _ tw1, fun H9 k9 => ⟨false, false, rfl, rfl, _, rfl, iteF ⟨_, rfl, k.trans k9⟩⟩⟩
    · obtain ⟨y5', rfl, k⟩ := h
      refine ⟨few_sizeG (show 1 ≤ 1000 by decide), fun e1 ne1 => ?_⟩
      have ke1 := K0.new ne1 (o := .tup [.non])
      have kt3 := (kt2.trans k.kt).trans ke1.kt
      refine ⟨.ref e1, true, rfl, .inl ⟨.tuple [.none], .tup (.inl (.inl upd_same)) (.cons .non .nil), by decide +kernel⟩, kt3.tab _ tw1, fun H9 k9 => ⟨true, true, rfl, rfl, _, rfl, iteT ?_⟩⟩
      refine ⟨few_sizeG (show 8 ≤ 1000 by decide), fun e2 ne2 => ?_⟩
      have ke2 := K0.new ne2 (o := .tup [.int 1, .int 2, .int 3, .int 4, .int 5, .int 6, .int 7, .non])
      exact ⟨.ref e2, true, rfl, .inl ⟨.tuple [.int 1, .int 2, .int 3, .int 4, .int 5, .int 6, .int 7, .none], .tup (.inl (.inl upd_same)) (.cons (.int 1) (.cons (.int 2) (.cons (.int 3) (.cons (.int 4) (.cons (.int 5) (.cons (.int 6) (.cons (.int 7) (.cons .non .nil)))))))), by decide +kernel⟩,
        ((kt3.trans k9.kt).trans ke2.kt).tab _ tw1, fun H10 k10 => ⟨true, true, rfl, rfl, q _⟩⟩
end
end HK

set_option Elab.async false
set_option linter.all false
set_option maxRecDepth 100000
set_option maxHeartbeats 2000000
namespace HK
open PySem PySem.Spec PyProof.Rows L2 GAl GxR
/-! ### what a head by facts says of a def, in our words -/
section
variable {K : PySem.W.Frag} {x qual : Str} {st : Stmt} {f : Addr} {fd : FuncData}
theorem fun_of (F : FunD K x qual (defArgs st) (defBody st) (defScope st) [] [] f fd) : Fun K x qual st f fd := by
  obtain ⟨⟨oc, od, dV, kV, doc, pm, an, cdv, ct, osl, e, l, hcd, hD, _⟩, kp⟩ := F
  rcases hD with ⟨_, rfl⟩ | ⟨n, _⟩
  · exact ⟨⟨oc, od, kV, doc, pm, an, cdv, ct, osl, e, l, hcd⟩, kp⟩
  · exact absurd rfl n
theorem funC_of {p : He.Defn} (F : FunD K x qual (defArgs st) (defBody st) (defScope st) [] [] (He.fAd K p) fd) : FunC K x qual st (He.fAd K p) fd (He.cT K p).1 := by
  obtain ⟨⟨oc, od, dV, kV, doc, pm, an, cdv, ct, osl, e, l, hcd, hD, _⟩, kp⟩ := F
  obtain ⟨c, rfl⟩ : ∃ c, cdv = .ref c := by
    cases cdv with
    | ref c => exact ⟨c, rfl⟩
    | _ => cases hcd
  have ec : (He.cT K p).1 = c := He.codeOf_eq l (by rw [e])
  rcases hD with ⟨_, rfl⟩ | ⟨n, _⟩
  · rw [ec]
    exact ⟨⟨oc, od, kV, doc, pm, an, ct, osl, e, l, hcd⟩, kp⟩
  · exact absurd rfl n
end
def dd (x : Str) (st : Stmt) : He.DefD := ⟨(x, none), x, x, defArgs st, defBody st, defScope st, [], []⟩
def dm (c m q : Str) (st : Stmt) : He.DefD := ⟨(c, some m), m, q, defArgs st, defBody st, defScope st, [], []⟩
end HK

set_option Elab.async false
set_option linter.all false
set_option maxRecDepth 100000
set_option maxHeartbeats 0
namespace HK
open PySem PySem.Spec PyProof.Rows L2 GAl GxR
abbrev RX : PySem.W.OpenRow := PySem.W.OpenLaw.row PySem.Challenge.rw_hearkenway_k40_ways_of_anything
abbrev qX : Program := PySem.W.view RX.prog [22]
def namesX : List Str := ["_wall", "__name__", "HearError", "NoPlace", "NoWays", "is_whole", "is_within", "MOST_ENTRIES", "are_ways", "leads_up", "need_ways", "Hearing", "_law_e_blend", "_law_e_draw", "_law_e_ways", "_law_e_ring", "_law_e_with_root", "_law_e_spoilt", "_law_e_good"]
def fnX : List He.DefD := [dd "_law_e_blend" sBlend, dd "_law_e_draw" sDraw, dd "_law_e_ways" sWaysL, dd "_law_e_ring" sRing, dd "_law_e_with_root" sWithRoot, dd "_law_e_spoilt" sSpoilt, dd "_law_e_good" sGoodW, dd "is_whole" sWhole, dd "is_within" sWithin, dd "leads_up" sLeadsG, dd "are_ways" sAreWaysG, dd "need_ways" sNeedWaysG, dm "Hearing" "__init__" "Hearing.__init__" sInit, dm "Hearing" "hearers" "Hearing.hearers" sHearers, dd "law" sLaw]
def faX : List He.Fa := [.glo "_law_e_blend", .glo "_law_e_draw", .glo "_law_e_ways", .glo "_law_e_ring", .glo "_law_e_with_root", .glo "_law_e_spoilt", .glo "_law_e_good", .glo "is_whole", .glo "is_within", .glo "leads_up", .glo "are_ways", .glo "need_ways", .glo "law", .glo "Hearing", .free "len", .free "range", .free "tuple", .free "list", .free "isinstance", .free "int", .free "bool", .free "all", .int "MOST_ENTRIES" 8, .cls "Hearing", .meth "Hearing" "hearers", .mkr "Hearing", .noat "Hearing" "ahead", .noat "Hearing" "root", .noat "Hearing" "counted", .noat "Hearing" "hears", .noat "Hearing" "counts", .noat "Hearing" "served", .noat "Hearing" "letter_rows", .noat "Hearing" "copy_rows", .noat "Hearing" "stay_lists", .noat "Hearing" "emitted", .noat "Hearing" "letter_sum", .noat "Hearing" "copy_sum"]
def tfX : List He.Defn := [("are_ways", none), ("Hearing", some "hearers")]
abbrev hkX : PySem.W.Hook := He.hookX 4 faX fnX [] tfX (fun _ => true)
def obX (s : PySem.W.SharedT) : He.AlX := He.obsX 4 faX fnX [] tfX (fun _ => true) (HandSHeadRun.getT s)
theorem obX_eq (s : PySem.W.SharedT) : obX s = hkX.obs s.abs := He.obsX_eq (HandSHeadRun.getT_eq s)
theorem at_law {w : World} {h : Heap} {K : PySem.W.Frag} {mg : Str → Option Value} {fa : Addr} (X : K.In h) (G : h.Ns mainGlobals mg) (hfa : mg "law" = some (.ref fa)) (c : He.SaysX faX fnX [] tfX (fun _ => true) w h K) : LamX.LawAtS PySem.Challenge.rw_hearkenway_k40_ways_of_anything w K CX0 8 63 "script" mg fa h := by
  have cd := c.t.d
  obtain ⟨fd1, D1⟩ := cd.def_ 0 (d := dd "_law_e_blend" sBlend) rfl
  have F1 := fun_of (st := sBlend) D1
  have b1 := F1.binds (ps := ["cell", "place"]) fun _ _ _ _ _ _ us hl => match us, hl with | [_, _], _ => rfl
  have k1 := F1.kp
  have g1 := He.glo_ok X G (cd.fact 0 (f := .glo "_law_e_blend") rfl)
  obtain ⟨fd2, D2⟩ := cd.def_ 1 (d := dd "_law_e_draw" sDraw) rfl
  have F2 := fun_of (st := sDraw) D2
  have b2 := F2.binds (ps := ["tray", "many"]) fun _ _ _ _ _ _ us hl => match us, hl with | [_, _], _ => rfl
  have k2 := F2.kp
  have g2 := He.glo_ok X G (cd.fact 1 (f := .glo "_law_e_draw") rfl)
  obtain ⟨fd3, D3⟩ := cd.def_ 2 (d := dd "_law_e_ways" sWaysL) rfl
  have F3 := fun_of (st := sWaysL) D3
  have b3 := F3.binds (ps := ["tray"]) fun _ _ _ _ _ _ us hl => match us, hl with | [_], _ => rfl
  have k3 := F3.kp
  have g3 := He.glo_ok X G (cd.fact 2 (f := .glo "_law_e_ways") rfl)
  obtain ⟨fd4, D4⟩ := cd.def_ 3 (d := dd "_law_e_ring" sRing) rfl
  have F4 := fun_of (st := sRing) D4
  have b4 := F4.binds (ps := ["up", "place"]) fun _ _ _ _ _ _ us hl => match us, hl with | [_, _], _ => rfl
  have k4 := F4.kp
  have g4 := He.glo_ok X G (cd.fact 3 (f := .glo "_law_e_ring") rfl)
  obtain ⟨fd5, D5⟩ := cd.def_ 4 (d := dd "_law_e_with_root" sWithRoot) rfl
  have F5 := fun_of (st := sWithRoot) D5
  have b5 := F5.binds (ps := ["found", "place"]) fun _ _ _ _ _ _ us hl => match us, hl with | [_, _], _ => rfl
  have k5 := F5.kp
  have g5 := He.glo_ok X G (cd.fact 4 (f := .glo "_law_e_with_root") rfl)
  obtain ⟨fd6, D6⟩ := cd.def_ 5 (d := dd "_law_e_spoilt" sSpoilt) rfl
  have F6 := fun_of (st := sSpoilt) D6
  have b6 := F6.binds (ps := ["tray", "up"]) fun _ _ _ _ _ _ us hl => match us, hl with | [_, _], _ => rfl
  have k6 := F6.kp
  have g6 := He.glo_ok X G (cd.fact 5 (f := .glo "_law_e_spoilt") rfl)
  obtain ⟨fd7, D7⟩ := cd.def_ 6 (d := dd "_law_e_good" sGoodW) rfl
  have F7 := fun_of (st := sGoodW) D7
  have b7 := F7.binds (ps := ["thing"]) fun _ _ _ _ _ _ us hl => match us, hl with | [_], _ => rfl
  have k7 := F7.kp
  have g7 := He.glo_ok X G (cd.fact 6 (f := .glo "_law_e_good") rfl)
  obtain ⟨fd8, D8⟩ := cd.def_ 7 (d := dd "is_whole" sWhole) rfl
  have F8 := fun_of (st := sWhole) D8
  have b8 := F8.binds (ps := ["thing"]) fun _ _ _ _ _ _ us hl => match us, hl with | [_], _ => rfl
  have k8 := F8.kp
  have g8 := He.glo_ok X G (cd.fact 7 (f := .glo "is_whole") rfl)
  obtain ⟨fd9, D9⟩ := cd.def_ 8 (d := dd "is_within" sWithin) rfl
  have F9 := fun_of (st := sWithin) D9
  have b9 := F9.binds (ps := ["thing", "least", "greatest"]) fun _ _ _ _ _ _ us hl => match us, hl with | [_, _, _], _ => rfl
  have k9 := F9.kp
  have g9 := He.glo_ok X G (cd.fact 8 (f := .glo "is_within") rfl)
  obtain ⟨fd10, D10⟩ := cd.def_ 9 (d := dd "leads_up" sLeadsG) rfl
  have F10 := fun_of (st := sLeadsG) D10
  have b10 := F10.binds (ps := ["up", "place"]) fun _ _ _ _ _ _ us hl => match us, hl with | [_, _], _ => rfl
  have k10 := F10.kp
  have g10 := He.glo_ok X G (cd.fact 9 (f := .glo "leads_up") rfl)
  obtain ⟨fd11, D11⟩ := cd.def_ 10 (d := dd "are_ways" sAreWaysG) rfl
  have F11 := funC_of (p := ("are_ways", none)) (st := sAreWaysG) D11
  have b11 := F11.toFun.binds (ps := ["thing"]) fun _ _ _ _ _ _ us hl => match us, hl with | [_], _ => rfl
  have k11 := F11.kp
  have g11 := He.glo_ok X G (cd.fact 10 (f := .glo "are_ways") rfl)
  obtain ⟨fd12, D12⟩ := cd.def_ 11 (d := dd "need_ways" sNeedWaysG) rfl
  have F12 := fun_of (st := sNeedWaysG) D12
  have b12 := F12.binds (ps := ["up"]) fun _ _ _ _ _ _ us hl => match us, hl with | [_], _ => rfl
  have k12 := F12.kp
  have g12 := He.glo_ok X G (cd.fact 11 (f := .glo "need_ways") rfl)
  obtain ⟨fd13, D13⟩ := cd.def_ 12 (d := dm "Hearing" "__init__" "Hearing.__init__" sInit) rfl
  have F13 := fun_of (st := sInit) D13
  have b13 := F13.binds (ps := ["self", "up"]) fun _ _ _ _ _ _ us hl => match us, hl with | [_, _], _ => rfl
  have k13 := F13.kp
  obtain ⟨fd14, D14⟩ := cd.def_ 13 (d := dm "Hearing" "hearers" "Hearing.hearers" sHearers) rfl
  have F14 := funC_of (p := ("Hearing", some "hearers")) (st := sHearers) D14
  have b14 := F14.toFun.binds (ps := ["self"]) fun _ _ _ _ _ _ us hl => match us, hl with | [_], _ => rfl
  have k14 := F14.kp
  obtain ⟨fd15, D15⟩ := cd.def_ 14 (d := dd "law" sLaw) rfl
  have F15 := fun_of (st := sLaw) D15
  have k15 := F15.kp
  have g15 := He.glo_ok X G (cd.fact 12 (f := .glo "law") rfl)
  have m0 := He.free_ok X G (cd.fact 14 (f := .free "len") rfl)
  have m1 := He.free_ok X G (cd.fact 15 (f := .free "range") rfl)
  have m2 := He.free_ok X G (cd.fact 16 (f := .free "tuple") rfl)
  have m3 := He.free_ok X G (cd.fact 17 (f := .free "list") rfl)
  have m4 := He.free_ok X G (cd.fact 18 (f := .free "isinstance") rfl)
  have m5 := He.free_ok X G (cd.fact 19 (f := .free "int") rfl)
  have m6 := He.free_ok X G (cd.fact 20 (f := .free "bool") rfl)
  have m7 := He.free_ok X G (cd.fact 21 (f := .free "all") rfl)
  obtain ⟨t0, u0⟩ := He.int_ok X G (cd.fact 22 (f := .int "MOST_ENTRIES" 8) rfl)
  have gH := He.glo_ok X G (cd.fact 13 (f := .glo "Hearing") rfl)
  have MH := He.mkr_ok (cd.fact 25 (f := .mkr "Hearing") rfl)
  have Mh := He.meth_ok (cd.fact 24 (f := .meth "Hearing" "hearers") rfl)
  have na0 := He.noat_ok (cd.fact 26 (f := .noat "Hearing" "ahead") rfl)
  have na1 := He.noat_ok (cd.fact 27 (f := .noat "Hearing" "root") rfl)
  have na2 := He.noat_ok (cd.fact 28 (f := .noat "Hearing" "counted") rfl)
  have na3 := He.noat_ok (cd.fact 29 (f := .noat "Hearing" "hears") rfl)
  have na4 := He.noat_ok (cd.fact 30 (f := .noat "Hearing" "counts") rfl)
  have na5 := He.noat_ok (cd.fact 31 (f := .noat "Hearing" "served") rfl)
  have na6 := He.noat_ok (cd.fact 32 (f := .noat "Hearing" "letter_rows") rfl)
  have na7 := He.noat_ok (cd.fact 33 (f := .noat "Hearing" "copy_rows") rfl)
  have na8 := He.noat_ok (cd.fact 34 (f := .noat "Hearing" "stay_lists") rfl)
  have na9 := He.noat_ok (cd.fact 35 (f := .noat "Hearing" "emitted") rfl)
  have na10 := He.noat_ok (cd.fact 36 (f := .noat "Hearing" "letter_sum") rfl)
  have na11 := He.noat_ok (cd.fact 37 (f := .noat "Hearing" "copy_sum") rfl)
  have hC : HearN K (He.ga K "Hearing") := ⟨He.cls_ok (cd.fact 23 (f := .cls "Hearing") rfl), fun f hf => by
    simp only [List.mem_cons, List.not_mem_nil, or_false] at hf
    rcases hf with rfl | rfl | rfl | rfl | rfl | rfl | rfl | rfl | rfl | rfl | rfl | rfl
    · exact na0
    · exact na1
    · exact na2
    · exact na3
    · exact na4
    · exact na5
    · exact na6
    · exact na7
    · exact na8
    · exact na9
    · exact na10
    · exact na11⟩
  have bl := FunD.bindsA (ps := ["script"]) D15 fun _ _ _ _ _ _ us hl => match us, hl with | [_], _ => rfl
  have e := hfa.symm.trans g15
  cases e
  have hcs : ∀ p ∈ [He.cT K ("are_ways", none), He.cT K ("Hearing", some "hearers")], ∃ d ∈ tfX, p = He.cT K d := fun p hp => by
    simp only [List.mem_cons, List.not_mem_nil, or_false] at hp
    rcases hp with rfl | rfl
    · exact ⟨("are_ways", none), by simp [tfX], rfl⟩
    · exact ⟨("Hearing", some "hearers"), by simp [tfX], rfl⟩
  refine ⟨fd15, [He.cT K ("are_ways", none), He.cT K ("Hearing", some "hearers")], spLaw K (He.cT K ("are_ways", none)).2 (He.cT K ("Hearing", some "hearers")).2, fun p hp => ?_, fun p hp => ?_, fun p hp => ?_, fun s v => bl s [v] rfl, fun H a ns _ _ hH hS => ?_, fun base hK hN hB => ?_⟩
  · obtain ⟨d, hd, rfl⟩ := hcs p hp
    exact c.empty d hd
  · obtain ⟨d, hd, rfl⟩ := hcs p hp
    exact c.out d hd
  · obtain ⟨d, hd, rfl⟩ := hcs p hp
    exact PySem.W.codeHd_of_K X (c.hd d hd)
  · have tb0 : H (He.cT K ("are_ways", none)).2 = some (.tbl #[]) := hH (He.cT K ("are_ways", none)) (by simp)
    have tb1 : H (He.cT K ("Hearing", some "hearers")).2 = some (.tbl #[]) := hH (He.cT K ("Hearing", some "hearers")) (by simp)
    exact ⟨a, ns, rfl, hS, ⟨_, tb0, trivial⟩, ⟨_, tb1, trivial⟩, fun _ => rfl⟩
  · have B11 : GxR.TabB base mg (He.cT K ("are_ways", none)).1 (He.cT K ("are_ways", none)).2 := by
      obtain ⟨x1, x2, x3⟩ := hB (He.cT K ("are_ways", none)) (by simp)
      exact ⟨x1, x2, x3⟩
    have B14 : GxR.TabB base mg (He.cT K ("Hearing", some "hearers")).1 (He.cT K ("Hearing", some "hearers")).2 := by
      obtain ⟨x1, x2, x3⟩ := hB (He.cT K ("Hearing", some "hearers")) (by simp)
      exact ⟨x1, x2, x3⟩
    have O1 := ok_blend (P := PySem.Challenge.rw_hearkenway_k40_ways_of_anything.prog) (w := w) (mg := mg) (base := base) F1
    have O2 := ok_draw (P := PySem.Challenge.rw_hearkenway_k40_ways_of_anything.prog) (w := w) (mg := mg) (base := base) F2 k1 b1 g1 O1 m0
    have O3 := ok_waysL (P := PySem.Challenge.rw_hearkenway_k40_ways_of_anything.prog) (w := w) (mg := mg) (base := base) F3 k2 b2 g2 O2 m1 m2
    have O4 := ok_ring (P := PySem.Challenge.rw_hearkenway_k40_ways_of_anything.prog) (w := w) (mg := mg) (base := base) F4 m3 m2
    have O5 := ok_withroot (P := PySem.Challenge.rw_hearkenway_k40_ways_of_anything.prog) (w := w) (mg := mg) (base := base) F5
    have O6 := ok_spoilt (P := PySem.Challenge.rw_hearkenway_k40_ways_of_anything.prog) (w := w) (mg := mg) (base := base) F6 k2 b2 g2 O2 k4 b4 g4 O4 k5 b5 g5 O5 m0 m1 m3
    have O7 := ok_goodW (P := PySem.Challenge.rw_hearkenway_k40_ways_of_anything.prog) (w := w) (mg := mg) (base := base) F7 m4 m2 m0 m5 m6 m1
    have O8 := ok_whole (P := PySem.Challenge.rw_hearkenway_k40_ways_of_anything.prog) (w := w) (mg := mg) (base := base) F8 m4 m5 m6
    have O9 := ok_within (P := PySem.Challenge.rw_hearkenway_k40_ways_of_anything.prog) (w := w) (mg := mg) (base := base) F9 F8 b8 g8 O8
    have O10 := ok_leadsG (P := PySem.Challenge.rw_hearkenway_k40_ways_of_anything.prog) (w := w) (mg := mg) (base := base) F10 m1 m0
    have O11 := ok_areWaysG (P := PySem.Challenge.rw_hearkenway_k40_ways_of_anything.prog) (w := w) (mg := mg) (base := base) F11 B11 k9 b9 g9 O9 k10 b10 g10 O10 m4 m2 m0 m7 m1 u0
    have O12 := ok_needWaysG (P := PySem.Challenge.rw_hearkenway_k40_ways_of_anything.prog) (w := w) (mg := mg) (base := base) F12 k11 b11 g11 O11
    have O13 := ok_init (P := PySem.Challenge.rw_hearkenway_k40_ways_of_anything.prog) (w := w) (mg := mg) (base := base) F13 hC k12 b12 g12 O12
    have O14 := ok_hearers (P := PySem.Challenge.rw_hearkenway_k40_ways_of_anything.prog) (w := w) (mg := mg) (base := base) F14 B14 hC m2 m1 m0
    exact ok_law F15 k3 b3 g3 O3 k6 b6 g6 O6 k7 b7 g7 O7 k11 b11 g11 O11 hC gH MH b13 O13 Mh b14 O14 m0 m1 m4 m6
end HK

open PySem PySem.W PySem.Calls PyProof.Rows
set_option Elab.async false
set_option linter.all false
set_option maxRecDepth 100000
set_option maxHeartbeats 0
theorem HK.runX (w : World) : HandSHeadRun.RunEq HK.RX HK.qX HK.hkX HK.obX 14000 HK.namesX w := by
  intro os
  kernel_rfl
theorem PySem.Challenge.cw_hearkenway_k40_ways_of_anything_holds : PySem.Challenge.rw_hearkenway_k40_ways_of_anything.Holds := by
  w_on; o_law
  refine HandSHeadRun.head_any (r := OpenLaw.row PySem.Challenge.rw_hearkenway_k40_ways_of_anything) (q := HK.qX) (H := HK.hkX) (ob := HK.obX) (M := 14000) (loose := HK.namesX) (d := HandSHeadRun.topDef (OpenLaw.row PySem.Challenge.rw_hearkenway_k40_ways_of_anything).prog 22) (kwd := []) HK.obX_eq
    (by kernel_rfl) (fun s => by kernel_rfl) HK.runX (by kernel_rfl) (by kernel_rfl) (by kernel_rfl) (by rfl) (by first | assumption | decide +kernel) (by decide +kernel) ⟨rfl, rfl, rfl, rfl, rfl, by decide +kernel⟩ ?hw ?hc
  case hw => w_witness2
  case hc =>
    refine LamX.walk_ofTsE (l := PySem.Challenge.rw_hearkenway_k40_ways_of_anything) (n := 63) (k := 8) (x := "script") (CX := fun _ => L2.CX0) rfl (by decide) (by kernel_rfl) ⟨rfl, by decide, by decide⟩ ?F (fun _ _ _ _ _ h => h)
    intro w mg fa h Y G hmg0
    obtain ⟨K, KX, c⟩ := Y
    have hmg : mg ("law" : PySem.Str) = some (.ref fa) := by
      have e : (HandSHeadRun.topDef (OpenLaw.row PySem.Challenge.rw_hearkenway_k40_ways_of_anything).prog 22).name = ("law" : PySem.Str) := by kernel_rfl
      rw [← e]
      exact hmg0
    exact ⟨K, KX, HK.at_law KX G hmg c⟩
