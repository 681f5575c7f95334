import PyProof.Rows.All
import Wide.All
import OpenK.AllK
import Wide.FinOn
import HandS.AnyAll
import HandS.GenOver
import HandS.ForMost
import HandS.IsInst
import HandS.EndTab
import HandS.Wide
import HandS.Style
import HandS.Evl
import HandS.TupAny
import HandS.DictComp
import HandS.More
import HandS.Walk
import HandS.WordsDict
import HandS.Dict
import PyProof.SumAny
import KE.KDictList
import HandS.ListItems
import HandS.Conv
import HandS.SetFor
import HandS.Strs
import HandS.Zip
import HandS.ForExc
import KE.KDictSum
import HandS.Star
import HandS.ExcIs
import PyProof.EqKinds
import HandS.EndOwn
import PySem.Challenge.RW_hearkenway_k05_no_nets_places_trees
set_option Elab.async false
set_option linter.all false
set_option maxRecDepth 100000
set_option maxHeartbeats 2000000
namespace GAl
open PySem PySem.Spec PyProof.Rows L2 GxR
open Sem (wp)

theorem Inv.kall {X : Cx} {pins : List (Addr × Obj)} {σ : L2.St} {H : Hp} {s s'' : Shared} (I : Inv X pins σ H s) (ho : s''.os = s.os) (hb : AllBare s''.gens)
    (k : ∀ b o, s.heap.get? b = some o → s''.heap.get? b = some o) : Inv X pins σ H s'' := by
  obtain ⟨h', g', d', t', o'⟩ := s''
  have e : o' = s.os := ho
  subst e
  exact I.call (h' := h') (g' := g') (d' := d') (t' := t') (ch := []) (Un.kept k) (I.hok.kept k) hb (fun b z => absurd z (by simp))

theorem bare_set {s : Shared} {g : Nat} {x : GenState} (h : AllBare s.gens) (hx : x.bare = true) : AllBare (s.setGen g x).gens := by
  intro y hy
  simp only [Shared.setGen] at hy
  rcases Array.mem_or_eq_of_mem_setIfInBounds hy with z | z
  · exact h y z
  · rw [z]; exact hx

/-- the context of a generator expression's code -/
abbrev gcx (X : Cx) (A' : Around) (s : Shared) (H : Hp) (cenv : Env) (fp : List Addr) : Cx :=
  { X with A := A', s_0 := s, H_0 := H, env := cenv, outer := X.stack, stack := cenv :: X.stack, ex := fp, fn := fun _ => false, pn := [], xe := fun _ _ => False }

section
variable {X : Cx} {pins : List (Addr × Obj)} {σ : L2.St} {H : Hp} {s : Shared}

theorem gen_start {scope : Scope} {own : List (Str × Nat)} {fp : List Addr} {A' : Around} {cenv : Env} {code : Value} {m : Str → Option Value} {h5 : Heap} {g' : Array GenState} {t5 : Nat} {a : Addr} {oa : Obj}
    (I : Inv X pins σ H s) (ok : BlkOk X.N X.env.scope scope own) (hcell : ∀ y ∈ scope.names, y.2 ≠ .cell) (hN : X.N.Nodup)
    (hfp : ∀ b ∈ fp, FpOk X pins H b ∧ b < s.heap.objs.size)
    (hce : cenv = genEnv scope (cloFrom X.env.cells scope.names []) s.heap.objs.size code builtinsNs X.env)
    (hA : A'.frames = some (cenv :: X.stack)) (hh : A'.handled = none)
    (hns : h5.Ns s.heap.objs.size m) (kp : ∀ b o, s.heap.get? b = some o → h5.get? b = some o) (hb : AllBare g')
    (ha : h5.get? a = some oa) (hla : s.heap.objs.size < a) (hda : ∀ v, oa.data ≠ .cell v) :
    Inv (gcx X A' s H cenv fp) [(a, oa)] (wipe σ (own.map (·.2))) H { s with heap := h5, gens := g', toks := t5 } := by
  have hfree : ∀ y ∈ scope.names, y.2 = .free → ∃ c, X.env.cells.lookup y.1 = some c := fun y hy e => by
    rcases ok.free y hy e with k | k
    · exact I.ok.has _ (.inl k)
    · exact I.ok.has _ (.inr k)
  have hL : cenv.locals = s.heap.objs.size := by rw [hce]; rfl
  have hcl : cenv.cells = cloFrom X.env.cells scope.names [] := by rw [hce]; rfl
  have hsc : cenv.scope = scope := by rw [hce]; rfl
  have mem : ∀ {y c}, cenv.cells.lookup y = some c → X.env.cells.lookup y = some c ∧ c < s.heap.objs.size := fun {y c} e => by
    rw [hcl] at e
    rcases cloFrom_mem (PySem.mem_of_lookup e) with hm | ⟨h1, rfl⟩
    · cases hm
    · obtain ⟨c, hc⟩ := hfree _ h1 rfl
      rw [hc]
      obtain ⟨w, z⟩ := I.cell _ _ hc
      exact ⟨rfl, z.lt⟩
  have look : ∀ {y}, scope.names.lookup y = some .free → ∃ c, cenv.cells.lookup y = some c ∧ X.env.cells.lookup y = some c := fun {y} hl => by
    have hy : (y, NameKind.free) ∈ scope.names := PySem.mem_of_lookup hl
    obtain ⟨c', e'⟩ := mem_lookup (cloFrom_has (cells := X.env.cells) (acc := []) hy)
    rw [← hcl] at e'
    exact ⟨c', e', (mem e').1⟩
  have kfree : ∀ {y k}, cenv.kindOf y = some k → (k = .cell ∨ k = .free) → scope.names.lookup y = some .free := fun {y k} hk hk' => by
    unfold Env.kindOf at hk
    rw [hsc] at hk
    rcases hk' with rfl | rfl
    · exact absurd rfl (hcell _ (PySem.mem_of_lookup hk))
    · exact hk
  have okB : (gcx X A' s H cenv fp).Ok := by
    refine ⟨I.ok.mod, by show cenv.scope.kind = _; rw [hsc]; exact ok.kind, by show cenv.globals = _; rw [hce]; exact I.ok.glob, by show cenv.builtins = _; rw [hce]; rfl, by show s.heap.objs.size ≤ cenv.locals; rw [hL]; exact Nat.le_refl _,
      fun y z c e1 e2 => I.ok.inj y z c (mem e1).1 (mem e2).1, fun y hy => ?_, fun y c z e => (by cases z), fun _ => hh, hA, .inr ⟨rfl, by show cenv.frame = some cenv.locals; rw [hce]; rfl⟩, fun b hb => ⟨?_, fun y c e z => ?_⟩, I.bs, Nat.le_trans I.ok.bsz I.sz, fun b o e hb => ?_, fun b hb z => ?_, I.stack, I.stkFree⟩
    · rcases hy with hy | hy
      · obtain ⟨c, h1, _⟩ := look (kfree hy (.inl rfl)); exact ⟨c, h1⟩
      · obtain ⟨c, h1, _⟩ := look (kfree hy (.inr rfl)); exact ⟨c, h1⟩
    · show b ≠ cenv.locals
      rw [hL]; exact Nat.ne_of_lt (hfp b hb).2
    · exact (hfp b hb).1.2.2.2.2.1 y c (mem e).1 z
    · rcases (hfp b hb).1.2.2.2.1 with z | z
      · exact I.ok.noex b o e z
      · exact absurd (Nat.lt_of_lt_of_le (Heap.lt_size e) (Nat.le_trans I.ok.bsz z)) (Nat.lt_irrefl _)
    · rcases List.mem_cons.mp (I.stkSub b z) with z | z
      · exact (hfp b hb).1.2.1 z
      · exact (hfp b hb).1.2.2.1 z
  refine ⟨okB, rfl, hb, Un.kept kp, ⟨m, ?_, fun i y av e1 e2 e3 => ?_⟩, fun y c e => ?_, ?_, fun y c e => ?_, fun p hp => ?_, I.hok.kept kp, by rw [wipe_length]; exact I.len⟩
  · show Heap.Ns _ cenv.locals _
    rw [hL]
    exact hns
  · obtain ⟨e2, hne⟩ := wipe_some e2
    have hfr : scope.names.lookup y = some .free := by
      have key : ∀ k, scope.names.lookup y = some k → k = .local ∨ k = .cell ∨ k = .free → scope.names.lookup y = some .free := fun k hk hk' => by
        have no : ¬ (k = .local ∨ k = .cell) := fun hh => by
          rcases ok.own _ (PySem.mem_of_lookup hk) hh with e' | e'
          · obtain ⟨p, hp, hpy⟩ := List.mem_map.mp e'
            have e3 := ok.ix p hp
            have : p.1 = y := hpy
            rw [this] at e3
            exact hne (List.mem_map.mpr ⟨p, hp, nodup_ix hN e3 e1⟩)
          · exact e' (List.mem_of_getElem? e1)
        rcases hk' with rfl | rfl | rfl
        · exact absurd (.inl rfl) no
        · exact absurd (.inr rfl) no
        · exact hk
      have e3 : Vis cenv.scope y := e3
      rw [hsc] at e3
      rcases e3 with e3 | e3 | e3
      · exact key _ e3 (.inl rfl)
      · exact key _ e3 (.inr (.inl rfl))
      · exact key _ e3 (.inr (.inr rfl))
    obtain ⟨m, hn, hl⟩ := I.loc
    have hvis : Vis X.env.scope y := (ok.free _ (PySem.mem_of_lookup hfr) rfl).elim (fun k => .inr (.inl k)) (fun k => .inr (.inr k))
    obtain ⟨w, r, q⟩ := hl i y av e1 e2 hvis
    refine ⟨w, r, .inr ⟨.inr (by show cenv.scope.names.lookup y = _; rw [hsc]; exact hfr), ?_⟩⟩
    obtain ⟨c, h1, h2⟩ := look hfr
    rcases q with ⟨k, _⟩ | ⟨_, c', e', z⟩
    · have k : X.env.scope.names.lookup y = some .local := k
      rcases ok.free _ (PySem.mem_of_lookup hfr) rfl with k' | k' <;> rw [show X.env.scope.names.lookup y = _ from k'] at k <;> cases k
    · rw [h2] at e'; cases e'
      exact ⟨c, h1, z.keeps kp⟩
  · obtain ⟨w, z⟩ := I.cell y c (mem e).1
    exact ⟨w, z.keeps kp⟩
  · show H cenv.locals = none
    rw [hL]; exact I.hok.fresh (Nat.le_refl _)
  · exact I.freeC y c (mem e).1
  · have hp : p ∈ ([] : List (Addr × Obj)) ++ [(a, oa)] := hp
    simp only [List.nil_append, List.mem_singleton] at hp
    subst hp
    refine ⟨ha, I.hok.fresh (Nat.le_of_lt hla), ?_, ?_, hda⟩
    · show a ≠ cenv.locals
      rw [hL]; exact Nat.ne_of_gt hla
    · intro z
      have z : a ∈ frs X.stack := z
      obtain ⟨_, o, ho, _⟩ := I.stack.mem z
      exact absurd (Nat.lt_trans hla (Heap.lt_size ho)) (Nat.lt_irrefl _)
end
end GAl

set_option Elab.async false
set_option linter.all false
set_option maxRecDepth 100000
set_option maxHeartbeats 2000000
namespace GAl
open PySem PySem.Spec PyProof.Rows L2 GxR
open Sem (wp)

/-- the generator's end and what it hands out -/
def REnd (XG : Cx) (a : Addr) (oa : Obj) (σw : L2.St) (Qd : Hp → Prop) : Nat → Shared → Shared → Prop := fun _ _ s₁ => ∃ H4, Inv XG [(a, oa)] σw H4 s₁ ∧ Qd H4
def YOut (XG : Cx) (a : Addr) (oa : Obj) (stp : V → Hp → Prop → Prop) : Protocol := fun _ _ v s kap =>
  ∃ y H4 σ4, Inv XG [(a, oa)] σ4 H4 s ∧ RelV y v ∧ stp y H4 (∀ s'' : Shared, s''.os = s.os → AllBare s''.gens → (∀ b o, s.heap.get? b = some o → s''.heap.get? b = some o) → kap (.send .none) s'')

/-- what a turn asks (W by the turn and a measure) -/
def GTurn (J : It) (g : TG) (tt : TT) (te : TE) (vs : List Nat) (σw : L2.St) (Qd : Hp → Prop) (stp : V → Hp → Prop → Prop) (W : Nat → Nat → Hp → Prop) : Prop :=
  ∀ i m H, W i m H → (J.stop i H ∧ Qd H) ∨ (J.go i H ∧ ∃ Nx : Hp → Prop, (∀ H', Nx H' → ∃ m', m' < m ∧ W (i + 1) m' H') ∧ ∀ x H', J.yld i H x H' → g x σw H' fun σ2 H2 => wipe σ2 vs = σw ∧ tt σ2 H2 fun b H3 =>
    if b = true then te σ2 H3 fun y H4 => stp y H4 (Nx H4) else Nx H3)

section
variable {X : Cx} {σ : L2.St} {elt tg iter : Expr} {ifs : List Expr} {scope : Scope} {pos : Pos} {it a : Addr} {oa : Obj} {fp : List Addr} {cenv : Env} {AG : Around} {s4 : Shared} {Hs : Hp} {J : It} {tn : Nat → Heap → Prop}
  {g : TG} {tt : TT} {te : TE} {vs : List Nat} {σw : L2.St} {Qd : Hp → Prop} {stp : V → Hp → Prop → Prop} {W : Nat → Nat → Hp → Prop}

theorem gen_loop (hc : X.calm = true) (hco : cenv.scope.isCoroutine = false) (T : Turn X.prog X.w X.K tg J fp it tn) (hafp : ∀ b ∈ fp, a ≠ b)
    (hmono : ∀ y H (p q : Prop), (p → q) → stp y H p → stp y H q)
    (pg : PG (gcx X (AG.over (.compLoop (.GeneratorExp elt [⟨tg, iter, ifs, 0⟩] scope pos) 0 (.ref it) .none cenv) []) s4 Hs cenv fp) tg g)
    (pt : PTs (gcx X (AG.over (.compLoop (.GeneratorExp elt [⟨tg, iter, ifs, 0⟩] scope pos) 0 (.ref it) .none cenv) []) s4 Hs cenv fp) ifs tt)
    (pe : PE (gcx X (AG.over (.compLoop (.GeneratorExp elt [⟨tg, iter, ifs, 0⟩] scope pos) 0 (.ref it) .none cenv) []) s4 Hs cenv fp) elt te)
    (hW : GTurn J g tt te vs σw Qd stp W) :
    ∀ (m n i : Nat) (s₀ s : Shared) (H : Hp), m < n → W i m H → Inv (gcx X (AG.over (.compLoop (.GeneratorExp elt [⟨tg, iter, ifs, 0⟩] scope pos) 0 (.ref it) .none cenv) []) s4 Hs cenv fp) [(a, oa)] σw H s → tn i s.heap → (∀ b ∈ fp, H b = none) →
      Seg (model X.prog X.w) AG (fun n s₀ r s₁ => r = .ok .next ∧ REnd (gcx X (AG.over (.compLoop (.GeneratorExp elt [⟨tg, iter, ifs, 0⟩] scope pos) 0 (.ref it) .none cenv) []) s4 Hs cenv fp) a oa σw Qd n s₀ s₁)
        (YOut (gcx X (AG.over (.compLoop (.GeneratorExp elt [⟨tg, iter, ifs, 0⟩] scope pos) 0 (.ref it) .none cenv) []) s4 Hs cenv fp) a oa stp) n s₀
        (.compLoop (.GeneratorExp elt [⟨tg, iter, ifs, 0⟩] scope pos) 0 (.ref it) .none cenv)
        ((model X.prog X.w).den (.compLoop (.GeneratorExp elt [⟨tg, iter, ifs, 0⟩] scope pos) 0 (.ref it) .none cenv)) [] s := by
  generalize hXG : gcx X (AG.over (.compLoop (.GeneratorExp elt [⟨tg, iter, ifs, 0⟩] scope pos) 0 (.ref it) .none cenv) []) s4 Hs cenv fp = XG at pg pt pe ⊢
  have hA : XG.A = AG.over (.compLoop (.GeneratorExp elt [⟨tg, iter, ifs, 0⟩] scope pos) 0 (.ref it) .none cenv) [] := by rw [← hXG]
  have hP : XG.prog = X.prog := by rw [← hXG]
  have hw : XG.w = X.w := by rw [← hXG]
  have hK : XG.K = X.K := by rw [← hXG]
  have hcalm : XG.calm = true := by rw [← hXG]; exact hc
  have henv : XG.env = cenv := by rw [← hXG]
  have hxe : XG.xe = fun _ _ => False := by rw [← hXG]
  have hex : XG.ex = fp := by rw [← hXG]
  have hpn : XG.pn = [] := by rw [← hXG]
  have stat : ∀ {σ' : L2.St} {H' : Hp} {s' : Shared}, Inv XG [(a, oa)] σ' H' s' → (∀ b ∈ fp, H' b = none) → ∀ b ∈ fp, FpOk XG [(a, oa)] H' b := fun {σ' H' s'} I' hn b hb =>
    ⟨hn b hb, (I'.ok.exf b (by rw [hex]; exact hb)).1, I'.ok.exfs b (by rw [hex]; exact hb), .inl (by rw [hex]; exact hb), fun x c e => (I'.ok.exf b (by rw [hex]; exact hb)).2 x c e, fun p hp => by
      rw [hpn] at hp
      simp only [List.nil_append, List.mem_singleton] at hp
      subst hp
      exact hafp b hb⟩
  intro m
  induction m using Nat.strongRecOn with
  | ind m ih =>
    intro n i s₀ s H hmn w I st nH
    show Seg _ AG _ _ _ s₀ _ ((compTurn (.GeneratorExp elt [⟨tg, iter, ifs, 0⟩] scope pos) 0 (.ref it) .none cenv).onRaise (leaving cenv)) [] s
    rw [compTurn_gen, Sem.onRaise_eq_wrap]
    refine seg_bind_wrap (wpAny_standAt ?_)
    rcases hW i m H w with ⟨stop, qq⟩ | ⟨go, Nx, hNx, step⟩
    · have td := T.done XG hP hw hK hcalm i _ s _ H (fun _ _ => False) I (stat I nH) st stop
      rw [hA] at td
      refine seg_bind_wrap (thnF td fun r s1 ⟨hr, I1⟩ => ?_)
      subst hr
      exact seg_end (.ok .next) ⟨rfl, H, I1, qq⟩
    · have ti := T.item XG hP hw hK hcalm i _ s _ H (fun _ _ => False) I (stat I nH) st go
      rw [hA] at ti
      refine seg_bind_wrap (thnF ti fun r s1 ⟨u, hr, h1⟩ => ?_)
      subst hr
      refine seg_bind_wrap (thnF h1 fun _ s2 ⟨x, H2, I2, r2, y2, st2, n2⟩ => ?_)
      have I2' := I2.pinned (stat I2 n2) (T.obj _ _ st2)
      have rg := pg.run _ s2 _ H2 x u _ I2' r2 (step x H2 y2)
      rw [hA, hP, hw, henv, hxe] at rg
      refine seg_bind_wrap (thnF rg fun _ s3 ⟨σ3, H3, I3, hw3, q3⟩ => ?_)
      have rt := pt.run _ s3 σ3 H3 _ I3 q3
      rw [hA, hP, hw, henv, hxe] at rt
      refine seg_bind_wrap (thnF rt fun b s5 ⟨H5, I5, q5⟩ => ?_)
      have fin : ∀ {s' s'' : Shared} {H' : Hp}, Inv XG ([(a, oa)] ++ pinsAt fp s2.heap) σ3 H' s' → s''.os = s'.os → AllBare s''.gens → (∀ b o, s'.heap.get? b = some o → s''.heap.get? b = some o) → Nx H' →
          ∃ m', m' < m ∧ W (i + 1) m' H' ∧ Inv XG [(a, oa)] σw H' s'' ∧ tn (i + 1) s''.heap ∧ (∀ b ∈ fp, H' b = none) := fun {s' s'' H'} I' e1 e2 e3 nx => by
        obtain ⟨m', hm, w'⟩ := hNx H' nx
        have pin' : ∀ b ∈ fp, ∀ o, s2.heap.get? b = some o → s'.heap.get? b = some o ∧ H' b = none := fun b hb o e =>
          let z := I'.pin (b, o) (List.mem_append_right _ (List.mem_append_right _ (mem_pinsAt hb e)))
          ⟨z.1, z.2.1⟩
        have hl : σw.length = σ3.length := by rw [← hw3, wipe_length]
        refine ⟨m', hm, w', Inv.kall ((I'.unpinned (pins := [(a, oa)])).weak hl (fun j v e => ?_)) e1 e2 e3, T.keep _ _ _ st2 fun b hb o e => e3 b o (pin' b hb o e).1, fun b hb => ?_⟩
        · rw [← hw3] at e
          exact (wipe_some e).1
        · obtain ⟨o, e, _⟩ := T.obj _ _ st2 b hb
          exact (pin' b hb o e).2
      cases b with
      | false =>
        simp only [Bool.false_eq_true, if_false] at q5 ⊢
        obtain ⟨m', hm, w', I', st', n'⟩ := fin I5 rfl I5.bare (fun _ _ e => e) q5
        exact seg_again rfl (ih m' hm n (i + 1) s₀ s5 H5 (by omega) w' I' st' n')
      | true =>
        simp only [if_true] at q5 ⊢
        have hy : ∀ v, yieldOut cenv v = yieldValue v := fun v => by simp only [yieldOut, hco, Bool.false_eq_true, if_false]
        simp only [hy]
        rw [Sem.bind_eq_wrap', Sem.bind_eq_wrap', Sem.wrap_wrap, Sem.wrap_wrap]
        have re := pe.run _ s5 σ3 H5 _ I5 q5
        rw [hA, hP, hw, henv, hxe] at re
        refine seg_wrap (thnF re fun z s6 ⟨yv, H6, I6, r6, q6⟩ => ?_)
        cases n with
        | zero => exact absurd hmn (Nat.not_lt_zero _)
        | succ n =>
          refine seg_at (seg_yield rfl rfl rfl ⟨yv, H6, σ3, I6.unpinned (pins := [(a, oa)]), r6, hmono _ _ _ _ (fun nx s'' e1 e2 e3 => ?_) q6⟩)
          obtain ⟨m', hm, w', I', st', n'⟩ := fin I6 e1 e2 e3 nx
          exact seg_again rfl (ih m' hm n (i + 1) s'' s'' H6 (by omega) w' I' st' n')

theorem gen_begin (hc : X.calm = true) (hco : cenv.scope.isCoroutine = false) (T : Turn X.prog X.w X.K tg J fp it tn) (hafp : ∀ b ∈ fp, a ≠ b)
    (hmono : ∀ y H (p q : Prop), (p → q) → stp y H p → stp y H q)
    (pg : PG (gcx X (AG.over (.compLoop (.GeneratorExp elt [⟨tg, iter, ifs, 0⟩] scope pos) 0 (.ref it) .none cenv) []) s4 Hs cenv fp) tg g)
    (pt : PTs (gcx X (AG.over (.compLoop (.GeneratorExp elt [⟨tg, iter, ifs, 0⟩] scope pos) 0 (.ref it) .none cenv) []) s4 Hs cenv fp) ifs tt)
    (pe : PE (gcx X (AG.over (.compLoop (.GeneratorExp elt [⟨tg, iter, ifs, 0⟩] scope pos) 0 (.ref it) .none cenv) []) s4 Hs cenv fp) elt te)
    (hW : GTurn J g tt te vs σw Qd stp W) (m : Nat) (s₀ s : Shared) (H : Hp) (w : W 0 m H)
    (I : Inv (gcx X (AG.over (.compLoop (.GeneratorExp elt [⟨tg, iter, ifs, 0⟩] scope pos) 0 (.ref it) .none cenv) []) s4 Hs cenv fp) [(a, oa)] σw H s) (st : tn 0 s.heap) (nH : ∀ b ∈ fp, H b = none) :
      Seg (model X.prog X.w) AG (fun n s₀ r s₁ => r = .ok .next ∧ REnd (gcx X (AG.over (.compLoop (.GeneratorExp elt [⟨tg, iter, ifs, 0⟩] scope pos) 0 (.ref it) .none cenv) []) s4 Hs cenv fp) a oa σw Qd n s₀ s₁)
        (YOut (gcx X (AG.over (.compLoop (.GeneratorExp elt [⟨tg, iter, ifs, 0⟩] scope pos) 0 (.ref it) .none cenv) []) s4 Hs cenv fp) a oa stp) (m + 1) s₀
        (.compStart (.GeneratorExp elt [⟨tg, iter, ifs, 0⟩] scope pos) 0 (.ref it) .none cenv)
        ((model X.prog X.w).den (.compStart (.GeneratorExp elt [⟨tg, iter, ifs, 0⟩] scope pos) 0 (.ref it) .none cenv)) [] s := by
  have loop := gen_loop (a := a) (oa := oa) hc hco T hafp hmono pg pt pe hW m (m + 1) 0 s₀ s H (Nat.lt_succ_self _) w I st nH
  show Seg _ AG _ _ _ s₀ _ ((compStart (.GeneratorExp elt [⟨tg, iter, ifs, 0⟩] scope pos) 0 (.ref it) .none cenv).onRaise (leaving cenv)) [] s
  unfold compStart
  rw [Sem.onRaise_eq_wrap]
  show Seg _ AG _ _ _ s₀ _ ((ask >>= _).wrap _ _ _ _) [] s
  refine seg_bind_wrap (wpAny_askSetting ?_)
  split
  · exact seg_again rfl loop
  · first
      | exact seg_bind_wrap (wpAny_rule (seg_bind_wrap (wpAny_standAt (seg_bind_wrap (T.self _ 0 s _ _ st (seg_again rfl loop))))))
      | (refine seg_bind_wrap (wpAny_rule ?_); show Seg _ AG _ _ _ s₀ _ ((standAt iter.pos >>= _).wrap _ _ _ _) [] s; exact seg_bind_wrap (wpAny_standAt (seg_bind_wrap (T.self _ 0 s _ _ st (seg_again rfl loop)))))
end

/-! ### the consumer's side -/
section
variable {prog : Program} {w : World} {A : Around} {E : Value → Shared → Prop} {s : Shared}
theorem next_sz {a : Addr} {g n : Nat} {gs : GenState} {P : Nat → Shared → Shared → Prop} {Y : Protocol} {Q : Option Value → Shared → Prop} (hh : A.handled = none)
    (hl : s.heap.NoLimit) (hroom : A.depth < recursionLimit)
    (hg : s.heap.IsGen a g) (hgs : s.gens[g]? = some gs)
    (hgo : gs.Goes (model prog w) A.in1 (fun n s₀ r s₁ => r = .ok .next ∧ P n s₀ s₁) Y n (.send .none) (s.setGen g .running))
    (hY : ∀ v s₁ gs', s.gens.size ≤ s₁.gens.size → gs'.bare = true → Y (n - 1) (s.setGen g .running) v s₁ (fun r' s'' => match n with
        | 0 => False
        | m + 1 => gs'.Goes (model prog w) A.in1 (fun n s₀ r s₁ => r = .ok .next ∧ P n s₀ s₁) Y m r' s'') → Q (some v) (s₁.setGen g gs'))
    (hP : ∀ s₁, s.gens.size ≤ s₁.gens.size → P n (s.setGen g .running) s₁ → ∀ h', (∀ b o, s₁.heap.get? b = some o → h'.get? b = some o) → Q none { s₁.setGen g .finished with heap := h' }) :
    wpAny (model prog w) A (pyNext (.ref a)) Q E s := by
  refine GenW.wpAny_gsz (n := s.gens.size) (Nat.le_refl _) (wpAny_pyNext_genexpQ (E := fun e s' => s.gens.size ≤ s'.gens.size → E e s') (Q := fun r s' => s.gens.size ≤ s'.gens.size → Q r s') hh hl hroom hg hgs hgo
    (fun v s₁ gs' hb hv hz => hY v s₁ gs' (by rw [GenW.setGen_size] at hz; exact hz) hb hv)
    (fun s₁ hp h' hk hz => hP s₁ (by have z : s.gens.size ≤ (s₁.setGen g .finished).gens.size := hz; rw [GenW.setGen_size] at z; exact z) hp h' hk))
end
end GAl

set_option Elab.async false
set_option linter.all false
set_option maxRecDepth 100000
set_option maxHeartbeats 2000000
namespace GAl
open PySem PySem.Spec PyProof.Rows L2 GxR
open Sem (wp)

/-- the generator stands, ready for its next turn, at most n - 1 more are to come -/
def GSt (M : Model) (AG : Around) (P : Nat → Shared → Shared → Prop) (Y : Protocol) (a : Addr) (g n : Nat) (s : Shared) : Prop :=
  s.heap.IsGen a g ∧ s.heap.NoLimit ∧ ∃ gs, s.gens[g]? = some gs ∧ gs.Goes M AG (fun n s₀ r s₁ => r = .ok .next ∧ P n s₀ s₁) Y n (.send .none) (s.setGen g .running)

def stpAll (Qf : Hp → Prop) : V → Hp → Prop → Prop := fun y H N => ∃ c, y = .bl c ∧ (if c = true then N else Qf H)
def stpAny (Qt : Hp → Prop) : V → Hp → Prop → Prop := fun y H N => ∃ c, y = .bl c ∧ (if c = true then Qt H else N)
theorem stpAll_mono {Qf : Hp → Prop} : ∀ y H (p q : Prop), (p → q) → stpAll Qf y H p → stpAll Qf y H q := fun y H p q h ⟨c, e, k⟩ => ⟨c, e, by
  cases c with
  | true => simp only [if_true] at k ⊢; exact h k
  | false => simp only [Bool.false_eq_true, if_false] at k ⊢; exact k⟩
theorem stpAny_mono {Qf : Hp → Prop} : ∀ y H (p q : Prop), (p → q) → stpAny Qf y H p → stpAny Qf y H q := fun y H p q h ⟨c, e, k⟩ => ⟨c, e, by
  cases c with
  | false => simp only [Bool.false_eq_true, if_false] at k ⊢; exact h k
  | true => simp only [if_true] at k ⊢; exact k⟩

theorem gens_some {s : Shared} {g k : Nat} {gs : GenState} (h : s.gens[g]? = some gs) (hk : s.gens.size ≤ k) {s₁ : Shared} (e : s₁.gens.size = k) : ∃ x, s₁.gens[g]? = some x := by
  obtain ⟨hl, _⟩ := Array.getElem?_eq_some_iff.mp h
  exact ⟨_, Array.getElem?_eq_getElem (by omega)⟩

section
variable {X XG : Cx} {A : Around} {a : Addr} {oa : Obj} {g : Nat} {σw : L2.St} {Qd Qf : Hp → Prop} {R : Result → Shared → Prop}
theorem isgen_of {h h' : Heap} (hg : h.IsGen a g) (ho : h.get? a = some oa) (ho' : h'.get? a = some oa) : h'.IsGen a g := by
  obtain ⟨o, nm, qn, e, r⟩ := hg
  rw [ho] at e; cases e
  exact ⟨_, nm, qn, ho', r⟩

/-- all.loop over it -/
theorem all_loop (hprog : XG.prog = X.prog) (hw : XG.w = X.w) (hh : A.handled = none) (hroom : A.depth < recursionLimit) (hpn : XG.pn = [])
    (hfin : ∀ s' σ' H', Inv XG [(a, oa)] σ' H' s' → Qd H' → R (.ok (.ret (.bool true))) s')
    (hcut : ∀ s' σ' H', Inv XG [(a, oa)] σ' H' s' → Qf H' → R (.ok (.ret (.bool false))) s') :
    ∀ (n : Nat) (s : Shared), s.heap.get? a = some oa → GSt (model X.prog X.w) A.in1.in1 (REnd XG a oa σw Qd) (YOut XG a oa (stpAll Qf)) a g n s → codeAny (model X.prog X.w) A (.builtin "all.loop" ⟨[.ref a], []⟩) R s := by
  intro n
  induction n with
  | zero =>
    intro s hoa ⟨hg, hl, gs, hgs, hgo⟩
    refine codeAny_builtin F.entry_all_loop ?_
    rw [Around.under_plainId F.plain_all_loop _]
    show wpAny _ A.in1 (pyNext (.ref a) >>= _) _ _ s
    refine wpAny_bind (next_sz (A := A.in1) hh hl hroom hg hgs hgo (fun v s₁ gs' hsz hb hv => ?_) (fun s₁ hsz hp h' hk => ?_))
    · obtain ⟨y, H4, σ4, I4, r, c, e, k⟩ := hv
      subst e
      cases r
      refine wpAny_bind (wpAny_holding (wpAny_truthy_bool ?_))
      refine wpAny_bind (wpAny_letGo ?_)
      cases c with
      | true =>
        simp only [if_true] at k
        exact False.elim (k s₁ rfl I4.bare fun _ _ e => e)
      | false =>
        simp only [Bool.false_eq_true, if_false] at k ⊢
        refine wpAny_bind (wpAny_rule (wpAny_pure ?_))
        exact hcut _ σ4 H4 (Inv.kall I4 rfl (bare_set I4.bare hb) fun _ _ e => e) k
    · obtain ⟨H4, I4, q⟩ := hp
      refine wpAny_bind (wpAny_rule (wpAny_pure ?_))
      exact hfin _ σw H4 (Inv.kall I4 rfl (bare_set I4.bare rfl) hk) q
  | succ n ih =>
    intro s hoa ⟨hg, hl, gs, hgs, hgo⟩
    refine codeAny_builtin F.entry_all_loop ?_
    rw [Around.under_plainId F.plain_all_loop _]
    show wpAny _ A.in1 (pyNext (.ref a) >>= _) _ _ s
    refine wpAny_bind (next_sz (A := A.in1) hh hl hroom hg hgs hgo (fun v s₁ gs' hsz hb hv => ?_) (fun s₁ hsz hp h' hk => ?_))
    · obtain ⟨y, H4, σ4, I4, r, c, e, k⟩ := hv
      subst e
      cases r
      refine wpAny_bind (wpAny_holding (wpAny_truthy_bool ?_))
      refine wpAny_bind (wpAny_letGo ?_)
      cases c with
      | true =>
        simp only [if_true] at k ⊢
        have ha : s₁.heap.get? a = some oa := (I4.pin (a, oa) (by rw [hpn]; simp)).1
        obtain ⟨x, hx⟩ := gens_some hgs hsz rfl
        refine wpAny_pure ⟨plainId_quiet F.plain_all_loop _, ih (s₁.setGen g gs') ha ⟨isgen_of hg hoa ha, I4.nolimit, gs', setGen_self hx, ?_⟩⟩
        exact k ((s₁.setGen g gs').setGen g .running) rfl (bare_set (bare_set I4.bare hb) rfl) fun _ _ e => e
      | false =>
        simp only [Bool.false_eq_true, if_false] at k ⊢
        refine wpAny_bind (wpAny_rule (wpAny_pure ?_))
        exact hcut _ σ4 H4 (Inv.kall I4 rfl (bare_set I4.bare hb) fun _ _ e => e) k
    · obtain ⟨H4, I4, q⟩ := hp
      refine wpAny_bind (wpAny_rule (wpAny_pure ?_))
      exact hfin _ σw H4 (Inv.kall I4 rfl (bare_set I4.bare rfl) hk) q
/-- any.loop over it -/
theorem any_loop (hprog : XG.prog = X.prog) (hw : XG.w = X.w) (hh : A.handled = none) (hroom : A.depth < recursionLimit) (hpn : XG.pn = [])
    (hfin : ∀ s' σ' H', Inv XG [(a, oa)] σ' H' s' → Qd H' → R (.ok (.ret (.bool false))) s')
    (hcut : ∀ s' σ' H', Inv XG [(a, oa)] σ' H' s' → Qf H' → R (.ok (.ret (.bool true))) s') :
    ∀ (n : Nat) (s : Shared), s.heap.get? a = some oa → GSt (model X.prog X.w) A.in1.in1 (REnd XG a oa σw Qd) (YOut XG a oa (stpAny Qf)) a g n s → codeAny (model X.prog X.w) A (.builtin "any.loop" ⟨[.ref a], []⟩) R s := by
  intro n
  induction n with
  | zero =>
    intro s hoa ⟨hg, hl, gs, hgs, hgo⟩
    refine codeAny_builtin F.entry_any_loop ?_
    rw [Around.under_plainId F.plain_any_loop _]
    show wpAny _ A.in1 (pyNext (.ref a) >>= _) _ _ s
    refine wpAny_bind (next_sz (A := A.in1) hh hl hroom hg hgs hgo (fun v s₁ gs' hsz hb hv => ?_) (fun s₁ hsz hp h' hk => ?_))
    · obtain ⟨y, H4, σ4, I4, r, c, e, k⟩ := hv
      subst e
      cases r
      refine wpAny_bind (wpAny_holding (wpAny_truthy_bool ?_))
      refine wpAny_bind (wpAny_letGo ?_)
      cases c with
      | false =>
        simp only [Bool.false_eq_true, if_false] at k
        exact False.elim (k s₁ rfl I4.bare fun _ _ e => e)
      | true =>
        simp only [if_true] at k ⊢
        refine wpAny_bind (wpAny_rule (wpAny_pure ?_))
        exact hcut _ σ4 H4 (Inv.kall I4 rfl (bare_set I4.bare hb) fun _ _ e => e) k
    · obtain ⟨H4, I4, q⟩ := hp
      refine wpAny_bind (wpAny_rule (wpAny_pure ?_))
      exact hfin _ σw H4 (Inv.kall I4 rfl (bare_set I4.bare rfl) hk) q
  | succ n ih =>
    intro s hoa ⟨hg, hl, gs, hgs, hgo⟩
    refine codeAny_builtin F.entry_any_loop ?_
    rw [Around.under_plainId F.plain_any_loop _]
    show wpAny _ A.in1 (pyNext (.ref a) >>= _) _ _ s
    refine wpAny_bind (next_sz (A := A.in1) hh hl hroom hg hgs hgo (fun v s₁ gs' hsz hb hv => ?_) (fun s₁ hsz hp h' hk => ?_))
    · obtain ⟨y, H4, σ4, I4, r, c, e, k⟩ := hv
      subst e
      cases r
      refine wpAny_bind (wpAny_holding (wpAny_truthy_bool ?_))
      refine wpAny_bind (wpAny_letGo ?_)
      cases c with
      | false =>
        simp only [Bool.false_eq_true, if_false] at k ⊢
        have ha : s₁.heap.get? a = some oa := (I4.pin (a, oa) (by rw [hpn]; simp)).1
        obtain ⟨x, hx⟩ := gens_some hgs hsz rfl
        refine wpAny_pure ⟨plainId_quiet F.plain_any_loop _, ih (s₁.setGen g gs') ha ⟨isgen_of hg hoa ha, I4.nolimit, gs', setGen_self hx, ?_⟩⟩
        exact k ((s₁.setGen g gs').setGen g .running) rfl (bare_set (bare_set I4.bare hb) rfl) fun _ _ e => e
      | true =>
        simp only [if_true] at k ⊢
        refine wpAny_bind (wpAny_rule (wpAny_pure ?_))
        exact hcut _ σ4 H4 (Inv.kall I4 rfl (bare_set I4.bare hb) fun _ _ e => e) k
    · obtain ⟨H4, I4, q⟩ := hp
      refine wpAny_bind (wpAny_rule (wpAny_pure ?_))
      exact hfin _ σw H4 (Inv.kall I4 rfl (bare_set I4.bare rfl) hk) q
end
end GAl

set_option Elab.async false
set_option linter.all false
set_option maxRecDepth 100000
set_option maxHeartbeats 2000000
namespace GAl
open PySem PySem.Spec PyProof.Rows L2 GxR
open Sem (wp)

/-- the scope of a generator expression -/
structure GSc (N : List Str) (sc scope : Scope) (own : List (Str × Nat)) : Prop where
  blk : BlkOk N sc scope own
  co : scope.isCoroutine = false
  cell : ∀ y ∈ scope.names, y.2 ≠ .cell
  dot : scope.names.lookup (".0" : Str) = some NameKind.local
def gscC (N : List Str) (sc scope : Scope) (own : List (Str × Nat)) : Bool :=
  blkC N sc scope own && !scope.isCoroutine && (scope.names.all fun y => match y.2 with | .cell => false | _ => true) && (match scope.names.lookup (".0" : Str) with | some .local => true | _ => false)
theorem gsc_by {N : List Str} {sc scope : Scope} {own : List (Str × Nat)} (h : gscC N sc scope own = true) : GSc N sc scope own := by
  unfold gscC at h
  simp only [Bool.and_eq_true, List.all_eq_true, Bool.not_eq_true'] at h
  obtain ⟨⟨⟨h1, h2⟩, h3⟩, h4⟩ := h
  refine ⟨blkOk_by h1, h2, fun y hy e => ?_, ?_⟩
  · have q := h3 y hy
    rw [e] at q
    exact Bool.noConfusion q
  · split at h4
    · assumption
    · cases h4

/-- what a consumed generator expression asks: the walked thing, the def's table, the turns -/
def tGenB (P : Addr) (wi : TI) (g : TG) (tt : TT) (te : TE) (vs : List Nat) (stp : V → Hp → Prop → Prop) (Qd : Hp → Prop) : L2.St → Hp → Prop := fun σ H =>
  wi σ H fun J H1 => TabG H1 P ∧ ∀ H2, Tabbed P H1 H2 → ∃ W : Nat → Nat → Hp → Prop, (∃ m, W 0 m H2) ∧ GTurn J g tt te vs (wipe σ vs) Qd stp W
def tAllG (P : Addr) (wi : TI) (g : TG) (tt : TT) (te : TE) (vs : List Nat) : TE := fun σ H Q => tGenB P wi g tt te vs (stpAll (Q (.bl false))) (Q (.bl true)) σ H
def tAnyG (P : Addr) (wi : TI) (g : TG) (tt : TT) (te : TE) (vs : List Nat) : TE := fun σ H Q => tGenB P wi g tt te vs (stpAny (Q (.bl true))) (Q (.bl false)) σ H

section
variable {X : Cx} {pins : List (Addr × Obj)} {σ : L2.St} {H : Hp} {s : Shared}
theorem gen_make {c P : Addr} {elt tg iter : Expr} {ifs : List Expr} {gpos : Pos} {scope : Scope} {own : List (Str × Nat)} {wi : TI} {g : TG} {tt : TT} {te : TE} {k : Nat} {stp : V → Hp → Prop → Prop} {Qd : Hp → Prop} {Q' : Value → Shared → Prop}
    (hr : Room (k + 1) X.A) (hc : X.calm = true) (hN : X.N.Nodup) (TB : TabB X.base X.mg c P) (hcode : X.env.code = .ref c) (S : GSc X.N X.env.scope scope own) (hi : PI X tg iter wi)
    (hg : ∀ (A' : Around), Room k A' → ∀ (s : Shared) (H : Hp) (cl : List (Str × Addr)) (C : Addr) (code : Value) (fp : List Addr), PG (gcx X A' s H (genEnv scope cl C code builtinsNs X.env) fp) tg g)
    (ht : ∀ (A' : Around), Room k A' → ∀ (s : Shared) (H : Hp) (cl : List (Str × Addr)) (C : Addr) (code : Value) (fp : List Addr), PTs (gcx X A' s H (genEnv scope cl C code builtinsNs X.env) fp) ifs tt)
    (he : ∀ (A' : Around), Room k A' → ∀ (s : Shared) (H : Hp) (cl : List (Str × Addr)) (C : Addr) (code : Value) (fp : List Addr), PE (gcx X A' s H (genEnv scope cl C code builtinsNs X.env) fp) elt te)
    (hmono : ∀ y H (p q : Prop), (p → q) → stp y H p → stp y H q)
    (hs : ∀ v, genFold iter X.env v = pure v) (I : Inv X pins σ H s) (h : tGenB P wi g tt te (own.map (·.2)) stp Qd σ H)
    (hQ : ∀ (XG : Cx) (a : Addr) (oa : Obj) (gn n : Nat) (σw : L2.St) (s5 : Shared), XG.prog = X.prog → XG.w = X.w → XG.pn = [] → s5.heap.get? a = some oa →
      GSt (model X.prog X.w) X.A.in1.in1 (REnd XG a oa σw Qd) (YOut XG a oa stp) a gn n s5 → (∀ s' σ' H', Inv XG [(a, oa)] σ' H' s' → Inv X pins σ H' s') → Q' (.ref a) s5) :
    wpAny (model X.prog X.w) X.A (eval (.GeneratorExp elt [⟨tg, iter, ifs, 0⟩] scope gpos) X.env) Q' X.xe s := by
  have ok := S.blk
  have hfree : ∀ y ∈ scope.names, y.2 = .free → ∃ c, X.env.cells.lookup y.1 = some c := fun y hy e => by
    rcases ok.free y hy e with k | k
    · exact I.ok.has _ (.inl k)
    · exact I.ok.has _ (.inr k)
  refine wpAny_GeneratorExp_make S.co (closure_ok hfree) S.cell S.dot ok.kind (by have := hr.dp; omega) ?_ hs
  refine thn (hi.run pins s σ H _ I h) fun xv s1 hx => thn hx fun itv s2 h2 => ?_
  obtain ⟨it, fp, tn, J, H2, e, I2, T, st2, f2, ⟨ps, hP, hts⟩, q⟩ := h2
  subst e
  have hPs : s2.heap.get? P = some { cls := .none, data := .fields ps } := I2.hok P _ hP
  have cd : PySem.W.CodeHd s2.heap c P := TB.code.keeps fun b u e => I2.bk b u e
  have nP : ∀ b ∈ fp, b ≠ P := fun b hb z => by
    have := (f2 b hb).1
    rw [z, hP] at this; cases this
  have sz2 : ∀ b ∈ fp, b < s2.heap.objs.size := fun b hb => by
    obtain ⟨o, e, _⟩ := T.obj _ _ st2 b hb
    exact Heap.lt_size e
  have cont : ∀ (code : Value) (h3 : Heap) (tk : Nat) (ps' : Array Value), Heap.ExtBut P s2.heap h3 → s2.heap.objs.size ≤ h3.objs.size → h3.get? P = some { cls := .none, data := .fields ps' } → (∃ more, ps' = ps ++ more) → TriplesOk ps'.toList →
      wpAny (model X.prog X.w) X.A (builtinsFor X.env.globals X.env.builtins) (fun bi s₄ =>
        ∀ h', h'.Ns s₄.heap.objs.size (fun y => if y = ".0" then some (.ref it) else none) → Heap.SameBut s₄.heap.objs.size (s₄.heap.push { cls := .type "frame", data := .dict #[] }) h' →
          Q' (.ref h'.objs.size) { s₄ with
            gens := s₄.gens.push (.fresh (.compStart (.GeneratorExp elt [⟨tg, iter, ifs, 0⟩] scope gpos) 0 (.ref it) .none (genEnv scope (cloFrom X.env.cells scope.names []) s₄.heap.objs.size code bi X.env))),
            toks := s₄.toks + 1 + 1 + 1,
            heap := h'.push { cls := .type "generator", data := .fields #[.int s₄.gens.size 0, .str "<genexpr>" (s₄.toks + 1), .str (X.env.qual ++ "<genexpr>") (s₄.toks + 1 + 1)] } }) X.xe { s2 with heap := h3, toks := tk } := by
    intro code h3 tk ps' hx hsz hP3 hmore ht3
    obtain ⟨bm, ob, e1, e2, e3, e4, e5, e6, e7, e8⟩ := TB.bm
    have keep3 : ∀ b u, b ≠ P → s2.heap.get? b = some u → h3.get? b = some u := fun b u hb e => hx b u hb e
    refine wpAny_builtinsFor (m := X.mg) (by rw [I2.ok.glob]; exact (I2.mod.glob.keeps I2.bk).extBut hx TB.gP) e1 e2 (keep3 _ _ e4 (I2.bk _ _ e5)) e6 e7 e8 ?_
    intro h' hn' hs'
    obtain ⟨more, em⟩ := hmore
    have I3 : Inv X pins σ (upd H2 P (.tbl (ps ++ more))) { s2 with heap := h3, toks := tk } :=
      inv_tab (more := more) (h' := h3) (g' := s2.gens) (d' := s2.drawn) (t' := tk) I2 hP keep3 (by rw [← em]; exact hP3) I2.bare
    obtain ⟨W, ⟨m0, w0⟩, turn⟩ := q (upd H2 P (.tbl (ps ++ more))) ⟨⟨ps ++ more, upd_same, by rw [← em]; exact ht3⟩, fun b hb => upd_ne hb⟩
    generalize hH3 : upd H2 P (.tbl (ps ++ more)) = H3 at I3 w0
    generalize hs4 : ({ s2 with heap := h3, toks := tk } : Shared) = s4 at I3 hn' hs' ⊢
    have hh4 : s4.heap = h3 := by rw [← hs4]
    have st4 : tn 0 s4.heap := T.keep _ _ _ st2 fun b hb o e => by rw [hh4]; exact keep3 b o (nP b hb) e
    have f3 : ∀ b ∈ fp, FpOk X pins H3 b ∧ b < s4.heap.objs.size := fun b hb => by
      refine ⟨⟨?_, (f2 b hb).2⟩, by rw [hh4]; exact Nat.lt_of_lt_of_le (sz2 b hb) hsz⟩
      rw [← hH3, upd_ne (nP b hb)]
      exact (f2 b hb).1
    have hszh : h'.objs.size = s4.heap.objs.size + 1 := by rw [hs'.1, Heap.size_push]
    have keep' : ∀ b o, s4.heap.get? b = some o → h'.get? b = some o := fun b o e => hs'.extBut b o (Nat.ne_of_lt (Heap.lt_size e)) (Heap.get?_push_of_some _ e)
    generalize hoa : ({ cls := .type "generator", data := .fields #[.int s4.gens.size 0, .str "<genexpr>" (s4.toks + 1), .str (X.env.qual ++ "<genexpr>") (s4.toks + 1 + 1)] } : Obj) = oa
    have ga : (h'.push oa).get? h'.objs.size = some oa := Heap.get?_push_size _ (by rw [← hoa]; rfl)
    have isg : (h'.push oa).IsGen h'.objs.size s4.gens.size := by rw [← hoa]; exact ⟨_, _, _, Heap.get?_push_size _ rfl, rfl, rfl, rfl⟩
    generalize hce : genEnv scope (cloFrom X.env.cells scope.names []) s4.heap.objs.size code builtinsNs X.env = cenv
    generalize hA' : X.A.in1.in1.over (.compLoop (.GeneratorExp elt [⟨tg, iter, ifs, 0⟩] scope gpos) 0 (.ref it) .none cenv) [] = A'
    have hfr : A'.frames = some (cenv :: X.stack) := by
      rw [← hA']
      show pushEnvs [cenv] (pushEnvs [] X.A.frames) = _
      rw [I2.ok.frames]
      rfl
    have hdp : A'.depth = X.A.depth + 1 := by rw [← hA']; rfl
    have hun : A'.units = X.A.units + 5 := by rw [← hA']; rfl
    have hhd : A'.handled = none := by rw [← hA']; exact hr.hd
    have hr' : Room k A' := ⟨hhd, by rw [hdp]; have := hr.dp; omega, by rw [hun]; have := hr.un; omega⟩
    have bare5 : AllBare (s4.gens.push (.fresh (.compStart (.GeneratorExp elt [⟨tg, iter, ifs, 0⟩] scope gpos) 0 (.ref it) .none cenv))) := I3.bare.push rfl
    have I5 := gen_start (A' := A') (cenv := cenv) (code := code) (m := fun y => if y = ".0" then some (.ref it) else none) (h5 := h'.push oa) (g' := s4.gens.push (.fresh (.compStart (.GeneratorExp elt [⟨tg, iter, ifs, 0⟩] scope gpos) 0 (.ref it) .none cenv)))
      (t5 := s4.toks + 1 + 1 + 1) (a := h'.objs.size) (oa := oa) I3 ok S.cell hN f3 hce.symm hfr hhd (hn'.push _) (fun b o e => Heap.get?_push_of_some _ (keep' b o e)) bare5 ga (by omega) (by rw [← hoa]; intro v z; cases z)
    have back : ∀ s' σ' H', Inv (gcx X A' s4 H3 cenv fp) [(h'.objs.size, oa)] σ' H' s' → Inv X pins σ H' s' := fun s' σ' H' I' =>
      I3.call' (ch := fp) I'.os I'.base I'.hok I'.bare fun b hb => ⟨(f3 b hb).1.2.2.2.1, (f3 b hb).1.2.1, (f3 b hb).1.2.2.2.2.1, (f3 b hb).1.2.2.2.2.2⟩
    have pg : PG (gcx X A' s4 H3 cenv fp) tg g := by rw [← hce]; exact hg A' hr' _ _ _ _ _ _
    have pt : PTs (gcx X A' s4 H3 cenv fp) ifs tt := by rw [← hce]; exact ht A' hr' _ _ _ _ _ _
    have pe : PE (gcx X A' s4 H3 cenv fp) elt te := by rw [← hce]; exact he A' hr' _ _ _ _ _ _
    refine hQ (gcx X A' s4 H3 cenv fp) h'.objs.size oa s4.gens.size (m0 + 1) (wipe σ (own.map (·.2))) _ rfl rfl rfl ga ⟨isg, I5.nolimit, _, Array.getElem?_push_size .., ?_⟩ back
    refine ⟨rfl, ?_⟩
    subst hA'
    refine gen_begin hc (by rw [← hce]; exact S.co) T (fun b hb z => ?_) hmono pg pt pe turn m0 _ _ H3 w0 (Inv.kall I5 rfl (bare_set I5.bare rfl) fun _ _ e => e) ?_ (fun b hb => (f3 b hb).1.1)
    · have h9 := (f3 b hb).2
      rw [← z] at h9
      have h9 : h'.objs.size < s4.heap.objs.size := h9
      omega
    · exact T.keep _ _ _ st4 fun b hb o e => Heap.get?_push_of_some _ (keep' b o e)
  refine ⟨I2.nolimit, ?_⟩
  cases hf : codeAmong gpos ps.toList with
  | none =>
    refine wpAny_genexprCodeX hcode (cd.code hPs hts) (cd.tab hPs) hf fun c' h' tk hx hge hlt hco' _ htab' _ => ?_
    obtain ⟨o1, vs, f1, tf, fl, tg', inF, tx, tt', op, _, _, _, _, _, _, _, _, _, htr, _⟩ := hco'
    exact cont _ h' tk _ hx (Nat.le_trans hge (Nat.le_of_lt hlt)) htab'.2 ⟨_, rfl⟩ htr
  | some cv =>
    refine wpAny_genexprCode_hit hcode (cd.code hPs hts) hf ?_
    exact cont cv s2.heap s2.toks ps (Heap.ExtBut.refl _ _) (Nat.le_refl _) hPs ⟨#[], by simp⟩ hts

theorem pe_allG {c P : Addr} {elt tg iter : Expr} {ifs : List Expr} {p pos gpos : Pos} {scope : Scope} {own : List (Str × Nat)} {wi : TI} {g : TG} {tt : TT} {te : TE} {k : Nat}
    (hr : Room (k + 1) X.A) (hgl : Gl X "all") (hm : X.mg "all" = none) (hc : X.calm = true) (hN : X.N.Nodup) (TB : TabB X.base X.mg c P) (hcode : X.env.code = .ref c) (S : GSc X.N X.env.scope scope own) (hi : PI X tg iter wi)
    (hg : ∀ (A' : Around), Room k A' → ∀ (s : Shared) (H : Hp) (cl : List (Str × Addr)) (C : Addr) (code : Value) (fp : List Addr), PG (gcx X A' s H (genEnv scope cl C code builtinsNs X.env) fp) tg g)
    (ht : ∀ (A' : Around), Room k A' → ∀ (s : Shared) (H : Hp) (cl : List (Str × Addr)) (C : Addr) (code : Value) (fp : List Addr), PTs (gcx X A' s H (genEnv scope cl C code builtinsNs X.env) fp) ifs tt)
    (he : ∀ (A' : Around), Room k A' → ∀ (s : Shared) (H : Hp) (cl : List (Str × Addr)) (C : Addr) (code : Value) (fp : List Addr), PE (gcx X A' s H (genEnv scope cl C code builtinsNs X.env) fp) elt te)
    (hs : ∀ v, genFold iter X.env v = pure v := by intro _; rfl)
    (hst : starEach [.GeneratorExp elt [⟨tg, iter, ifs, 0⟩] scope gpos] X.env = (false, eval (.GeneratorExp elt [⟨tg, iter, ifs, 0⟩] scope gpos) X.env) :: starEach [] X.env := by rfl)
    (hb : bootBuiltins "all" = some (.builtin "all") := by decide +kernel) :
    PE X (.Call (.Name "all" p) [.GeneratorExp elt [⟨tg, iter, ifs, 0⟩] scope gpos] [] pos) (tAllG P wi g tt te (own.map (·.2))) := by
  refine ⟨fun pins s σ H Q I h => ?_⟩
  refine wpAny_Call_Name_kw (ld_blt I hgl hm hb ?_)
  refine PyProof.Rows.callWith_builtin1 ?_ hst (by rfl)
  rw [hst]
  show wpAny _ _ (spliced ((false, eval (.GeneratorExp elt [⟨tg, iter, ifs, 0⟩] scope gpos) X.env) :: backTo pos (starEach [] X.env))) _ _ s
  refine Calls.spliced_cons (gen_make hr hc hN TB hcode S hi hg ht he stpAll_mono hs I h fun XG a oa gn n σw s5 eP eW epn ha hG back => ?_)
  refine Calls.spliced_nil ?_
  refine call_function_tree F.kind_all F.plain_all F.entry_all (F.args_all1 _) ?_
  unfold Builtin.«all»
  refine wpAny_bind (m := oneArg "all" _) (wpAny_pure ?_)
  refine wpAny_bind (wpAny_pyIter_gen hG.1 ?_)
  refine wpAny_pure ⟨plainId_quiet F.plain_all_loop _, all_loop (X := X) (XG := XG) (σw := σw) (Qd := Q (.bl true)) (Qf := Q (.bl false)) eP eW hr.hd (by have := hr.dp; omega) epn (fun s' σ' H' I' q => ?_) (fun s' σ' H' I' q => ?_) n s5 ha hG⟩
  · exact ⟨.bl true, H', back s' σ' H' I', rfl, q⟩
  · exact ⟨.bl false, H', back s' σ' H' I', rfl, q⟩
theorem pe_anyG {c P : Addr} {elt tg iter : Expr} {ifs : List Expr} {p pos gpos : Pos} {scope : Scope} {own : List (Str × Nat)} {wi : TI} {g : TG} {tt : TT} {te : TE} {k : Nat}
    (hr : Room (k + 1) X.A) (hgl : Gl X "any") (hm : X.mg "any" = none) (hc : X.calm = true) (hN : X.N.Nodup) (TB : TabB X.base X.mg c P) (hcode : X.env.code = .ref c) (S : GSc X.N X.env.scope scope own) (hi : PI X tg iter wi)
    (hg : ∀ (A' : Around), Room k A' → ∀ (s : Shared) (H : Hp) (cl : List (Str × Addr)) (C : Addr) (code : Value) (fp : List Addr), PG (gcx X A' s H (genEnv scope cl C code builtinsNs X.env) fp) tg g)
    (ht : ∀ (A' : Around), Room k A' → ∀ (s : Shared) (H : Hp) (cl : List (Str × Addr)) (C : Addr) (code : Value) (fp : List Addr), PTs (gcx X A' s H (genEnv scope cl C code builtinsNs X.env) fp) ifs tt)
    (he : ∀ (A' : Around), Room k A' → ∀ (s : Shared) (H : Hp) (cl : List (Str × Addr)) (C : Addr) (code : Value) (fp : List Addr), PE (gcx X A' s H (genEnv scope cl C code builtinsNs X.env) fp) elt te)
    (hs : ∀ v, genFold iter X.env v = pure v := by intro _; rfl)
    (hst : starEach [.GeneratorExp elt [⟨tg, iter, ifs, 0⟩] scope gpos] X.env = (false, eval (.GeneratorExp elt [⟨tg, iter, ifs, 0⟩] scope gpos) X.env) :: starEach [] X.env := by rfl)
    (hb : bootBuiltins "any" = some (.builtin "any") := by decide +kernel) :
    PE X (.Call (.Name "any" p) [.GeneratorExp elt [⟨tg, iter, ifs, 0⟩] scope gpos] [] pos) (tAnyG P wi g tt te (own.map (·.2))) := by
  refine ⟨fun pins s σ H Q I h => ?_⟩
  refine wpAny_Call_Name_kw (ld_blt I hgl hm hb ?_)
  refine PyProof.Rows.callWith_builtin1 ?_ hst (by rfl)
  rw [hst]
  show wpAny _ _ (spliced ((false, eval (.GeneratorExp elt [⟨tg, iter, ifs, 0⟩] scope gpos) X.env) :: backTo pos (starEach [] X.env))) _ _ s
  refine Calls.spliced_cons (gen_make hr hc hN TB hcode S hi hg ht he stpAny_mono hs I h fun XG a oa gn n σw s5 eP eW epn ha hG back => ?_)
  refine Calls.spliced_nil ?_
  refine call_function_tree F.kind_any F.plain_any F.entry_any (F.args_any1 _) ?_
  unfold Builtin.«any»
  refine wpAny_bind (m := oneArg "any" _) (wpAny_pure ?_)
  refine wpAny_bind (wpAny_pyIter_gen hG.1 ?_)
  refine wpAny_pure ⟨plainId_quiet F.plain_any_loop _, any_loop (X := X) (XG := XG) (σw := σw) (Qd := Q (.bl false)) (Qf := Q (.bl true)) eP eW hr.hd (by have := hr.dp; omega) epn (fun s' σ' H' I' q => ?_) (fun s' σ' H' I' q => ?_) n s5 ha hG⟩
  · exact ⟨.bl false, H', back s' σ' H' I', rfl, q⟩
  · exact ⟨.bl true, H', back s' σ' H' I', rfl, q⟩
end
end GAl

set_option Elab.async false
set_option linter.all false
set_option maxRecDepth 100000
set_option maxHeartbeats 2000000
namespace HK
open PySem PySem.Spec PyProof.Rows L2 GAl GxR
/-! ### defs whose code object is known -/
structure FunC (K : PySem.W.Frag) (x qual : Str) (st : Stmt) (f : Addr) (fd : FuncData) (c : Addr) : Prop where
  ex : ∃ (oc : Value) (od : Option Addr) (kV doc pm : Value) (an : Option Addr) (ct : Value) (osl : Array (Option Value)),
    fd = PySem.W.fnOf x qual (defArgs st) (defBody st) (defScope st) .none kV doc pm an (.ref c) ct ∧ K.lookup f = some ⟨oc, od, .func fd, osl⟩ ∧ PySem.W.codeIn K (.ref c) qual = true
  kp : PySem.W.keepIn K (.ref f) = true
section
variable {P : Program} {w : World} {K : PySem.W.Frag} {mg : Str → Option Value} {base : Heap}
theorem FunC.toFun {x qual : Str} {st : Stmt} {f : Addr} {fd : FuncData} {c : Addr} (F : FunC K x qual st f fd c) : Fun K x qual st f fd := by
  obtain ⟨⟨oc, od, kV, doc, pm, an, ct, osl, e, l, h⟩, k⟩ := F
  exact ⟨⟨oc, od, kV, doc, pm, an, _, ct, osl, e, l, h⟩, k⟩
theorem FunC.ok {x qual : Str} {st : Stmt} {f : Addr} {fd : FuncData} {c : Addr} {N ps : List Str} {k : Nat} {sp : Sp} (F : FunC K x qual st f fd c) (S : FnScope N ps (defScope st)) (len : ∀ vs H Q E, sp vs H Q E → vs.length = ps.length)
    (hbody : ∀ (A : Around) (outer : List Env) (s : Shared) (H : Hp) (vs : List V) (Q : VK) (E : XK), Room k (A.deeper (envOfC qual (defScope st) s.heap.objs.size f (.ref c))) → sp vs H Q E →
      ∃ t, PSs (cxOf CX0 P w K mg base N qual (defScope st) f (.ref c) A outer s H E).nox (defBody st) t ∧ t { nx := fun _ H' => Q .non H', rt := Q } (start N vs) H) : FnOk P w K mg base CX0 (k + 1) f fd ps sp := by
  obtain ⟨oc, od, kV, doc, pm, an, ct, osl, rfl, lk, hcd⟩ := F.ex
  refine fn_of lk hcd S len fun A outer s H vs Q E hr hsp => ?_
  obtain ⟨t, h, q⟩ := hbody A outer s H vs Q E hr hsp
  exact ⟨t, h.nox, q⟩
theorem func_mk {x qual : Str} {st : Stmt} {f c : Addr} {oc : Value} {od an : Option Addr} {osl : Array (Option Value)} {kV doc pm ct : Value} (l : K.lookup f = some ⟨oc, od, .func (PySem.W.fnOf x qual (defArgs st) (defBody st) (defScope st) .none kV doc pm an (.ref c) ct), osl⟩)
    (h : PySem.W.codeIn K (.ref c) qual = true) (k : PySem.W.keepIn K (.ref f) = true) : FunC K x qual st f (PySem.W.fnOf x qual (defArgs st) (defBody st) (defScope st) .none kV doc pm an (.ref c) ct) c := ⟨⟨oc, od, kV, doc, pm, an, ct, osl, rfl, l, h⟩, k⟩
end

/-! ### what stays: everything but the list at t; tables stay tables -/
structure Kt (t : Addr) (H H' : Hp) : Prop where
  tup : ∀ b xs, H b = some (.tup xs) → H' b = some (.tup xs)
  frz : ∀ b o u, H b = some (.frz o u) → H' b = some (.frz o u)
  oth : ∀ b o, H b = some o → b ≠ t → (∀ ps, o ≠ .tbl ps) → H' b = some o
  tab : ∀ P, TabG H P → TabG H' P
  dom : ∀ b, H' b = none → H b = none
/-- everything; tables stay tables -/
structure K0 (H H' : Hp) : Prop where
  oth : ∀ b o, H b = some o → (∀ ps, o ≠ .tbl ps) → H' b = some o
  tab : ∀ P, TabG H P → TabG H' P
  dom : ∀ b, H' b = none → H b = none
theorem upd_none {H : Hp} {p b : Addr} {o : HO} (h : upd H p o b = none) : H b = none := by
  by_cases e : b = p
  · rw [e, upd_same] at h; cases h
  · rw [upd_ne e] at h; exact h
theorem K0.refl (H : Hp) : K0 H H := ⟨fun _ _ h _ => h, fun _ h => h, fun _ h => h⟩
theorem K0.trans {H H1 H2 : Hp} (a : K0 H H1) (b : K0 H1 H2) : K0 H H2 := ⟨fun x o h n => b.oth x o (a.oth x o h n) n, fun P h => b.tab P (a.tab P h), fun x h => a.dom x (b.dom x h)⟩
theorem K0.kt {t : Addr} {H H' : Hp} (a : K0 H H') : Kt t H H' := ⟨fun b xs h => a.oth b _ h (fun _ z => by cases z), fun b o u h => a.oth b _ h (fun _ z => by cases z), fun b o h _ n => a.oth b o h n, a.tab, a.dom⟩
theorem Kt.refl (t : Addr) (H : Hp) : Kt t H H := (K0.refl H).kt
theorem Kt.trans {t : Addr} {H H1 H2 : Hp} (a : Kt t H H1) (b : Kt t H1 H2) : Kt t H H2 := ⟨fun x xs h => b.tup x xs (a.tup x xs h), fun x o u h => b.frz x o u (a.frz x o u h), fun x o h n m => b.oth x o (a.oth x o h n m) n m, fun P h => b.tab P (a.tab P h), fun x h => a.dom x (b.dom x h)⟩
theorem tabG_upd {H : Hp} {p : Addr} {o : HO} (n : H p = none) {P : Addr} (h : TabG H P) : TabG (upd H p o) P := by
  obtain ⟨ps, e, ht⟩ := h
  exact ⟨ps, by rw [upd_ne (ne_of_none e n)]; exact e, ht⟩
theorem K0.new {H : Hp} {p : Addr} {o : HO} (n : H p = none) : K0 H (upd H p o) := ⟨fun b u e _ => by rw [upd_ne (ne_of_none e n)]; exact e, fun P h => tabG_upd n h, fun _ h => upd_none h⟩
theorem K0.tbd {P : Addr} {H H' : Hp} (h0 : TabG H P) (h : Tabbed P H H') : K0 H H' := ⟨fun b o e n => by
  have hb : b ≠ P := fun z => by
    obtain ⟨ps, e', _⟩ := h0
    rw [z, e'] at e
    exact n ps (Option.some.inj e).symm
  rw [h.2 b hb]; exact e, fun Q hq => by
  by_cases hQ : Q = P
  · rw [hQ]; exact h.1
  · obtain ⟨ps, e, ht⟩ := hq
    exact ⟨ps, by rw [h.2 Q hQ]; exact e, ht⟩, fun b e => by
  by_cases hb : b = P
  · obtain ⟨ps, e', _⟩ := h.1
    rw [hb, e'] at e; cases e
  · rw [h.2 b hb] at e; exact e⟩
/-- the list at t is written -/
theorem Kt.set {t : Addr} {H : Hp} {xs ys : List V} (h : H t = some (.lst xs)) : Kt t H (upd H t (.lst ys)) := ⟨fun b zs e => by
  rw [upd_ne (ne_of e h (fun z => by cases z))]; exact e, fun b o u e => by
  rw [upd_ne (ne_of e h (fun z => by cases z))]; exact e, fun b o e n _ => by rw [upd_ne n]; exact e, fun P hP => by
  obtain ⟨ps, e, ht⟩ := hP
  exact ⟨ps, by rw [upd_ne (ne_of e h (fun z => by cases z))]; exact e, ht⟩, fun _ e => upd_none e⟩
theorem Kt.sqT {K : PySem.W.Frag} {t a : Addr} {H H' : Hp} {xs : List V} (k : Kt t H H') (h : SqT K H a xs) : SqT K H' a xs := by
  rcases h with (h | ⟨o, h⟩) | h
  · exact .inl (.inl (k.tup _ _ h))
  · exact .inl (.inr ⟨o, k.frz _ _ _ h⟩)
  · exact .inr h
theorem K0.sqT {K : PySem.W.Frag} {a : Addr} {H H' : Hp} {xs : List V} (k : K0 H H') (h : SqT K H a xs) : SqT K H' a xs := (k.kt (t := 0)).sqT h
theorem K0.sqL {K : PySem.W.Frag} {a : Addr} {H H' : Hp} {xs : List V} (k : K0 H H') (h : SqL K H a xs) : SqL K H' a xs := by
  rcases h with (h | ⟨o, h⟩) | h
  · exact .inl (.inl (k.oth _ _ h (fun _ z => by cases z)))
  · exact .inl (.inr ⟨o, k.oth _ _ h (fun _ z => by cases z)⟩)
  · exact .inr h
theorem Kt.sqL {K : PySem.W.Frag} {t a : Addr} {H H' : Hp} {xs : List V} (k : Kt t H H') (n : a ≠ t) (h : SqL K H a xs) : SqL K H' a xs := by
  rcases h with (h | ⟨o, h⟩) | h
  · exact .inl (.inl (k.oth _ _ h n (fun _ z => by cases z)))
  · exact .inl (.inr ⟨o, k.frz _ _ _ h⟩)
  · exact .inr h
mutual
theorem K0.dp {K : PySem.W.Frag} {H H' : Hp} (k : K0 H H') : ∀ (d : PyData) (v : V), Dp K H v d → Dp K H' v d
  | .none, _, h => by cases h; exact .non
  | .bool _, _, h => by cases h; exact .bl _
  | .int _, _, h => by cases h; exact .int _
  | .str _, _, h => by cases h; exact .str _
  | .list ds, _, h => by cases h with | lst a b => exact .lst (k.sqL a) (K0.dpAll k ds _ b)
  | .tuple ds, _, h => by cases h with | tup a b => exact .tup (k.sqT a) (K0.dpAll k ds _ b)
  | .dict _, _, h => by cases h
theorem K0.dpAll {K : PySem.W.Frag} {H H' : Hp} (k : K0 H H') : ∀ (ds : List PyData) (vs : List V), DpAll K H vs ds → DpAll K H' vs ds
  | [], _, h => by cases h; exact .nil
  | d :: ds, _, h => by cases h with | cons a b => exact .cons (K0.dp k d _ a) (K0.dpAll k ds _ b)
end

/-! ### kinds -/
def tys : List String := ["NoneType", "bool", "int", "str", "list", "tuple", "dict"]
theorem tys_int {T : String} (h : T ∈ tys) : kitB T "int" = some (T == "int" || T == "bool") := by
  simp only [tys, List.mem_cons, List.not_mem_nil, or_false] at h
  rcases h with rfl | rfl | rfl | rfl | rfl | rfl | rfl <;> decide +kernel
theorem tys_bool {T : String} (h : T ∈ tys) : kitB T "bool" = some (T == "bool") := by
  simp only [tys, List.mem_cons, List.not_mem_nil, or_false] at h
  rcases h with rfl | rfl | rfl | rfl | rfl | rfl | rfl <;> decide +kernel
theorem tys_tuple {T : String} (h : T ∈ tys) : kitB T "tuple" = some (T == "tuple") := by
  simp only [tys, List.mem_cons, List.not_mem_nil, or_false] at h
  rcases h with rfl | rfl | rfl | rfl | rfl | rfl | rfl <;> decide +kernel
theorem tys_dict {T : String} (h : T ∈ tys) : kitB T "dict" = some (T == "dict") := by
  simp only [tys, List.mem_cons, List.not_mem_nil, or_false] at h
  rcases h with rfl | rfl | rfl | rfl | rfl | rfl | rfl <;> decide +kernel
theorem sqT_ty {K : PySem.W.Frag} {H : Hp} {a : Addr} {xs : List V} (h : SqT K H a xs) : TyX K H (.ref a) (.type "tuple") := by
  rcases h with (h | ⟨o, h⟩) | ⟨o, _, _, ho, h, _⟩
  · exact .base (.tup h)
  · exact .fTuple h
  · exact .kTuple ho h
theorem sqL_ty {K : PySem.W.Frag} {H : Hp} {a : Addr} {xs : List V} (h : SqL K H a xs) : TyX K H (.ref a) (.type "list") := by
  rcases h with (h | ⟨o, h⟩) | ⟨o, _, _, ho, h, _⟩
  · exact .base (.lst h)
  · exact .base (.frz h)
  · exact .kList ho h
def tyD : PyData → String
  | .none => "NoneType" | .bool _ => "bool" | .int _ => "int" | .str _ => "str" | .list _ => "list" | .tuple _ => "tuple" | .dict _ => "dict"
theorem tyD_mem (d : PyData) : tyD d ∈ tys := by cases d <;> simp [tyD, tys]
theorem dp_ty {K : PySem.W.Frag} {H : Hp} {v : V} {d : PyData} (h : Dp K H v d) : TyX K H v (.type (tyD d)) := by
  cases h with
  | non => exact .base .non
  | bl b => exact .base (.bl b)
  | int i => exact .base (.int i)
  | str x => exact .base (.str x)
  | lst a _ => exact sqL_ty a
  | tup a _ => exact sqT_ty a
def isWholeD : PyData → Bool
  | .int _ => true
  | _ => false
def withinD (d : PyData) (lo hi : Int) : Bool := match d with
  | .int i => decide (lo ≤ i) && decide (i ≤ hi)
  | _ => false
theorem whole_ty (d : PyData) : ((tyD d == "int" || tyD d == "bool") && !(tyD d == "bool")) = isWholeD d := by cases d <;> simp [tyD, isWholeD]
theorem dp_int {K : PySem.W.Frag} {H : Hp} {x : V} {d : PyData} (h : Dp K H x d) (e : isWholeD d = true) : ∃ i, x = .int i ∧ d = .int i := by
  cases h <;> first | exact ⟨_, rfl, rfl⟩ | cases e
end HK

set_option Elab.async false
set_option linter.all false
set_option maxRecDepth 100000
set_option maxHeartbeats 2000000
namespace HK
open PySem PySem.Spec PyProof.Rows L2 GAl GxR
def topS (i : Nat) : Stmt := PySem.Challenge.pw_hearkenway_k05_no_nets_places_trees.main.body.getD i (.Pass ⟨0, 0, 0, 0⟩)
abbrev sWhole : Stmt := topS 14
abbrev sWithin : Stmt := topS 15
abbrev sRises : Stmt := topS 16
abbrev sIsNet : Stmt := topS 22
abbrev sIsRoad : Stmt := topS 23
theorem scWhole : FnScope ["thing"] ["thing"] (defScope sWhole) := ⟨rfl, rfl, rfl, by decide +kernel, rfl, by decide +kernel, by decide +kernel⟩
theorem scWithin : FnScope ["thing", "least", "greatest"] ["thing", "least", "greatest"] (defScope sWithin) := ⟨rfl, rfl, rfl, by decide +kernel, rfl, by decide +kernel, by decide +kernel⟩
theorem scIsRoad : FnScope ["many", "thing", "start", "end", "cost", "late"] ["many", "thing"] (defScope sIsRoad) := ⟨rfl, rfl, rfl, by decide +kernel, rfl, by decide +kernel, by decide +kernel⟩

theorem qeq {Q : VK} {a b : Bool} {H : Hp} (q : Q (.bl a) H) (e : a = b) : Q (.bl b) H := e ▸ q
section
variable {P : Program} {w : World} {K : PySem.W.Frag} {mg : Str → Option Value} {base : Heap}
def spWhole (K : PySem.W.Frag) : Sp := fun vs H Q _ => ∃ x d, vs = [x] ∧ Dp K H x d ∧ Q (.bl (isWholeD d)) H
theorem ok_whole {f : Addr} {fd : FuncData} (F : Fun K "is_whole" "is_whole" sWhole f fd) (mi : mg "isinstance" = none) (mI : mg "int" = none) (mB : mg "bool" = none) : FnOk P w K mg base CX0 1 f fd ["thing"] (spWhole K) := by
  refine F.ok scWhole (fun vs H Q E h => ?_) (fun cdv A outer s H vs Q E hr h => ?_)
  · obtain ⟨x, d, rfl, _⟩ := h
    rfl
  · obtain ⟨x, d, rfl, hd, q⟩ := h
    refine ⟨_, pss_one (ps_ret (pe_and (pe_callB call_isi (by rfl) mi boot_isinstance (pa_cons (pv 0) (pa_cons (pe_bltn (v := .ty "int") (by rfl) mI (by decide +kernel) rfl) pa_nil)))
      (pe_one (pe_not (pe_callB call_isi (by rfl) mi boot_isinstance (pa_cons (pv 0) (pa_cons (pe_bltn (v := .ty "bool") (by rfl) mB (by decide +kernel) rfl) pa_nil))))))), ?_⟩
    refine ⟨x, rfl, x, .ty "int", _, _, _, rfl, .ty "int", dp_ty hd, kit_ty (tys_int (tyD_mem d)), _, rfl, ite2 (fun e => ?_) (fun e => ?_)⟩
    · refine ⟨x, rfl, x, .ty "bool", _, _, _, rfl, .ty "bool", dp_ty hd, kit_ty (tys_bool (tyD_mem d)), _, rfl, ?_⟩
      exact qeq q (by rw [← whole_ty d, e, Bool.true_and])
    · have e' : (tyD d == "int" || tyD d == "bool") = false := by simpa using e
      exact qeq q (by rw [← whole_ty d, e', Bool.false_and])
def spWithin (K : PySem.W.Frag) : Sp := fun vs H Q _ => ∃ x d lo hi, vs = [x, .int lo, .int hi] ∧ Dp K H x d ∧ Q (.bl (withinD d lo hi)) H
theorem ok_within {f fW : Addr} {fd fdW : FuncData} (F : Fun K "is_within" "is_within" sWithin f fd) (FW : Fun K "is_whole" "is_whole" sWhole fW fdW) (bW : Binds K fdW ["thing"] []) (gW : mg "is_whole" = some (.ref fW))
    (GW : FnOk P w K mg base CX0 1 fW fdW ["thing"] (spWhole K)) : FnOk P w K mg base CX0 2 f fd ["thing", "least", "greatest"] (spWithin K) := by
  refine F.ok scWithin (fun vs H Q E h => ?_) (fun cdv A outer s H vs Q E hr h => ?_)
  · obtain ⟨x, d, lo, hi, rfl, _⟩ := h
    rfl
  · obtain ⟨x, d, lo, hi, rfl, hd, q⟩ := h
    refine ⟨_, pss_one (ps_ret (pe_and (pe_call GW hr (by rfl) gW FW.kp bW .nil pass0 (pa_cons (pv 0) pa_nil)) (pe_one (pe_chain op_le op_le (pv 1) (pv 0) (pv 2))))), ?_⟩
    refine ⟨x, rfl, x, d, rfl, hd, _, rfl, ite2 (fun e => ?_) (fun e => ?_)⟩
    · obtain ⟨i, rfl, rfl⟩ := dp_int hd e
      refine ⟨_, rfl, _, rfl, _, _, rfl, rfl, _, rfl, ite2 (fun e1 => ?_) (fun e1 => ?_)⟩
      · refine ⟨_, rfl, _, _, rfl, rfl, ?_⟩
        exact qeq q (by show (decide (lo ≤ i) && decide (i ≤ hi)) = _; rw [e1, Bool.true_and])
      · exact qeq q (by show (decide (lo ≤ i) && decide (i ≤ hi)) = _; simp only [Bool.not_eq_true] at e1; rw [e1, Bool.false_and])
    · exact qeq q (by cases d <;> first | rfl | exact absurd rfl e)
end
end HK

set_option Elab.async false
set_option linter.all false
set_option maxRecDepth 100000
set_option maxHeartbeats 2000000
namespace HK
open PySem PySem.Spec PyProof.Rows L2 GAl GxR
def neD : PyData → PyData → Bool
  | .int a, .int b => !decide (a = b)
  | _, _ => false
def isRoadD (n : Int) : PyData → Bool
  | .tuple [s, e, c, l] => (withinD s 0 (n - 1) && withinD e 0 (n - 1) && neD s e) && (withinD c 0 1000 && withinD l 1 1000)
  | _ => false
theorem dpAll_len {K : PySem.W.Frag} {H : Hp} : ∀ {xs : List V} {ds : List PyData}, DpAll K H xs ds → xs.length = ds.length
  | _, _, .nil => rfl
  | _, _, .cons _ t => by rw [List.length_cons, List.length_cons, dpAll_len t]
theorem within_int {d : PyData} {lo hi : Int} (h : withinD d lo hi = true) : ∃ i, d = .int i ∧ lo ≤ i ∧ i ≤ hi := by
  cases d <;> simp only [withinD] at h <;> first | cases h | skip
  rename_i i
  simp only [Bool.and_eq_true, decide_eq_true_eq] at h
  exact ⟨i, rfl, h.1, h.2⟩
theorem dp_int' {K : PySem.W.Frag} {H : Hp} {x : V} {i : Int} (h : Dp K H x (.int i)) : x = .int i := by cases h; rfl
theorem dp_tup {K : PySem.W.Frag} {H : Hp} {x : V} {ds : List PyData} (h : Dp K H x (.tuple ds)) : ∃ a xs, x = .ref a ∧ SqT K H a xs ∧ DpAll K H xs ds := by cases h with | tup a b => exact ⟨_, _, rfl, a, b⟩

section
variable {P : Program} {w : World} {K : PySem.W.Frag} {mg : Str → Option Value} {base : Heap}
def spRoad (K : PySem.W.Frag) : Sp := fun vs H Q _ => ∃ (n : Int) (x : V) (d : PyData), vs = [.int n, x] ∧ Dp K H x d ∧ Q (.bl (isRoadD n d)) H
theorem ok_road {f fW : Addr} {fd fdW : FuncData} {t1 t2 t3 : Tok} (F : Fun K "is_road" "is_road" sIsRoad f fd) (FW : Fun K "is_within" "is_within" sWithin fW fdW) (bW : Binds K fdW ["thing", "least", "greatest"] []) (gW : mg "is_within" = some (.ref fW))
    (GW : FnOk P w K mg base CX0 2 fW fdW ["thing", "least", "greatest"] (spWithin K)) (mi : mg "isinstance" = none) (mT : mg "tuple" = none) (ml : mg "len" = none)
    (g1 : mg "MOST_PRICE" = some (.int 1000 t1)) (g2 : mg "LEAST_LATE" = some (.int 1 t2)) (g3 : mg "MOST_LATE" = some (.int 1000 t3)) : FnOk P w K mg base CX0 3 f fd ["many", "thing"] (spRoad K) := by
  refine F.ok scIsRoad (fun vs H Q E h => ?_) (fun cdv A outer s H vs Q E hr h => ?_)
  · obtain ⟨n, x, d, rfl, _⟩ := h
    rfl
  · obtain ⟨n, x, d, rfl, hd, q⟩ := h
    refine ⟨_, pss_cons (ps_if (pt_not (PW.pt (pw_and (pt_val (pe_callB call_isi (by rfl) mi boot_isinstance (pa_cons (pv 1) (pa_cons (pe_bltn (v := .ty "tuple") (by rfl) mT (by decide +kernel) rfl) pa_nil))))
        (pw_and1 (pt_cmpR op_eq (pe_callB call_len_seq (by rfl) ml PySem.boot_len (pa_cons (pv 1) pa_nil)) pe_int (nomark _)))))) (pss_one (ps_ret pe_bl)) pss_nil)
      (pss_cons (ps_asg (pv 1) (pg_tup rfl (pgs_cons (pg_name (i := 2) scIsRoad.nd rfl (.inl rfl)) (pgs_cons (pg_name (i := 3) scIsRoad.nd rfl (.inl rfl)) (pgs_cons (pg_name (i := 4) scIsRoad.nd rfl (.inl rfl)) (pgs_cons (pg_name (i := 5) scIsRoad.nd rfl (.inl rfl)) pgs_nil))))))
      (pss_cons (ps_if (pt_not (PW.pt (pw_and (pt_val (pe_call GW hr (by rfl) gW FW.kp bW .nil pass0 (pa_cons (pv 2) (pa_cons pe_int (pa_cons (pe_op op_sub (pv 0) pe_int) pa_nil)))))
        (pw_and (pt_val (pe_call GW hr (by rfl) gW FW.kp bW .nil pass0 (pa_cons (pv 3) (pa_cons pe_int (pa_cons (pe_op op_sub (pv 0) pe_int) pa_nil)))))
          (pw_and1 (pt_cmpR op_ne (pv 2) (pv 3) (nomark _))))))) (pss_one (ps_ret pe_bl)) pss_nil)
      (pss_one (ps_ret (pe_and (pe_call GW hr (by rfl) gW FW.kp bW .nil pass0 (pa_cons (pv 4) (pa_cons pe_int (pa_cons (pe_glob (v := .int 1000) (by rfl) g1 ⟨_, rfl⟩) pa_nil))))
        (pe_one (pe_call GW hr (by rfl) gW FW.kp bW .nil pass0 (pa_cons (pv 5) (pa_cons (pe_glob (v := .int 1) (by rfl) g2 ⟨_, rfl⟩) (pa_cons (pe_glob (v := .int 1000) (by rfl) g3 ⟨_, rfl⟩) pa_nil)))))))))), ?_⟩
    -- isinstance(thing, tuple) and len(thing) == 4
    refine ⟨x, rfl, x, .ty "tuple", _, _, _, rfl, .ty "tuple", dp_ty hd, kit_ty (tys_tuple (tyD_mem d)), _, rfl, ite2 (fun e => ?_) (fun e => ?_)⟩
    · obtain ⟨ds, rfl⟩ : ∃ ds, d = .tuple ds := by cases d <;> first | exact ⟨_, rfl⟩ | (simp [tyD] at e)
      obtain ⟨a, xs, rfl, hq, hall⟩ := dp_tup hd
      refine ⟨.ref a, rfl, a, xs, rfl, .inr hq, rfl, _, rfl, ?_⟩
      by_cases h4 : xs.length = 4
      · rw [decide_eq_true (show (V.int (xs.length : Int)) = .int 4 by rw [h4]; rfl)]
        refine iteF ?_
        have h4' : ds.length = 4 := by rw [← dpAll_len hall]; exact h4
        obtain ⟨s1, e1, c1, l1, rfl⟩ : ∃ s1 e1 c1 l1, ds = [s1, e1, c1, l1] := by
          match ds, h4' with
          | [a, b, c, d], _ => exact ⟨a, b, c, d, rfl⟩
        cases hall with
        | cons d1 hall => cases hall with
          | cons d2 hall => cases hall with
            | cons d3 hall => cases hall with
              | cons d4 hall =>
                cases hall
                rename_i v1 v2 v3 v4
                refine ⟨.ref a, rfl, a, _, rfl, hq, rfl, v1, _, rfl, v2, _, rfl, v3, _, rfl, v4, _, rfl, rfl, ?_⟩
                refine ⟨v1, rfl, .int n, rfl, n, 1, rfl, rfl, v1, s1, 0, n - 1, rfl, d1, _, rfl, ite2 (fun b1 => ?_) (fun b1 => ?_)⟩
                · refine ⟨v2, rfl, .int n, rfl, n, 1, rfl, rfl, v2, e1, 0, n - 1, rfl, d2, _, rfl, ite2 (fun b2 => ?_) (fun b2 => ?_)⟩
                  · obtain ⟨i, rfl, _⟩ := within_int b1
                    obtain ⟨j, rfl, _⟩ := within_int b2
                    obtain rfl := dp_int' d1
                    obtain rfl := dp_int' d2
                    refine ⟨_, rfl, _, rfl, rfl, _, rfl, ?_⟩
                    have hne : (!decide (V.int i = V.int j)) = neD (.int i) (.int j) := by
                      show (!decide (V.int i = V.int j)) = !decide (i = j)
                      congr 1
                      exact decide_eq_decide.mpr ⟨fun z => V.int.inj z, fun z => by rw [z]⟩
                    rw [hne]
                    cases b3 : neD (.int i) (.int j) with
                    | true =>
                      refine iteF ?_
                      refine ⟨v3, rfl, v3, c1, 0, 1000, rfl, d3, _, rfl, ite2 (fun b4 => ?_) (fun b4 => ?_)⟩
                      · refine ⟨v4, rfl, v4, l1, 1, 1000, rfl, d4, ?_⟩
                        exact qeq q (by show ((_ && _ && _) && (_ && _)) = _; rw [b1, b2, b3, b4]; rfl)
                      · simp only [Bool.not_eq_true] at b4
                        exact qeq q (by show ((_ && _ && _) && (_ && _)) = _; rw [b4, Bool.false_and, Bool.and_false])
                    | false =>
                      refine iteT ?_
                      exact qeq q (by show ((_ && _ && _) && (_ && _)) = _; rw [b3, Bool.and_false, Bool.false_and])
                  · simp only [Bool.not_eq_true] at b2
                    refine iteT ?_
                    exact qeq q (by show ((_ && _ && _) && (_ && _)) = _; rw [b2, Bool.and_false, Bool.false_and, Bool.false_and])
                · simp only [Bool.not_eq_true] at b1
                  refine iteT ?_
                  exact qeq q (by show ((_ && _ && _) && (_ && _)) = _; rw [b1, Bool.false_and, Bool.false_and, Bool.false_and])
      · rw [decide_eq_false (show ¬ (V.int (xs.length : Int)) = .int 4 from fun z => h4 (by have := V.int.inj z; omega))]
        refine iteT ?_
        refine qeq q ?_
        have h4' : ds.length ≠ 4 := by rw [← dpAll_len hall]; exact h4
        unfold isRoadD
        split
        · rename_i heq
          cases heq
          exact absurd rfl h4'
        · rfl
    · refine iteT ?_
      refine qeq q ?_
      cases d <;> first | rfl | (exact absurd rfl e)
end
end HK

set_option Elab.async false
set_option linter.all false
set_option maxRecDepth 100000
set_option maxHeartbeats 2000000
namespace HK
open PySem PySem.Spec PyProof.Rows L2 GAl GxR
theorem tyes {σ : L2.St} {H : Hp} {A B : Hp → Prop} (h : A H) : tYes σ H (fun b H3 => if b = true then A H3 else B H3) := by
  show (fun (b : Bool) (H3 : Hp) => if b = true then A H3 else B H3) true H
  simp only [if_true]
  exact h
def risesB (l : List (List Int)) : Bool := (List.range (l.length - 1)).all fun i => HT.lexLt (l.getD i []) (l.getD (i + 1) [])
theorem risesB_yes {l : List (List Int)} (h : ∀ j, j < l.length - 1 → HT.lexLt (l.getD j []) (l.getD (j + 1) []) = true) : risesB l = true := by
  unfold risesB
  rw [List.all_eq_true]
  exact fun j hj => h j (List.mem_range.mp hj)
theorem risesB_no {l : List (List Int)} {j : Nat} (hj : j < l.length - 1) (h : HT.lexLt (l.getD j []) (l.getD (j + 1) []) = false) : risesB l = false := by
  unfold risesB
  rw [Bool.eq_false_iff]
  intro z
  have := List.all_eq_true.mp z j (List.mem_range.mpr hj)
  rw [h] at this
  cases this
theorem cut1 (xs : List V) : cutV xs (some 1) none = xs.drop 1 := by
  unfold cutV
  rw [show HT.sIx xs.length 0 (some 1) = min 1 xs.length from HT.sIx_nat xs.length 0 1, HT.sIx_none]
  cases xs with
  | nil => rfl
  | cons x r =>
    rw [show min 1 (x :: r).length = 1 by
      rw [List.length_cons]
      omega]
    show (List.take ((x :: r).length - 1) r) = r
    rw [List.length_cons, Nat.add_sub_cancel]
    exact List.take_length
theorem scRises : FnScope ["row", "low", "high"] ["row"] (defScope sRises) := ⟨rfl, rfl, rfl, by decide +kernel, rfl, by decide +kernel, by decide +kernel⟩
section
variable {P : Program} {w : World} {K : PySem.W.Frag} {mg : Str → Option Value} {base : Heap}
/-- the list at a holds tuples of ints -/
def TupsAt (K : PySem.W.Frag) (H : Hp) (xs : List V) (l : List (List Int)) : Prop := xs.length = l.length ∧ ∀ (i : Nat) (x : V), xs[i]? = some x → ∃ t, x = .ref t ∧ SqT K H t ((l.getD i []).map V.int)
theorem TupsAt.k0 {H H' : Hp} {xs : List V} {l : List (List Int)} (h : TupsAt K H xs l) (k : K0 H H') : TupsAt K H' xs l := ⟨h.1, fun i x e => by
  obtain ⟨t, e, s⟩ := h.2 i x e
  exact ⟨t, e, k.sqT s⟩⟩
def spRises (K : PySem.W.Frag) (Pr : Addr) : Sp := fun vs H Q _ => ∃ (a : Addr) (xs : List V) (l : List (List Int)), vs = [.ref a] ∧ SqL K H a xs ∧ TupsAt K H xs l ∧ TabG H Pr ∧ ∀ H', K0 H H' → Q (.bl (risesB l)) H'
theorem ok_rises {f c Pr : Addr} {fd : FuncData} (F : FunC K "rises" "rises" sRises f fd c) (TB : TabB base mg c Pr) (mz : mg "zip" = none) (ma : mg "all" = none) : FnOk P w K mg base CX0 2 f fd ["row"] (spRises K Pr) := by
  refine F.ok scRises (fun vs H Q E h => ?_) (fun A outer s H vs Q E hr h => ?_)
  · obtain ⟨a, xs, l, rfl, _⟩ := h
    rfl
  · obtain ⟨a, xs, l, rfl, hS, hT, hP, q⟩ := h
    refine ⟨_, pss_one (ps_ret (pe_allG (own := [("low", 1), ("high", 2)]) (k := 0) (g := gTup K 2 (gCons (gName 1) (gCons (gName 2) gNil))) (tt := tYes) (te := tOp (rLtT K) (tVar 1) (tVar 2)) hr (by rfl) ma rfl scRises.nd TB rfl (gsc_by (N := ["row", "low", "high"]) (sc := defScope sRises) (by decide +kernel))
      (pi_zip (by rfl) mz (pa_cons (pv 0) (pa_cons (pe_slice sl_list (pv 0) (po_some pe_int) po_none) pa_nil)))
      (fun A' hr' _ _ _ _ _ _ => pg_tup rfl (pgs_cons (pg_name (i := 1) scRises.nd rfl (.inl rfl)) (pgs_cons (pg_name (i := 2) scRises.nd rfl (.inl rfl)) pgs_nil)))
      (fun A' hr' _ _ _ _ _ _ => pts_nil)
      (fun A' hr' _ _ _ _ _ _ => pe_cmpR (op_ltT hr'.units0) (pv 1) (pv 2) (nomark _)))), ?_⟩
    refine ⟨.ref a, rfl, .ref a, rfl, 1, rfl, a, xs, rfl, hS, fun c nc => ?_⟩
    have k1 : K0 H (upd H c (.lst (cutV xs (some 1) none))) := K0.new nc
    refine ⟨a, c, xs, _, rfl, k1.sqL hS, .inl (.inl upd_same), k1.tab _ hP, fun H2 hT2 => ?_⟩
    have k2 : K0 H H2 := k1.trans (K0.tbd (k1.tab _ hP) hT2)
    have hc2 : H2 c = some (.lst (xs.drop 1)) := by
      have := (K0.tbd (k1.tab _ hP) hT2).oth c _ upd_same (fun _ z => by cases z)
      rw [cut1] at this
      exact this
    refine ⟨fun i m H3 => i + m = xs.length - 1 ∧ K0 H H3 ∧ H3 c = some (.lst (xs.drop 1)) ∧ ∀ j, j < i → HT.lexLt (l.getD j []) (l.getD (j + 1) []) = true, ⟨xs.length - 1, by omega, k2, hc2, fun j hj => absurd hj (Nat.not_lt_zero _)⟩, fun i m H3 hW => ?_⟩
    obtain ⟨em, k3, ec, hlt⟩ := hW
    have hA : SqL K H3 a xs := k3.sqL hS
    have hC : SqL K H3 c (xs.drop 1) := .inl (.inl ec)
    by_cases hi : i < xs.length - 1
    · have h1 : i < xs.length := by omega
      have h2 : i + 1 < xs.length := by omega
      have g1 : xs[i]? = some xs[i] := List.getElem?_eq_getElem h1
      have g2 : (xs.drop 1)[i]? = some xs[i + 1] := by rw [List.getElem?_drop, Nat.add_comm 1 i]; exact List.getElem?_eq_getElem h2
      refine .inr ⟨⟨_, _, _, _, hA, hC, g1, g2⟩, fun H' => K0 H H' ∧ H' c = some (.lst (xs.drop 1)) ∧ HT.lexLt (l.getD i []) (l.getD (i + 1) []) = true, fun H' hN => ?_, fun x H' hy => ?_⟩
      · obtain ⟨k', ec', hl'⟩ := hN
        refine ⟨m - 1, by omega, by omega, k', ec', fun j hj => ?_⟩
        by_cases e : j = i
        · rw [e]; exact hl'
        · exact hlt j (by omega)
      · obtain ⟨T, x1, x2, rfl, nT, rfl, f1, f2⟩ := hy
        have ex1 : x1 = xs[i] := Option.some.inj ((f1 _ hA).symm.trans g1)
        have ex2 : x2 = xs[i + 1] := Option.some.inj ((f2 _ hC).symm.trans g2)
        have kT : K0 H3 (upd H3 T (.tup [x1, x2])) := K0.new nT
        obtain ⟨t1, e1, s1⟩ := hT.2 i x1 (by rw [ex1]; exact g1)
        obtain ⟨t2, e2, s2⟩ := hT.2 (i + 1) x2 (by rw [ex2]; exact List.getElem?_eq_getElem h2)
        refine ⟨T, [x1, x2], rfl, .inl (.inl upd_same), rfl, x1, [x2], rfl, x2, [], rfl, rfl, rfl, ?_⟩
        refine tyes ?_
        have k4 := k3.trans kT
        refine ⟨x1, rfl, x2, rfl, t1, t2, _, _, e1, e2, k4.sqT s1, k4.sqT s2, _, rfl, ?_⟩
        cases hb : HT.lexLt (l.getD i []) (l.getD (i + 1) []) with
        | true => exact iteT ⟨k4, kT.oth c _ ec (fun _ z => by cases z), rfl⟩
        | false => exact iteF (qeq (q _ k4) (risesB_no (by rw [← hT.1]; exact hi) hb))
    · refine .inl ⟨⟨_, _, hA, hC, .inr (by rw [List.length_drop]; omega)⟩, ?_⟩
      exact qeq (q _ k3) (risesB_yes fun j hj => hlt j (by rw [← hT.1] at hj; omega))
end
end HK

set_option Elab.async false
set_option linter.all false
set_option maxRecDepth 100000
set_option maxHeartbeats 2000000
namespace HK
open PySem PySem.Spec PyProof.Rows L2 GAl GxR
def pairD : PyData → List Int
  | .tuple (.int s :: .int e :: _) => [s, e]
  | _ => []
def isNetD : PyData → Bool
  | .tuple [.int m, .tuple rs] => (decide (1 ≤ m) && decide (m ≤ 12)) && (rs.all (isRoadD m) && risesB (rs.map pairD))
  | _ => false
theorem road_ints {n : Int} {d : PyData} (h : isRoadD n d = true) : ∃ s e c l : Int, d = .tuple [.int s, .int e, .int c, .int l] ∧ 0 ≤ s ∧ s ≤ n - 1 ∧ 0 ≤ e ∧ e ≤ n - 1 ∧ s ≠ e ∧ 0 ≤ c ∧ c ≤ 1000 ∧ 1 ≤ l ∧ l ≤ 1000 := by
  unfold isRoadD at h
  split at h
  · rename_i s e c l
    simp only [Bool.and_eq_true] at h
    obtain ⟨⟨⟨h1, h2⟩, h3⟩, h4, h5⟩ := h
    obtain ⟨i, rfl, a1, a2⟩ := within_int h1
    obtain ⟨j, rfl, b1, b2⟩ := within_int h2
    obtain ⟨k, rfl, c1, c2⟩ := within_int h4
    obtain ⟨q, rfl, d1, d2⟩ := within_int h5
    refine ⟨i, j, k, q, rfl, a1, a2, b1, b2, fun z => ?_, c1, c2, d1, d2⟩
    rw [z] at h3
    simp [neD] at h3
  · cases h
theorem dp_ints4 {K : PySem.W.Frag} {H : Hp} {x : V} {s e c l : Int} (h : Dp K H x (.tuple [.int s, .int e, .int c, .int l])) : ∃ a, x = .ref a ∧ SqT K H a [.int s, .int e, .int c, .int l] := by
  obtain ⟨a, xs, rfl, hq, hall⟩ := dp_tup h
  cases hall with
  | cons d1 hall => cases hall with
    | cons d2 hall => cases hall with
      | cons d3 hall => cases hall with
        | cons d4 hall =>
          cases hall
          obtain rfl := dp_int' d1
          obtain rfl := dp_int' d2
          obtain rfl := dp_int' d3
          obtain rfl := dp_int' d4
          exact ⟨a, rfl, hq⟩
theorem dpAll_get {K : PySem.W.Frag} {H : Hp} : ∀ {xs : List V} {ds : List PyData} {i : Nat} {x : V}, DpAll K H xs ds → xs[i]? = some x → ∃ d, ds[i]? = some d ∧ Dp K H x d
  | _, _, _, _, .nil, e => by simp at e
  | _, _, 0, _, .cons h _, e => by simp at e; subst e; exact ⟨_, rfl, h⟩
  | _, _, i + 1, x, .cons _ t, e => by
    obtain ⟨d, h1, h2⟩ := dpAll_get (i := i) (x := x) t (by simpa using e)
    exact ⟨d, by simpa using h1, h2⟩
theorem K0.mut {H H' : Hp} {p : Addr} {o : HO} (k : K0 H H') (n : H p = none) : K0 H (upd H' p o) := ⟨fun b u e m => by
  rw [upd_ne (ne_of_none e n)]; exact k.oth b u e m, fun P h => by
  obtain ⟨ps, e, ht⟩ := h
  obtain ⟨ps', e', ht'⟩ := k.tab P ⟨ps, e, ht⟩
  exact ⟨ps', by rw [upd_ne (ne_of_none e n)]; exact e', ht'⟩, fun b e => k.dom b (upd_none e)⟩
theorem TupsAt.kt {K : PySem.W.Frag} {t : Addr} {H H' : Hp} {xs : List V} {l : List (List Int)} (h : TupsAt K H xs l) (k : Kt t H H') : TupsAt K H' xs l := ⟨h.1, fun i x e => by
  obtain ⟨t, e, s⟩ := h.2 i x e
  exact ⟨t, e, k.sqT s⟩⟩
theorem TupsAt.snoc {K : PySem.W.Frag} {H : Hp} {xs : List V} {l : List (List Int)} {t : Addr} {ns : List Int} (h : TupsAt K H xs l) (s : SqT K H t (ns.map V.int)) : TupsAt K H (xs ++ [.ref t]) (l ++ [ns]) := by
  refine ⟨by simp [h.1], fun i x e => ?_⟩
  by_cases hi : i < xs.length
  · rw [List.getElem?_append_left hi] at e
    obtain ⟨t', e', s'⟩ := h.2 i x e
    refine ⟨t', e', ?_⟩
    have : (l ++ [ns]).getD i [] = l.getD i [] := by
      simp only [List.getD_eq_getElem?_getD]
      rw [List.getElem?_append_left (by rw [← h.1]; exact hi)]
    rw [this]; exact s'
  · have hx : i = xs.length := by
      have : i < (xs ++ [V.ref t]).length := (List.getElem?_eq_some_iff.mp e).1
      rw [List.length_append, List.length_singleton] at this
      omega
    subst hx
    rw [List.getElem?_append_right (Nat.le_refl _), Nat.sub_self] at e
    have e : V.ref t = x := Option.some.inj e
    refine ⟨t, e.symm, ?_⟩
    have : (l ++ [ns]).getD xs.length [] = ns := by
      simp only [List.getD_eq_getElem?_getD]
      rw [h.1, List.getElem?_append_right (Nat.le_refl _), Nat.sub_self]; rfl
    rw [this]; exact s
theorem scIsNet : FnScope ["thing", "many", "roads", "road"] ["thing"] (defScope sIsNet) := ⟨rfl, rfl, rfl, by decide +kernel, rfl, by decide +kernel, by decide +kernel⟩
theorem all_no {rs : List PyData} {p : PyData → Bool} {i : Nat} {d : PyData} (h : rs[i]? = some d) (hd : p d = false) : rs.all p = false := by
  rw [Bool.eq_false_iff]
  intro z
  have := List.all_eq_true.mp z d (List.mem_of_getElem? h)
  rw [hd] at this; cases this
theorem all_yes {rs : List PyData} {p : PyData → Bool} (h : ∀ (j : Nat) (d : PyData), rs[j]? = some d → p d = true) : rs.all p = true := by
  rw [List.all_eq_true]
  intro d hd
  obtain ⟨j, hj, e⟩ := List.getElem_of_mem hd
  exact h j d (by rw [← e]; exact List.getElem?_eq_getElem hj)

section
variable {P : Program} {w : World} {K : PySem.W.Frag} {mg : Str → Option Value} {base : Heap}
def NetAns (K : PySem.W.Frag) (H : Hp) (v : V) (b : Bool) : Prop := (∃ d, Dp K H v d ∧ (∀ m rs, d = .tuple [m, .tuple rs] → rs.length ≤ 1000) ∧ b = isNetD d) ∨ (∃ T, T ∈ tys ∧ TyX K H v (.type T) ∧ (T == "tuple") = false ∧ b = false)
def spIsNet (K : PySem.W.Frag) (Pn Pr : Addr) : Sp := fun vs H Q _ => ∃ (v : V) (b : Bool), vs = [v] ∧ NetAns K H v b ∧ TabG H Pn ∧ TabG H Pr ∧ ∀ H', K0 H H' → Q (.bl b) H'
theorem ok_isnet {f c Pn Pr fW fR fS : Addr} {fd fdW fdR fdS : FuncData} {t1 : Tok} (F : FunC K "is_net" "is_net" sIsNet f fd c) (TB : TabB base mg c Pn)
    (kW : PySem.W.keepIn K (.ref fW) = true) (bW : Binds K fdW ["thing", "least", "greatest"] []) (gW : mg "is_within" = some (.ref fW)) (GW : FnOk P w K mg base CX0 2 fW fdW ["thing", "least", "greatest"] (spWithin K))
    (kR : PySem.W.keepIn K (.ref fR) = true) (bR : Binds K fdR ["many", "thing"] []) (gR : mg "is_road" = some (.ref fR)) (GR : FnOk P w K mg base CX0 3 fR fdR ["many", "thing"] (spRoad K))
    (kS : PySem.W.keepIn K (.ref fS) = true) (bS : Binds K fdS ["row"] []) (gS : mg "rises" = some (.ref fS)) (GS : FnOk P w K mg base CX0 2 fS fdS ["row"] (spRises K Pr))
    (mi : mg "isinstance" = none) (mT : mg "tuple" = none) (ml : mg "len" = none) (ma : mg "all" = none) (g1 : mg "MOST_PLACES" = some (.int 12 t1)) : FnOk P w K mg base CX0 5 f fd ["thing"] (spIsNet K Pn Pr) := by
  refine F.ok scIsNet (fun vs H Q E h => ?_) (fun A outer s H vs Q E hr h => ?_)
  · obtain ⟨v, b, rfl, _⟩ := h
    rfl
  · obtain ⟨v, b, rfl, hA, hPn, hPr, q⟩ := h
    refine ⟨_, pss_cons (ps_if (pt_not (PW.pt (pw_and (pt_val (pe_callB call_isi (by rfl) mi boot_isinstance (pa_cons (pv 0) (pa_cons (pe_bltn (v := .ty "tuple") (by rfl) mT (by decide +kernel) rfl) pa_nil))))
        (pw_and1 (pt_cmpR op_eq (pe_callB call_len_seq (by rfl) ml PySem.boot_len (pa_cons (pv 0) pa_nil)) pe_int (nomark _)))))) (pss_one (ps_ret pe_bl)) pss_nil)
      (pss_cons (ps_asg (pv 0) (pg_tup rfl (pgs_cons (pg_name (i := 1) scIsNet.nd rfl (.inr rfl)) (pgs_cons (pg_name (i := 2) scIsNet.nd rfl (.inl rfl)) pgs_nil))))
      (pss_cons (ps_if (pt_not (PW.pt (pw_and (pt_val (pe_call GW (hr.mono (by decide)) (by rfl) gW kW bW .nil pass0 (pa_cons (pv 1) (pa_cons pe_int (pa_cons (pe_glob (v := .int 12) (by rfl) g1 ⟨_, rfl⟩) pa_nil)))))
        (pw_and1 (pt_val (pe_callB call_isi (by rfl) mi boot_isinstance (pa_cons (pv 2) (pa_cons (pe_bltn (v := .ty "tuple") (by rfl) mT (by decide +kernel) rfl) pa_nil)))))))) (pss_one (ps_ret pe_bl)) pss_nil)
      (pss_cons (ps_if (pt_not (pt_val (pe_allG (own := [("road", 3)]) (k := 3) (g := gName 3) (tt := tYes) (te := tCall (spRoad K) [] E0 (tCons (tVar 1) (tCons (tVar 3) tNil))) hr (by rfl) ma rfl scIsNet.nd TB rfl (gsc_by (N := ["thing", "many", "roads", "road"]) (sc := defScope sIsNet) (by decide +kernel))
          (pi_tup (pv 2)) (fun A' hr' _ _ _ _ _ _ => pg_name (i := 3) scIsNet.nd rfl (.inl rfl)) (fun A' hr' _ _ _ _ _ _ => pts_nil)
          (fun A' hr' _ _ _ _ _ _ => pe_call GR hr' (by rfl) gR kR bR .nil pass0 (pa_cons (pv 1) (pa_cons (pv 3) pa_nil)))))) (pss_one (ps_ret pe_bl)) pss_nil)
      (pss_one (ps_ret (pe_call GS (hr.mono (by decide)) (by rfl) gS kS bS .nil pass0 (pa_cons (pe_lc (own := [("road", 3)]) (g := gName 3) (tt := tYes) (te := tSl (rSlT K) (tVar 3) tNoPart (tPart (tC (.int 2)))) rfl scIsNet.nd (pi_tup (pv 2))
          (blkOk_by (N := ["thing", "many", "roads", "road"]) (sc := defScope sIsNet) (by decide +kernel)) (fun _ _ _ _ _ => pg_name (i := 3) scIsNet.nd rfl (Or.inl rfl)) (fun _ _ _ _ _ => pts_nil)
          (fun _ _ _ _ _ => pe_slice sl_tup (pv 3) po_none (po_some pe_int))) pa_nil))))))), ?_⟩
    rcases hA with ⟨d, hd, hsz, rfl⟩ | ⟨T, hT, hty, hne, rfl⟩
    · refine ⟨v, rfl, v, .ty "tuple", _, _, _, rfl, .ty "tuple", dp_ty hd, kit_ty (tys_tuple (tyD_mem d)), _, rfl, ite2 (fun e => ?_) (fun e => ?_)⟩
      · obtain ⟨ds, rfl⟩ : ∃ ds, d = .tuple ds := by cases d <;> first | exact ⟨_, rfl⟩ | (simp [tyD] at e)
        obtain ⟨a, xs, rfl, hq, hall⟩ := dp_tup hd
        refine ⟨.ref a, rfl, a, xs, rfl, .inr hq, rfl, _, rfl, ?_⟩
        by_cases h4 : xs.length = 2
        · rw [decide_eq_true (show (V.int (xs.length : Int)) = .int 2 by rw [h4]; rfl)]
          refine iteF ?_
          have h4' : ds.length = 2 := by rw [← dpAll_len hall]; exact h4
          obtain ⟨dm, dr, rfl⟩ : ∃ dm dr, ds = [dm, dr] := by
            match ds, h4' with
            | [a, b], _ => exact ⟨a, b, rfl⟩
          cases hall with
          | cons d1 hall => cases hall with
            | cons d2 hall =>
              cases hall
              rename_i v1 v2
              refine ⟨.ref a, rfl, a, _, rfl, hq, rfl, v1, _, rfl, v2, _, rfl, rfl, ?_⟩
              refine ⟨v1, rfl, v1, dm, 1, 12, rfl, d1, _, rfl, ite2 (fun b1 => ?_) (fun b1 => ?_)⟩
              · obtain ⟨m, rfl, m1, m2⟩ := within_int b1
                obtain rfl := dp_int' d1
                refine ⟨v2, rfl, v2, .ty "tuple", _, _, _, rfl, .ty "tuple", dp_ty d2, kit_ty (tys_tuple (tyD_mem dr)), _, rfl, ?_⟩
                cases hb2 : (tyD dr == "tuple") with
                | false =>
                  refine iteT (qeq (q _ (K0.refl _)) ?_)
                  cases dr <;> first | rfl | (simp [tyD] at hb2)
                | true =>
                  refine iteF ?_
                  obtain ⟨rs, rfl⟩ : ∃ ds, dr = .tuple ds := by cases dr <;> first | exact ⟨_, rfl⟩ | (simp [tyD] at hb2)
                  obtain ⟨r, ys, rfl, hqr, hallr⟩ := dp_tup d2
                  have hm : isNetD (.tuple [.int m, .tuple rs]) = (rs.all (isRoadD m) && risesB (rs.map pairD)) := by
                    show ((decide (1 ≤ m) && decide (m ≤ 12)) && _) = _
                    rw [decide_eq_true m1, decide_eq_true m2, Bool.true_and, Bool.true_and]
                  rw [hm] at q
                  have hlen : ys.length = rs.length := dpAll_len hallr
                  -- all(is_road(many, road) for road in roads)
                  refine ⟨.ref r, rfl, r, rfl, ⟨_, hqr⟩, hPn, fun H2 hT2 => ?_⟩
                  have k2 : K0 H H2 := K0.tbd hPn hT2
                  refine ⟨fun i mm H3 => i + mm = ys.length ∧ K0 H H3 ∧ ∀ (j : Nat) (d : PyData), j < i → rs[j]? = some d → isRoadD m d = true, ⟨ys.length, by omega, k2, fun j _ hj => absurd hj (Nat.not_lt_zero _)⟩, fun i mm H3 hW => ?_⟩
                  obtain ⟨em, k3, hlt⟩ := hW
                  have hY : SqT K H3 r ys := k3.sqT hqr
                  by_cases hi : i < ys.length
                  · have g1 : ys[i]? = some ys[i] := List.getElem?_eq_getElem hi
                    obtain ⟨di, hdi, hDi⟩ := dpAll_get hallr g1
                    refine .inr ⟨⟨_, _, hY, g1⟩, fun H' => K0 H H' ∧ isRoadD m di = true, fun H' hN => ?_, fun x H' hy => ?_⟩
                    · obtain ⟨k', hb'⟩ := hN
                      refine ⟨mm - 1, by omega, by omega, k', fun j d hj hd => ?_⟩
                      by_cases e : j = i
                      · subst e
                        rw [hdi] at hd; cases hd; exact hb'
                      · exact hlt j d (by omega) hd
                    · obtain ⟨rfl, fx⟩ := hy
                      have ex : x = ys[i] := Option.some.inj ((fx _ hY).symm.trans g1)
                      subst ex
                      refine ⟨rfl, tyes ?_⟩
                      refine ⟨.int m, rfl, _, rfl, m, _, di, rfl, K0.dp k3 di _ hDi, _, rfl, ?_⟩
                      cases hb3 : isRoadD m di with
                      | true => exact iteT ⟨k3, rfl⟩
                      | false =>
                        refine iteF ⟨_, rfl, iteT (qeq (q _ k3) ?_)⟩
                        rw [all_no hdi hb3, Bool.false_and]
                  · refine .inl ⟨⟨_, hY, by omega⟩, _, rfl, iteF ?_⟩
                    have hallR : ∀ (j : Nat) (d : PyData), rs[j]? = some d → isRoadD m d = true := fun j d hd => hlt j d (by
                      have := (List.getElem?_eq_some_iff.mp hd).1
                      omega) hd
                    have hat : rs.all (isRoadD m) = true := all_yes hallR
                    rw [hat, Bool.true_and] at q
                    -- rises([road[:2] for road in roads])
                    refine ⟨.ref r, rfl, r, rfl, ⟨_, hY⟩, fun D nD => lc_tup (K := K) (a := r) (xs := ys) (fun i H4 => K0 H3 H4 ∧ ∃ zs, H4 D = some (.lst zs) ∧ TupsAt K H4 zs ((rs.take i).map pairD)) ⟨K0.new nD, [], upd_same, rfl, fun i x e => by simp at e⟩ (fun i H4 _ h => h.1.sqT hY) (fun i x H4 hx h => ?_) (fun H4 h => ?_)⟩
                    · obtain ⟨k4, zs, ez, hz⟩ := h
                      obtain ⟨di, hdi, hDi⟩ := dpAll_get hallr hx
                      obtain ⟨s1, e1, c1, l1, rfl, _⟩ := road_ints (hallR i di hdi)
                      obtain ⟨ar, rfl, hqa⟩ := dp_ints4 (K0.dp (k3.trans k4) _ _ hDi)
                      refine ⟨rfl, tyes ?_⟩
                      refine ⟨.ref ar, rfl, 2, rfl, ar, _, rfl, hqa, fun z => absurd z.2 (by show ¬ (HT.sIx 4 4 (some 2) = 4); decide), fun p np => ?_⟩
                      have kp : K0 H4 (upd H4 p (.tup (cutV [.int s1, .int e1, .int c1, .int l1] none (some 2)))) := K0.new np
                      have ez' := kp.oth D _ ez (fun _ z => by cases z)
                      have hl : zs.length ≤ rs.length := by
                        rw [hz.1, List.length_map, List.length_take]; omega
                      refine ⟨zs, ez', small1000 (Nat.le_trans hl (hsz _ _ rfl)), ?_⟩
                      refine ⟨(k4.trans kp).mut nD, zs ++ [.ref p], upd_same, ?_⟩
                      have : (rs.take (i + 1)).map pairD = (rs.take i).map pairD ++ [[s1, e1]] := by
                        rw [List.take_add_one, hdi, List.map_append]; rfl
                      rw [this]
                      refine TupsAt.snoc ((hz.k0 kp).kt (Kt.set ez')) ?_
                      exact (Kt.set ez').sqT (.inl (.inl upd_same))
                    · obtain ⟨k4, zs, ez, hz⟩ := h
                      rw [hlen, List.take_length] at hz
                      exact ⟨D, zs, _, rfl, .inl (.inl ez), hz, (k3.trans k4).tab _ hPr, fun H5 k5 => q _ ((k3.trans k4).trans k5)⟩
              · simp only [Bool.not_eq_true] at b1
                refine iteT (qeq (q _ (K0.refl _)) ?_)
                unfold isNetD
                split
                · rename_i heq
                  cases heq
                  show (withinD (.int _) 1 12 && _) = false
                  rw [b1, Bool.false_and]
                · rfl
        · rw [decide_eq_false (show ¬ (V.int (xs.length : Int)) = .int 2 from fun z => h4 (by have := V.int.inj z; omega))]
          refine iteT (qeq (q _ (K0.refl _)) ?_)
          have h4' : ds.length ≠ 2 := by rw [← dpAll_len hall]; exact h4
          unfold isNetD
          split
          · rename_i heq
            cases heq
            exact absurd rfl h4'
          · rfl
      · refine iteT (qeq (q _ (K0.refl _)) ?_)
        cases d <;> first | rfl | (exact absurd rfl e)
    · refine ⟨v, rfl, v, .ty "tuple", _, _, _, rfl, .ty "tuple", hty, kit_ty (tys_tuple hT), _, rfl, ?_⟩
      rw [hne]
      exact iteF (iteT (q _ (K0.refl _)))
end
end HK

set_option Elab.async false
set_option linter.all false
set_option maxRecDepth 100000
set_option maxHeartbeats 2000000
namespace HK
open PySem PySem.Spec PyProof.Rows L2 GAl GxR
open Evl (pss_cut)
abbrev sSpread : Stmt := topS 55
abbrev sDigit : Stmt := topS 56
abbrev sSome : Stmt := topS 57
theorem scSpread : FnScope ["cell", "place", "mixed", "other"] ["cell", "place"] (defScope sSpread) := ⟨rfl, rfl, rfl, by decide +kernel, rfl, by decide +kernel, by decide +kernel⟩
theorem scDigit : FnScope ["tape", "many", "place", "cell", "found"] ["tape", "many"] (defScope sDigit) := ⟨rfl, rfl, rfl, by decide +kernel, rfl, by decide +kernel, by decide +kernel⟩
theorem scSome : FnScope ["tape", "row"] ["tape", "row"] (defScope sSome) := ⟨rfl, rfl, rfl, by decide +kernel, rfl, by decide +kernel, by decide +kernel⟩
theorem dpInts {K : PySem.W.Frag} {H : Hp} : ∀ ns : List Int, DpAll K H (ns.map V.int) (ns.map PyData.int)
  | [] => .nil
  | n :: ns => .cons (.int n) (dpInts ns)
/-- the script, at s: written, locked, or a list apart from the tape's at t -/
def Scr (K : PySem.W.Frag) (t : Addr) (H : Hp) (s : Addr) (ns : List Int) : Prop := (H s = some (.lst (ns.map V.int)) ∧ s ≠ t) ∨ (∃ o, H s = some (.frz o (.lst (ns.map V.int)))) ∨
  ∃ (o : Obj) (its : Array Value) (n : Nat), K.lookup s = some o ∧ o.cls = .type "list" ∧ o.dict = none ∧ o.data = .seq its n ∧ its.size ≤ sizeLine ∧ Vals (ns.map V.int) its.toList
theorem Scr.sq {K : PySem.W.Frag} {t : Addr} {H : Hp} {s : Addr} {ns : List Int} (h : Scr K t H s ns) : SqL K H s (ns.map V.int) := by
  rcases h with ⟨h, _⟩ | h | h
  · exact .inl (.inl h)
  · exact .inl (.inr h)
  · exact .inr h
theorem Scr.kt {K : PySem.W.Frag} {t : Addr} {H H' : Hp} {s : Addr} {ns : List Int} (h : Scr K t H s ns) (k : Kt t H H') : Scr K t H' s ns := by
  rcases h with ⟨h, n⟩ | ⟨o, h⟩ | h
  · exact .inl ⟨k.oth _ _ h n (fun _ z => by cases z), n⟩
  · exact .inr (.inl ⟨o, k.frz _ _ _ h⟩)
  · exact .inr (.inr h)
theorem Scr.of {K : PySem.W.Frag} {t : Addr} {H : Hp} {s : Addr} {ns : List Int} {o : HO} (h : SqL K H s (ns.map V.int)) (n : H t = none) : Scr K t (upd H t o) s ns := by
  rcases h with (h | ⟨o', h⟩) | h
  · have z := ne_of_none h n
    exact .inl ⟨by rw [upd_ne z]; exact h, z⟩
  · have z := ne_of_none h n
    exact .inr (.inl ⟨o', by rw [upd_ne z]; exact h⟩)
  · exact .inr (.inr h)
/-- the tape: the script, the next place, what is left of the number -/
def TapeV (H : Hp) (t s : Addr) : Prop := ∃ p v : Int, H t = some (.lst [.ref s, .int p, .int v]) ∧ 0 ≤ p ∧ 0 ≤ v
structure Tape (K : PySem.W.Frag) (H : Hp) (t s : Addr) (ns : List Int) : Prop where
  v : TapeV H t s
  scr : Scr K t H s ns
theorem canLay_ints : ∀ ns : List Int, SeqAt.shaped (.list (ns.map PyData.int)) = true := PySem.W.shaped_ints
theorem eqv_nil (ns : List Int) : PyData.eqv (.list (ns.map PyData.int)) (.list []) = ns.isEmpty := by
  cases ns <;> simp [PyData.eqv, PyData.eqvAll]
section
variable {P : Program} {w : World} {K : PySem.W.Frag} {mg : Str → Option Value} {base : Heap}
def spSpread : Sp := fun vs H Q _ => ∃ cell place : Int, vs = [.int cell, .int place] ∧ 0 ≤ place ∧ ∀ v : Int, 0 ≤ v → Q (.int v) H
theorem mulR {i j : Int} (h : -(2 ^ 64) < j) (h2 : j < 2 ^ 64) : CMul i j := .inr ⟨h, h2⟩
theorem mulL {i j : Int} (h : -(2 ^ 64) < i) (h2 : i < 2 ^ 64) : CMul i j := .inl ⟨h, h2⟩
theorem ok_spread {f : Addr} {fd : FuncData} (F : Fun K "_law_b_spread" "_law_b_spread" sSpread f fd) : FnOk P w K mg base CX0 1 f fd ["cell", "place"] spSpread := by
  refine F.ok scSpread (fun vs H Q E h => ?_) (fun cdv A outer s H vs Q E hr h => ?_)
  · obtain ⟨a, b, rfl, _⟩ := h
    rfl
  · obtain ⟨cell, place, rfl, hp, q⟩ := h
    refine ⟨_, pss_cons (ps_if (pt_cmpR op_ge (pv 0) (pe_op op_pow pe_int pe_int) (nomark _)) (pss_one (ps_ret (pv 0))) pss_nil)
      (pss_cut (ps_set (i := 2) scSpread.nd rfl (.inl rfl) (pe_op op_mod (pe_op op_add (pe_op op_add (pe_op op_mul (pe_op op_mod (pv 0) pe_int) pe_int) (pe_op op_mul (pv 1) pe_int)) pe_int) pe_int))
      (pss_cut (ps_set (i := 2) scSpread.nd rfl (.inl rfl) (pe_op op_mod (pe_op op_add (pe_op op_add (pe_op op_mul (pv 2) (pv 2)) (pe_op op_mul pe_int (pv 1))) pe_int) pe_int))
      (pss_cut (ps_set (i := 3) scSpread.nd rfl (.inl rfl) (pe_op op_mod (pe_op op_add (pe_op op_add (pe_op op_mul (pv 2) (pv 2)) (pe_op op_mul pe_int (pv 2))) (pv 1)) pe_int))
      (pss_one (ps_ret (pe_op op_add (pe_op op_mul (pv 2) pe_int) (pv 3))))))), ?_⟩
    refine ⟨.int cell, rfl, 10, 18, rfl, rfl, ⟨by decide, by decide, by decide⟩, cell, _, rfl, rfl, _, rfl, ite2 (fun e => ?_) (fun e => ?_)⟩
    · refine ⟨.int cell, rfl, q cell ?_⟩
      have h1 : (10 : Int) ^ (18 : Int).toNat ≤ cell := of_decide_eq_true e
      have h2 : (0 : Int) ≤ (10 : Int) ^ (18 : Int).toNat := by decide
      omega
    · refine ⟨fun σ' H' => ∃ m : Int, σ' = [some (.int cell), some (.int place), some (.int m), none] ∧ H' = H ∧ 0 ≤ m ∧ m < 2147483629, ?_, ?_⟩
      · exact ⟨.int cell, rfl, cell, 2147483647, rfl, rfl, (show (0 : Int) < 2147483647 by decide), _, 16807, rfl, rfl, mulR (by decide) (by decide), .int place, rfl, place, 62089911, rfl, rfl, mulR (by decide) (by decide), _, _, rfl, rfl, _, 12345, rfl, rfl, _, 2147483629, rfl, rfl, (show (0 : Int) < 2147483629 by decide),
          _, rfl, rfl, Int.emod_nonneg _ (by decide), Int.emod_lt_of_pos _ (by decide)⟩
      rintro σ' H' ⟨m1, rfl, rfl, b1, b2⟩
      refine ⟨fun σ' H'' => ∃ m : Int, σ' = [some (.int cell), some (.int place), some (.int m), none] ∧ H'' = H' ∧ 0 ≤ m ∧ m < 2147483587, ?_, ?_⟩
      · exact ⟨.int m1, rfl, .int m1, rfl, m1, m1, rfl, rfl, mulL (by omega) (by omega), .int place, rfl, 7919, place, rfl, rfl, mulL (by decide) (by decide), _, _, rfl, rfl, _, 1, rfl, rfl, _, 2147483587, rfl, rfl, (show (0 : Int) < 2147483587 by decide),
          _, rfl, rfl, Int.emod_nonneg _ (by decide), Int.emod_lt_of_pos _ (by decide)⟩
      rintro σ' H'' ⟨m2, rfl, rfl, c1, c2⟩
      refine ⟨fun σ' H' => ∃ m : Int, σ' = [some (.int cell), some (.int place), some (.int m2), some (.int m)] ∧ H' = H'' ∧ 0 ≤ m, ?_, ?_⟩
      · exact ⟨.int m2, rfl, .int m2, rfl, m2, m2, rfl, rfl, mulL (by omega) (by omega), .int m2, rfl, 40014, m2, rfl, rfl, mulL (by decide) (by decide), _, _, rfl, rfl, .int place, rfl, _, place, rfl, rfl, _, 2147483563, rfl, rfl, (show (0 : Int) < 2147483563 by decide),
          _, rfl, rfl, Int.emod_nonneg _ (by decide)⟩
      rintro σ' H' ⟨m3, rfl, rfl, d1⟩
      refine ⟨.int m2, rfl, m2, 2147483563, rfl, rfl, mulL (by omega) (by omega), .int m3, rfl, _, m3, rfl, rfl, ?_⟩
      exact q _ (by omega)

def spDigit (K : PySem.W.Frag) : Sp := fun vs H Q _ => ∃ (t sc : Addr) (many : Int) (ns : List Int), vs = [.ref t, .int many] ∧ Tape K H t sc ns ∧ 0 < many ∧ many ≤ 100000000000000000000 ∧
  ∀ (d : Int) (H' : Hp), 0 ≤ d → d < many → Kt t H H' → Tape K H' t sc ns → Q (.int d) H'
theorem ok_digit {f fS : Addr} {fd fdS : FuncData} (F : Fun K "_law_b_digit" "_law_b_digit" sDigit f fd) (kS : PySem.W.keepIn K (.ref fS) = true) (bS : Binds K fdS ["cell", "place"] []) (gS : mg "_law_b_spread" = some (.ref fS))
    (GS : FnOk P w K mg base CX0 1 fS fdS ["cell", "place"] spSpread) (ml : mg "len" = none) : FnOk P w K mg base CX0 2 f fd ["tape", "many"] (spDigit K) := by
  refine F.ok scDigit (fun vs H Q E h => ?_) (fun cdv A outer s H vs Q E hr h => ?_)
  · obtain ⟨a, b, c, ns, rfl, _⟩ := h
    rfl
  · obtain ⟨t, sc, many, ns, rfl, ⟨⟨p, v, ht, hp, hv⟩, hScr⟩, hm, hm2, q⟩ := h
    have hS := hScr.sq
    refine ⟨_, pss_cut (ps_if (pt_cmpR op_lt (pe_ix ix_list (pv 0) pe_int (fun _ _ => rfl)) (pv 1) (nomark _))
        (pss_cons (ps_set (i := 2) scDigit.nd rfl (.inl rfl) (pe_ix ix_list (pv 0) pe_int (fun _ _ => rfl)))
        (pss_cons (ps_set (i := 3) scDigit.nd rfl (.inl rfl) (pv 2))
        (pss_cut (ps_if (pt_cmpR op_lt (pv 2) (pe_callB call_len_seq (by rfl) ml PySem.boot_len (pa_cons (pe_ix ix_list (pv 0) pe_int (fun _ _ => rfl)) pa_nil)) (nomark _))
            (pss_one (ps_set (i := 3) scDigit.nd rfl (.inl rfl) (pe_ix ix_list (pe_ix ix_list (pv 0) pe_int (fun _ _ => rfl)) (pv 2) (fun _ _ => rfl))))
            (pss_one (ps_if (pt_cmpR (op_neD hr.units) (pe_ix ix_list (pv 0) pe_int (fun _ _ => rfl)) (pe_lst pa_nil) (nomark _))
              (pss_one (ps_set (i := 3) scDigit.nd rfl (.inl rfl) (pe_op op_add (pe_op op_mod (pe_ix ix_list (pe_ix ix_list (pv 0) pe_int (fun _ _ => rfl)) (pe_op op_mod (pe_op op_mul (pv 2) pe_int) (pe_callB call_len_seq (by rfl) ml PySem.boot_len (pa_cons (pe_ix ix_list (pv 0) pe_int (fun _ _ => rfl)) pa_nil))) (fun _ _ => rfl)) (pe_op op_pow pe_int pe_int)) (pe_op op_mul (pv 2) pe_int)))) pss_nil)))
        (pss_cons (ps_asg (pe_op op_add (pv 2) pe_int) (pg_sub (pv 0) pe_int set_list))
        (pss_one (ps_asg (pe_call GS hr (by rfl) gS kS bS .nil pass0 (pa_cons (pv 3) (pa_cons (pv 2) pa_nil))) (pg_sub (pv 0) pe_int set_list))))))) pss_nil)
      (pss_cons (ps_set (i := 4) scDigit.nd rfl (.inl rfl) (pe_op op_mod (pe_ix ix_list (pv 0) pe_int (fun _ _ => rfl)) (pv 1)))
      (pss_cons (ps_asg (pe_op op_fdivW (pe_ix ix_list (pv 0) pe_int (fun _ _ => rfl)) (pv 1)) (pg_sub (pv 0) pe_int set_list))
      (pss_one (ps_ret (pv 4))))), ?_⟩
    refine ⟨fun σ' H' => ∃ y2 y3 y4 p' v', σ' = [some (.ref t), some (.int many), y2, y3, y4] ∧ Kt t H H' ∧ H' t = some (.lst [.ref sc, .int p', .int v']) ∧ 0 ≤ p' ∧ 0 ≤ v', ?_, ?_⟩
    · refine ⟨.ref t, rfl, t, _, 2, .int v, rfl, rfl, .inl (.inl ht), atI_nat (j := 2) rfl, .int many, rfl, v, many, rfl, rfl, _, rfl, ite2 (fun e => ?_) (fun e => ?_)⟩
      · refine ⟨.ref t, rfl, t, _, 1, .int p, rfl, rfl, .inl (.inl ht), atI_nat (j := 1) rfl, .int p, rfl, ?_⟩
        refine ⟨fun σ' H' => ∃ c : Int, σ' = [some (.ref t), some (.int many), some (.int p), some (.int c), none] ∧ K0 H H', ?_, ?_⟩
        · refine ⟨.int p, rfl, .ref t, rfl, t, _, 0, .ref sc, rfl, rfl, .inl (.inl ht), atI_nat (j := 0) rfl, sc, _, rfl, .inl hS, p, _, rfl, rfl, _, rfl, ite2 (fun e2 => ?_) (fun e2 => ?_)⟩
          · have hlt : p < ((ns.map V.int).length : Int) := of_decide_eq_true e2
            rw [List.length_map] at hlt
            obtain ⟨j, rfl⟩ := Int.eq_ofNat_of_zero_le hp
            have hj : j < ns.length := by omega
            refine ⟨.ref t, rfl, t, _, 0, .ref sc, rfl, rfl, .inl (.inl ht), atI_nat (j := 0) rfl, _, rfl, sc, _, _, .int ns[j], rfl, rfl, hS, atI_nat (by rw [List.getElem?_map, List.getElem?_eq_getElem hj]; rfl), ?_⟩
            exact ⟨_, rfl, K0.refl _⟩
          · refine ⟨.ref t, rfl, t, _, 0, .ref sc, rfl, rfl, .inl (.inl ht), atI_nat (j := 0) rfl, Nat.zero_le _, fun pn np => ?_⟩
            have kn : K0 H (upd H pn (.lst [])) := K0.new np
            have ht' := kn.oth t _ ht (fun _ z => by cases z)
            refine ⟨_, _, .lst (kn.sqL hS) (dpInts ns), .lst (.inl (.inl upd_same)) .nil, canLay_ints ns, canLay_ints [], _, rfl, ?_⟩
            rw [show PyData.eqv (.list (ns.map PyData.int)) (.list ([] : List PyData)) = ns.isEmpty from eqv_nil ns]
            refine ite2 (fun e3 => ?_) (fun e3 => ⟨p, rfl, kn⟩)
            · have hl : 0 < (ns.length : Int) := by
                cases ns with
                | nil => cases e3
                | cons n0 nr => rw [List.length_cons]; omega
              have hl' : 0 < ((ns.map V.int).length : Int) := by rw [List.length_map]; exact hl
              have hix : ∃ k : Nat, p * 7 % ((ns.map V.int).length : Int) = (k : Int) ∧ k < ns.length := by
                have h1 := Int.emod_nonneg (p * 7) (show ((ns.map V.int).length : Int) ≠ 0 by omega)
                have h2 := Int.emod_lt_of_pos (p * 7) hl'
                obtain ⟨k, hk⟩ := Int.eq_ofNat_of_zero_le h1
                rw [List.length_map] at h2
                refine ⟨k, hk, ?_⟩
                rw [List.length_map] at hk
                omega
              obtain ⟨k, hk, hkl⟩ := hix
              refine ⟨.ref t, rfl, t, _, 0, .ref sc, rfl, rfl, .inl (.inl ht'), atI_nat (j := 0) rfl, .int p, rfl, p, 7, rfl, rfl, mulR (by decide) (by decide), .ref t, rfl, t, _, 0, .ref sc, rfl, rfl, .inl (.inl ht'), atI_nat (j := 0) rfl, sc, _, rfl, .inl (kn.sqL hS), _, _, rfl, rfl, hl',
                sc, _, _, .int ns[k], rfl, rfl, kn.sqL hS, (by rw [hk]; exact atI_nat (by rw [List.getElem?_map, List.getElem?_eq_getElem hkl]; rfl)), 10, 6, rfl, rfl, ⟨by decide, by decide, by decide⟩, _, _, rfl, rfl, (show (0 : Int) < 10 ^ (6 : Int).toNat by decide), .int p, rfl, p, 1000003, rfl, rfl, mulR (by decide) (by decide), _, _, rfl, rfl, ?_⟩
              exact ⟨_, rfl, kn⟩
        · rintro σ' H' ⟨c, rfl, k⟩
          have ht' := k.oth t _ ht (fun _ z => by cases z)
          refine ⟨.int p, rfl, p, 1, rfl, rfl, .ref t, rfl, t, _, 1, 1, rfl, rfl, ht', rfl, ?_⟩
          refine ⟨.int c, rfl, .int p, rfl, c, p, rfl, hp, fun v' hv' => ?_⟩
          refine ⟨.ref t, rfl, t, _, 2, 2, rfl, rfl, upd_same, rfl, ?_⟩
          rw [upd_upd]
          have kk : Kt t H (upd H' t (.lst [.ref sc, .int (p + 1), .int v'])) := (k.kt).trans (Kt.set ht')
          exact ⟨_, _, _, p + 1, v', rfl, kk, upd_same, by omega, hv'⟩
      · exact ⟨_, _, _, p, v, rfl, Kt.refl _ _, ht, hp, hv⟩
    · rintro σ' H' ⟨y2, y3, y4, p', v', rfl, k, ht', hp', hv'⟩
      refine ⟨.ref t, rfl, t, _, 2, .int v', rfl, rfl, .inl (.inl ht'), atI_nat (j := 2) rfl, .int many, rfl, v', many, rfl, rfl, hm, ?_⟩
      refine ⟨.ref t, rfl, t, _, 2, .int v', rfl, rfl, .inl (.inl ht'), atI_nat (j := 2) rfl, .int many, rfl, v', many, rfl, rfl, ?_, .ref t, rfl, t, _, 2, 2, rfl, rfl, ht', rfl, ?_⟩
      · exact wide_div (b := 70) hm (by omega) (by decide) (by decide)
      · refine ⟨_, rfl, q _ _ (Int.emod_nonneg _ (by omega)) (Int.emod_lt_of_pos _ hm) (k.trans (Kt.set ht')) ?_⟩
        exact ⟨⟨p', v' / many, upd_same, hp', Int.ediv_nonneg hv' (by omega)⟩, hScr.kt (k.trans (Kt.set ht'))⟩
end
end HK

set_option Elab.async false
set_option linter.all false
set_option maxRecDepth 100000
set_option maxHeartbeats 2000000
namespace HK
open PySem PySem.Spec PyProof.Rows L2 GAl GxR
section
variable {X : Cx}
/-- tuple(xs) of a list: the new object is known -/
theorem call_tuple_fz : CallR X (.type "tuple") (fun xs H Q => ∃ p ys, xs = [.ref p] ∧ SqL X.K H p ys ∧ ∀ l o, H l = none → o.cls = .type "tuple" → o.dict = none → Q (.ref l) (upd H l (.frz o (.tup ys)))) := by
  intro pins s σ H xs us Q I r h
  obtain ⟨p, ys, rfl, hq, q⟩ := h
  obtain ⟨u, rfl, rx⟩ := vals1 r
  cases rx
  obtain ⟨its, r', pl, hz⟩ := I.list hq
  have hlen := r'.length
  refine call_tuple_list pl.isList (fun h' kp => ?_) (by simp only [List.size_toArray] <;> omega)
  have I1 : Inv X pins σ H { s with heap := h' } := I.kept (t' := s.toks) kp
  have hget : (h'.push { cls := .type "tuple", data := .seq its.toArray }).get? h'.objs.size = some { cls := .type "tuple", data := .seq its.toArray } := Heap.get?_push_size _ rfl
  have I2 : Inv X pins σ (upd H h'.objs.size (.frz { cls := .type "tuple", data := .seq its.toArray } (.tup ys))) { s with heap := h'.push { cls := .type "tuple", data := .seq its.toArray } } :=
    I1.laid (t' := s.toks) (fun b o e => Heap.get?_push_of_some _ e) (Nat.le_refl _) (show ObjOk X.prog X.w _ _ _ (.frz _ (.tup ys)) from ⟨hget, hz, its, r', IsTup.new _ _⟩)
  exact ⟨.ref h'.objs.size, _, I2, rfl, q _ _ (I1.hok.fresh (Nat.le_refl _)) rfl rfl⟩
/-- a method of a built-in type, of an object that is known -/
def tBMF (T : String) (r : V → List V → Hp → VK → Prop) (to : TE) (t : TA) : TE := fun σ H Q => to σ H fun x H1 => (∃ a ob u, x = .ref a ∧ H1 a = some (.frz ob u) ∧ ob.cls = .type T ∧ ob.dict = none) ∧ t σ H1 fun xs H2 => r x xs H2 Q
theorem pe_bmF {o e : Expr} {es : List Expr} {to : TE} {t : TA} {name : Str} {apos cpos : Pos} {T id : String} {r : V → List V → Hp → VK → Prop}
    (pa : PlainAttrs T) (slot : Slot T name id) (hty : typeOf (.builtin id) = pure (.type "method_descriptor")) (hm : MtR X id r) (ho : PE X o to) (ha : PA X (e :: es) t)
    (hbase : attributeBase o name X.env (eval o X.env) = eval o X.env := by rfl)
    (hfew : ((backTo cpos (starEach (e :: es) X.env)).all (fun x => !x.1) && (backToKw cpos (keywordEach [] X.env)).all (fun x => x.1.isSome)
      && decide ((e :: es).length + ([] : List Keyword).length + (if ([] : List Keyword).isEmpty then 0 else 1) < 30)) = true := by rfl)
    (hline : (apos.endLine == cpos.line) = true := by rfl) (hs : starEach (e :: es) X.env = (false, eval e X.env) :: starEach es X.env := by rfl) (hplain : (backTo cpos (starEach es X.env)).any (·.1) = false := by rfl) :
    PE X (.Call (.Attribute o name apos) (e :: es) [] cpos) (tBMF T r to t) := by
  refine ⟨fun pins s σ H Q I h => ?_⟩
  refine wpAny_Call_method_late hbase hfew hline rfl (thn (ho.run pins s σ H _ I h) fun v s1 ⟨x, H1, I1, r1, ⟨a, ob, u, ex, hob, hc, hd⟩, q1⟩ => ?_)
  subst ex
  have hget := (show ObjOk X.prog X.w H1 s1.heap a (.frz ob u) from I1.hok a _ hob).1
  have ev : v = .ref a := r1
  refine ⟨T, id, pa, slot, hty, by rw [ev]; exact ⟨ob, hget, hc⟩, fun b e2 => ?_, ?_⟩
  · rw [ev] at e2
    cases e2
    exact ⟨ob, hget, hd⟩
  have hA := ha.run cpos pins s1 σ H1 _ I1 q1
  rw [hs] at hA ⊢
  refine Calls.callWith_builtin (by show (false || (backTo cpos (starEach es X.env)).any (·.1)) = false; rw [hplain] <;> rfl) (Calls.evalArgs_plain ?_)
  exact thn hA fun us s2 ⟨vs, H2, I2, r2, q2⟩ => hm pins s2 σ H2 (.ref a) vs v us Q I2 r1 r2 q2
end
end HK

set_option Elab.async false
set_option linter.all false
set_option maxRecDepth 100000
set_option maxHeartbeats 2000000
namespace HK
open PySem PySem.Spec PyProof.Rows L2 GAl GxR
open Evl (pss_cut)
abbrev sNet : Stmt := topS 58
theorem scNet : FnScope ["tape", "most", "n", "often", "roads", "i", "j", "pay", "late"] ["tape", "most"] (defScope sNet) := ⟨rfl, rfl, rfl, by decide +kernel, rfl, by decide +kernel, by decide +kernel⟩
structure R4 where
  s : Int
  e : Int
  c : Int
  l : Int
def R4.vs (r : R4) : List V := [.int r.s, .int r.e, .int r.c, .int r.l]
def R4.d (r : R4) : PyData := .tuple [.int r.s, .int r.e, .int r.c, .int r.l]
structure RoadOk (n : Int) (r : R4) : Prop where
  s0 : 0 ≤ r.s
  s1 : r.s < n
  e0 : 0 ≤ r.e
  e1 : r.e < n
  ne : r.s ≠ r.e
  c0 : 0 ≤ r.c
  c1 : r.c ≤ 1000
  l0 : 1 ≤ r.l
  l1 : r.l ≤ 1000
def R4.lt (a b : R4) : Prop := a.s < b.s ∨ (a.s = b.s ∧ a.e < b.e)
structure Good (n : Int) (rs : List R4) : Prop where
  n1 : 1 ≤ n
  n2 : n ≤ 12
  ok : ∀ r ∈ rs, RoadOk n r
  up : rs.Pairwise R4.lt
/-- the roads' tuples -/
def Roads (K : PySem.W.Frag) (H : Hp) (xs : List V) (rs : List R4) : Prop := DpAll K H xs (rs.map R4.d)
theorem dp_r4 {K : PySem.W.Frag} {H : Hp} {x : V} {r : R4} (h : Dp K H x r.d) : ∃ a, x = .ref a ∧ SqT K H a r.vs := dp_ints4 h
theorem r4_dp {K : PySem.W.Frag} {H : Hp} {a : Addr} {r : R4} (h : SqT K H a r.vs) : Dp K H (.ref a) r.d := .tup h (.cons (.int _) (.cons (.int _) (.cons (.int _) (.cons (.int _) .nil))))
theorem Kt.roads {K : PySem.W.Frag} {t : Addr} {H H' : Hp} (k : Kt t H H') : ∀ {xs : List V} {rs : List R4}, Roads K H xs rs → Roads K H' xs rs
  | _, [], .nil => .nil
  | _, r :: rs, .cons a b => .cons (by
      obtain ⟨p, rfl, h⟩ := dp_r4 (r := r) a
      exact r4_dp (r := r) (k.sqT h)) (Kt.roads k (rs := rs) b)
theorem dpAll_snoc {K : PySem.W.Frag} {H : Hp} : ∀ {xs : List V} {ds : List PyData} {x : V} {d : PyData}, DpAll K H xs ds → Dp K H x d → DpAll K H (xs ++ [x]) (ds ++ [d])
  | _, _, _, _, .nil, h => .cons h .nil
  | _, _, _, _, .cons a b, h => .cons a (dpAll_snoc b h)
theorem Roads.snoc {K : PySem.W.Frag} {H : Hp} {xs : List V} {rs : List R4} {a : Addr} {r : R4} (h : Roads K H xs rs) (s : SqT K H a r.vs) : Roads K H (xs ++ [.ref a]) (rs ++ [r]) := by
  unfold Roads
  rw [List.map_append]
  exact dpAll_snoc h (r4_dp s)
theorem Roads.len {K : PySem.W.Frag} {H : Hp} {xs : List V} {rs : List R4} (h : Roads K H xs rs) : xs.length = rs.length := by
  have := dpAll_len h
  rw [List.length_map] at this
  exact this
theorem Kt.mut {t : Addr} {H H' : Hp} {p : Addr} {o : HO} (k : Kt t H H') (n : H p = none) : Kt t H (upd H' p o) := ⟨fun b u e => by
  rw [upd_ne (ne_of_none e n)]; exact k.tup b u e, fun b o u e => by
  rw [upd_ne (ne_of_none e n)]; exact k.frz b o u e, fun b u e m m' => by
  rw [upd_ne (ne_of_none e n)]; exact k.oth b u e m m', fun P h => by
  obtain ⟨ps, e, ht⟩ := h
  obtain ⟨ps', e', ht'⟩ := k.tab P ⟨ps, e, ht⟩
  exact ⟨ps', by rw [upd_ne (ne_of_none e n)]; exact e', ht'⟩, fun b e => k.dom b (upd_none e)⟩
theorem Tape.k0 {K : PySem.W.Frag} {H H' : Hp} {t s : Addr} {ns : List Int} (h : Tape K H t s ns) (k : K0 H H') : Tape K H' t s ns := by
  obtain ⟨⟨p, v, e, r⟩, q⟩ := h
  exact ⟨⟨p, v, k.oth t _ e (fun _ z => by cases z), r⟩, q.kt k.kt⟩
theorem Tape.ne {K : PySem.W.Frag} {H : Hp} {t s b : Addr} {ns : List Int} (h : Tape K H t s ns) (n : H b = none) : b ≠ t := fun z => by
  obtain ⟨_, _, e, _⟩ := h.v
  rw [z, e] at n; cases n
/-- a list of the law's own, at b, is written -/
theorem Tape.mut {K : PySem.W.Frag} {H H' : Hp} {t s b : Addr} {ns : List Int} {o : HO} (h : Tape K H' t s ns) (h0 : Scr K t H s ns) (k : Kt t H H') (n : H b = none) (nb : b ≠ t) : Tape K (upd H' b o) t s ns := by
  obtain ⟨⟨p, v, e, r⟩, q⟩ := h
  exact ⟨⟨p, v, by rw [upd_ne nb.symm]; exact e, r⟩, h0.kt (k.mut n)⟩
theorem pick8 {x d : Int} (h0 : 0 ≤ d) (h1 : d < 8) (hx : 0 ≤ x ∧ x ≤ 1000) : ∃ y : Int, atI [V.int 0, .int 1, .int 1, .int 2, .int 3, .int 7, .int 1000, .int x] d = some (.int y) ∧ 0 ≤ y ∧ y ≤ 1000 := by
  obtain ⟨k, rfl⟩ := Int.eq_ofNat_of_zero_le h0
  match k, h1 with
  | 0, _ => exact ⟨0, atI_nat rfl, by omega, by omega⟩
  | 1, _ => exact ⟨1, atI_nat rfl, by omega, by omega⟩
  | 2, _ => exact ⟨1, atI_nat rfl, by omega, by omega⟩
  | 3, _ => exact ⟨2, atI_nat rfl, by omega, by omega⟩
  | 4, _ => exact ⟨3, atI_nat rfl, by omega, by omega⟩
  | 5, _ => exact ⟨7, atI_nat rfl, by omega, by omega⟩
  | 6, _ => exact ⟨1000, atI_nat rfl, by omega, by omega⟩
  | 7, _ => exact ⟨x, atI_nat rfl, hx⟩
  | k + 8, h => exact absurd h (by omega)
theorem pick7 {x d : Int} (h0 : 0 ≤ d) (h1 : d < 7) (hx : 1 ≤ x ∧ x ≤ 1000) : ∃ y : Int, atI [V.int 1, .int 1, .int 2, .int 3, .int 5, .int 1000, .int x] d = some (.int y) ∧ 1 ≤ y ∧ y ≤ 1000 := by
  obtain ⟨k, rfl⟩ := Int.eq_ofNat_of_zero_le h0
  match k, h1 with
  | 0, _ => exact ⟨1, atI_nat rfl, by omega, by omega⟩
  | 1, _ => exact ⟨1, atI_nat rfl, by omega, by omega⟩
  | 2, _ => exact ⟨2, atI_nat rfl, by omega, by omega⟩
  | 3, _ => exact ⟨3, atI_nat rfl, by omega, by omega⟩
  | 4, _ => exact ⟨5, atI_nat rfl, by omega, by omega⟩
  | 5, _ => exact ⟨1000, atI_nat rfl, by omega, by omega⟩
  | 6, _ => exact ⟨x, atI_nat rfl, hx⟩
  | k + 7, h => exact absurd h (by omega)

section
variable {P : Program} {w : World} {K : PySem.W.Frag} {mg : Str → Option Value} {base : Heap}
/-- what the law's net is -/
def NetAt (K : PySem.W.Frag) (H : Hp) (a : Addr) (n : Int) (rs : List R4) : Prop := ∃ (r : Addr) (xs : List V) (_ : Unit), SqT K H a [.int n, .ref r] ∧ SqT K H r xs ∧ True ∧ True ∧ Roads K H xs rs
theorem NetAt.kt {t : Addr} {H H' : Hp} {a : Addr} {n : Int} {rs : List R4} (h : NetAt K H a n rs) (k : Kt t H H') : NetAt K H' a n rs := by
  obtain ⟨r, xs, o, h1, h2, hc, hd, h3⟩ := h
  exact ⟨r, xs, o, k.sqT h1, k.sqT h2, hc, hd, k.roads h3⟩
def spNet (K : PySem.W.Frag) : Sp := fun vs H Q _ => ∃ (t sc : Addr) (most : Int) (ns : List Int), vs = [.ref t, .int most] ∧ Tape K H t sc ns ∧ 1 ≤ most ∧ most ≤ 12 ∧
  ∀ (a : Addr) (n : Int) (rs : List R4) (H' : Hp), Kt t H H' → Tape K H' t sc ns → NetAt K H' a n rs → n ≤ most → Good n rs → rs.length ≤ 156 → Q (.ref a) H'
/-- between the turns -/
structure NI (K : PySem.W.Frag) (H : Hp) (t sc ra : Addr) (ns : List Int) (n : Int) (i j : Nat) (H3 : Hp) : Prop where
  kt : Kt t H H3
  tp : Tape K H3 t sc ns
  ex : ∃ xs rs, H3 ra = some (.lst xs) ∧ Roads K H3 xs rs ∧ Good n rs ∧ (∀ r ∈ rs, r.s < i ∨ (r.s = i ∧ r.e < j)) ∧ rs.length ≤ 12 * i + j
theorem ok_net {f fD : Addr} {fd fdD : FuncData} (F : Fun K "_law_b_net" "_law_b_net" sNet f fd) (kD : PySem.W.keepIn K (.ref fD) = true) (bD : Binds K fdD ["tape", "many"] []) (gD : mg "_law_b_digit" = some (.ref fD))
    (GD : FnOk P w K mg base CX0 2 fD fdD ["tape", "many"] (spDigit K)) (mr : mg "range" = none) (mT : mg "tuple" = none) : FnOk P w K mg base CX0 3 f fd ["tape", "most"] (spNet K) := by
  refine F.ok scNet (fun vs H Q E h => ?_) (fun cdv A outer s H vs Q E hr h => ?_)
  · obtain ⟨a, b, c, ns, rfl, _⟩ := h
    rfl
  · obtain ⟨t, sc, most, ns, rfl, htp, hm1, hm2, q⟩ := h
    refine ⟨_, pss_cons (ps_set (i := 2) scNet.nd rfl (.inl rfl) (pe_op op_add pe_int (pe_call GD hr (by rfl) gD kD bD .nil pass0 (pa_cons (pv 0) (pa_cons (pv 1) pa_nil)))))
      (pss_cons (ps_set (i := 3) scNet.nd rfl (.inl rfl) (pe_op op_add pe_int (pe_call GD hr (by rfl) gD kD bD .nil pass0 (pa_cons (pv 0) (pa_cons pe_int pa_nil)))))
      (pss_cons (ps_set (i := 4) scNet.nd rfl (.inl rfl) (pe_lst pa_nil))
      (pss_cons (ps_for PassesOwn.never rfl (pi_range1 (by rfl) mr (pa_cons (pv 2) pa_nil)) (pg_name (i := 5) scNet.nd rfl (.inl rfl))
        (pss_one (ps_for PassesOwn.never rfl (pi_range1 (by rfl) mr (pa_cons (pv 2) pa_nil)) (pg_name (i := 6) scNet.nd rfl (.inl rfl))
          (pss_one (ps_if (PW.pt (pw_and (pt_cmpR op_ne (pv 5) (pv 6) (nomark _)) (pw_and1 (pt_cmpR op_lt (pe_call GD hr (by rfl) gD kD bD .nil pass0 (pa_cons (pv 0) (pa_cons pe_int pa_nil))) (pv 3) (nomark _)))))
            (pss_cons (ps_set (i := 7) scNet.nd rfl (.inl rfl) (pe_ix ix_list (pe_lst (pa_cons pe_int (pa_cons pe_int (pa_cons pe_int (pa_cons pe_int (pa_cons pe_int (pa_cons pe_int (pa_cons pe_int (pa_cons (pe_call GD hr (by rfl) gD kD bD .nil pass0 (pa_cons (pv 0) (pa_cons pe_int pa_nil))) pa_nil)))))))))
                (pe_call GD hr (by rfl) gD kD bD .nil pass0 (pa_cons (pv 0) (pa_cons pe_int pa_nil))) (fun _ _ => rfl)))
            (pss_cons (ps_set (i := 8) scNet.nd rfl (.inl rfl) (pe_ix ix_list (pe_lst (pa_cons pe_int (pa_cons pe_int (pa_cons pe_int (pa_cons pe_int (pa_cons pe_int (pa_cons pe_int (pa_cons (pe_op op_add pe_int (pe_call GD hr (by rfl) gD kD bD .nil pass0 (pa_cons (pv 0) (pa_cons pe_int pa_nil)))) pa_nil))))))))
                (pe_call GD hr (by rfl) gD kD bD .nil pass0 (pa_cons (pv 0) (pa_cons pe_int pa_nil))) (fun _ _ => rfl)))
            (pss_one (ps_expr (pe_bm PySem.F.plainAttrs_list PySem.F.slot_list_append PySem.F.type_list_append mt_append (pv 4) (pa_cons (pe_tup (pa_cons (pv 5) (pa_cons (pv 6) (pa_cons (pv 7) (pa_cons (pv 8) pa_nil))))) pa_nil)))))) pss_nil)))))
      (pss_one (ps_ret (pe_tup (pa_cons (pv 2) (pa_cons (pe_callTy call_tuple_fz (by rfl) mT (by decide +kernel) (pa_cons (pv 4) pa_nil)) pa_nil)))))))), ?_⟩
    -- n
    refine ⟨.ref t, rfl, .int most, rfl, t, sc, most, ns, rfl, htp, by omega, by omega, fun d1 H1 hd1 hd1' k1 tp1 => ⟨1, d1, rfl, rfl, ?_⟩⟩
    -- often
    refine ⟨.ref t, rfl, t, sc, 6, ns, rfl, tp1, by omega, by omega, fun d2 H2 hd2 hd2' k2 tp2 => ⟨1, d2, rfl, rfl, ?_⟩⟩
    -- roads = []
    refine ⟨Nat.zero_le _, fun ra nra => ?_⟩
    have k12 : Kt t H H2 := k1.trans k2
    have nHra : H ra = none := k12.dom _ nra
    have hn1 : 1 ≤ 1 + d1 := by omega
    have hn2 : 1 + d1 ≤ 12 := by omega
    have hra : ra ≠ t := tp2.ne nra
    have stepI : ∀ {H3 H4 : Hp} {i j : Nat}, NI K H t sc ra ns (1 + d1) i j H3 → Kt t H3 H4 → Tape K H4 t sc ns → NI K H t sc ra ns (1 + d1) i j H4 := fun {H3 H4 i j} h k tp => by
      obtain ⟨xs, rs, e1, e2, e3⟩ := h.ex
      exact ⟨h.kt.trans k, tp, xs, rs, k.oth ra _ e1 hra (fun _ z => by cases z), k.roads e2, e3⟩
    have step0 : ∀ {H3 H4 : Hp} {i j : Nat}, NI K H t sc ra ns (1 + d1) i j H3 → K0 H3 H4 → NI K H t sc ra ns (1 + d1) i j H4 := fun {H3 H4 i j} h k => stepI h k.kt (h.tp.k0 k)
    refine ⟨.int (1 + d1), rfl, 1 + d1, rfl, by omega, by omega, for_range (lo := 0) (n := (1 + d1).toNat) (fun i σ' H' => ∃ y5 y6 y7 y8, σ' = [some (.ref t), some (.int most), some (.int (1 + d1)), some (.int (1 + d2)), some (.ref ra), y5, y6, y7, y8] ∧ NI K H t sc ra ns (1 + d1) i 0 H')
      ⟨none, none, none, none, rfl, ?_⟩ (fun i σ' H' hi h => ?_) (fun σ' H' h => ?_)⟩
    · exact ⟨k12.mut nHra, tp2.k0 (K0.new nra), [], [], upd_same, .nil, ⟨hn1, hn2, fun r hr => (by cases hr), .nil⟩, fun r hr => (by cases hr), by simp⟩
    · obtain ⟨y5, y6, y7, y8, rfl, hI⟩ := h
      refine ⟨.int (1 + d1), rfl, 1 + d1, rfl, by omega, by omega, for_range (lo := 0) (n := (1 + d1).toNat) (fun j σ' H' => ∃ y6 y7 y8, σ' = [some (.ref t), some (.int most), some (.int (1 + d1)), some (.int (1 + d2)), some (.ref ra), some (.int (0 + (i : Int))), y6, y7, y8] ∧ NI K H t sc ra ns (1 + d1) i j H')
        ⟨y6, y7, y8, rfl, hI⟩ (fun j σ' H' hj h => ?_) (fun σ' H' h => ?_)⟩
      · obtain ⟨y6, y7, y8, rfl, hI⟩ := h
        have next : ∀ {H4 : Hp}, NI K H t sc ra ns (1 + d1) i j H4 → NI K H t sc ra ns (1 + d1) i (j + 1) H4 := fun {H4} h => by
          obtain ⟨xs, rs, e1, e2, e3, e4, e5⟩ := h.ex
          exact ⟨h.kt, h.tp, xs, rs, e1, e2, e3, fun r hr => by
            rcases e4 r hr with z | ⟨z, z2⟩
            · exact .inl z
            · exact .inr ⟨z, by omega⟩, by omega⟩
        refine ⟨_, rfl, _, rfl, rfl, _, rfl, ite2 (fun e => ?_) (fun e => iteF ⟨_, y7, y8, rfl, next hI⟩)⟩
        have hij : (i : Int) ≠ j := by
          have e : (!decide (V.int (0 + (i : Int)) = V.int (0 + (j : Int)))) = true := e
          simp only [Bool.not_eq_true', decide_eq_false_iff_not] at e
          intro z
          exact e (by rw [z])
        refine ⟨.ref t, rfl, t, sc, 8, ns, rfl, hI.tp, by omega, by omega, fun d3 H3 hd3 hd3' k3 tp3 => ⟨_, rfl, d3, _, rfl, rfl, _, rfl, ite2 (fun e2 => ?_) (fun e2 => ⟨_, y7, y8, rfl, next (stepI hI k3 tp3)⟩)⟩⟩
        have I3 := stepI hI k3 tp3
        -- pay
        refine ⟨.ref t, rfl, t, sc, 1001, ns, rfl, tp3, by omega, by omega, fun d4 H4 hd4 hd4' k4 tp4 => ⟨by show 8 ≤ sizeLine; decide, fun pl npl => ?_⟩⟩
        have I4 := step0 (stepI I3 k4 tp4) (K0.new (o := .lst [.int 0, .int 1, .int 1, .int 2, .int 3, .int 7, .int 1000, .int d4]) npl)
        have npt := tp4.ne npl
        refine ⟨.ref t, rfl, t, sc, 8, ns, rfl, I4.tp, by omega, by omega, fun d5 H5 hd5 hd5' k5 tp5 => ?_⟩
        have I5 := stepI I4 k5 tp5
        obtain ⟨pay, hpay, p0, p1⟩ := pick8 (x := d4) hd5 hd5' ⟨hd4, by omega⟩
        refine ⟨pl, _, d5, .int pay, rfl, rfl, .inl (.inl (k5.oth pl _ upd_same npt (fun _ z => by cases z))), hpay, ?_⟩
        -- late
        refine ⟨.ref t, rfl, t, sc, 1000, ns, rfl, tp5, by omega, by omega, fun d6 H6 hd6 hd6' k6 tp6 => ⟨1, d6, rfl, rfl, by show 7 ≤ sizeLine; decide, fun ql nql => ?_⟩⟩
        have I6 := step0 (stepI I5 k6 tp6) (K0.new (o := .lst [.int 1, .int 1, .int 2, .int 3, .int 5, .int 1000, .int (1 + d6)]) nql)
        have nqt := tp6.ne nql
        refine ⟨.ref t, rfl, t, sc, 7, ns, rfl, I6.tp, by omega, by omega, fun d7 H7 hd7 hd7' k7 tp7 => ?_⟩
        have I7 := stepI I6 k7 tp7
        obtain ⟨late, hlate, l0, l1⟩ := pick7 (x := 1 + d6) hd7 hd7' ⟨by omega, by omega⟩
        refine ⟨ql, _, d7, .int late, rfl, rfl, .inl (.inl (k7.oth ql _ upd_same nqt (fun _ z => by cases z))), hlate, ?_⟩
        -- roads.append((i, j, pay, late))
        obtain ⟨xs, rs, e1, e2', e3, e4, e5⟩ := I7.ex
        refine ⟨.ref ra, rfl, .inl ⟨rfl, _, .inl (.inl e1)⟩, _, rfl, _, rfl, _, rfl, _, rfl, by show 4 ≤ sizeLine; decide, fun tp ntp => ?_⟩
        have kT : K0 H7 (upd H7 tp (.tup [.int (0 + (i : Int)), .int (0 + (j : Int)), .int pay, .int late])) := K0.new ntp
        have e1' := kT.oth ra _ e1 (fun _ z => by cases z)
        have hlen : xs.length ≤ 200 := by
          rw [e2'.len]
          omega
        refine ⟨ra, _, _, rfl, rfl, e1', Nat.lt_of_le_of_lt hlen (by decide), _, _, _, rfl, ?_⟩
        have kA := (I7.kt.trans kT.kt).mut (o := .lst (xs ++ [.ref tp])) nHra
        refine ⟨kA, (I7.tp.k0 kT).mut htp.scr (I7.kt.trans kT.kt) nHra hra, xs ++ [.ref tp], rs ++ [⟨0 + (i : Int), 0 + (j : Int), pay, late⟩], upd_same, ?_, ⟨hn1, hn2, fun r hr => ?_, ?_⟩, fun r hr => ?_, ?_⟩
        · exact Roads.snoc (r := ⟨0 + (i : Int), 0 + (j : Int), pay, late⟩) ((Kt.set e1').roads (kT.kt (t := t) |>.roads e2')) ((Kt.set e1').sqT (.inl (.inl upd_same)))
        · rcases List.mem_append.mp hr with z | z
          · exact e3.ok r z
          · have z := List.mem_singleton.mp z
            subst z
            exact ⟨by show 0 ≤ 0 + (i : Int); omega, by show 0 + (i : Int) < 1 + d1; omega, by show 0 ≤ 0 + (j : Int); omega, by show 0 + (j : Int) < 1 + d1; omega, by show 0 + (i : Int) ≠ 0 + (j : Int); omega, p0, p1, l0, l1⟩
        · rw [List.pairwise_append]
          refine ⟨e3.up, List.pairwise_singleton _ _, fun a ha b hb => ?_⟩
          have z := List.mem_singleton.mp hb
          subst z
          rcases e4 a ha with z | ⟨z, z2⟩
          · exact .inl (by show a.s < 0 + (i : Int); omega)
          · exact .inr ⟨by show a.s = 0 + (i : Int); omega, by show a.e < 0 + (j : Int); omega⟩
        · rcases List.mem_append.mp hr with z | z
          · rcases e4 r z with z | ⟨z, z2⟩
            · exact .inl z
            · exact .inr ⟨z, by omega⟩
          · have z := List.mem_singleton.mp z
            subst z
            exact .inr ⟨by show 0 + (i : Int) = i; omega, by show 0 + (j : Int) < _; omega⟩
        · rw [List.length_append, List.length_singleton]; omega
      · obtain ⟨y6, y7, y8, rfl, hI⟩ := h
        obtain ⟨xs, rs, e1, e2, e3, e4, e5⟩ := hI.ex
        refine ⟨_, _, _, _, rfl, hI.kt, hI.tp, xs, rs, e1, e2, e3, fun r hr => ?_, by omega⟩
        have hro := e3.ok r hr
        rcases e4 r hr with z | ⟨z, z2⟩
        · exact .inl (by omega)
        · exact .inl (by omega)
    · obtain ⟨y5, y6, y7, y8, rfl, hI⟩ := h
      obtain ⟨xs, rs, e1, e2, e3, e4, e5⟩ := hI.ex
      refine ⟨_, rfl, .ref ra, rfl, ra, xs, rfl, .inl (.inl e1), fun tl ob ntl hoc hod => ?_⟩
      have kT : K0 H' (upd H' tl (.frz ob (.tup xs))) := K0.new ntl
      refine ⟨by show 2 ≤ sizeLine; decide, fun tn ntn => ?_⟩
      have kN : K0 (upd H' tl (.frz ob (.tup xs))) (upd (upd H' tl (.frz ob (.tup xs))) tn (.tup [.int (1 + d1), .ref tl])) := K0.new ntn
      have kk := kT.trans kN
      refine q tn (1 + d1) rs _ (hI.kt.trans kk.kt) (hI.tp.k0 kk) ⟨tl, xs, (), .inl (.inl upd_same), kN.sqT (.inl (.inr ⟨ob, upd_same⟩)), trivial, trivial, kk.kt (t := t) |>.roads e2⟩ (by omega) e3 (by omega)
end
end HK

set_option Elab.async false
set_option linter.all false
set_option maxRecDepth 100000
set_option maxHeartbeats 2000000
namespace HK
open PySem PySem.Spec PyProof.Rows L2 GAl GxR
mutual
/-- data whose lists are tracked, apart from the tape -/
inductive Dq (K : PySem.W.Frag) (T : Addr → Prop) (H : Hp) : V → PyData → Prop
  | non : Dq K T H .non .none
  | bl (b : Bool) : Dq K T H (.bl b) (.bool b)
  | int (i : Int) : Dq K T H (.int i) (.int i)
  | str (x : Str) : Dq K T H (.str x) (.str x)
  | lst {a : Addr} {xs : List V} {ds : List PyData} : H a = some (.lst xs) → ¬ T a → DqAll K T H xs ds → Dq K T H (.ref a) (.list ds)
  | tup {a : Addr} {xs : List V} {ds : List PyData} : SqT K H a xs → DqAll K T H xs ds → Dq K T H (.ref a) (.tuple ds)
inductive DqAll (K : PySem.W.Frag) (T : Addr → Prop) (H : Hp) : List V → List PyData → Prop
  | nil : DqAll K T H [] []
  | cons {v : V} {vs : List V} {d : PyData} {ds : List PyData} : Dq K T H v d → DqAll K T H vs ds → DqAll K T H (v :: vs) (d :: ds)
end
mutual
theorem Dq.dp {K : PySem.W.Frag} {T : Addr → Prop} {H : Hp} : ∀ (d : PyData) (v : V), Dq K T H v d → Dp K H v d
  | .none, _, h => by cases h; exact .non
  | .bool _, _, h => by cases h; exact .bl _
  | .int _, _, h => by cases h; exact .int _
  | .str _, _, h => by cases h; exact .str _
  | .list ds, _, h => by cases h with | lst a _ b => exact .lst (.inl (.inl a)) (DqAll.dp ds _ b)
  | .tuple ds, _, h => by cases h with | tup a b => exact .tup a (DqAll.dp ds _ b)
  | .dict _, _, h => by cases h
theorem DqAll.dp {K : PySem.W.Frag} {T : Addr → Prop} {H : Hp} : ∀ (ds : List PyData) (vs : List V), DqAll K T H vs ds → DpAll K H vs ds
  | [], _, h => by cases h; exact .nil
  | d :: ds, _, h => by cases h with | cons a b => exact .cons (Dq.dp d _ a) (DqAll.dp ds _ b)
end
mutual
theorem Dq.kt {K : PySem.W.Frag} {T : Addr → Prop} {t : Addr} {H H' : Hp} (hT : T t) (k : Kt t H H') : ∀ (d : PyData) (v : V), Dq K T H v d → Dq K T H' v d
  | .none, _, h => by cases h; exact .non
  | .bool _, _, h => by cases h; exact .bl _
  | .int _, _, h => by cases h; exact .int _
  | .str _, _, h => by cases h; exact .str _
  | .list ds, _, h => by cases h with | lst a n b => exact .lst (k.oth _ _ a (fun z => n (z ▸ hT)) (fun _ z => by cases z)) n (DqAll.kt hT k ds _ b)
  | .tuple ds, _, h => by cases h with | tup a b => exact .tup (k.sqT a) (DqAll.kt hT k ds _ b)
  | .dict _, _, h => by cases h
theorem DqAll.kt {K : PySem.W.Frag} {T : Addr → Prop} {t : Addr} {H H' : Hp} (hT : T t) (k : Kt t H H') : ∀ (ds : List PyData) (vs : List V), DqAll K T H vs ds → DqAll K T H' vs ds
  | [], _, h => by cases h; exact .nil
  | d :: ds, _, h => by cases h with | cons a b => exact .cons (Dq.kt hT k d _ a) (DqAll.kt hT k ds _ b)
end
theorem DqAll.len {K : PySem.W.Frag} {T : Addr → Prop} {H : Hp} : ∀ {vs : List V} {ds : List PyData}, DqAll K T H vs ds → vs.length = ds.length
  | _, _, .nil => rfl
  | _, _, .cons _ b => by rw [List.length_cons, List.length_cons, b.len]
theorem DqAll.app {K : PySem.W.Frag} {T : Addr → Prop} {H : Hp} : ∀ {vs ws : List V} {ds es : List PyData}, DqAll K T H vs ds → DqAll K T H ws es → DqAll K T H (vs ++ ws) (ds ++ es)
  | _, _, _, _, .nil, h => h
  | _, _, _, _, .cons a b, h => .cons a (b.app h)
theorem DqAll.take {K : PySem.W.Frag} {T : Addr → Prop} {H : Hp} : ∀ {vs : List V} {ds : List PyData} (k : Nat), DqAll K T H vs ds → DqAll K T H (vs.take k) (ds.take k)
  | _, _, 0, _ => .nil
  | _, _, _ + 1, .nil => .nil
  | _, _, k + 1, .cons a b => .cons a (b.take k)
theorem DqAll.drop {K : PySem.W.Frag} {T : Addr → Prop} {H : Hp} : ∀ {vs : List V} {ds : List PyData} (k : Nat), DqAll K T H vs ds → DqAll K T H (vs.drop k) (ds.drop k)
  | _, _, 0, h => h
  | _, _, _ + 1, .nil => .nil
  | _, _, k + 1, .cons _ b => b.drop k
theorem DqAll.get {K : PySem.W.Frag} {T : Addr → Prop} {H : Hp} : ∀ {vs : List V} {ds : List PyData} {i : Nat} {x : V}, DqAll K T H vs ds → vs[i]? = some x → ∃ d, ds[i]? = some d ∧ Dq K T H x d
  | _, _, _, _, .nil, e => by simp at e
  | _, _, 0, _, .cons h _, e => by simp at e; subst e; exact ⟨_, rfl, h⟩
  | _, _, i + 1, x, .cons _ b, e => by
    obtain ⟨d, h1, h2⟩ := DqAll.get (i := i) (x := x) b (by simpa using e)
    exact ⟨d, by simpa using h1, h2⟩
theorem DqAll.rev {K : PySem.W.Frag} {T : Addr → Prop} {H : Hp} : ∀ {vs : List V} {ds : List PyData}, DqAll K T H vs ds → DqAll K T H vs.reverse ds.reverse
  | _, _, .nil => .nil
  | _, _, .cons a b => by
    rw [List.reverse_cons, List.reverse_cons]
    exact b.rev.app (.cons a .nil)
theorem roads_dq {K : PySem.W.Frag} {T : Addr → Prop} {H : Hp} : ∀ {xs : List V} {rs : List R4}, Roads K H xs rs → DqAll K T H xs (rs.map R4.d)
  | _, [], .nil => .nil
  | _, r :: rs, .cons a b => .cons (by
      obtain ⟨p, rfl, h⟩ := dp_r4 (r := r) a
      exact .tup h (.cons (.int _) (.cons (.int _) (.cons (.int _) (.cons (.int _) .nil))))) (roads_dq (rs := rs) b)

/-- what stays, the tape a tape -/
structure Kp (K : PySem.W.Frag) (t sc : Addr) (ns : List Int) (H H' : Hp) : Prop where
  kt : Kt t H H'
  tp : Tape K H t sc ns → Tape K H' t sc ns
theorem Kp.refl {K : PySem.W.Frag} {t sc : Addr} {ns : List Int} (H : Hp) : Kp K t sc ns H H := ⟨Kt.refl _ _, fun h => h⟩
theorem Kp.trans {K : PySem.W.Frag} {t sc : Addr} {ns : List Int} {H H1 H2 : Hp} (a : Kp K t sc ns H H1) (b : Kp K t sc ns H1 H2) : Kp K t sc ns H H2 := ⟨a.kt.trans b.kt, fun h => b.tp (a.tp h)⟩
theorem K0.kp {K : PySem.W.Frag} {t sc : Addr} {ns : List Int} {H H' : Hp} (k : K0 H H') : Kp K t sc ns H H' := ⟨k.kt, fun h => h.k0 k⟩

section
variable {K : PySem.W.Frag} {T : Addr → Prop} {t sc : Addr} {ns : List Int} {H0 : Hp} {σ : L2.St}
/-- an expression makes data of which P holds -/
def Mk (K : PySem.W.Frag) (T : Addr → Prop) (t sc : Addr) (ns : List Int) (H0 : Hp) (σ : L2.St) (te : TE) (P : PyData → Prop) : Prop := T t → (∀ b, T b → H0 b ≠ none) → ∀ H, Kp K t sc ns H0 H → ∀ Q : VK, (∀ v H' d, Kp K t sc ns H H' → P d → Dq K T H' v d → Q v H') → te σ H Q
def MkL (K : PySem.W.Frag) (T : Addr → Prop) (t sc : Addr) (ns : List Int) (H0 : Hp) (σ : L2.St) (ta : TA) (P : List PyData → Prop) : Prop := T t → (∀ b, T b → H0 b ≠ none) → ∀ H, Kp K t sc ns H0 H → ∀ Q : List V → Hp → Prop, (∀ vs H' ds, Kp K t sc ns H H' → P ds → DqAll K T H' vs ds → Q vs H') → ta σ H Q
def MkI (K : PySem.W.Frag) (T : Addr → Prop) (t sc : Addr) (ns : List Int) (H0 : Hp) (σ : L2.St) (te : TE) (i : Int) : Prop := Mk K T t sc ns H0 σ te (· = .int i)
theorem Mk.imp {te : TE} {P P' : PyData → Prop} (h : Mk K T t sc ns H0 σ te P) (i : ∀ d, P d → P' d) : Mk K T t sc ns H0 σ te P' := fun hTt hdm H k Q q => h hTt hdm H k Q fun v H' d k' p dq => q v H' d k' (i d p) dq
theorem mk_int {i : Int} : Mk K T t sc ns H0 σ (tC (.int i)) (· = .int i) := fun _ _ H _ _ q => q _ H _ (Kp.refl H) rfl (.int i)
theorem mk_bl {b : Bool} : Mk K T t sc ns H0 σ (tC (.bl b)) (· = .bool b) := fun _ _ H _ _ q => q _ H _ (Kp.refl H) rfl (.bl b)
theorem mk_non : Mk K T t sc ns H0 σ (tC .non) (· = .none) := fun _ _ H _ _ q => q _ H _ (Kp.refl H) rfl .non
theorem mk_str {x : Str} : Mk K T t sc ns H0 σ (tC (.str x)) (· = .str x) := fun _ _ H _ _ q => q _ H _ (Kp.refl H) rfl (.str x)
theorem mk_var {i : Nat} {v : V} {d : PyData} (e : σ[i]? = some (some v)) (h : Dq K T H0 v d) : Mk K T t sc ns H0 σ (tVar i) (· = d) := fun hTt hdm H k _ q => ⟨v, e, q v H d (Kp.refl H) rfl (Dq.kt hTt k.kt d v h)⟩
theorem mk_add {ta tb : TE} {i j : Int} (ha : Mk K T t sc ns H0 σ ta (· = .int i)) (hb : Mk K T t sc ns H0 σ tb (· = .int j)) : Mk K T t sc ns H0 σ (tOp (rI0 fun i j => .int (i + j)) ta tb) (· = .int (i + j)) := fun hTt hdm H k Q q => ha hTt hdm H k _ fun v H1 d k1 e dq => by
  subst e; cases dq
  exact hb hTt hdm H1 (k.trans k1) _ fun v H2 d k2 e dq => by
    subst e; cases dq
    exact ⟨i, j, rfl, rfl, q _ H2 _ (k1.trans k2) rfl (.int _)⟩
theorem mk_sub {ta tb : TE} {i j : Int} (ha : Mk K T t sc ns H0 σ ta (· = .int i)) (hb : Mk K T t sc ns H0 σ tb (· = .int j)) : Mk K T t sc ns H0 σ (tOp (rI0 fun i j => .int (i - j)) ta tb) (· = .int (i - j)) := fun hTt hdm H k Q q => ha hTt hdm H k _ fun v H1 d k1 e dq => by
  subst e; cases dq
  exact hb hTt hdm H1 (k.trans k1) _ fun v H2 d k2 e dq => by
    subst e; cases dq
    exact ⟨i, j, rfl, rfl, q _ H2 _ (k1.trans k2) rfl (.int _)⟩
theorem mk_neg {ta : TE} {i : Int} (ha : Mk K T t sc ns H0 σ ta (· = .int i)) : Mk K T t sc ns H0 σ (tUn (rU fun i => .int (-i)) ta) (· = .int (-i)) := fun hTt hdm H k Q q => ha hTt hdm H k _ fun v H1 d k1 e dq => by
  subst e; cases dq
  exact ⟨i, rfl, q _ H1 _ k1 rfl (.int _)⟩
theorem mkl_nil : MkL K T t sc ns H0 σ tNil (· = []) := fun _ _ H _ _ q => q [] H [] (Kp.refl H) rfl .nil
theorem mkl_cons {te : TE} {ta : TA} {d : PyData} {ds : List PyData} (h : Mk K T t sc ns H0 σ te (· = d)) (hr : MkL K T t sc ns H0 σ ta (· = ds)) : MkL K T t sc ns H0 σ (tCons te ta) (· = d :: ds) := fun hTt hdm H k Q q => h hTt hdm H k _ fun v H1 d1 k1 e dq => hr hTt hdm H1 (k.trans k1) _ fun vs H2 es k2 e2 dqs => by
  subst e e2
  exact q _ H2 _ (k1.trans k2) rfl (.cons (Dq.kt hTt k2.kt _ _ dq) dqs)
theorem mkl_consP {te : TE} {ta : TA} {P : PyData → Prop} {ds : List PyData} (h : Mk K T t sc ns H0 σ te P) (hr : MkL K T t sc ns H0 σ ta (· = ds)) : MkL K T t sc ns H0 σ (tCons te ta) (fun l => ∃ d, P d ∧ l = d :: ds) := fun hTt hdm H k Q q => h hTt hdm H k _ fun v H1 d1 k1 e dq => hr hTt hdm H1 (k.trans k1) _ fun vs H2 es k2 e2 dqs => by
  subst e2
  exact q _ H2 _ (k1.trans k2) ⟨d1, e, rfl⟩ (.cons (Dq.kt hTt k2.kt _ _ dq) dqs)
theorem mk_tup {ta : TA} {P : List PyData → Prop} (h : MkL K T t sc ns H0 σ ta P) (hl : ∀ ds, P ds → ds.length ≤ 1000) : Mk K T t sc ns H0 σ (tTup ta) (fun d => ∃ ds, P ds ∧ d = .tuple ds) := fun hTt hdm H k Q q => h hTt hdm H k _ fun vs H1 ds k1 p dqs => by
  refine ⟨by rw [dqs.len]; exact Nat.le_of_lt (small1000 (hl ds p)), fun a na => ?_⟩
  have kn : K0 H1 (upd H1 a (.tup vs)) := K0.new na
  exact q _ _ _ (k1.trans kn.kp) ⟨ds, p, rfl⟩ (.tup (.inl (.inl upd_same)) (DqAll.kt hTt kn.kt _ _ dqs))
theorem mk_tupE {ta : TA} {ds : List PyData} (h : MkL K T t sc ns H0 σ ta (· = ds)) (hl : ds.length ≤ 1000 := by decide) : Mk K T t sc ns H0 σ (tTup ta) (· = .tuple ds) := (mk_tup h fun es e => by rw [e]; exact hl).imp fun d ⟨es, e, e2⟩ => by rw [e2, e]
theorem mk_lst {ta : TA} {P : List PyData → Prop} (h : MkL K T t sc ns H0 σ ta P) (hl : ∀ ds, P ds → ds.length ≤ 1000) : Mk K T t sc ns H0 σ (tLst ta) (fun d => ∃ ds, P ds ∧ d = .list ds) := fun hTt hdm H k Q q => h hTt hdm H k _ fun vs H1 ds k1 p dqs => by
  refine ⟨by rw [dqs.len]; exact Nat.le_of_lt (small1000 (hl ds p)), fun a na => ?_⟩
  have kn : K0 H1 (upd H1 a (.lst vs)) := K0.new na
  exact q _ _ _ (k1.trans kn.kp) ⟨ds, p, rfl⟩ (.lst upd_same (fun z => hdm _ z ((k.trans k1).kt.dom _ na)) (DqAll.kt hTt kn.kt _ _ dqs))
theorem mk_lstE {ta : TA} {ds : List PyData} (h : MkL K T t sc ns H0 σ ta (· = ds)) (hl : ds.length ≤ 1000 := by decide) : Mk K T t sc ns H0 σ (tLst ta) (· = .list ds) := (mk_lst h fun es e => by rw [e]; exact hl).imp fun d ⟨es, e, e2⟩ => by rw [e2, e]
/-- xs + ys, two lists -/
theorem mk_catL {ta tb : TE} {ds es : List PyData} (ha : Mk K T t sc ns H0 σ ta (· = .list ds)) (hb : Mk K T t sc ns H0 σ tb (· = .list es)) (hl : ds.length + es.length ≤ 1000 := by decide) : Mk K T t sc ns H0 σ (tOp rCat ta tb) (· = .list (ds ++ es)) := fun hTt hdm H k Q q => ha hTt hdm H k _ fun v H1 d k1 e dq => by
  subst e
  exact hb hTt hdm H1 (k.trans k1) _ fun v2 H2 d k2 e dq2 => by
    subst e
    have dq' := Dq.kt hTt k2.kt _ _ dq
    cases dq' with
    | @lst a xs _ h1 n1 a1 => cases dq2 with
      | @lst b ys _ h2 n2 a2 =>
        refine ⟨_, _, _, _, rfl, rfl, h1, h2, ?_, fun p np => ?_⟩
        · rw [a1.len, a2.len]; exact Nat.le_of_lt (small1000 hl)
        · have kn : K0 H2 (upd H2 p (.lst (xs ++ ys))) := K0.new np
          exact q _ _ _ ((k1.trans k2).trans kn.kp) rfl (.lst upd_same (fun z => hdm _ z (((k.trans k1).trans k2).kt.dom _ np)) (DqAll.kt hTt kn.kt _ _ (a1.app a2)))
/-- t + u, two tuples -/
theorem mk_catT {ta tb : TE} {P1 P2 : List PyData → Prop} (ha : Mk K T t sc ns H0 σ ta (fun d => ∃ ds, P1 ds ∧ d = .tuple ds)) (hb : Mk K T t sc ns H0 σ tb (fun d => ∃ ds, P2 ds ∧ d = .tuple ds)) (hl : ∀ ds es, P1 ds → P2 es → ds.length + es.length ≤ 1000) :
    Mk K T t sc ns H0 σ (tOp (rCatA K) ta tb) (fun d => ∃ ds, (∃ d1 d2, P1 d1 ∧ P2 d2 ∧ ds = d1 ++ d2) ∧ d = .tuple ds) := fun hTt hdm H k Q q => ha hTt hdm H k _ fun v H1 d k1 e dq => by
  obtain ⟨ds, p1, rfl⟩ := e
  exact hb hTt hdm H1 (k.trans k1) _ fun v2 H2 d k2 e dq2 => by
    obtain ⟨es, p2, rfl⟩ := e
    have dq' := Dq.kt hTt k2.kt _ _ dq
    cases dq' with
    | @tup a xs _ h1 a1 => cases dq2 with
      | @tup b ys _ h2 a2 =>
        refine ⟨_, _, _, _, rfl, rfl, h1, h2, ?_, fun e => ?_, fun e1 e2 => ?_, fun _ _ p np => ?_⟩
        · rw [a1.len, a2.len]; exact Nat.le_of_lt (small1000 (hl _ _ p1 p2))
        · subst e
          cases a1
          exact q _ _ _ (k1.trans k2) ⟨es, ⟨[], es, p1, p2, rfl⟩, rfl⟩ (.tup h2 a2)
        · subst e2
          cases a2
          exact q _ _ _ (k1.trans k2) ⟨ds, ⟨ds, [], p1, p2, by simp⟩, rfl⟩ (.tup h1 a1)
        · have kn : K0 H2 (upd H2 p (.tup (xs ++ ys))) := K0.new np
          exact q _ _ _ ((k1.trans k2).trans kn.kp) ⟨_, ⟨ds, es, p1, p2, rfl⟩, rfl⟩ (.tup (.inl (.inl upd_same)) (DqAll.kt hTt kn.kt _ _ (a1.app a2)))
def cutD (ds : List PyData) (lo hi : Option Int) : List PyData := (ds.drop (HT.sIx ds.length 0 lo)).take (HT.sIx ds.length ds.length hi - HT.sIx ds.length 0 lo)
def MkO (K : PySem.W.Frag) (T : Addr → Prop) (t sc : Addr) (ns : List Int) (H0 : Hp) (σ : L2.St) (to : TO) (o : Option Int) : Prop := T t → (∀ b, T b → H0 b ≠ none) → ∀ H, Kp K t sc ns H0 H → ∀ Q : Option Int → Hp → Prop, (∀ H', Kp K t sc ns H H' → Q o H') → to σ H Q
theorem mko_none : MkO K T t sc ns H0 σ tNoPart none := fun _ _ H _ _ q => q H (Kp.refl H)
theorem mko_some {te : TE} {i : Int} (h : Mk K T t sc ns H0 σ te (· = .int i)) : MkO K T t sc ns H0 σ (tPart te) (some i) := fun hTt hdm H k _ q => h hTt hdm H k _ fun v H1 d k1 e dq => by
  subst e; cases dq
  exact ⟨i, rfl, q H1 k1⟩
theorem mk_sl {te : TE} {tl th : TO} {lo hi : Option Int} {ds : List PyData} (h : Mk K T t sc ns H0 σ te (· = .tuple ds)) (h1 : MkO K T t sc ns H0 σ tl lo) (h2 : MkO K T t sc ns H0 σ th hi) : Mk K T t sc ns H0 σ (tSl (rSlA K) te tl th) (· = .tuple (cutD ds lo hi)) := fun hTt hdm H k Q q => h hTt hdm H k _ fun v H1 d k1 e dq => by
  subst e
  exact h1 hTt hdm H1 (k.trans k1) _ fun H2 k2 => h2 hTt hdm H2 ((k.trans k1).trans k2) _ fun H3 k3 => by
    have dq' := Dq.kt hTt (k2.trans k3).kt _ _ dq
    cases dq' with
    | @tup a xs _ hq hall =>
      refine ⟨_, _, rfl, hq, fun hw => ?_, fun hw p np => ?_⟩
      · have : cutD ds lo hi = ds := by
          unfold cutD
          rw [← hall.len, hw.1, hw.2, List.drop_zero, Nat.sub_zero]
          exact List.take_of_length_le (by rw [hall.len]; exact Nat.le_refl _)
        rw [this] at q
        exact q _ H3 _ ((k1.trans k2).trans k3) rfl (.tup hq hall)
      · have kn : K0 H3 (upd H3 p (.tup (cutV xs lo hi))) := K0.new np
        refine q _ _ _ (((k1.trans k2).trans k3).trans kn.kp) rfl (.tup (.inl (.inl upd_same)) (DqAll.kt hTt kn.kt _ _ ?_))
        unfold cutV cutD
        rw [hall.len]
        exact (hall.drop _).take _
/-- t[i], a tuple at a written place -/
theorem mk_ixT {te ti : TE} {ds : List PyData} {j : Nat} {d : PyData} (h : Mk K T t sc ns H0 σ te (· = .tuple ds)) (hi : Mk K T t sc ns H0 σ ti (· = .int j)) (hd : ds[j]? = some d) : Mk K T t sc ns H0 σ (tOp (rIxT K) te ti) (· = d) := fun hTt hdm H k Q q => h hTt hdm H k _ fun v H1 d1 k1 e dq => by
  subst e
  exact hi hTt hdm H1 (k.trans k1) _ fun v2 H2 d2 k2 e dq2 => by
    subst e; cases dq2
    have dq' := Dq.kt hTt k2.kt _ _ dq
    cases dq' with
    | @tup a xs _ hq hall =>
      have hl : j < xs.length := by rw [hall.len]; exact (List.getElem?_eq_some_iff.mp hd).1
      obtain ⟨d', e1, e2⟩ := hall.get (List.getElem?_eq_getElem hl)
      rw [hd] at e1; cases e1
      exact ⟨_, _, _, _, rfl, rfl, hq, atI_nat (List.getElem?_eq_getElem hl), q _ H2 _ (k1.trans k2) rfl e2⟩
end
end HK

set_option Elab.async false
set_option linter.all false
set_option maxRecDepth 100000
set_option maxHeartbeats 2000000
namespace HK
open PySem PySem.Spec PyProof.Rows L2 GAl GxR
open Evl (pss_cut)
section
variable {P : Program} {w : World} {K : PySem.W.Frag} {mg : Str → Option Value} {base : Heap}
def spSome (K : PySem.W.Frag) : Sp := fun vs H Q _ => ∃ (t sc r : Addr) (ns : List Int) (xs : List V), vs = [.ref t, .ref r] ∧ Tape K H t sc ns ∧ (SqT K H r xs ∨ (H r = some (.lst xs) ∧ r ≠ t)) ∧ 0 < xs.length ∧ xs.length ≤ 100000 ∧
  ∀ (j : Nat) (x : V) (H' : Hp), xs[j]? = some x → Kp K t sc ns H H' → Q x H'
theorem ok_some {f fD : Addr} {fd fdD : FuncData} (F : Fun K "_law_b_some" "_law_b_some" sSome f fd) (kD : PySem.W.keepIn K (.ref fD) = true) (bD : Binds K fdD ["tape", "many"] []) (gD : mg "_law_b_digit" = some (.ref fD))
    (GD : FnOk P w K mg base CX0 2 fD fdD ["tape", "many"] (spDigit K)) (ml : mg "len" = none) : FnOk P w K mg base CX0 3 f fd ["tape", "row"] (spSome K) := by
  refine F.ok scSome (fun vs H Q E h => ?_) (fun cdv A outer s H vs Q E hr h => ?_)
  · obtain ⟨a, b, c, d, e, rfl, _⟩ := h
    rfl
  · obtain ⟨t, sc, r, ns, xs, rfl, htp, hx, h0, h1, q⟩ := h
    refine ⟨_, pss_one (ps_ret (pe_ix ix_seq (pv 1) (pe_call GD hr (by rfl) gD kD bD .nil pass0 (pa_cons (pv 0) (pa_cons (pe_callB call_len_seq (by rfl) ml PySem.boot_len (pa_cons (pv 1) pa_nil)) pa_nil))) (fun _ _ => rfl))), ?_⟩
    refine ⟨.ref r, rfl, .ref t, rfl, .ref r, rfl, r, xs, rfl, hx.elim .inr (fun z => .inl (.inl (.inl z.1))), t, sc, _, ns, rfl, htp, by omega, by omega, fun d H' d0 d1 k tp => ?_⟩
    obtain ⟨j, rfl⟩ := Int.eq_ofNat_of_zero_le d0
    have hj : j < xs.length := by omega
    rcases hx with hx | ⟨hx, hn⟩
    · exact .inr (.inl ⟨r, xs, _, _, rfl, rfl, k.sqT hx, atI_nat (List.getElem?_eq_getElem hj), q j _ H' (List.getElem?_eq_getElem hj) ⟨k, fun _ => tp⟩⟩)
    · exact .inl ⟨r, xs, _, _, rfl, rfl, .inl (.inl (k.oth _ _ hx hn (fun _ z => by cases z))), atI_nat (List.getElem?_eq_getElem hj), q j _ H' (List.getElem?_eq_getElem hj) ⟨k, fun _ => tp⟩⟩

end
end HK

set_option Elab.async false
set_option linter.all false
set_option maxHeartbeats 2000000
namespace HK
/-! ### the mathematics: going through the roads as often as there are places -/
abbrev IF := Int → Option Int
def put (f : IF) (i x : Int) : IF := fun j => if j = i then some x else f j
def Le (g f : IF) : Prop := ∀ v a, f v = some a → ∃ b, g v = some b ∧ b ≤ a
theorem Le.refl (f : IF) : Le f f := fun v a h => ⟨a, h, Int.le_refl _⟩
theorem Le.trans {f g h : IF} (a : Le f g) (b : Le g h) : Le f h := fun v x e => by
  obtain ⟨y, e1, l1⟩ := b v x e
  obtain ⟨z, e2, l2⟩ := a v y e1
  exact ⟨z, e2, by omega⟩
def rlx (src g : IF) (r : R4) : IF := match src r.s with
  | none => g
  | some a => match g r.e with
    | none => put g r.e (a + r.l)
    | some b => if a + r.l < b then put g r.e (a + r.l) else g
structure IInv (n : Int) (rs : List R4) (root : Int) (f : IF) : Prop where
  rt0 : f root = some 0
  rng : ∀ v a, f v = some a → 0 ≤ v ∧ v < n ∧ 0 ≤ a
  wt : ∀ v b, f v = some b → v = root ∨ ∃ r ∈ rs, r.e = v ∧ ∃ a, f r.s = some a ∧ a + r.l ≤ b
def Closed (rs : List R4) (f : IF) : Prop := ∀ r ∈ rs, ∀ a, f r.s = some a → ∃ b, f r.e = some b ∧ b ≤ a + r.l
section
variable {n root : Int} {rs : List R4}
theorem put_inv {g : IF} {r : R4} {x a' : Int} (I : IInv n rs root g) (hr : RoadOk n r) (hm : r ∈ rs) (ha : g r.s = some a') (hx : a' + r.l ≤ x) (hlt : ∀ b, g r.e = some b → x < b) : IInv n rs root (put g r.e x) ∧ Le (put g r.e x) g := by
  have h0 := (I.rng _ _ ha).2.2
  have hl := hr.l0
  have ne : r.e ≠ root := fun z => by
    have := hlt 0 (by rw [z]; exact I.rt0)
    omega
  have le : Le (put g r.e x) g := fun v b e => by
    by_cases hv : v = r.e
    · subst hv
      exact ⟨x, if_pos rfl, Int.le_of_lt (hlt b e)⟩
    · exact ⟨b, by unfold put; rw [if_neg hv]; exact e, Int.le_refl _⟩
  refine ⟨⟨?_, fun v b e => ?_, fun v b e => ?_⟩, le⟩
  · unfold put; rw [if_neg (fun z => ne z.symm)]; exact I.rt0
  · unfold put at e
    by_cases hv : v = r.e
    · rw [if_pos hv] at e
      cases e
      rw [hv]
      exact ⟨hr.e0, hr.e1, by omega⟩
    · rw [if_neg hv] at e
      exact I.rng v b e
  · by_cases hv : v = r.e
    · unfold put at e
      rw [if_pos hv] at e
      cases e
      exact .inr ⟨r, hm, hv.symm, a', by unfold put; rw [if_neg hr.ne]; exact ha, hx⟩
    · unfold put at e
      rw [if_neg hv] at e
      rcases I.wt v b e with h | ⟨r', h1, h2, a, h3, h4⟩
      · exact .inl h
      · obtain ⟨a2, h5, h6⟩ := le _ _ h3
        exact .inr ⟨r', h1, h2, a2, h5, by omega⟩
theorem rlx_inv {src g : IF} {r : R4} (I : IInv n rs root g) (hr : RoadOk n r) (hm : r ∈ rs) (hs : Le g src) :
    IInv n rs root (rlx src g r) ∧ Le (rlx src g r) g ∧ ∀ a, src r.s = some a → ∃ b, rlx src g r r.e = some b ∧ b ≤ a + r.l := by
  unfold rlx
  cases e : src r.s with
  | none => exact ⟨I, .refl _, fun a z => by cases z⟩
  | some a =>
    obtain ⟨a', e1, l1⟩ := hs _ _ e
    cases e2 : g r.e with
    | none =>
      obtain ⟨h1, h2⟩ := put_inv (x := a + r.l) I hr hm e1 (by omega) (fun b z => by rw [e2] at z; cases z)
      exact ⟨h1, h2, fun a2 z => by cases z; exact ⟨_, if_pos rfl, Int.le_refl _⟩⟩
    | some b =>
      by_cases hb : a + r.l < b
      · simp only [hb, if_true]
        obtain ⟨h1, h2⟩ := put_inv (x := a + r.l) I hr hm e1 (by omega) (fun b' z => by rw [e2] at z; cases z; exact hb)
        exact ⟨h1, h2, fun a2 z => by cases z; exact ⟨_, if_pos rfl, Int.le_refl _⟩⟩
      · simp only [hb, if_false]
        exact ⟨I, .refl _, fun a2 z => by cases z; exact ⟨b, e2, by omega⟩⟩
def rnd (S : IF → IF) (l : List R4) (g : IF) : IF := l.foldl (fun g r => rlx (S g) g r) g
theorem rnd_inv {S : IF → IF} {f : IF} (hS : ∀ g, Le g f → Le g (S g) ∧ Le (S g) f) : ∀ (l : List R4) (g : IF), (∀ r ∈ l, r ∈ rs ∧ RoadOk n r) → IInv n rs root g → Le g f →
    IInv n rs root (rnd S l g) ∧ Le (rnd S l g) g ∧ ∀ r ∈ l, ∀ a, f r.s = some a → ∃ b, rnd S l g r.e = some b ∧ b ≤ a + r.l
  | [], g, _, I, _ => ⟨I, .refl _, fun r h => by cases h⟩
  | r :: l, g, hl, I, hf => by
    obtain ⟨s1, s2⟩ := hS g hf
    obtain ⟨i1, i2, i3⟩ := rlx_inv I (hl r (List.mem_cons_self ..)).2 (hl r (List.mem_cons_self ..)).1 s1
    obtain ⟨j1, j2, j3⟩ := rnd_inv hS l (rlx (S g) g r) (fun q h => hl q (List.mem_cons_of_mem _ h)) i1 (i2.trans hf)
    refine ⟨j1, j2.trans i2, fun q hq a ha => ?_⟩
    rcases List.mem_cons.mp hq with rfl | hq
    · obtain ⟨a', e, le⟩ := s2 _ _ ha
      obtain ⟨b, e2, le2⟩ := i3 a' e
      obtain ⟨c, e3, le3⟩ := j2 _ _ e2
      exact ⟨c, e3, by omega⟩
    · exact j3 q hq a ha
def iter (F : IF → IF) : Nat → IF → IF
  | 0, f => f
  | k + 1, f => F (iter F k f)
theorem half {D f : IF} (hok : ∀ r ∈ rs, RoadOk n r) (c : Closed rs D) (d0 : D root = some 0) (I : IInv n rs root f) : Le D f := by
  have key : ∀ (N : Nat) (v b : Int), f v = some b → b.toNat < N → ∃ c, D v = some c ∧ c ≤ b := by
    intro N
    induction N with
    | zero => intro v b _ h; omega
    | succ N ih =>
      intro v b e hb
      have h0 := (I.rng v b e).2.2
      rcases I.wt v b e with rfl | ⟨r, hm, rfl, a, e2, le⟩
      · exact ⟨0, d0, h0⟩
      · have hl := (hok r hm).l0
        have ha := (I.rng _ _ e2).2.2
        obtain ⟨x, e3, l3⟩ := ih r.s a e2 (by omega)
        obtain ⟨y, e4, l4⟩ := c r hm x e3
        exact ⟨y, e4, by omega⟩
  exact fun v b e => key (b.toNat + 1) v b e (by omega)
theorem two_same {f g : IF} (hok : ∀ r ∈ rs, RoadOk n r) (cf : Closed rs f) (If : IInv n rs root f) (cg : Closed rs g) (Ig : IInv n rs root g) : f = g := by
  have h1 := half hok cf If.rt0 Ig
  have h2 := half hok cg Ig.rt0 If
  funext v
  cases e : f v with
  | none =>
    cases e2 : g v with
    | none => rfl
    | some b => obtain ⟨c, e3, _⟩ := h1 v b e2; rw [e] at e3; cases e3
  | some a =>
    obtain ⟨b, e2, l2⟩ := h2 v a e
    obtain ⟨c, e3, l3⟩ := h1 v b e2
    rw [e] at e3
    cases e3
    rw [e2]
    have : a = b := by omega
    rw [this]
theorem countP_lt {α : Type} {p q : α → Bool} : ∀ {l : List α}, (∀ x ∈ l, p x = true → q x = true) → (∃ x ∈ l, q x = true ∧ ¬ p x = true) → l.countP p < l.countP q
  | [], _, h => by obtain ⟨x, hx, _⟩ := h; cases hx
  | y :: l, h, hx => by
    have hm : l.countP p ≤ l.countP q := List.countP_mono_left (fun x hx => h x (List.mem_cons_of_mem _ hx))
    obtain ⟨x, hx, hq, hp⟩ := hx
    rw [List.countP_cons, List.countP_cons]
    rcases List.mem_cons.mp hx with rfl | hx
    · rw [if_pos hq, if_neg hp]; omega
    · have ih := countP_lt (fun x hx => h x (List.mem_cons_of_mem _ hx)) ⟨x, hx, hq, hp⟩
      have := h y (List.mem_cons_self ..)
      by_cases hy : p y = true
      · rw [if_pos hy, if_pos (this hy)]; omega
      · rw [if_neg hy]
        split <;> omega
variable {F : IF → IF} {f0 : IF}
def Turns (n : Int) (rs : List R4) (root : Int) (F : IF → IF) : Prop := ∀ f, IInv n rs root f → IInv n rs root (F f) ∧ Le (F f) f ∧ ∀ r ∈ rs, ∀ a, f r.s = some a → ∃ b, F f r.e = some b ∧ b ≤ a + r.l
theorem iter_inv (hF : Turns n rs root F) (I0 : IInv n rs root f0) : ∀ k, IInv n rs root (iter F k f0)
  | 0 => I0
  | k + 1 => (hF _ (iter_inv hF I0 k)).1
theorem iter_le (hF : Turns n rs root F) (I0 : IInv n rs root f0) (k : Nat) : ∀ j, Le (iter F (k + j) f0) (iter F k f0)
  | 0 => .refl _
  | j + 1 => ((hF _ (iter_inv hF I0 (k + j))).2.1).trans (iter_le hF I0 k j)
theorem stab (hF : Turns n rs root F) (I0 : IInv n rs root f0) (v : Int) : ∃ K, ∀ k, K ≤ k → iter F k f0 v = iter F K f0 v := by
  have key : ∀ (N k : Nat) (m : Int), iter F k f0 v = some m → m.toNat < N → ∃ K, ∀ k, K ≤ k → iter F k f0 v = iter F K f0 v := by
    intro N
    induction N with
    | zero => intro k m _ h; omega
    | succ N ih =>
      intro k m e hm
      by_cases hh : ∀ j, k ≤ j → iter F j f0 v = some m
      · exact ⟨k, fun j hj => by rw [hh j hj, e]⟩
      · have ⟨j, hj⟩ := Classical.not_forall.mp hh
        have ⟨hk, hj⟩ := Classical.not_imp.mp hj
        obtain ⟨d, rfl⟩ := Nat.exists_eq_add_of_le hk
        obtain ⟨b, e2, l2⟩ := iter_le hF I0 k d v m e
        have hb := ((iter_inv hF I0 (k + d)).rng _ _ e2).2.2
        have : b ≠ m := fun z => hj (by rw [e2, z])
        exact ih (k + d) b e2 (by omega)
  by_cases h : ∃ k m, iter F k f0 v = some m
  · obtain ⟨k, m, e⟩ := h
    exact key (m.toNat + 1) k m e (by omega)
  · have none : ∀ k, iter F k f0 v = none := fun k => by
      cases e : iter F k f0 v with
      | none => rfl
      | some m => exact absurd ⟨k, m, e⟩ h
    exact ⟨0, fun k _ => by rw [none k, none 0]⟩
theorem stab_all (hF : Turns n rs root F) (I0 : IInv n rs root f0) : ∀ N : Nat, ∃ K, ∀ (i : Nat), i < N → ∀ k, K ≤ k → iter F k f0 (i : Int) = iter F K f0 (i : Int)
  | 0 => ⟨0, fun i h => by omega⟩
  | N + 1 => by
    obtain ⟨K1, h1⟩ := stab_all hF I0 N
    obtain ⟨K2, h2⟩ := stab hF I0 (N : Int)
    refine ⟨max K1 K2, fun i hi k hk => ?_⟩
    have a1 : K1 ≤ max K1 K2 := Nat.le_max_left ..
    have a2 : K2 ≤ max K1 K2 := Nat.le_max_right ..
    by_cases hi' : i = N
    · subst hi'
      rw [h2 k (by omega), h2 _ a2]
    · rw [h1 i (by omega) k (by omega), h1 i (by omega) _ a1]
theorem limit (hF : Turns n rs root F) (I0 : IInv n rs root f0) : ∃ D, IInv n rs root D ∧ Closed rs D := by
  obtain ⟨K, h⟩ := stab_all hF I0 n.toNat
  have same : iter F (K + 1) f0 = iter F K f0 := by
    funext v
    by_cases hv : 0 ≤ v ∧ v < n
    · obtain ⟨i, rfl⟩ := Int.eq_ofNat_of_zero_le hv.1
      exact h i (by omega) (K + 1) (by omega)
    · have none : ∀ k, iter F k f0 v = none := fun k => by
        cases e : iter F k f0 v with
        | none => rfl
        | some m =>
          have := (iter_inv hF I0 k).rng _ _ e
          exact absurd ⟨this.1, this.2.1⟩ hv
      rw [none, none]
  refine ⟨_, iter_inv hF I0 K, fun r hr a ha => ?_⟩
  obtain ⟨b, e, l⟩ := (hF _ (iter_inv hF I0 K)).2.2 r hr a ha
  exact ⟨b, by rw [← same]; exact e, l⟩
theorem conv (hok : ∀ r ∈ rs, RoadOk n r) (hF : Turns n rs root F) (I0 : IInv n rs root f0) : Closed rs (iter F n.toNat f0) := by
  obtain ⟨D, ID, cD⟩ := limit hF I0
  have low : ∀ k, Le D (iter F k f0) := fun k => half hok cD ID.rt0 (iter_inv hF I0 k)
  have stay : ∀ k v b, D v = some b → iter F k f0 v = some b → iter F (k + 1) f0 v = some b := fun k v b hd e => by
    obtain ⟨c, e1, l1⟩ := (hF _ (iter_inv hF I0 k)).2.1 v b e
    obtain ⟨c', e2, l2⟩ := low (k + 1) v c e1
    rw [hd] at e2
    cases e2
    have : c = b := by omega
    rw [← this]; exact e1
  have prog : ∀ (k N : Nat) (v b : Int), D v = some b → b.toNat < N → iter F k f0 v ≠ some b → ∃ v' b', D v' = some b' ∧ iter F k f0 v' ≠ some b' ∧ iter F (k + 1) f0 v' = some b' := by
    intro k N
    induction N with
    | zero => intro v b _ h; omega
    | succ N ih =>
      intro v b hd hb hne
      rcases ID.wt v b hd with rfl | ⟨r, hm, rfl, a, e2, le⟩
      · rw [ID.rt0] at hd
        cases hd
        exact absurd (iter_inv hF I0 k).rt0 hne
      · have hl := (hok r hm).l0
        have ha := (ID.rng _ _ e2).2.2
        by_cases hs : iter F k f0 r.s = some a
        · obtain ⟨b', e3, l3⟩ := (hF _ (iter_inv hF I0 k)).2.2 r hm a hs
          obtain ⟨c, e4, l4⟩ := low (k + 1) r.e b' e3
          rw [hd] at e4
          cases e4
          have : b' = b := by omega
          exact ⟨r.e, b, hd, hne, by rw [← this]; exact e3⟩
        · exact ih r.s a e2 (by omega) hs
  let fin : Nat → Nat → Bool := fun k i => decide (iter F k f0 (i : Int) = D (i : Int)) && (D (i : Int)).isSome
  have hn : ∀ v b, D v = some b → ∃ i : Nat, v = (i : Int) ∧ i ∈ List.range n.toNat := fun v b e => by
    have := ID.rng v b e
    obtain ⟨i, rfl⟩ := Int.eq_ofNat_of_zero_le this.1
    exact ⟨i, rfl, List.mem_range.mpr (by omega)⟩
  have main : ∀ k, (∀ v b, D v = some b → iter F k f0 v = some b) ∨ k + 1 ≤ (List.range n.toNat).countP (fin k) := by
    intro k
    induction k with
    | zero =>
      obtain ⟨i, hi, hm⟩ := hn root 0 ID.rt0
      refine .inr (List.countP_pos_iff.mpr ⟨i, hm, ?_⟩)
      show (decide (f0 (i : Int) = D (i : Int)) && (D (i : Int)).isSome) = true
      rw [← hi, I0.rt0, ID.rt0]
      rfl
    | succ k ih =>
      rcases ih with h | h
      · exact .inl fun v b e => stay k v b e (h v b e)
      · by_cases all : ∀ v b, D v = some b → iter F k f0 v = some b
        · exact .inl fun v b e => stay k v b e (all v b e)
        · refine .inr (Nat.lt_of_le_of_lt h (countP_lt (fun i _ hi => ?_) ?_))
          · have hi' := Bool.and_eq_true_iff.mp hi
            have h1 := of_decide_eq_true hi'.1
            obtain ⟨b, e⟩ := Option.isSome_iff_exists.mp hi'.2
            have := stay k i b e (h1.trans e)
            exact Bool.and_eq_true_iff.mpr ⟨decide_eq_true (this.trans e.symm), hi'.2⟩
          · have ⟨v, hv⟩ := Classical.not_forall.mp all
            have ⟨b, hb⟩ := Classical.not_forall.mp hv
            have ⟨hd, hne⟩ := Classical.not_imp.mp hb
            obtain ⟨v', b', d', n', e'⟩ := prog k (b.toNat + 1) v b hd (by omega) hne
            obtain ⟨i, rfl, hm⟩ := hn v' b' d'
            refine ⟨i, hm, Bool.and_eq_true_iff.mpr ⟨decide_eq_true (e'.trans d'.symm), by rw [d']; rfl⟩, fun z => ?_⟩
            exact n' ((of_decide_eq_true (Bool.and_eq_true_iff.mp z).1).trans d')
  have fin' : ∀ v b, D v = some b → iter F n.toNat f0 v = some b := by
    rcases main n.toNat with h | h
    · exact h
    · have := List.countP_le_length (p := fin n.toNat) (l := List.range n.toNat)
      rw [List.length_range] at this
      omega
  have eq : iter F n.toNat f0 = D := by
    funext v
    cases e : D v with
    | some b => exact fin' v b e
    | none =>
      cases e2 : iter F n.toNat f0 v with
      | none => rfl
      | some b => obtain ⟨c, e3, _⟩ := low n.toNat v b e2; rw [e] at e3; cases e3
  rw [eq]; exact cD
/-- the two ways of going through -/
theorem turns_at (hok : ∀ r ∈ rs, RoadOk n r) : Turns n rs root (fun f => rnd id rs f) := fun f I => by
  obtain ⟨h1, h2, h3⟩ := rnd_inv (S := id) (f := f) (n := n) (rs := rs) (root := root) (fun g h => ⟨.refl _, h⟩) rs f (fun r h => ⟨h, hok r h⟩) I (.refl _)
  exact ⟨h1, h2, h3⟩
theorem turns_by (hok : ∀ r ∈ rs, RoadOk n r) : Turns n rs root (fun f => rnd (fun _ => f) rs f) := fun f I => by
  obtain ⟨h1, h2, h3⟩ := rnd_inv (S := fun _ => f) (f := f) (n := n) (rs := rs) (root := root) (fun g h => ⟨h, .refl _⟩) rs f (fun r h => ⟨h, hok r h⟩) I (.refl _)
  exact ⟨h1, h2, h3⟩
def ini (root : Int) : IF := put (fun _ => none) root 0
theorem ini_inv (h0 : 0 ≤ root) (h1 : root < n) : IInv n rs root (ini root) := by
  refine ⟨if_pos rfl, fun v a e => ?_, fun v b e => ?_⟩
  · unfold ini put at e
    by_cases hv : v = root
    · rw [if_pos hv] at e; cases e; subst hv; exact ⟨h0, h1, Int.le_refl _⟩
    · rw [if_neg hv] at e; cases e
  · unfold ini put at e
    by_cases hv : v = root
    · exact .inl hv
    · rw [if_neg hv] at e; cases e
end
/-- what is found -/
def due (n : Int) (rs : List R4) (root : Int) : IF := iter (fun f => rnd id rs f) n.toNat (ini root)
theorem due_inv {n root : Int} {rs : List R4} (hok : ∀ r ∈ rs, RoadOk n r) (h0 : 0 ≤ root) (h1 : root < n) : IInv n rs root (due n rs root) := iter_inv (turns_at hok) (ini_inv h0 h1) _
theorem due_closed {n root : Int} {rs : List R4} (hok : ∀ r ∈ rs, RoadOk n r) (h0 : 0 ≤ root) (h1 : root < n) : Closed rs (due n rs root) := conv hok (turns_at hok) (ini_inv h0 h1)
theorem due_by {n root : Int} {rs : List R4} (hok : ∀ r ∈ rs, RoadOk n r) (h0 : 0 ≤ root) (h1 : root < n) : iter (fun f => rnd (fun _ => f) rs f) n.toNat (ini root) = due n rs root :=
  two_same hok (conv hok (turns_by hok) (ini_inv h0 h1)) (iter_inv (turns_by hok) (ini_inv h0 h1) _) (due_closed hok h0 h1) (due_inv hok h0 h1)
end HK

set_option Elab.async false
set_option linter.all false
set_option maxRecDepth 100000
set_option maxHeartbeats 2000000
namespace HK
open PySem PySem.Spec PyProof.Rows L2 GAl GxR
/-! ### a dict of whole numbers by whole numbers -/
structure DI (kvs : List (Key × V)) (f : IF) : Prop where
  nd : (kvs.map (·.1)).Nodup
  ks : ∀ p ∈ kvs, ∃ i x : Int, p = (Sum.inl i, V.int x)
  val : ∀ i : Int, valV kvs (Sum.inl i) = (f i).map V.int
theorem valV_mem {κ : Type} [DecidableEq κ] : ∀ {kvs : List (κ × V)} {p : κ × V}, (kvs.map (·.1)).Nodup → p ∈ kvs → valV kvs p.1 = some p.2
  | q :: r, p, nd, h => by
    have nd' := List.nodup_cons.mp nd
    rcases List.mem_cons.mp h with rfl | h
    · exact valV_pos rfl
    · have : ¬ q.1 = p.1 := fun z => nd'.1 (List.mem_map.mpr ⟨p, h, z.symm⟩)
      rw [valV_neg this]
      exact valV_mem nd'.2 h
theorem DI.at_ {kvs : List (Key × V)} {f : IF} (h : DI kvs f) {p : Key × V} (hp : p ∈ kvs) : ∃ i x : Int, p = (Sum.inl i, V.int x) ∧ f i = some x := by
  obtain ⟨i, x, rfl⟩ := h.ks p hp
  have e := valV_mem h.nd hp
  rw [h.val] at e
  cases e2 : f i with
  | none => rw [e2] at e; cases e
  | some y => rw [e2] at e; cases e; exact ⟨i, _, rfl, e2⟩
theorem DI.mem {kvs : List (Key × V)} {f : IF} (h : DI kvs f) (i : Int) : (Sum.inl i : Key) ∈ kvs.map (·.1) ↔ (f i).isSome = true := by
  constructor
  · intro hm
    obtain ⟨p, hp, e⟩ := List.mem_map.mp hm
    obtain ⟨j, x, rfl, e2⟩ := h.at_ hp
    have e : (Sum.inl j : Key) = Sum.inl i := e
    cases e
    rw [e2]; rfl
  · intro hs
    obtain ⟨x, e⟩ := Option.isSome_iff_exists.mp hs
    exact valV_in (v := .int x) (by rw [h.val, e]; rfl)
theorem DI.put {kvs : List (Key × V)} {f : IF} (h : DI kvs f) (i x : Int) : DI (putK kvs (Sum.inl i) (.int x)) (HK.put f i x) := by
  refine ⟨?_, fun p hp => ?_, fun j => ?_⟩
  · cases e : valV kvs (Sum.inl i) with
    | none => exact nd_putK _ h.nd e
    | some v =>
      unfold putK
      rw [valV_any, e]
      simp only [Option.isSome_some, if_true]
      have : (kvs.map fun kv => if kv.1 = (Sum.inl i : Key) then (kv.1, V.int x) else kv).map (·.1) = kvs.map (·.1) := by
        rw [List.map_map]
        exact List.map_congr_left fun p _ => by
          show (if p.1 = (Sum.inl i : Key) then (p.1, V.int x) else p).1 = p.1
          split <;> rfl
      rw [this]; exact h.nd
  · unfold putK at hp
    split at hp
    · obtain ⟨q, hq, rfl⟩ := List.mem_map.mp hp
      obtain ⟨j, y, rfl⟩ := h.ks q hq
      by_cases e : (Sum.inl j : Key) = Sum.inl i
      · exact ⟨j, x, by simp only [e, if_true]⟩
      · exact ⟨j, y, by simp only [e, if_false]⟩
    · rcases List.mem_append.mp hp with hp | hp
      · exact h.ks p hp
      · exact ⟨i, x, List.mem_singleton.mp hp⟩
  · rw [valV_put, h.val]
    unfold HK.put
    by_cases e : j = i
    · subst e; simp
    · simp [e]
theorem DI.one (root : Int) : DI (mergeK [] [(Sum.inl root, V.int 0)]) (ini root) := by
  have h0 : DI [] (fun _ => none) := ⟨List.nodup_nil, fun p hp => (by cases hp), fun i => rfl⟩
  exact h0.put root 0
theorem DI.same {ks ls : List (Key × V)} {f : IF} (h : DI ks f) (g : DI ls f) : ks.length = ls.length ∧ ∀ p ∈ ks, valV ls p.1 = some p.2 ∧ flatB p.2 = true := by
  constructor
  · have : (ks.map (·.1)).Perm (ls.map (·.1)) := (List.perm_ext_iff_of_nodup h.nd g.nd).mpr fun k => by
      cases k with
      | inl i => rw [h.mem, g.mem]
      | inr s =>
        constructor
        · intro hm
          obtain ⟨p, hp, e⟩ := List.mem_map.mp hm
          obtain ⟨j, x, rfl⟩ := h.ks p hp
          cases e
        · intro hm
          obtain ⟨p, hp, e⟩ := List.mem_map.mp hm
          obtain ⟨j, x, rfl⟩ := g.ks p hp
          cases e
    have := this.length_eq
    rwa [List.length_map, List.length_map] at this
  · intro p hp
    obtain ⟨i, x, rfl, e⟩ := h.at_ hp
    exact ⟨by show valV ls (Sum.inl i) = _; rw [g.val, e]; rfl, rfl⟩
theorem DI.pair {kvs : List (Key × V)} {f : IF} (h : DI kvs f) {v x : Int} (e : f v = some x) : (Sum.inl v, V.int x) ∈ kvs := by
  have := (h.mem v).mpr (by rw [e]; rfl)
  obtain ⟨pp, hpp, ep⟩ := List.mem_map.mp this
  obtain ⟨j, z, rfl, ej⟩ := h.at_ hpp
  cases ep
  rw [e] at ej
  cases ej
  exact hpp
theorem rnd_take {S : IF → IF} {rs : List R4} {g : IF} {j : Nat} {r : R4} (h : rs[j]? = some r) : rnd S (rs.take (j + 1)) g = rlx (S (rnd S (rs.take j) g)) (rnd S (rs.take j) g) r := by
  have : rs.take (j + 1) = rs.take j ++ [r] := by rw [List.take_add_one, h]; rfl
  rw [this]
  unfold rnd
  rw [List.foldl_append]
  rfl
/-! ### a good net is one -/
def pr (r : R4) : List Int := [r.s, r.e]
theorem pairs_map (rs : List R4) : (rs.map R4.d).map pairD = rs.map pr := by rw [List.map_map]; rfl
abbrev nt (m : PyData) (ds : List PyData) : PyData := .tuple [m, .tuple ds]
theorem lex_fore {a b : R4} (h : a.lt b) : HT.lexLt (pr a) (pr b) = true := by
  have h : a.s < b.s ∨ (a.s = b.s ∧ a.e < b.e) := h
  simp only [pr, HT.lexLt]
  rcases h with h | ⟨h, h2⟩
  · rw [if_neg (by omega)]
    exact decide_eq_true (by omega)
  · rw [if_pos h, if_neg (by omega)]
    exact decide_eq_true (by omega)
/-- a good net is one -/
theorem road_yes {n : Int} {r : R4} (h : RoadOk n r) : isRoadD n r.d = true := by
  obtain ⟨h1, h2, h3, h4, h5, h6, h7, h8, h9⟩ := h
  have a1 : r.s ≤ n - 1 := by omega
  have a2 : r.e ≤ n - 1 := by omega
  simp [R4.d, isRoadD, withinD, neD, h1, a1, h3, a2, h5, h6, h7, h8, h9]
theorem net_yes {n : Int} {rs : List R4} (G : Good n rs) : isNetD (nt (.int n) (rs.map R4.d)) = true := by
  show ((decide (1 ≤ n) && decide (n ≤ 12)) && (((rs.map R4.d).all (isRoadD n)) && risesB ((rs.map R4.d).map pairD))) = true
  rw [decide_eq_true G.n1, decide_eq_true G.n2, pairs_map]
  have h1 : (rs.map R4.d).all (isRoadD n) = true := by
    rw [List.all_map, List.all_eq_true]
    exact fun r hr => road_yes (G.ok r hr)
  have h2 : risesB (rs.map pr) = true := risesB_yes fun j hj => by
    rw [List.length_map] at hj
    have hp := List.pairwise_iff_getElem.mp G.up j (j + 1) (by omega) (by omega) (by omega)
    have e1 : (rs.map pr).getD j [] = pr rs[j] := by simp [List.getD_eq_getElem?_getD, List.getElem?_eq_getElem (show j < rs.length by omega)]
    have e2 : (rs.map pr).getD (j + 1) [] = pr rs[j + 1] := by simp [List.getD_eq_getElem?_getD, List.getElem?_eq_getElem (show j + 1 < rs.length by omega)]
    rw [e1, e2]
    exact lex_fore hp
  rw [h1, h2]
  rfl
theorem NetAt.k0 {K : PySem.W.Frag} {H H' : Hp} {a : Addr} {n : Int} {rs : List R4} (h : NetAt K H a n rs) (k : K0 H H') : NetAt K H' a n rs := h.kt (k.kt (t := 0))
theorem NetAt.ans {K : PySem.W.Frag} {H : Hp} {a : Addr} {n : Int} {rs : List R4} (h : NetAt K H a n rs) (G : Good n rs) (hl : rs.length ≤ 156) : NetAns K H (.ref a) true := by
  obtain ⟨r, xs, o, h1, h2, hc, hd, h3⟩ := h
  refine .inl ⟨nt (.int n) (rs.map R4.d), .tup h1 (.cons (.int _) (.cons (.tup (h2) h3) .nil)), fun m rs' e => ?_, (net_yes G).symm⟩
  cases e
  rw [List.length_map]; omega
end HK

set_option Elab.async false
set_option linter.all false
set_option maxRecDepth 100000
set_option maxHeartbeats 2000000
namespace HK
open PySem PySem.Spec PyProof.Rows L2 GAl GxR
abbrev sIsPlace : Stmt := topS 24
abbrev sNeedNet : Stmt := topS 27
abbrev sNeedPlace : Stmt := topS 28
theorem scIsPlace : FnScope ["net", "thing"] ["net", "thing"] (defScope sIsPlace) := ⟨rfl, rfl, rfl, by decide +kernel, rfl, by decide +kernel, by decide +kernel⟩
theorem scNeedNet : FnScope ["net"] ["net"] (defScope sNeedNet) := ⟨rfl, rfl, rfl, by decide +kernel, rfl, by decide +kernel, by decide +kernel⟩
theorem scNeedPlace : FnScope ["net", "place"] ["net", "place"] (defScope sNeedPlace) := ⟨rfl, rfl, rfl, by decide +kernel, rfl, by decide +kernel, by decide +kernel⟩
theorem K0.lock {H H' : Hp} {p : Addr} {u : HO} {od : Obj} (h : H p = some u) (nt : ∀ ps, u ≠ .tbl ps) (k : K0 (upd H p (.frz od u)) H') : K0 H (upd H' p u) := by
  refine ⟨fun b o e m => ?_, fun P hP => ?_, fun b e => ?_⟩
  · by_cases hb : b = p
    · subst hb
      rw [h] at e
      cases e
      exact upd_same
    · rw [upd_ne hb]
      exact k.oth b o (by rw [upd_ne hb]; exact e) m
  · obtain ⟨ps, e, ht⟩ := hP
    have hb : P ≠ p := fun z => by
      rw [z, h] at e
      exact nt ps (Option.some.inj e)
    obtain ⟨ps', e', ht'⟩ := k.tab P ⟨ps, by rw [upd_ne hb]; exact e, ht⟩
    exact ⟨ps', by rw [upd_ne hb]; exact e', ht'⟩
  · by_cases hb : b = p
    · rw [hb, upd_same] at e; cases e
    · rw [upd_ne hb] at e
      have := k.dom b e
      rwa [upd_ne hb] at this
section
variable {P : Program} {w : World} {K : PySem.W.Frag} {mg : Str → Option Value} {base : Heap}
def spIsPlace (K : PySem.W.Frag) : Sp := fun vs H Q _ => ∃ (a : Addr) (n : Int) (rs : List R4) (v : Int), vs = [.ref a, .int v] ∧ NetAt K H a n rs ∧ Q (.bl (decide (0 ≤ v) && decide (v ≤ n - 1))) H
theorem ok_isplace {f fW : Addr} {fd fdW : FuncData} (F : Fun K "is_place" "is_place" sIsPlace f fd)
    (kW : PySem.W.keepIn K (.ref fW) = true) (bW : Binds K fdW ["thing", "least", "greatest"] []) (gW : mg "is_within" = some (.ref fW)) (GW : FnOk P w K mg base CX0 2 fW fdW ["thing", "least", "greatest"] (spWithin K)) :
    FnOk P w K mg base CX0 3 f fd ["net", "thing"] (spIsPlace K) := by
  refine F.ok scIsPlace (fun vs H Q E h => ?_) (fun cdv A outer s H vs Q E hr h => ?_)
  · obtain ⟨a, n, rs, v, rfl, _⟩ := h
    rfl
  · obtain ⟨a, n, rs, v, rfl, hN, q⟩ := h
    obtain ⟨r, xs, o, h1, h2, hc, hd, h3⟩ := hN
    refine ⟨_, pss_one (ps_ret (pe_call GW hr (by rfl) gW kW bW .nil pass0 (pa_cons (pv 1) (pa_cons pe_int (pa_cons (pe_op op_sub (pe_ix ix_tup (pv 0) pe_int (fun _ _ => rfl)) pe_int) pa_nil))))), ?_⟩
    exact ⟨_, rfl, _, rfl, a, _, _, _, rfl, rfl, h1, atI_nat (j := 0) rfl, _, _, rfl, rfl, .int v, .int v, 0, n - 1, rfl, .int _, q⟩
def spNeedNet (K : PySem.W.Frag) (Pn Pr : Addr) : Sp := fun vs H Q _ => ∃ (a : Addr) (n : Int) (rs : List R4), vs = [.ref a] ∧ NetAt K H a n rs ∧ Good n rs ∧ rs.length ≤ 156 ∧ TabG H Pn ∧ TabG H Pr ∧ ∀ H', K0 H H' → Q .non H'
theorem ok_neednet {f fN Pn Pr : Addr} {fd fdN : FuncData} (F : Fun K "need_net" "need_net" sNeedNet f fd)
    (kN : PySem.W.keepIn K (.ref fN) = true) (bN : Binds K fdN ["thing"] []) (gN : mg "is_net" = some (.ref fN)) (GN : FnOk P w K mg base CX0 5 fN fdN ["thing"] (spIsNet K Pn Pr)) :
    FnOk P w K mg base CX0 6 f fd ["net"] (spNeedNet K Pn Pr) := by
  refine F.ok scNeedNet (fun vs H Q E h => ?_) (fun cdv A outer s H vs Q E hr h => ?_)
  · obtain ⟨a, n, rs, rfl, _⟩ := h
    rfl
  · obtain ⟨a, n, rs, rfl, hN, hG, hl, tn, tr, q⟩ := h
    refine ⟨_, pss_one (ps_if (pt_not (pt_val (pe_call GN hr (by rfl) gN kN bN .nil pass0 (pa_cons (pv 0) pa_nil)))) pss_never pss_nil), ?_⟩
    exact ⟨_, rfl, .ref a, true, rfl, hN.ans hG hl, tn, tr, fun H' k => ⟨_, rfl, iteF (q H' k)⟩⟩
def spNeedPlace (K : PySem.W.Frag) : Sp := fun vs H Q _ => ∃ (a : Addr) (n : Int) (rs : List R4) (v : Int), vs = [.ref a, .int v] ∧ NetAt K H a n rs ∧ 0 ≤ v ∧ v < n ∧ Q .non H
theorem ok_needplace {f fN : Addr} {fd fdN : FuncData} (F : Fun K "need_place" "need_place" sNeedPlace f fd)
    (kN : PySem.W.keepIn K (.ref fN) = true) (bN : Binds K fdN ["net", "thing"] []) (gN : mg "is_place" = some (.ref fN)) (GN : FnOk P w K mg base CX0 3 fN fdN ["net", "thing"] (spIsPlace K)) :
    FnOk P w K mg base CX0 4 f fd ["net", "place"] (spNeedPlace K) := by
  refine F.ok scNeedPlace (fun vs H Q E h => ?_) (fun cdv A outer s H vs Q E hr h => ?_)
  · obtain ⟨a, n, rs, v, rfl, _⟩ := h
    rfl
  · obtain ⟨a, n, rs, v, rfl, hN, h0, h1, q⟩ := h
    refine ⟨_, pss_one (ps_if (pt_not (pt_val (pe_call GN hr (by rfl) gN kN bN .nil pass0 (pa_cons (pv 0) (pa_cons (pv 1) pa_nil))))) pss_never pss_nil), ?_⟩
    refine ⟨_, rfl, _, rfl, a, n, rs, v, rfl, hN, _, rfl, ?_⟩
    rw [decide_eq_true h0, decide_eq_true (show v ≤ n - 1 by omega)]
    exact iteF q
theorem road_at {H : Hp} {xs : List V} {rs : List R4} {j : Nat} {x : V} (h3 : Roads K H xs rs) (hx : xs[j]? = some x) : ∃ (t : R4) (q1 : Addr), rs[j]? = some t ∧ x = .ref q1 ∧ SqT K H q1 t.vs := by
  obtain ⟨d, e1, e2⟩ := dpAll_get h3 hx
  obtain ⟨t, rfl, hrd⟩ : ∃ t : R4, d = t.d ∧ rs[j]? = some t := by
    rw [List.getElem?_map] at e1
    cases e3 : rs[j]? with
    | none => rw [e3] at e1; cases e1
    | some t => rw [e3] at e1; cases e1; exact ⟨t, rfl, rfl⟩
  obtain ⟨q1, rfl, hs⟩ := dp_r4 e2
  exact ⟨t, q1, hrd, rfl, hs⟩
theorem dget {H : Hp} {p : Addr} {kvs : List (Key × V)} {g : IF} {v x : Int} (hk : H p = some (.dK kvs)) (hD : DI kvs g) (e : g v = some x) : DGet H p (.int v) (some (.int x)) := by
  have := DGet.k (k := Sum.inl v) hk
  rw [hD.val, e] at this
  exact this
theorem inV_mem {i : Int} {js : List Int} (h : i ∈ js) : inV (.int i) (js.map V.int) = true := by
  unfold inV
  rw [List.any_map, List.any_eq_true]
  exact ⟨i, h, by simp [eqV]⟩
theorem upd_back {H : Hp} {p : Addr} {o : HO} (h : H p = some o) : upd H p o = H := by
  funext b
  by_cases e : b = p
  · rw [e, upd_same, h]
  · rw [upd_ne e]
theorem sqT_lock {H : Hp} {a p : Addr} {xs : List V} {kvs : List (Key × V)} {o : HO} (h : SqT K H a xs) (hp : H p = some (.dK kvs)) : SqT K (upd H p o) a xs := by
  rcases h with (h | ⟨o', h⟩) | h
  · exact .inl (.inl (by rw [upd_ne (ne_of h hp (fun z => by cases z))]; exact h))
  · exact .inl (.inr ⟨o', by rw [upd_ne (ne_of h hp (fun z => by cases z))]; exact h⟩)
  · exact .inr h
end
end HK

set_option Elab.async false
set_option linter.all false
set_option maxRecDepth 100000
set_option maxHeartbeats 4000000
namespace HK
open PySem PySem.Spec PyProof.Rows L2 GAl GxR
open Evl (pss_cut)
theorem dgetR {H : Hp} {p : Addr} {kvs : List (Key × V)} {g : IF} (hk : Rd H p (.dK kvs)) (hD : DI kvs g) (v : Int) : DGet H p (.int v) ((g v).map V.int) := .inl ⟨kvs, Sum.inl v, hk, rfl, by rw [hD.val]⟩
theorem K0.rd {H H' : Hp} {p : Addr} {kvs : List (Key × V)} (k : K0 H H') (h : Rd H p (.dK kvs)) : Rd H' p (.dK kvs) := by
  rcases h with h | ⟨o, h⟩
  · exact .inl (k.oth p _ h (fun _ z => by cases z))
  · exact .inr ⟨o, k.oth p _ h (fun _ z => by cases z)⟩
section
variable {P : Program} {w : World} {K : PySem.W.Frag} {mg : Str → Option Value} {base : Heap}
theorem tabG_lock {H : Hp} {p : Addr} {u o : HO} {Pp : Addr} (h : H p = some u) (nt : ∀ ps, u ≠ .tbl ps) (hT : TabG H Pp) : TabG (upd H p o) Pp := by
  obtain ⟨ps, e, ht⟩ := hT
  exact ⟨ps, by rw [upd_ne (fun z => by rw [z, h] at e; exact nt ps (Option.some.inj e))]; exact e, ht⟩
theorem netAt_lock {H : Hp} {a p : Addr} {n : Int} {rs : List R4} {kvs : List (Key × V)} {od : Obj} (h : NetAt K H a n rs) (hp : H p = some (.dK kvs)) : NetAt K (upd H p (.frz od (.dK kvs))) a n rs := by
  obtain ⟨r, xs, o, h1, h2, hc, hd, h3⟩ := h
  refine ⟨r, xs, o, sqT_lock h1 hp, sqT_lock h2 hp, hc, hd, ?_⟩
  clear h1 h2
  unfold Roads at h3 ⊢
  induction rs generalizing xs with
  | nil => cases h3; exact .nil
  | cons r rs ih =>
    cases h3 with
    | cons a b =>
      refine .cons ?_ (ih _ b)
      obtain ⟨q, rfl, h⟩ := dp_r4 (r := r) a
      exact r4_dp (r := r) (sqT_lock h hp)
end
end HK

set_option Elab.async false
set_option linter.all false
set_option maxRecDepth 100000
set_option maxHeartbeats 4000000
namespace HK
open PySem PySem.Spec PyProof.Rows L2 GAl GxR
theorem sub_len {l ks : List Int} (nl : l.Nodup) (nk : ks.Nodup) (h : ∀ x ∈ l, x ∈ ks) : l.length ≤ ks.length := by
  have pm : (ks.filter fun x => decide (x ∈ l)).Perm l := (List.perm_ext_iff_of_nodup (List.Nodup.sublist List.filter_sublist nk) nl).mpr fun x => by
    rw [List.mem_filter]
    exact ⟨fun z => of_decide_eq_true z.2, fun z => ⟨h x z, decide_eq_true z⟩⟩
  rw [← pm.length_eq]
  exact List.length_filter_le _ _
/-- the tables of generator expressions -/
def TbL (H : Hp) (l : List Addr) : Prop := ∀ P ∈ l, TabG H P
theorem TbL.kt {t : Addr} {H H' : Hp} {l : List Addr} (h : TbL H l) (k : Kt t H H') : TbL H' l := fun P hP => k.tab P (h P hP)
theorem TbL.k0 {H H' : Hp} {l : List Addr} (h : TbL H l) (k : K0 H H') : TbL H' l := fun P hP => k.tab P (h P hP)
end HK

set_option Elab.async false
set_option linter.all false
set_option maxRecDepth 100000
set_option maxHeartbeats 4000000
namespace HK
open PySem PySem.Spec PyProof.Rows L2 GAl GxR
/-! ### trees as partial functions -/
def stp (g : IF) (v : Int) : Int := (g v).getD v
def clm (g : IF) : Nat → Int → Int
  | 0, v => v
  | n + 1, v => stp g (clm g n v)
theorem stp_none {g : IF} {v : Int} (h : g v = none) : stp g v = v := by unfold stp; rw [h]; rfl
theorem stp_some {g : IF} {v x : Int} (h : g v = some x) : stp g v = x := by unfold stp; rw [h]; rfl
theorem clm_fix {g : IF} {v : Int} {i : Nat} (h : g (clm g i v) = none) : ∀ k, clm g (i + k) v = clm g i v
  | 0 => rfl
  | k + 1 => by
    show stp g (clm g (i + k) v) = _
    rw [clm_fix h k, stp_none h]
theorem clm_root {g : IF} {v root : Int} {i : Nat} (hr : g root = none) (h : clm g i v = root) (k : Nat) : clm g (i + k) v = root := by
  rw [clm_fix (by rw [h]; exact hr), h]
theorem DI.keys {kvs : List (Key × V)} {f : IF} (h : DI kvs f) : ∃ ks : List Int, ks.Nodup ∧ ks.length = kvs.length ∧ (∀ i, i ∈ ks ↔ (f i).isSome = true) ∧ kvs.map (·.1) = ks.map Sum.inl := by
  have aux : ∀ {l : List (Key × V)}, (∀ p ∈ l, ∃ i x : Int, p = (Sum.inl i, V.int x)) → ∃ ks : List Int, l.map (·.1) = ks.map Sum.inl := fun {l} => by
    induction l with
    | nil => exact fun _ => ⟨[], rfl⟩
    | cons p r ih =>
      intro hl
      obtain ⟨ks, e⟩ := ih fun q hq => hl q (List.mem_cons_of_mem _ hq)
      obtain ⟨i, x, rfl⟩ := hl p (List.mem_cons_self ..)
      exact ⟨i :: ks, by rw [List.map_cons, List.map_cons, e]⟩
  obtain ⟨ks, e⟩ := aux h.ks
  have nd := h.nd
  rw [e] at nd
  refine ⟨ks, (List.pairwise_map.mp nd).imp fun hne z => hne (by rw [z]), ?_, fun i => ?_, e⟩
  · have := congrArg List.length e
    rw [List.length_map, List.length_map] at this
    exact this.symm
  · rw [← h.mem i, e, List.mem_map]
    exact ⟨fun z => ⟨i, z, rfl⟩, fun ⟨j, hj, ej⟩ => by cases ej; exact hj⟩
/-- a way to the root takes no more steps than there are keys -/
theorem clm_len {kvs : List (Key × V)} {g : IF} {root v : Int} {m : Nat} (hD : DI kvs g) (hr : g root = none) (h : clm g m v = root) : clm g kvs.length v = root := by
  obtain ⟨ks, nk, lk, mk, _⟩ := hD.keys
  refine Decidable.byContradiction fun hn => ?_
  have absb : ∀ i, i ≤ kvs.length → clm g i v ≠ root := fun i hi z => hn (by
    have := clm_root hr z (kvs.length - i)
    rwa [show i + (kvs.length - i) = kvs.length by omega] at this)
  have lt : kvs.length < m := by
    refine Nat.lt_of_not_le fun z => absb m z h
  have dom : ∀ i, i ≤ kvs.length → (g (clm g i v)).isSome = true := fun i hi => by
    cases e : g (clm g i v) with
    | some x => rfl
    | none =>
      have := clm_fix e (m - i)
      rw [show i + (m - i) = m by omega, h] at this
      exact absurd this.symm (absb i hi)
  by_cases hd : ∀ i j, i < j → j ≤ kvs.length → clm g i v ≠ clm g j v
  · have nl : ((List.range (kvs.length + 1)).map fun i => clm g i v).Nodup := List.pairwise_map.mpr
      (List.Pairwise.imp_of_mem (fun {a b} _ hb lt => hd a b lt (by have := List.mem_range.mp hb; omega)) List.pairwise_lt_range)
    have := sub_len nl nk fun x hx => by
      obtain ⟨i, hi, rfl⟩ := List.mem_map.mp hx
      exact (mk _).mpr (dom i (by have := List.mem_range.mp hi; omega))
    rw [List.length_map, List.length_range] at this
    omega
  · obtain ⟨i, z⟩ := Classical.not_forall.mp hd
    obtain ⟨j, z⟩ := Classical.not_forall.mp z
    obtain ⟨hij, z⟩ := Classical.not_imp.mp z
    obtain ⟨hj, z⟩ := Classical.not_imp.mp z
    have e := Decidable.not_not.mp z
    have per : ∀ t, ∃ s, s ≤ kvs.length ∧ i ≤ s ∧ s < j ∧ clm g (i + t) v = clm g s v := fun t => by
      induction t with
      | zero => exact ⟨i, by omega, Nat.le_refl _, hij, rfl⟩
      | succ t ih =>
        obtain ⟨s, h1, h2, h3, h4⟩ := ih
        have e5 : clm g (i + (t + 1)) v = clm g (s + 1) v := by
          show stp g (clm g (i + t) v) = stp g (clm g s v)
          rw [h4]
        by_cases hs : s + 1 < j
        · exact ⟨s + 1, by omega, by omega, hs, e5⟩
        · exact ⟨i, by omega, Nat.le_refl _, hij, by rw [e5, show s + 1 = j by omega, e]⟩
    obtain ⟨s, h1, _, _, h4⟩ := per (m - i)
    rw [show i + (m - i) = m by omega, h] at h4
    exact absb s h1 h4.symm
/-- going ahead one stays in the tree -/
theorem clm_in {g : IF} {root v : Int} {m : Nat} (hr : g root = none) (h : clm g m v = root) (k : Nat) : clm g k v = root ∨ ∃ x, g (clm g k v) = some x := by
  by_cases hk : clm g k v = root
  · exact .inl hk
  · refine .inr ?_
    cases e : g (clm g k v) with
    | some x => exact ⟨x, rfl⟩
    | none =>
      refine absurd ?_ hk
      by_cases hm : m ≤ k
      · have := clm_root hr h (k - m)
        rwa [show m + (k - m) = k by omega] at this
      · have := clm_fix e (m - k)
        rw [show k + (m - k) = m by omega, h] at this
        exact this.symm
/-! ### the road of a pair -/
def road (rs : List R4) (a b : Int) : Option R4 := rs.find? fun r => decide (r.s = a ∧ r.e = b)
theorem road_some {rs : List R4} {a b : Int} {r : R4} (h : road rs a b = some r) : r ∈ rs ∧ r.s = a ∧ r.e = b := by
  have h2 := List.find?_some h
  exact ⟨List.mem_of_find?_eq_some h, of_decide_eq_true h2⟩
theorem road_none {rs : List R4} {a b : Int} (h : road rs a b = none) : ∀ r ∈ rs, ¬ (r.s = a ∧ r.e = b) := fun r hr z => by
  have := List.find?_eq_none.mp h r hr
  exact this (decide_eq_true z)
theorem lt_uniq {rs : List R4} (up : rs.Pairwise R4.lt) {i j : Nat} {r t : R4} (hi : rs[i]? = some r) (hj : rs[j]? = some t) (e : r.s = t.s ∧ r.e = t.e) : i = j := by
  obtain ⟨li, rfl⟩ := List.getElem?_eq_some_iff.mp hi
  obtain ⟨lj, rfl⟩ := List.getElem?_eq_some_iff.mp hj
  refine Decidable.byContradiction fun ne => ?_
  rcases Nat.lt_or_gt_of_ne ne with l | l
  · have : rs[i].s < rs[j].s ∨ (rs[i].s = rs[j].s ∧ rs[i].e < rs[j].e) := List.pairwise_iff_getElem.mp up i j li lj l
    omega
  · have : rs[j].s < rs[i].s ∨ (rs[j].s = rs[i].s ∧ rs[j].e < rs[i].e) := List.pairwise_iff_getElem.mp up j i lj li l
    omega
theorem road_of {rs : List R4} (up : rs.Pairwise R4.lt) {r : R4} (h : r ∈ rs) : road rs r.s r.e = some r := by
  cases e : road rs r.s r.e with
  | none => exact absurd ⟨rfl, rfl⟩ (road_none e r h)
  | some t =>
    obtain ⟨ht, hs⟩ := road_some e
    obtain ⟨i, hi⟩ := List.getElem?_of_mem ht
    obtain ⟨j, hj⟩ := List.getElem?_of_mem h
    have := lt_uniq up hi hj hs
    subst this
    rw [hi] at hj
    exact hj
theorem road_snoc {rs : List R4} {t : R4} (a b : Int) : road (rs ++ [t]) a b = (road rs a b).or (if t.s = a ∧ t.e = b then some t else none) := by
  unfold road
  rw [List.find?_append]
  congr 1
  by_cases h : t.s = a ∧ t.e = b
  · rw [if_pos h]
    simp [h]
  · rw [if_neg h]
    simp only [List.find?_cons, decide_eq_false h, List.find?_nil]
/-- what a dict makes a tree -/
def TreeP (rs : List R4) (root : Int) (g : IF) (m : Nat) : Prop := g root = none ∧ (∀ v x, g v = some x → (road rs x v).isSome = true) ∧ ∀ v x, g v = some x → clm g m v = root
/-- a dict from pairs to what a road has -/
def TabP (sel : R4 → Int) (rs : List R4) (kvs : List (List Key × V)) : Prop := kvs.length ≤ rs.length ∧ ∀ a b : Int, valV kvs [Sum.inl a, Sum.inl b] = (road rs a b).map fun r => V.int (sel r)
theorem TabP.put {sel : R4 → Int} {rs : List R4} {t : R4} {kvs : List (List Key × V)} (up : (rs ++ [t]).Pairwise R4.lt) (h : TabP sel rs kvs) : TabP sel (rs ++ [t]) (putK kvs [Sum.inl t.s, Sum.inl t.e] (.int (sel t))) := by
  refine ⟨?_, fun a b => ?_⟩
  · have := length_putK kvs [Sum.inl t.s, Sum.inl t.e] (V.int (sel t))
    have := h.1
    rw [List.length_append, List.length_singleton]
    omega
  · rw [valV_put, road_snoc]
    by_cases e : t.s = a ∧ t.e = b
    · obtain ⟨rfl, rfl⟩ := e
      have hno : road rs t.s t.e = none := by
        cases e : road rs t.s t.e with
        | none => rfl
        | some r =>
          obtain ⟨hr, hs⟩ := road_some e
          obtain ⟨i, hi⟩ := List.getElem?_of_mem hr
          have hlt : i < rs.length := (List.getElem?_eq_some_iff.mp hi).1
          have := lt_uniq up (i := i) (j := rs.length) (by rw [List.getElem?_append_left hlt]; exact hi) (by rw [List.getElem?_append_right (Nat.le_refl _)]; simp) hs
          omega
      rw [if_pos rfl, hno, if_pos ⟨rfl, rfl⟩]
      rfl
    · rw [if_neg (fun z => e (by simp at z; exact ⟨z.1.symm, z.2.symm⟩)), if_neg e, h.2]
      cases road rs a b <;> rfl
end HK

set_option Elab.async false
set_option linter.all false
set_option maxRecDepth 100000
set_option maxHeartbeats 4000000
namespace HK
open PySem PySem.Spec PyProof.Rows L2 GAl GxR
abbrev sPairs : Stmt := topS 26
theorem scPairs : FnScope ["thing", "key", "number"] ["thing"] (defScope sPairs) := ⟨rfl, rfl, rfl, by decide +kernel, rfl, by decide +kernel, by decide +kernel⟩
section
variable {P : Program} {w : World} {K : PySem.W.Frag} {mg : Str → Option Value} {base : Heap}
def spPairs (K : PySem.W.Frag) (Pp : Addr) : Sp := fun vs H Q _ => ∃ (p : Addr) (kvs : List (Key × V)) (g : IF), vs = [.ref p] ∧ H p = some (.dK kvs) ∧ DI kvs g ∧ TabG H Pp ∧ ∀ H', K0 H H' → Q (.bl true) H'
theorem ok_pairs {f c fW Pp : Addr} {fd fdW : FuncData} (F : FunC K "are_whole_pairs" "are_whole_pairs" sPairs f fd c) (TB : TabB base mg c Pp)
    (kW : PySem.W.keepIn K (.ref fW) = true) (bW : Binds K fdW ["thing"] []) (gW : mg "is_whole" = some (.ref fW)) (GW : FnOk P w K mg base CX0 1 fW fdW ["thing"] (spWhole K))
    (mi : mg "isinstance" = none) (mD : mg "dict" = none) (ma : mg "all" = none) : FnOk P w K mg base CX0 3 f fd ["thing"] (spPairs K Pp) := by
  refine F.ok scPairs (fun vs H Q E h => ?_) (fun A outer s H vs Q E hr h => ?_)
  · obtain ⟨p, kvs, g, rfl, _⟩ := h
    rfl
  · obtain ⟨p, kvs, g, rfl, hp, hD, hT, q⟩ := h
    refine ⟨_, pss_cons (ps_if (pt_not (pt_val (pe_callB call_isi (by rfl) mi boot_isinstance (pa_cons (pv 0) (pa_cons (pe_bltn (v := .ty "dict") (by rfl) mD (by decide +kernel) rfl) pa_nil))))) (pss_one (ps_ret pe_bl)) pss_nil)
      (pss_one (ps_ret (pe_lock (pe_allG (own := [("key", 1), ("number", 2)]) (k := 1) (g := gTup K 2 (gCons (gName 1) (gCons (gName 2) gNil))) (tt := tYes) (te := tAndV (tCall (spWhole K) [] E0 (tCons (tVar 1) tNil)) (tCall (spWhole K) [] E0 (tCons (tVar 2) tNil))) hr (by rfl) ma rfl scPairs.nd TB rfl (gsc_by (N := ["thing", "key", "number"]) (sc := defScope sPairs) (by decide +kernel))
          (pi_items (pv 0)) (fun A' hr' _ _ _ _ _ _ => pg_tup rfl (pgs_cons (pg_name (i := 1) scPairs.nd rfl (.inl rfl)) (pgs_cons (pg_name (i := 2) scPairs.nd rfl (.inl rfl)) pgs_nil))) (fun A' hr' _ _ _ _ _ _ => pts_nil)
          (fun A' hr' _ _ _ _ _ _ => pe_and (pe_call GW hr' (by rfl) gW kW bW .nil pass0 (pa_cons (pv 1) pa_nil)) (pe_one (pe_call GW hr' (by rfl) gW kW bW .nil pass0 (pa_cons (pv 2) pa_nil)))))))), ?_⟩
    refine ⟨_, rfl, .ref p, .ty "dict", .type "dict", _, true, rfl, .ty "dict", .base (.dK hp), kit_ty (tys_dict (by decide)), _, rfl, iteF ?_⟩
    refine ⟨p, _, hp, trivial, fun od => ⟨_, rfl, p, od, kvs, rfl, upd_same, tabG_lock hp (fun _ z => by cases z) hT, fun H2 hT2 => ?_⟩⟩
    have k2 : K0 (upd H p (.frz od (.dK kvs))) H2 := K0.tbd (tabG_lock hp (fun _ z => by cases z) hT) hT2
    refine ⟨fun i m H3 => i + m = kvs.length ∧ K0 (upd H p (.frz od (.dK kvs))) H3, ⟨kvs.length, by omega, k2⟩, fun i m H3 hW => ?_⟩
    obtain ⟨em, k3⟩ := hW
    have hp3 : H3 p = some (.frz od (.dK kvs)) := k3.oth p _ upd_same (fun _ z => by cases z)
    by_cases hi : i < kvs.length
    · refine .inr ⟨⟨hp3, hi⟩, fun H' => K0 (upd H p (.frz od (.dK kvs))) H', fun H' hN => ⟨m - 1, by omega, by omega, hN⟩, fun x H' hy => ?_⟩
      obtain ⟨T, k, v, hkv, rfl, nT, rfl⟩ := hy
      obtain ⟨j, z, e, e2⟩ := hD.at_ (List.mem_of_getElem? hkv)
      cases e
      refine ⟨T, _, rfl, .inl (.inl upd_same), rfl, _, _, rfl, _, _, rfl, rfl, rfl, tyes ?_⟩
      exact ⟨_, rfl, .int j, .int j, rfl, .int j, _, rfl, iteT ⟨_, rfl, .int z, .int z, rfl, .int z, _, rfl, iteT (k3.mut (k3.dom T nT))⟩⟩
    · exact .inl ⟨⟨hp3, by omega⟩, hp3, q _ (K0.lock hp (fun _ z => by cases z) k3)⟩
end
end HK

set_option Elab.async false
set_option linter.all false
set_option maxRecDepth 100000
set_option maxHeartbeats 2000000
/-! A comprehension that makes a dict, keys of either kind: what is put is told by DPut. The rule for ints and texts as keys is the library's pe_dc; its loop (compLoop_anyD) and its block (block_start) serve here too. -/
namespace DTu
open PySem PySem.Spec PyProof.Rows L2
section
variable {X : Cx} {pins : List (Addr × Obj)} {σ : L2.St} {H H' : Hp} {s : Shared} {a : Addr} {y v : V} {u r : Value} {E : Value → Shared → Prop} {Q : Unit → Shared → Prop}
/-- one pair is put -/
theorem dset (hu : X.A.units < cLine) (I : Inv X pins σ H s) (g : DPut H a y v H') (ry : RelV y u) (rv : RelV v r) (h : ∀ s', Inv X pins σ H' s' → Q () s') : wpAny (model X.prog X.w) X.A (dictSet a u r) Q E s := by
  rcases g with ⟨kvs, k, e, rfl, l, rfl⟩ | ⟨kvs, k, b, e, rfl, eb, l, rfl⟩
  · exact d_dictSet I e l ry rv h
  · have := length_putK kvs k v
    cases (show u = Value.ref b from ry)
    obtain ⟨z, nm, xs, rel, dd⟩ := dt_of I.hok e
    refine wpAny_dictSet_heap (hsz := (by rw [← Paired.length rel]; exact z)) (knd := tupleKind (mixKind X.prog X.w)) hu (key_of I.hok eb) dd fun h2 ⟨q, es, ep, c1, c2, c3, c4, _, c5⟩ sb => h _ ?_
    exact d_write I (by rw [e]; trivial) sb ⟨q, c1⟩ ⟨by omega, nm, _, (rel.put k eb rv).keeps fun c ys ec => (upd_ne (ne_of ec e (fun z => nomatch z))).trans ec, q, es, ep, c1, c2, c3, c4, c5⟩
end
section
variable {X : Cx}
/-- {k: v for target in iter if ..} with tuples as keys -/
def tDcT (wi : TI) (g : TG) (tt : TT) (tk tv : TE) (vs : List Nat) : TE := fun σ H Q => wi σ H fun J H1 => ∀ D, H1 D = none → ∃ W : Nat → Nat → Hp → Prop, (∃ m, W 0 m (upd H1 D (.dT []))) ∧ ∀ i m H, W i m H →
  (J.stop i H ∧ Q (.ref D) H) ∨ (J.go i H ∧ ∃ Nx : Hp → Prop, (∀ H', Nx H' → ∃ m', m' < m ∧ W (i + 1) m' H') ∧ ∀ x H', J.yld i H x H' → g x (wipe σ vs) H' fun σ2 H2 => wipe σ2 vs = wipe σ vs ∧ tt σ2 H2 fun b H3 =>
    if b = true then tk σ2 H3 fun y H4 => tv σ2 H4 fun z H5 => ∃ H6, DPut H5 D y z H6 ∧ Nx H6 else Nx H3)
theorem pe_dcT {kx vx tg iter : Expr} {ifs : List Expr} {scope : Scope} {own : List (Str × Nat)} {pos : Pos} {wi : TI} {g : TG} {tt : TT} {tk tv : TE} (hu : X.A.units < cLine) (calm : X.calm = true) (nd : X.N.Nodup) (hi : PI X tg iter wi) (ok : BlkOk X.N X.env.scope scope own)
    (hg : ∀ s H C cl fp, PG (X.blk s H scope (compEnvC scope cl C X.env) fp) tg g) (ht : ∀ s H C cl fp, PTs (X.blk s H scope (compEnvC scope cl C X.env) fp) ifs tt)
    (hk : ∀ s H C cl fp, PE (X.blk s H scope (compEnvC scope cl C X.env) fp) kx tk) (he : ∀ s H C cl fp, PE (X.blk s H scope (compEnvC scope cl C X.env) fp) vx tv)
    (hf : ∀ x, foldedSetIterable iter X.env x = pure x := by intro _; rfl) : PE X (.DictComp kx vx [⟨tg, iter, ifs, 0⟩] scope pos) (tDcT wi g tt tk tv (own.map (·.2))) := by
  refine ⟨fun pins s σ H Q I h => ?_⟩
  rw [arm_eval_DictComp]
  refine wpAny_comprehension_free rfl hf (closure_ok fun y hy e => (ok.free y hy e).elim (fun k => I.ok.has _ (.inl k)) (fun k => I.ok.has _ (.inr k))) ok.kind (fun y hy e => by rw [ok.uniq y hy, e]) ?_
  refine thn (hi.run pins s σ H _ I h) fun _ _ hx => thn hx fun _ s2 ⟨it, fp, tn, J, H2, e, I2, T, st2, f2, q⟩ => ?_
  subst e
  refine wpAny_newObj_type (newEnv_comp ?_)
  -- the new dict stands at D
  generalize hD : s2.heap.objs.size = D
  obtain ⟨W, ⟨m0, w0⟩, turn⟩ := q D (I2.hok.fresh (Nat.le_of_eq hD))
  obtain ⟨s3, hs3⟩ : ∃ s3 : Shared, s3 = { s2 with heap := s2.heap.push { cls := .type "dict", data := .dict #[] } } := ⟨_, rfl⟩
  have up : ∀ b o, s2.heap.get? b = some o → s3.heap.get? b = some o := fun b o e => by rw [hs3]; exact Heap.get?_push_of_some _ e
  have I3 : Inv X pins σ (upd H2 D (.dT [])) s3 := by
    subst hs3 hD
    exact I2.laid (t' := s2.toks) (fun _ _ e => Heap.get?_push_of_some _ e) (Nat.le_refl _) (dt_empty s2.heap I2.big)
  have f3 : ∀ b ∈ fp, FpOk X pins (upd H2 D (.dT [])) b ∧ b < s3.heap.objs.size := fun b hb => by
    obtain ⟨o, eo, _⟩ := T.obj _ _ st2 b hb
    have lt := Heap.lt_size eo
    exact ⟨⟨(upd_ne (by rw [← hD]; exact Nat.ne_of_lt lt)).trans (f2 b hb).1, (f2 b hb).2⟩, Heap.lt_size (up b o eo)⟩
  have I4 := block_start I3 ok nd f3
  rw [← hs3]
  -- the block's letters
  generalize hC : s3.heap.objs.size = C at I4 ⊢
  generalize hcl : cellsFrom (C + 1) scope.names (cloFrom X.env.cells scope.names []) = cl at I4 ⊢
  generalize hH3 : upd H2 D (.dT []) = H3 at I3 I4 f3 w0
  have G := hg s3 H3 C cl fp
  have Te := ht s3 H3 C cl fp
  have Ke := hk s3 H3 C cl fp
  have Ve := he s3 H3 C cl fp
  show codeAny _ _ (.compStart (.DictComp kx vx [⟨tg, iter, ifs, 0⟩] scope pos) 0 (.ref it) (.ref D) (compEnvC scope cl C X.env)) _ _
  obtain ⟨s4, hs4⟩ : ∃ s4 : Shared, s4 = { s3 with heap := pushCells (s3.heap.push { cls := .type "dict", data := .dict #[] }) scope.names } := ⟨_, rfl⟩
  rw [← hs4] at I4
  have st4 : tn 0 s4.heap := T.keep _ _ _ st2 fun b _ o e => by rw [hs4]; exact pushCells_keeps _ _ _ _ (Heap.get?_push_of_some _ (up b o e))
  have fpB : ∀ {σ' : L2.St} {H' : Hp} {s' : Shared}, Inv (X.blk s3 H3 scope (compEnvC scope cl C X.env) fp) [] σ' H' s' → (∀ b ∈ fp, H' b = none) → ∀ b ∈ fp, FpOk (X.blk s3 H3 scope (compEnvC scope cl C X.env) fp) [] H' b :=
    fun I' n b hb => ⟨n b hb, (I'.ok.exf b hb).1, I'.ok.exfs b hb, .inl hb, (I'.ok.exf b hb).2, fun p hp => by cases (show p ∈ ([] : List (Addr × Obj)) from hp)⟩
  have loop : codeAny (model X.prog X.w) X.A (.compLoop (.DictComp kx vx [⟨tg, iter, ifs, 0⟩] scope pos) 0 (.ref it) (.ref D) (compEnvC scope cl C X.env)) (compPost (model X.prog X.w) X.A X.xe none (fun u s' => ∃ y H', Inv X pins σ H' s' ∧ RelV y u ∧ Q y H') (.ref D) C) s4 := by
    refine compLoop_anyD (fun n s' => ∃ i H', Inv (X.blk s3 H3 scope (compEnvC scope cl C X.env) fp) [] (wipe σ (own.map (·.2))) H' s' ∧ tn i s'.heap ∧ (∀ b ∈ fp, H' b = none) ∧ W i n H') ?_ m0 ⟨0, H3, I4, st4, fun b hb => (f3 b hb).1.1, w0⟩
    rintro n s5 ⟨i, H5, I5, st5, n5, w5⟩
    rcases turn i n H5 w5 with ⟨stop, qq⟩ | ⟨go, Nx, hNx, step⟩
    · refine thnF (T.done (X.blk s3 H3 scope (compEnvC scope cl C X.env) fp) rfl rfl rfl calm i [] s5 _ H5 (fun _ _ => False) I5 (fpB I5 n5) st5 stop) fun r s6 ⟨hr, I6⟩ => ?_
      subst hr
      have I7 : Inv X pins σ H5 s6 := I3.call' (ch := fp) I6.os I6.base I6.hok I6.bare fun b hb => ⟨(f3 b hb).1.2.2.2.1, (f3 b hb).1.2.1, (f3 b hb).1.2.2.2.2.1, (f3 b hb).1.2.2.2.2.2⟩
      obtain ⟨m, hn, _⟩ := I6.loc
      have hfree : H5 C = none := I6.free
      have F := I3.fpOk (Nat.le_of_eq hC) hfree
      exact ⟨m, hn, fun h2 sb => ⟨.ref D, H5, I7.turned (t' := s6.toks) (fun b o hb e => (sb.2 b hb).trans e) F.1 F.2.1 F.2.2.2.1 F.2.2.2.2.1 F.2.2.2.2.2, rfl, qq⟩⟩
    · refine thnF (T.item (X.blk s3 H3 scope (compEnvC scope cl C X.env) fp) rfl rfl rfl calm i [] s5 _ H5 (fun _ _ => False) I5 (fpB I5 n5) st5 go) fun r s6 ⟨uv, hr, h6⟩ => ?_
      subst hr
      refine thnF h6 fun _ s7 ⟨x, H7, I7, r7, y7, st7, n7⟩ => ?_
      refine thnF (G.run _ s7 _ H7 x uv _ (I7.pinned (fpB I7 n7) (T.obj _ _ st7)) r7 (step x H7 y7)) fun _ s8 ⟨σ8, H8, I8, w8, q8⟩ => ?_
      refine thnF (Te.run _ s8 σ8 H8 _ I8 q8) fun b s9 ⟨H9, I9, q9⟩ => ?_
      have fin : ∀ {s' : Shared} {H' : Hp}, Inv (X.blk s3 H3 scope (compEnvC scope cl C X.env) fp) ([] ++ pinsAt fp s7.heap) σ8 H' s' → Nx H' → ∃ m, m < n ∧ ∃ i H', Inv (X.blk s3 H3 scope (compEnvC scope cl C X.env) fp) [] (wipe σ (own.map (·.2))) H' s' ∧ tn i s'.heap ∧ (∀ b ∈ fp, H' b = none) ∧ W i m H' := fun {s' H'} I' nx => by
        obtain ⟨m', lt, w'⟩ := hNx H' nx
        have pn : ∀ b ∈ fp, ∀ o, s7.heap.get? b = some o → s'.heap.get? b = some o ∧ H' b = none := fun b hb o e => by
          have z := I'.pin (b, o) (List.mem_append_right _ (List.mem_append_right _ (mem_pinsAt hb e)))
          exact ⟨z.1, z.2.1⟩
        refine ⟨m', lt, i + 1, H', (I'.unpinned (pins := [])).weak (by rw [← w8, wipe_length]) (fun j v e => (wipe_some (by rw [w8]; exact e)).1), T.keep _ _ _ st7 fun b hb o e => (pn b hb o e).1, fun b hb => ?_, w'⟩
        obtain ⟨o, e, _⟩ := T.obj _ _ st7 b hb
        exact (pn b hb o e).2
      cases b with
      | false => exact fin I9 q9
      | true =>
        refine thnF (Ke.run _ s9 σ8 H9 _ I9 q9) fun kv s10 ⟨yk, H10, I10, r10, q10⟩ => ?_
        refine thnF (Ve.run _ s10 σ8 H10 _ I10 q10) fun vv s11 ⟨yv, H11, I11, r11, H12, put, nx⟩ => ?_
        exact dset (X := X.blk s3 H3 scope (compEnvC scope cl C X.env) fp) hu I11 put r10 r11 fun s12 I12 => fin I12 nx
  rw [hs4] at st4 loop
  exact codeAny_compStart_dict loop (T.self X.A 0 _ _ _ st4 loop)
end
end DTu

set_option Elab.async false
set_option linter.all false
set_option maxRecDepth 100000
set_option maxHeartbeats 4000000
namespace HK
open PySem PySem.Spec PyProof.Rows L2 GAl GxR DTu
open Evl (pss_cut)
abbrev sGrows : Stmt := topS 31
abbrev sLeads : Stmt := topS 32
abbrev sPrices : Stmt := topS 33
theorem scGrows : FnScope ["net", "root", "ahead", "prices", "end", "start", "place"] ["net", "root", "ahead"] (defScope sGrows) := ⟨rfl, rfl, rfl, by decide +kernel, rfl, by decide +kernel, by decide +kernel⟩
theorem scLeads : FnScope ["root", "ahead", "place", "step"] ["root", "ahead", "place"] (defScope sLeads) := ⟨rfl, rfl, rfl, by decide +kernel, rfl, by decide +kernel, by decide +kernel⟩
theorem scPrices : FnScope ["net", "start", "end", "cost", "late"] ["net"] (defScope sPrices) := ⟨rfl, rfl, rfl, by decide +kernel, rfl, by decide +kernel, by decide +kernel⟩
theorem call_lenR {X : Cx} : CallR X (.builtin "len") (fun xs H Q => ∃ a kvs, xs = [V.ref a] ∧ Rd H a (.dK kvs) ∧ Q (.int kvs.length) H) := by
  intro pins s σ H xs us Q I r ⟨a, kvs, e, ha, q⟩
  subst e
  obtain ⟨u, rfl, ru⟩ := vals1 r
  cases ru
  exact d_len I ha fun t s' I' => ⟨.int kvs.length, H, I', ⟨t, rfl⟩, q⟩
section
variable {P : Program} {w : World} {K : PySem.W.Frag} {mg : Str → Option Value} {base : Heap}
theorem NetAt.mut {H H' : Hp} {a p : Addr} {n : Int} {rs : List R4} {o : HO} (h : NetAt K H a n rs) (k : K0 H H') (np : H p = none) : NetAt K (upd H' p o) a n rs := h.k0 (k.mut np)
/-- the tables of roads -/
def spTab (sel : R4 → Int) (K : PySem.W.Frag) : Sp := fun vs H Q _ => ∃ (a : Addr) (n : Int) (rs : List R4), vs = [.ref a] ∧ NetAt K H a n rs ∧ Good n rs ∧ rs.length ≤ 156 ∧
  ∀ (D : Addr) (kvs : List (List Key × V)) (H' : Hp), K0 H H' → H D = none → H' D = some (.dT kvs) → TabP sel rs kvs → Q (.ref D) H'
theorem ok_prices {f : Addr} {fd : FuncData} (F : Fun K "road_prices" "road_prices" sPrices f fd) : FnOk P w K mg base CX0 1 f fd ["net"] (spTab (·.c) K) := by
  refine F.ok scPrices (fun vs H Q E h => ?_) (fun cdv A outer s H vs Q E hr h => ?_)
  · obtain ⟨a, n, rs, rfl, _⟩ := h
    rfl
  · obtain ⟨a, n, rs, rfl, hN, G, hl, q⟩ := h
    have hu := hu_of hr
    refine ⟨_, pss_one (ps_ret (pe_dcT (own := [("start", 1), ("end", 2), ("cost", 3), ("late", 4)]) (g := gTup K 4 (gCons (gName 1) (gCons (gName 2) (gCons (gName 3) (gCons (gName 4) gNil))))) (tt := tYes) (tk := tTup (tCons (tVar 1) (tCons (tVar 2) tNil))) (tv := tVar 3) (Nat.lt_of_succ_lt hu) rfl scPrices.nd (pi_tup (pe_ix ix_tup (pv 0) pe_int (fun _ _ => rfl)))
      (blkOk_by (N := ["net", "start", "end", "cost", "late"]) (sc := defScope sPrices) (by decide +kernel))
      (fun _ _ _ _ _ => pg_tup rfl (pgs_cons (pg_name (i := 1) scPrices.nd rfl (.inl rfl)) (pgs_cons (pg_name (i := 2) scPrices.nd rfl (.inl rfl)) (pgs_cons (pg_name (i := 3) scPrices.nd rfl (.inl rfl)) (pgs_cons (pg_name (i := 4) scPrices.nd rfl (.inl rfl)) pgs_nil)))))
      (fun _ _ _ _ _ => pts_nil) (fun _ _ _ _ _ => pe_tup (pa_cons (pv 1) (pa_cons (pv 2) pa_nil))) (fun _ _ _ _ _ => pv 3))), ?_⟩
    obtain ⟨r, xs, o, h1, h2, hc, hd, h3⟩ := hN
    have hxs : SqT K H r xs := h2
    have hrl : xs.length = rs.length := h3.len
    refine ⟨_, rfl, a, _, 1, .ref r, rfl, rfl, h1, atI_nat (j := 1) rfl, r, rfl, ⟨xs, hxs⟩, fun D nD => ?_⟩
    refine ⟨fun i m H' => i + m = xs.length ∧ K0 H H' ∧ ∃ kvs, H' D = some (.dT kvs) ∧ TabP (·.c) (rs.take i) kvs, ⟨xs.length, by omega, K0.new nD, [], upd_same, by rw [List.take_zero]; exact ⟨Nat.le_refl _, fun _ _ => rfl⟩⟩, fun i m H' hW => ?_⟩
    obtain ⟨em, k3, kvs, hD, hT⟩ := hW
    have hY : SqT K H' r xs := k3.sqT hxs
    by_cases hi : i < xs.length
    · have g1 : xs[i]? = some xs[i] := List.getElem?_eq_getElem hi
      obtain ⟨t, q1, hrd, hx, hs⟩ := road_at h3 g1
      have htk : rs.take (i + 1) = rs.take i ++ [t] := by rw [List.take_add_one, hrd]; rfl
      refine .inr ⟨⟨_, _, hY, g1⟩, fun H' => K0 H H' ∧ ∃ kvs, H' D = some (.dT kvs) ∧ TabP (·.c) (rs.take (i + 1)) kvs, fun H' hN => ⟨m - 1, by omega, by omega, hN⟩, fun x' H2 hy => ?_⟩
      obtain ⟨rfl, fx⟩ := hy
      have ex : x' = xs[i] := Option.some.inj ((fx _ hY).symm.trans g1)
      rw [hx] at ex
      subst ex
      refine ⟨q1, _, rfl, k3.sqT hs, rfl, _, _, rfl, _, _, rfl, _, _, rfl, _, _, rfl, rfl, rfl, tyes ?_⟩
      refine ⟨_, rfl, _, rfl, by show 2 ≤ sizeLine; decide, fun kt nkt => ⟨_, rfl, ?_⟩⟩
      have hne : D ≠ kt := fun z => by rw [z, nkt] at hD; cases hD
      have hD2 : upd H2 kt (.tup [.int t.s, .int t.e]) D = some (.dT kvs) := by rw [upd_ne hne]; exact hD
      have hll : kvs.length < sizeLine := Nat.lt_of_le_of_lt (m := 5000) (by have := hT.1; have := List.length_take_le i rs; omega) (by decide)
      refine ⟨_, DPut.t (k := [Sum.inl t.s, Sum.inl t.e]) hD2 upd_same hll, (k3.mut (k3.dom kt nkt)).mut nD, _, upd_same, ?_⟩
      rw [htk]
      refine TabP.put ?_ hT
      rw [← htk]
      exact List.Pairwise.sublist (List.take_sublist _ _) G.up
    · refine .inl ⟨⟨_, hY, by omega⟩, q D kvs H' k3 nD hD ?_⟩
      rwa [List.take_of_length_le (by omega)] at hT
/-- does a way lead to the root? -/
def spLeads (K : PySem.W.Frag) : Sp := fun vs H Q _ => ∃ (root : Int) (p : Addr) (kvs : List (Key × V)) (g : IF) (v : Int), vs = [.int root, .ref p, .int v] ∧ Rd H p (.dK kvs) ∧ DI kvs g ∧ kvs.length ≤ 5000 ∧ Q (.bl (decide (clm g kvs.length v = root))) H
theorem ok_leads {f : Addr} {fd : FuncData} (F : Fun K "leads_to" "leads_to" sLeads f fd) (mr : mg "range" = none) (ml : mg "len" = none) : FnOk P w K mg base CX0 1 f fd ["root", "ahead", "place"] (spLeads K) := by
  refine F.ok scLeads (fun vs H Q E h => ?_) (fun cdv A outer s H vs Q E hr h => ?_)
  · obtain ⟨a, p, kvs, g, v, rfl, _⟩ := h
    rfl
  · obtain ⟨root, p, kvs, g, v, rfl, hp, hD, hl, q⟩ := h
    have hu := hu_of hr
    refine ⟨_, pss_cons (ps_for PassesOwn.never rfl (pi_range1 (by rfl) mr (pa_cons (pe_callB call_lenR (by rfl) ml PySem.boot_len (pa_cons (pv 1) pa_nil)) pa_nil)) (pg_name (i := 3) scLeads.nd rfl (.inl rfl))
        (pss_one (ps_if (pt_cmp (pc_din hu (pv 2) (pv 1))) (pss_one (ps_set (i := 2) scLeads.nd rfl (.inl rfl) (pe_dget hu (pv 1) (pv 2) (fun _ _ => rfl)))) pss_nil)))
      (pss_one (ps_ret (pe_cmpR op_eq (pv 2) (pv 0) (nomark _)))), ?_⟩
    refine ⟨_, rfl, p, kvs, rfl, hp, _, rfl, by omega, by omega, for_range (lo := 0) (n := kvs.length) (fun i σ' H' => ∃ y3, σ' = [some (.int root), some (.ref p), some (.int (clm g i v)), y3] ∧ H' = H)
      ⟨none, rfl, rfl⟩ (fun i σ' H' hi h => ?_) (fun σ' H' h => ?_)⟩
    · obtain ⟨y3, rfl, rfl⟩ := h
      have ds := dgetR hp hD (clm g i v)
      refine ⟨_, rfl, _, rfl, p, _, rfl, ds, _, rfl, ?_⟩
      show if ((g (clm g i v)).map V.int).isSome = true then _ else _
      cases e : g (clm g i v) with
      | none => exact ⟨_, by rw [show clm g (i + 1) v = clm g i v from stp_none e]; rfl, rfl⟩
      | some x =>
        rw [e] at ds
        exact iteT ⟨_, rfl, _, rfl, p, _, rfl, ds, _, by rw [show clm g (i + 1) v = x from stp_some e]; rfl, rfl⟩
    · obtain ⟨y3, rfl, rfl⟩ := h
      refine ⟨_, rfl, _, rfl, rfl, ?_⟩
      refine qeq q ?_
      by_cases e : clm g kvs.length v = root
      · rw [e, decide_eq_true rfl, decide_eq_true rfl]
      · rw [decide_eq_false e, decide_eq_false (fun z => e (by cases z; rfl))]
end
end HK

set_option Elab.async false
set_option linter.all false
set_option maxRecDepth 100000
set_option maxHeartbeats 4000000
namespace HK
open PySem PySem.Spec PyProof.Rows L2 GAl GxR DTu
open Evl (pss_cut)
section
variable {P : Program} {w : World} {K : PySem.W.Frag} {mg : Str → Option Value} {base : Heap}
def spGrows (K : PySem.W.Frag) (Pp Pg : Addr) : Sp := fun vs H Q _ => ∃ (a : Addr) (n : Int) (rs : List R4) (root : Int) (p : Addr) (kvs : List (Key × V)) (g : IF), vs = [.ref a, .int root, .ref p] ∧ NetAt K H a n rs ∧ Good n rs ∧ rs.length ≤ 156 ∧
  H p = some (.dK kvs) ∧ DI kvs g ∧ kvs.length ≤ 5000 ∧ TabG H Pp ∧ TabG H Pg ∧ ∀ (H' : Hp) (b : Bool), K0 H H' → (b = true ↔ TreeP rs root g kvs.length) → Q (.bl b) H'
theorem ok_grows {f c fW fR fL Pp Pg : Addr} {fd fdW fdR fdL : FuncData} (F : FunC K "grows" "grows" sGrows f fd c) (TB : TabB base mg c Pg)
    (kW : PySem.W.keepIn K (.ref fW) = true) (bW : Binds K fdW ["thing"] []) (gW : mg "are_whole_pairs" = some (.ref fW)) (GW : FnOk P w K mg base CX0 3 fW fdW ["thing"] (spPairs K Pp))
    (kR : PySem.W.keepIn K (.ref fR) = true) (bR : Binds K fdR ["net"] []) (gR : mg "road_prices" = some (.ref fR)) (GR : FnOk P w K mg base CX0 1 fR fdR ["net"] (spTab (·.c) K))
    (kL : PySem.W.keepIn K (.ref fL) = true) (bL : Binds K fdL ["root", "ahead", "place"] []) (gL : mg "leads_to" = some (.ref fL)) (GL : FnOk P w K mg base CX0 1 fL fdL ["root", "ahead", "place"] (spLeads K))
    (mall : mg "all" = none) : FnOk P w K mg base CX0 4 f fd ["net", "root", "ahead"] (spGrows K Pp Pg) := by
  refine F.ok scGrows (fun vs H Q E h => ?_) (fun A outer s H vs Q E hr h => ?_)
  · obtain ⟨a, n, rs, v, p, kvs, g, rfl, _⟩ := h
    rfl
  · obtain ⟨a, n, rs, root, p, kvs, g, rfl, hN, hG, hl, hp, hD, hkl, tp, tg, q⟩ := h
    have hu := hu_of hr
    refine ⟨_, pss_cons (ps_if (PW.pt (pw_or (pt_not (pt_val (pe_call GW hr (by rfl) gW kW bW .nil pass0 (pa_cons (pv 2) pa_nil)))) (pw_or1 (pt_cmp (pc_din hu (pv 1) (pv 2)))))) (pss_one (ps_ret pe_bl)) pss_nil)
      (pss_cons (ps_set (i := 3) scGrows.nd rfl (.inr rfl) (pe_call GR (hr.mono (by decide)) (by rfl) gR kR bR .nil pass0 (pa_cons (pv 0) pa_nil)))
      (pss_cons (ps_if (pt_not (pt_val (pe_lock (pe_allG (own := [("end", 4), ("start", 5)]) (k := 2) (g := gTup K 2 (gCons (gName 4) (gCons (gName 5) gNil))) (tt := tYes) (te := tDIn (tTup (tCons (tVar 5) (tCons (tVar 4) tNil))) (tVar 3)) hr (by rfl) mall rfl scGrows.nd TB rfl (gsc_by (N := ["net", "root", "ahead", "prices", "end", "start", "place"]) (sc := defScope sGrows) (by decide +kernel))
          (pi_items (pv 2)) (fun A' hr' _ _ _ _ _ _ => pg_tup rfl (pgs_cons (pg_name (i := 4) scGrows.nd rfl (.inl rfl)) (pgs_cons (pg_name (i := 5) scGrows.nd rfl (.inl rfl)) pgs_nil))) (fun A' hr' _ _ _ _ _ _ => pts_nil)
          (fun A' hr' _ _ _ _ _ _ => pe_cmp (pc_din (hu_of hr') (pe_tup (pa_cons (pv 5) (pa_cons (pv 4) pa_nil))) (pv 3))))))) (pss_one (ps_ret pe_bl)) pss_nil)
      (pss_one (ps_ret (pe_lock (pe_allG (own := [("place", 6)]) (k := 2) (g := gName 6) (tt := tYes) (te := tCall (spLeads K) [] E0 (tCons (tVar 1) (tCons (tVar 2) (tCons (tVar 6) tNil)))) hr (by rfl) mall rfl scGrows.nd TB rfl (gsc_by (N := ["net", "root", "ahead", "prices", "end", "start", "place"]) (sc := defScope sGrows) (by decide +kernel))
          (pi_keys (pv 2)) (fun A' hr' _ _ _ _ _ _ => pg_name (i := 6) scGrows.nd rfl (.inl rfl)) (fun A' hr' _ _ _ _ _ _ => pts_nil)
          (fun A' hr' _ _ _ _ _ _ => pe_call GL (hr'.mono (by decide)) (by rfl) gL kL bL .nil pass0 (pa_cons (pv 1) (pa_cons (pv 2) (pa_cons (pv 6) pa_nil)))))))))), ?_⟩
    refine ⟨_, rfl, p, kvs, g, rfl, hp, hD, tp, fun H1 k1 => ⟨_, rfl, iteF ?_⟩⟩
    have hp1 := k1.oth p _ hp (fun _ z => by cases z)
    refine ⟨_, rfl, _, rfl, p, _, rfl, dgetR (.inl hp1) hD root, _, rfl, ?_⟩
    cases er : g root with
    | some x => exact iteT (q _ false k1 ⟨fun z => by (cases z), fun z => by rw [z.1] at er; cases er⟩)
    | none =>
    refine iteF ?_
    refine ⟨_, rfl, a, n, rs, rfl, hN.k0 k1, hG, hl, fun D ts H2 k2 nD hD2 hT => ?_⟩
    have k12 := k1.trans k2
    have hp2 := k12.oth p _ hp (fun _ z => by cases z)
    have hpD : p ≠ D := fun z => by rw [z, nD] at hp1; cases hp1
    -- all the roads
    refine ⟨p, _, hp2, trivial, fun od => ⟨_, rfl, p, od, kvs, rfl, upd_same, tabG_lock hp2 (fun _ z => by cases z) (k12.tab _ tg), fun H3 hT3 => ?_⟩⟩
    have k3 : K0 (upd H2 p (.frz od (.dK kvs))) H3 := K0.tbd (tabG_lock hp2 (fun _ z => by cases z) (k12.tab _ tg)) hT3
    refine ⟨fun i m H4 => i + m = kvs.length ∧ K0 (upd H2 p (.frz od (.dK kvs))) H4 ∧ ∀ e ∈ kvs.take i, ∀ v x, e = (Sum.inl v, V.int x) → (road rs x v).isSome = true, ⟨kvs.length, by omega, k3, fun e he => by rw [List.take_zero] at he; cases he⟩, fun i m H4 hW => ?_⟩
    obtain ⟨em, k4, hyes⟩ := hW
    have hp4 : H4 p = some (.frz od (.dK kvs)) := k4.oth p _ upd_same (fun _ z => by cases z)
    have hD4 : H4 D = some (.dT ts) := k4.oth D _ (by rw [upd_ne hpD.symm]; exact hD2) (fun _ z => by cases z)
    have kend : ∀ {H7}, K0 (upd H2 p (.frz od (.dK kvs))) H7 → K0 H (upd H7 p (.dK kvs)) := fun k => k12.trans (K0.lock hp2 (fun _ z => by cases z) k)
    by_cases hi : i < kvs.length
    · have g2 : kvs[i]? = some kvs[i] := List.getElem?_eq_getElem hi
      obtain ⟨j, z, e, e2⟩ := hD.at_ (List.mem_of_getElem? g2)
      rw [e] at g2
      have htk : kvs.take (i + 1) = kvs.take i ++ [(Sum.inl j, V.int z)] := by rw [List.take_add_one, g2]; rfl
      refine .inr ⟨⟨hp4, hi⟩, fun H' => K0 (upd H2 p (.frz od (.dK kvs))) H' ∧ (road rs z j).isSome = true, fun H' hN => ⟨m - 1, by omega, by omega, hN.1, fun e' he' => ?_⟩, fun x' H' hy => ?_⟩
      · rw [htk] at he'
        rcases List.mem_append.mp he' with he' | he'
        · exact hyes e' he'
        · have := List.mem_singleton.mp he'
          subst this
          intro v x ee
          cases ee
          exact hN.2
      · obtain ⟨T, k, v, hkv, rfl, nT, rfl⟩ := hy
        rw [g2] at hkv
        cases hkv
        have kT := k4.mut (o := .tup [.int j, .int z]) (k4.dom T nT)
        have hDT : upd H4 T (.tup [.int j, .int z]) D = some (.dT ts) := by rw [upd_ne (ne_of_none hD4 nT)]; exact hD4
        refine ⟨T, _, rfl, .inl (.inl upd_same), rfl, _, _, rfl, _, _, rfl, rfl, rfl, tyes ?_⟩
        refine ⟨_, rfl, _, rfl, by show 2 ≤ sizeLine; decide, fun kt nkt => ?_⟩
        have kk := kT.mut (o := .tup [.int z, .int j]) (kT.dom kt nkt)
        have hDk : upd (upd H4 T (.tup [.int j, .int z])) kt (.tup [.int z, .int j]) D = some (.dT ts) := by rw [upd_ne (ne_of_none hDT nkt)]; exact hDT
        refine ⟨_, rfl, D, _, rfl, DGet.t (k := [Sum.inl z, Sum.inl j]) hDk upd_same, _, rfl, ?_⟩
        rw [hT.2 z j]
        cases eo : road rs z j with
        | some r => exact iteT ⟨kk, by first | rfl | (rw [eo]; rfl)⟩
        | none =>
          have hp5 := kk.oth p _ upd_same (fun _ z => by cases z)
          refine iteF ⟨hp5, _, rfl, iteT (q _ false (kend kk) ⟨fun z => by (cases z), fun z => ?_⟩)⟩
          have := z.2.1 _ _ e2
          rw [eo] at this
          cases this
    · rw [List.take_of_length_le (by omega)] at hyes
      refine .inl ⟨⟨hp4, by omega⟩, hp4, _, rfl, iteF ?_⟩
      have k14 := kend k4
      have hroads : ∀ v x, g v = some x → (road rs x v).isSome = true := fun v x e => hyes (Sum.inl v, .int x) (by
        have := (hD.mem v).mpr (by rw [e]; rfl)
        obtain ⟨pp, hpp, ep⟩ := List.mem_map.mp this
        obtain ⟨j, z, rfl, ej⟩ := hD.at_ hpp
        cases ep
        rw [e] at ej
        cases ej
        exact hpp) v x rfl
      -- all the ways
      have hp5 : upd H4 p (.dK kvs) p = some (.dK kvs) := upd_same
      generalize hH5 : upd H4 p (.dK kvs) = H5 at k14 hp5
      refine ⟨p, _, hp5, trivial, fun od2 => ⟨_, rfl, p, od2, rfl, .inl ⟨kvs, upd_same, tabG_lock hp5 (fun _ z => by cases z) (k14.tab _ tg), fun H6 hT6 => ?_⟩⟩⟩
      have k6 : K0 (upd H5 p (.frz od2 (.dK kvs))) H6 := K0.tbd (tabG_lock hp5 (fun _ z => by cases z) (k14.tab _ tg)) hT6
      refine ⟨fun i m H7 => i + m = kvs.length ∧ K0 (upd H5 p (.frz od2 (.dK kvs))) H7 ∧ ∀ e ∈ kvs.take i, ∀ v x, e = (Sum.inl v, V.int x) → clm g kvs.length v = root, ⟨kvs.length, by omega, k6, fun e he => by rw [List.take_zero] at he; cases he⟩, fun i m H7 hW => ?_⟩
      obtain ⟨em, k7, hyes2⟩ := hW
      have hp7 : H7 p = some (.frz od2 (.dK kvs)) := k7.oth p _ upd_same (fun _ z => by cases z)
      have kend2 : ∀ {H8}, K0 (upd H5 p (.frz od2 (.dK kvs))) H8 → K0 H (upd H8 p (.dK kvs)) := fun k => k14.trans (K0.lock hp5 (fun _ z => by cases z) k)
      by_cases hi2 : i < kvs.length
      · have g2 : kvs[i]? = some kvs[i] := List.getElem?_eq_getElem hi2
        obtain ⟨j, z, e, e2⟩ := hD.at_ (List.mem_of_getElem? g2)
        rw [e] at g2
        have htk : kvs.take (i + 1) = kvs.take i ++ [(Sum.inl j, V.int z)] := by rw [List.take_add_one, g2]; rfl
        refine .inr ⟨⟨hp7, hi2⟩, fun H' => K0 (upd H5 p (.frz od2 (.dK kvs))) H' ∧ clm g kvs.length j = root, fun H' hN => ⟨m - 1, by omega, by omega, hN.1, fun e' he' => ?_⟩, fun x' H' hy => ?_⟩
        · rw [htk] at he'
          rcases List.mem_append.mp he' with he' | he'
          · exact hyes2 e' he'
          · have := List.mem_singleton.mp he'
            subst this
            intro v x ee
            cases ee
            exact hN.2
        · obtain ⟨rfl, k, v, hkv, rfl⟩ := hy
          rw [g2] at hkv
          cases hkv
          refine ⟨rfl, tyes ⟨_, rfl, _, rfl, _, rfl, root, p, kvs, g, j, rfl, .inr ⟨od2, hp7⟩, hD, hkl, _, rfl, ?_⟩⟩
          by_cases ec : clm g kvs.length j = root
          · rw [decide_eq_true ec]
            exact iteT ⟨k7, ec⟩
          · rw [decide_eq_false ec]
            exact iteF ⟨hp7, q _ false (kend2 k7) ⟨fun z => by (cases z), fun z => absurd (z.2.2 _ _ e2) ec⟩⟩
      · rw [List.take_of_length_le (by omega)] at hyes2
        refine .inl ⟨⟨hp7, by omega⟩, hp7, q _ true (kend2 k7) ⟨fun _ => ⟨er, hroads, fun v x e => ?_⟩, fun _ => rfl⟩⟩
        refine hyes2 (Sum.inl v, .int x) ?_ v x rfl
        have := (hD.mem v).mpr (by rw [e]; rfl)
        obtain ⟨pp, hpp, ep⟩ := List.mem_map.mp this
        obtain ⟨j, z, rfl, ej⟩ := hD.at_ hpp
        cases ep
        rw [e] at ej
        cases ej
        exact hpp
end
end HK


set_option Elab.async false
set_option linter.all false
set_option maxRecDepth 100000
set_option maxHeartbeats 2000000
namespace GAl
open PySem PySem.Spec PyProof.Rows L2 GxR
open Sem (wp)
/-! ### generator expressions whose consumer keeps a record S of its own -/

theorem Inv.kallS {X : Cx} {ps : List (Addr × Obj)} {S : Addr} {oS oS' : Obj} {σ : L2.St} {H : Hp} {s s'' : Shared} (I : Inv X (ps ++ [(S, oS)]) σ H s) (hy : S ∈ X.ex ∨ X.s_0.heap.objs.size ≤ S) (hps : ∀ p ∈ X.pn ++ ps, p.1 ≠ S)
    (ho : s''.os = s.os) (hb : AllBare s''.gens) (k : ∀ b o, b ≠ S → s.heap.get? b = some o → s''.heap.get? b = some o) (hS : s''.heap.get? S = some oS') (hd : ∀ v, oS'.data ≠ .cell v) : Inv X (ps ++ [(S, oS')]) σ H s'' := by
  obtain ⟨h1, h2, h3, h4, h5⟩ := I.pin (S, oS) (List.mem_append_right _ (List.mem_append_right _ (List.mem_singleton.mpr rfl)))
  have hcell : ∀ x c, X.env.cells.lookup x = some c → c ≠ S := fun x c e z => by
    obtain ⟨v, o, q, d⟩ := I.cell x c e
    have h1 : s.heap.get? S = some oS := h1
    rw [z, h1] at q
    cases q
    exact h5 _ d
  have I' : Inv X ps σ H s := I.unpinned
  have I1 := I'.turned (it := S) (h' := s''.heap) (t' := s.toks) k h2 h3 hy hcell hps
  have I2 : Inv X ps σ H s'' := Inv.kall I1 ho hb (fun _ _ e => e)
  refine I2.pins_of fun p hp => ?_
  rcases List.mem_append.mp hp with hp | hp
  · exact I2.pin p (List.mem_append_right _ hp)
  · have := List.mem_singleton.mp hp
    subst this
    exact ⟨hS, h2, h3, h4, hd⟩

section
variable {G : Type}
def REndS (XG : Cx) (a : Addr) (oa : Obj) (S : Addr) (Rep : Obj → G → Prop) (σw : L2.St) (Qd : G → Hp → Prop) : Nat → Shared → Shared → Prop := fun _ s₀ s₁ =>
  ∃ γ oS H4, s₀.heap.get? S = some oS ∧ Rep oS γ ∧ Inv XG ([(a, oa)] ++ [(S, oS)]) σw H4 s₁ ∧ Qd γ H4
def YOutS (XG : Cx) (a : Addr) (oa : Obj) (S : Addr) (Rep : Obj → G → Prop) (stp : G → V → Hp → (G → Prop) → Prop) : Protocol := fun _ s₀ v s kap =>
  ∃ γ oS y H4 σ4, s₀.heap.get? S = some oS ∧ Rep oS γ ∧ Inv XG ([(a, oa)] ++ [(S, oS)]) σ4 H4 s ∧ RelV y v ∧
    stp γ y H4 (fun γ' => ∀ (s'' : Shared) (oS' : Obj), s''.os = s.os → AllBare s''.gens → (∀ b o, b ≠ S → s.heap.get? b = some o → s''.heap.get? b = some o) → s''.heap.get? S = some oS' → Rep oS' γ' → (∀ v, oS'.data ≠ .cell v) → kap (.send .none) s'')
/-- what a turn asks -/
def GTurnS (J : It) (g : TG) (tt : TT) (te : TE) (vs : List Nat) (σw : L2.St) (Qd : Nat → G → Hp → Prop) (stp : G → V → Hp → (G → Prop) → Prop) (W : Nat → Nat → G → Hp → Prop) : Prop :=
  ∀ i m γ H, W i m γ H → (J.stop i H ∧ Qd m γ H) ∨ (J.go i H ∧ ∃ Nx : G → Hp → Prop, (∀ γ' H', Nx γ' H' → ∃ m', m' < m ∧ W (i + 1) m' γ' H') ∧ ∀ x H', J.yld i H x H' → g x σw H' fun σ2 H2 => wipe σ2 vs = σw ∧ tt σ2 H2 fun b H3 =>
    if b = true then te σ2 H3 fun y H4 => stp γ y H4 (fun γ' => Nx γ' H4) else Nx γ H3)
/-- one turn of the last clause -/
@[reducible] def turnOf (tg iter : Expr) (ifs : List Expr) (elt : Expr) (it : Value) (cenv : Env) (c : Code) : Sem Fin := do
  standAt iter.pos
  match ← pyNext it with
  | none => pure (.done .next)
  | some v =>
    letOwnedTupleGo tg it v
    assign tg cenv v
    let mut ok := true
    for c in ifs do
      if ok then ok ← isTrue c cenv (eval c cenv)
    if ok then
      (do let v ← eval elt cenv; standAt elt.pos; let _ ← yieldOut cenv v)
    again c
/-- what the iterator's objects are, whatever stands in the heap -/
def FpSt (X : Cx) (b : Addr) : Prop := b ≠ X.env.locals ∧ b ∉ X.fs ∧ (b ∈ X.ex ∨ X.s_0.heap.objs.size ≤ b) ∧ (∀ x c, X.env.cells.lookup x = some c → c ≠ b)
end

section
variable {G : Type} {X XG XI : Cx} {elt tg iter : Expr} {ifs : List Expr} {it a S : Addr} {oa : Obj} {fp : List Addr} {cenv : Env} {AG : Around} {c : Code} {fs : List Frame} {lv : Value → Sem Unit} {J : It} {tn : Nat → Heap → Prop} {R : GenEnd} {ps : List (Addr × Obj)}
  {g : TG} {tt : TT} {te : TE} {vs : List Nat} {σw : L2.St} {Qd : Nat → G → Hp → Prop} {Rep : Obj → G → Prop} {stp : G → V → Hp → (G → Prop) → Prop} {W : Nat → Nat → G → Hp → Prop}

theorem gen_loopS (hA : XI.A = AG.over c fs) (hP : XI.prog = X.prog) (hw : XI.w = X.w) (hK : XI.K = X.K) (hcalm : XI.calm = true) (henv : XI.env = cenv) (hxe : XI.xe = fun _ _ => False) (hpn : XI.pn = [])
    (hden : (model X.prog X.w).den c = (turnOf tg iter ifs elt (.ref it) cenv c).onRaise lv) (hcq : c.quiet = true) (hfs : splitAtGen fs = none) (hfg : fs.any Frame.guarded = false)
    (hco : cenv.scope.isCoroutine = false) (T : Turn X.prog X.w X.K tg J fp it tn) (hst : ∀ b ∈ fp, FpSt XI b) (hSy : S ∈ XI.ex ∨ XI.s_0.heap.objs.size ≤ S) (hSfp : ∀ b ∈ fp, S ≠ b) (hpsS : ∀ p ∈ ps, p.1 ≠ S) (hpsf : ∀ p ∈ ps, ∀ b ∈ fp, p.1 ≠ b) (haps : (a, oa) ∈ ps)
    (hmono : ∀ γ y H (p q : G → Prop), (∀ γ', p γ' → q γ') → stp γ y H p → stp γ y H q)
    (htr : ∀ ps σ H s, Inv XI ps σ H s → Inv XG ps σ H s)
    (hend : ∀ m n γ oS s₀ s H, m < n → s₀.heap.get? S = some oS → Rep oS γ → Inv XI (ps ++ [(S, oS)]) σw H s → Qd m γ H → Seg (model X.prog X.w) AG R (YOutS XG a oa S Rep stp) n s₀ c (leafOf (.ok .next)) fs s)
    (pg : PG XI tg g) (pt : PTs XI ifs tt) (pe : PE XI elt te) (hW : GTurnS J g tt te vs σw Qd stp W) :
    ∀ (m n i : Nat) (γ : G) (oS : Obj) (s₀ s : Shared) (H : Hp), m < n → W i m γ H → s₀.heap.get? S = some oS → Rep oS γ → Inv XI (ps ++ [(S, oS)]) σw H s → tn i s.heap → (∀ b ∈ fp, H b = none) →
      Seg (model X.prog X.w) AG R (YOutS XG a oa S Rep stp) n s₀ c ((model X.prog X.w).den c) fs s := by
  have stat : ∀ {oS : Obj} {σ' : L2.St} {H' : Hp} {s' : Shared}, Inv XI (ps ++ [(S, oS)]) σ' H' s' → (∀ b ∈ fp, H' b = none) → ∀ b ∈ fp, FpOk XI (ps ++ [(S, oS)]) H' b := fun {oS σ' H' s'} I' hn b hb =>
    ⟨hn b hb, (hst b hb).1, (hst b hb).2.1, (hst b hb).2.2.1, (hst b hb).2.2.2, fun p hp => by
      rw [hpn, List.nil_append] at hp
      rcases List.mem_append.mp hp with hp | hp
      · exact hpsf p hp b hb
      · have := List.mem_singleton.mp hp
        subst this
        exact hSfp b hb⟩
  have hpsS' : ∀ p ∈ XI.pn ++ ps, p.1 ≠ S := by rw [hpn]; exact hpsS
  intro m
  induction m using Nat.strongRecOn with
  | ind m ih =>
    intro n i γ oS s₀ s H hmn w hS0 hRep I st nH
    rw [hden, Sem.onRaise_eq_wrap]
    refine seg_bind_wrap (wpAny_standAt ?_)
    rcases hW i m γ H w with ⟨stop, qq⟩ | ⟨go, Nx, hNx, step⟩
    · have td := T.done XI hP hw hK hcalm i _ s _ H (fun _ _ => False) I (stat I nH) st stop
      rw [hA] at td
      refine seg_bind_wrap (thnF td fun r s1 ⟨hr, I1⟩ => ?_)
      subst hr
      exact hend m n γ oS s₀ s1 H hmn hS0 hRep I1 qq
    · have ti := T.item XI hP hw hK hcalm i _ s _ H (fun _ _ => False) I (stat I nH) st go
      rw [hA] at ti
      refine seg_bind_wrap (thnF ti fun r s1 ⟨u, hr, h1⟩ => ?_)
      subst hr
      refine seg_bind_wrap (thnF h1 fun _ s2 ⟨x, H2, I2, r2, y2, st2, n2⟩ => ?_)
      have I2' := I2.pinned (stat I2 n2) (T.obj _ _ st2)
      have rg := pg.run _ s2 _ H2 x u _ I2' r2 (step x H2 y2)
      rw [hA, hP, hw, henv, hxe] at rg
      refine seg_bind_wrap (thnF rg fun _ s3 ⟨σ3, H3, I3, hw3, q3⟩ => ?_)
      have rt := pt.run _ s3 σ3 H3 _ I3 q3
      rw [hA, hP, hw, henv, hxe] at rt
      refine seg_bind_wrap (thnF rt fun b s5 ⟨H5, I5, q5⟩ => ?_)
      have hl : σw.length = σ3.length := by rw [← hw3, wipe_length]
      have pin' : ∀ {H' : Hp} {s' : Shared} {σ' : L2.St}, Inv XI ((ps ++ [(S, oS)]) ++ pinsAt fp s2.heap) σ' H' s' → ∀ b ∈ fp, ∀ o, s2.heap.get? b = some o → s'.heap.get? b = some o ∧ H' b = none := fun {H' s' σ'} I' b hb o e =>
        let z := I'.pin (b, o) (List.mem_append_right _ (List.mem_append_right _ (mem_pinsAt hb e)))
        ⟨z.1, z.2.1⟩
      cases b with
      | false =>
        simp only [Bool.false_eq_true, if_false] at q5 ⊢
        obtain ⟨m', hm, w'⟩ := hNx γ H5 q5
        refine seg_again hcq (ih m' hm n (i + 1) γ oS s₀ s5 H5 (by omega) w' hS0 hRep ((I5.unpinned (pins := ps ++ [(S, oS)])).weak hl (fun j v e => ?_)) (T.keep _ _ _ st2 fun b hb o e => (pin' I5 b hb o e).1) (fun b hb => ?_))
        · rw [← hw3] at e
          exact (wipe_some e).1
        · obtain ⟨o, e, _⟩ := T.obj _ _ st2 b hb
          exact (pin' I5 b hb o e).2
      | true =>
        simp only [if_true] at q5 ⊢
        have hy : ∀ v, yieldOut cenv v = yieldValue v := fun v => by simp only [yieldOut, hco, Bool.false_eq_true, if_false]
        simp only [hy]
        rw [Sem.bind_eq_wrap', Sem.bind_eq_wrap', Sem.wrap_wrap, Sem.wrap_wrap]
        have re := pe.run _ s5 σ3 H5 _ I5 q5
        rw [hA, hP, hw, henv, hxe] at re
        refine seg_wrap (thnF re fun z s6 ⟨yv, H6, I6, r6, q6⟩ => ?_)
        cases n with
        | zero => exact absurd hmn (Nat.not_lt_zero _)
        | succ n =>
          have I6' : Inv XI (ps ++ [(S, oS)]) σ3 H6 s6 := I6.unpinned
          have I6w : Inv XI (ps ++ [(S, oS)]) σw H6 s6 := I6'.weak hl (fun j v e => by rw [← hw3] at e; exact (wipe_some e).1)
          refine seg_at (seg_yield hfs rfl hfg ⟨γ, oS, yv, H6, σ3, hS0, hRep, htr _ _ _ _ (I6'.pins_of fun p hp => I6'.pin p (List.mem_append_right _ ?_)), r6, hmono _ _ _ _ _ (fun γ' nx s'' oS' e1 e2 e3 e4 e5 e6 => ?_) q6⟩)
          · rcases List.mem_append.mp hp with hp | hp
            · have := List.mem_singleton.mp hp
              subst this
              exact List.mem_append_left _ haps
            · exact List.mem_append_right _ hp
          · obtain ⟨m', hm, w'⟩ := hNx γ' H6 nx
            refine seg_again hcq (ih m' hm n (i + 1) γ' oS' s'' s'' H6 (by omega) w' e4 e5 (Inv.kallS I6w hSy hpsS' e1 e2 e3 e4 e6) (T.keep _ _ _ st2 fun b hb o e => e3 b o (fun z => hSfp b hb z.symm) (pin' I6 b hb o e).1) (fun b hb => ?_))
            obtain ⟨o, e, _⟩ := T.obj _ _ st2 b hb
            exact (pin' I6 b hb o e).2
end
end GAl

set_option Elab.async false
set_option linter.all false
set_option maxRecDepth 100000
set_option maxHeartbeats 2000000
namespace GAl
open PySem PySem.Spec PyProof.Rows L2 GxR
open Sem (wp)
section
variable {G : Type} {X : Cx} {elt tg iter : Expr} {ifs : List Expr} {scope : Scope} {pos : Pos} {it a S : Addr} {oa : Obj} {fp : List Addr} {cenv : Env} {AG : Around} {s4 : Shared} {Hs : Hp} {J : It} {tn : Nat → Heap → Prop}
  {g : TG} {tt : TT} {te : TE} {vs : List Nat} {σw : L2.St} {Qd : G → Hp → Prop} {Rep : Obj → G → Prop} {stp : G → V → Hp → (G → Prop) → Prop} {W : Nat → Nat → G → Hp → Prop}
theorem gen_beginS (hc : X.calm = true) (hco : cenv.scope.isCoroutine = false) (T : Turn X.prog X.w X.K tg J fp it tn) (hafp : ∀ b ∈ fp, a ≠ b) (hSfp : ∀ b ∈ fp, S ≠ b) (haS : a ≠ S) (hSy : s4.heap.objs.size ≤ S)
    (hmono : ∀ γ y H (p q : G → Prop), (∀ γ', p γ' → q γ') → stp γ y H p → stp γ y H q)
    (pg : PG (gcx X (AG.over (.compLoop (.GeneratorExp elt [⟨tg, iter, ifs, 0⟩] scope pos) 0 (.ref it) .none cenv) []) s4 Hs cenv fp) tg g)
    (pt : PTs (gcx X (AG.over (.compLoop (.GeneratorExp elt [⟨tg, iter, ifs, 0⟩] scope pos) 0 (.ref it) .none cenv) []) s4 Hs cenv fp) ifs tt)
    (pe : PE (gcx X (AG.over (.compLoop (.GeneratorExp elt [⟨tg, iter, ifs, 0⟩] scope pos) 0 (.ref it) .none cenv) []) s4 Hs cenv fp) elt te)
    (hW : GTurnS J g tt te vs σw (fun _ => Qd) stp W) (m : Nat) (γ : G) (oS : Obj) (s₀ s : Shared) (H : Hp) (w : W 0 m γ H) (hS0 : s₀.heap.get? S = some oS) (hRep : Rep oS γ)
    (I : Inv (gcx X (AG.over (.compLoop (.GeneratorExp elt [⟨tg, iter, ifs, 0⟩] scope pos) 0 (.ref it) .none cenv) []) s4 Hs cenv fp) ([(a, oa)] ++ [(S, oS)]) σw H s) (st : tn 0 s.heap) (nH : ∀ b ∈ fp, H b = none) :
      Seg (model X.prog X.w) AG (fun n s₀ r s₁ => r = .ok .next ∧ REndS (gcx X (AG.over (.compLoop (.GeneratorExp elt [⟨tg, iter, ifs, 0⟩] scope pos) 0 (.ref it) .none cenv) []) s4 Hs cenv fp) a oa S Rep σw Qd n s₀ s₁)
        (YOutS (gcx X (AG.over (.compLoop (.GeneratorExp elt [⟨tg, iter, ifs, 0⟩] scope pos) 0 (.ref it) .none cenv) []) s4 Hs cenv fp) a oa S Rep stp) (m + 1) s₀
        (.compStart (.GeneratorExp elt [⟨tg, iter, ifs, 0⟩] scope pos) 0 (.ref it) .none cenv)
        ((model X.prog X.w).den (.compStart (.GeneratorExp elt [⟨tg, iter, ifs, 0⟩] scope pos) 0 (.ref it) .none cenv)) [] s := by
  have hst : ∀ b ∈ fp, FpSt (gcx X (AG.over (.compLoop (.GeneratorExp elt [⟨tg, iter, ifs, 0⟩] scope pos) 0 (.ref it) .none cenv) []) s4 Hs cenv fp) b := fun b hb =>
    ⟨(I.ok.exf b hb).1, I.ok.exfs b hb, .inl hb, fun x c e => (I.ok.exf b hb).2 x c e⟩
  have loop := gen_loopS (a := a) (oa := oa) (S := S) (ps := [(a, oa)]) (R := fun n s₀ r s₁ => r = .ok .next ∧ REndS (gcx X (AG.over (.compLoop (.GeneratorExp elt [⟨tg, iter, ifs, 0⟩] scope pos) 0 (.ref it) .none cenv) []) s4 Hs cenv fp) a oa S Rep σw Qd n s₀ s₁) (Rep := Rep) (Qd := fun _ => Qd)
    (c := .compLoop (.GeneratorExp elt [⟨tg, iter, ifs, 0⟩] scope pos) 0 (.ref it) .none cenv) (fs := []) (cenv := cenv) (iter := iter) (lv := leaving cenv) (X := X) (AG := AG)
    (XG := gcx X (AG.over (.compLoop (.GeneratorExp elt [⟨tg, iter, ifs, 0⟩] scope pos) 0 (.ref it) .none cenv) []) s4 Hs cenv fp)
    (XI := gcx X (AG.over (.compLoop (.GeneratorExp elt [⟨tg, iter, ifs, 0⟩] scope pos) 0 (.ref it) .none cenv) []) s4 Hs cenv fp)
    rfl rfl rfl rfl hc rfl rfl rfl rfl rfl rfl rfl hco T hst (.inr hSy) hSfp
    (fun p hp => by have := List.mem_singleton.mp hp; subst this; exact haS) (fun p hp b hb => by have := List.mem_singleton.mp hp; subst this; exact hafp b hb) (List.mem_singleton.mpr rfl)
    hmono (fun _ _ _ _ I => I) (fun m n γ oS s₀ s H _ e1 e2 I q => seg_end (.ok .next) ⟨rfl, γ, oS, H, e1, e2, I, q⟩) pg pt pe hW m (m + 1) 0 γ oS s₀ s H (Nat.lt_succ_self _) w hS0 hRep I st nH
  show Seg _ AG _ _ _ s₀ _ ((compStart (.GeneratorExp elt [⟨tg, iter, ifs, 0⟩] scope pos) 0 (.ref it) .none cenv).onRaise (leaving cenv)) [] s
  unfold compStart
  rw [Sem.onRaise_eq_wrap]
  show Seg _ AG _ _ _ s₀ _ ((ask >>= _).wrap _ _ _ _) [] s
  refine seg_bind_wrap (wpAny_askSetting ?_)
  split
  · exact seg_again rfl loop
  · first
      | exact seg_bind_wrap (wpAny_rule (seg_bind_wrap (wpAny_standAt (seg_bind_wrap (T.self _ 0 s _ _ st (seg_again rfl loop))))))
      | (refine seg_bind_wrap (wpAny_rule ?_); show Seg _ AG _ _ _ s₀ _ ((standAt iter.pos >>= _).wrap _ _ _ _) [] s; exact seg_bind_wrap (wpAny_standAt (seg_bind_wrap (T.self _ 0 s _ _ st (seg_again rfl loop)))))
end

/-- what a consumed generator expression asks: the walked thing, the def's table, the turns -/
def tGenS {G : Type} (P : Addr) (wi : TI) (g : TG) (tt : TT) (te : TE) (vs : List Nat) (stp : G → V → Hp → (G → Prop) → Prop) (γ0 : G) (Qd : G → Hp → Prop) : L2.St → Hp → Prop := fun σ H =>
  wi σ H fun J H1 => TabG H1 P ∧ ∀ H2, Tabbed P H1 H2 → ∃ W : Nat → Nat → G → Hp → Prop, (∃ m, W 0 m γ0 H2) ∧ GTurnS J g tt te vs (wipe σ vs) (fun _ => Qd) stp W

section
variable {G : Type} {X : Cx} {pins : List (Addr × Obj)} {σ : L2.St} {H : Hp} {s : Shared}
theorem gen_makeS {c P : Addr} {elt tg iter : Expr} {ifs : List Expr} {gpos : Pos} {scope : Scope} {own : List (Str × Nat)} {wi : TI} {g : TG} {tt : TT} {te : TE} {k : Nat} {stp : G → V → Hp → (G → Prop) → Prop} {Rep : Obj → G → Prop} {γ0 : G} {Qd : G → Hp → Prop} {Q' : Value → Shared → Prop}
    (hr : Room (k + 1) X.A) (hc : X.calm = true) (hN : X.N.Nodup) (TB : TabB X.base X.mg c P) (hcode : X.env.code = .ref c) (SC : GSc X.N X.env.scope scope own) (hi : PI X tg iter wi)
    (hg : ∀ (A' : Around), Room k A' → ∀ (s : Shared) (H : Hp) (cl : List (Str × Addr)) (C : Addr) (code : Value) (fp : List Addr), PG (gcx X A' s H (genEnv scope cl C code builtinsNs X.env) fp) tg g)
    (ht : ∀ (A' : Around), Room k A' → ∀ (s : Shared) (H : Hp) (cl : List (Str × Addr)) (C : Addr) (code : Value) (fp : List Addr), PTs (gcx X A' s H (genEnv scope cl C code builtinsNs X.env) fp) ifs tt)
    (he : ∀ (A' : Around), Room k A' → ∀ (s : Shared) (H : Hp) (cl : List (Str × Addr)) (C : Addr) (code : Value) (fp : List Addr), PE (gcx X A' s H (genEnv scope cl C code builtinsNs X.env) fp) elt te)
    (hmono : ∀ γ y H (p q : G → Prop), (∀ γ', p γ' → q γ') → stp γ y H p → stp γ y H q)
    (hs : ∀ v, genFold iter X.env v = pure v) (I : Inv X pins σ H s) (h : tGenS P wi g tt te (own.map (·.2)) stp γ0 Qd σ H)
    (hQ : ∀ (XG : Cx) (a : Addr) (oa : Obj) (gn n : Nat) (σw : L2.St) (s5 : Shared) (gs : GenState), XG.prog = X.prog → XG.w = X.w → XG.pn = [] → s5.heap.get? a = some oa → s5.heap.IsGen a gn → s5.gens[gn]? = some gs → s5.heap.NoLimit → AllBare s5.gens →
      (∀ (S : Addr) (s'' : Shared) (oS : Obj), s5.heap.objs.size ≤ S → s''.os = s5.os → AllBare s''.gens → (∀ b o, s5.heap.get? b = some o → s''.heap.get? b = some o) → s''.heap.get? S = some oS → Rep oS γ0 → (∀ v, oS.data ≠ .cell v) →
        gs.Goes (model X.prog X.w) X.A.in1.in1 (fun n s₀ r s₁ => r = .ok .next ∧ REndS XG a oa S Rep σw Qd n s₀ s₁) (YOutS XG a oa S Rep stp) n (.send .none) s'') →
      (∀ S, s5.heap.objs.size ≤ S → XG.s_0.heap.objs.size ≤ S) → (∀ s' ps σ' H', Inv XG ps σ' H' s' → Inv X pins σ H' s') → Q' (.ref a) s5) :
    wpAny (model X.prog X.w) X.A (eval (.GeneratorExp elt [⟨tg, iter, ifs, 0⟩] scope gpos) X.env) Q' X.xe s := by
  have ok := SC.blk
  have hfree : ∀ y ∈ scope.names, y.2 = .free → ∃ c, X.env.cells.lookup y.1 = some c := fun y hy e => by
    rcases ok.free y hy e with k | k
    · exact I.ok.has _ (.inl k)
    · exact I.ok.has _ (.inr k)
  refine wpAny_GeneratorExp_make SC.co (closure_ok hfree) SC.cell SC.dot ok.kind (by have := hr.dp; omega) ?_ hs
  refine thn (hi.run pins s σ H _ I h) fun xv s1 hx => thn hx fun itv s2 h2 => ?_
  obtain ⟨it, fp, tn, J, H2, e, I2, T, st2, f2, ⟨ps, hP, hts⟩, q⟩ := h2
  subst e
  have hPs : s2.heap.get? P = some { cls := .none, data := .fields ps } := I2.hok P _ hP
  have cd : PySem.W.CodeHd s2.heap c P := TB.code.keeps fun b u e => I2.bk b u e
  have nP : ∀ b ∈ fp, b ≠ P := fun b hb z => by
    have := (f2 b hb).1
    rw [z, hP] at this; cases this
  have sz2 : ∀ b ∈ fp, b < s2.heap.objs.size := fun b hb => by
    obtain ⟨o, e, _⟩ := T.obj _ _ st2 b hb
    exact Heap.lt_size e
  have cont : ∀ (code : Value) (h3 : Heap) (tk : Nat) (ps' : Array Value), Heap.ExtBut P s2.heap h3 → s2.heap.objs.size ≤ h3.objs.size → h3.get? P = some { cls := .none, data := .fields ps' } → (∃ more, ps' = ps ++ more) → TriplesOk ps'.toList →
      wpAny (model X.prog X.w) X.A (builtinsFor X.env.globals X.env.builtins) (fun bi s₄ =>
        ∀ h', h'.Ns s₄.heap.objs.size (fun y => if y = ".0" then some (.ref it) else none) → Heap.SameBut s₄.heap.objs.size (s₄.heap.push { cls := .type "frame", data := .dict #[] }) h' →
          Q' (.ref h'.objs.size) { s₄ with
            gens := s₄.gens.push (.fresh (.compStart (.GeneratorExp elt [⟨tg, iter, ifs, 0⟩] scope gpos) 0 (.ref it) .none (genEnv scope (cloFrom X.env.cells scope.names []) s₄.heap.objs.size code bi X.env))),
            toks := s₄.toks + 1 + 1 + 1,
            heap := h'.push { cls := .type "generator", data := .fields #[.int s₄.gens.size 0, .str "<genexpr>" (s₄.toks + 1), .str (X.env.qual ++ "<genexpr>") (s₄.toks + 1 + 1)] } }) X.xe { s2 with heap := h3, toks := tk } := by
    intro code h3 tk ps' hx hsz hP3 hmore ht3
    obtain ⟨bm, ob, e1, e2, e3, e4, e5, e6, e7, e8⟩ := TB.bm
    have keep3 : ∀ b u, b ≠ P → s2.heap.get? b = some u → h3.get? b = some u := fun b u hb e => hx b u hb e
    refine wpAny_builtinsFor (m := X.mg) (by rw [I2.ok.glob]; exact (I2.mod.glob.keeps I2.bk).extBut hx TB.gP) e1 e2 (keep3 _ _ e4 (I2.bk _ _ e5)) e6 e7 e8 ?_
    intro h' hn' hs'
    obtain ⟨more, em⟩ := hmore
    have I3 : Inv X pins σ (upd H2 P (.tbl (ps ++ more))) { s2 with heap := h3, toks := tk } :=
      inv_tab (more := more) (h' := h3) (g' := s2.gens) (d' := s2.drawn) (t' := tk) I2 hP keep3 (by rw [← em]; exact hP3) I2.bare
    obtain ⟨W, ⟨m0, w0⟩, turn⟩ := q (upd H2 P (.tbl (ps ++ more))) ⟨⟨ps ++ more, upd_same, by rw [← em]; exact ht3⟩, fun b hb => upd_ne hb⟩
    generalize hH3 : upd H2 P (.tbl (ps ++ more)) = H3 at I3 w0
    generalize hs4 : ({ s2 with heap := h3, toks := tk } : Shared) = s4 at I3 hn' hs' ⊢
    have hh4 : s4.heap = h3 := by rw [← hs4]
    have st4 : tn 0 s4.heap := T.keep _ _ _ st2 fun b hb o e => by rw [hh4]; exact keep3 b o (nP b hb) e
    have f3 : ∀ b ∈ fp, FpOk X pins H3 b ∧ b < s4.heap.objs.size := fun b hb => by
      refine ⟨⟨?_, (f2 b hb).2⟩, by rw [hh4]; exact Nat.lt_of_lt_of_le (sz2 b hb) hsz⟩
      rw [← hH3, upd_ne (nP b hb)]
      exact (f2 b hb).1
    have hszh : h'.objs.size = s4.heap.objs.size + 1 := by rw [hs'.1, Heap.size_push]
    have keep' : ∀ b o, s4.heap.get? b = some o → h'.get? b = some o := fun b o e => hs'.extBut b o (Nat.ne_of_lt (Heap.lt_size e)) (Heap.get?_push_of_some _ e)
    generalize hoa : ({ cls := .type "generator", data := .fields #[.int s4.gens.size 0, .str "<genexpr>" (s4.toks + 1), .str (X.env.qual ++ "<genexpr>") (s4.toks + 1 + 1)] } : Obj) = oa
    have ga : (h'.push oa).get? h'.objs.size = some oa := Heap.get?_push_size _ (by rw [← hoa]; rfl)
    have isg : (h'.push oa).IsGen h'.objs.size s4.gens.size := by rw [← hoa]; exact ⟨_, _, _, Heap.get?_push_size _ rfl, rfl, rfl, rfl⟩
    generalize hce : genEnv scope (cloFrom X.env.cells scope.names []) s4.heap.objs.size code builtinsNs X.env = cenv
    generalize hA' : X.A.in1.in1.over (.compLoop (.GeneratorExp elt [⟨tg, iter, ifs, 0⟩] scope gpos) 0 (.ref it) .none cenv) [] = A'
    have hfr : A'.frames = some (cenv :: X.stack) := by
      rw [← hA']
      show pushEnvs [cenv] (pushEnvs [] X.A.frames) = _
      rw [I2.ok.frames]
      rfl
    have hdp : A'.depth = X.A.depth + 1 := by rw [← hA']; rfl
    have hun : A'.units = X.A.units + 5 := by rw [← hA']; rfl
    have hhd : A'.handled = none := by rw [← hA']; exact hr.hd
    have hr' : Room k A' := ⟨hhd, by rw [hdp]; have := hr.dp; omega, by rw [hun]; have := hr.un; omega⟩
    have bare5 : AllBare (s4.gens.push (.fresh (.compStart (.GeneratorExp elt [⟨tg, iter, ifs, 0⟩] scope gpos) 0 (.ref it) .none cenv))) := I3.bare.push rfl
    have I5 := gen_start (A' := A') (cenv := cenv) (code := code) (m := fun y => if y = ".0" then some (.ref it) else none) (h5 := h'.push oa) (g' := s4.gens.push (.fresh (.compStart (.GeneratorExp elt [⟨tg, iter, ifs, 0⟩] scope gpos) 0 (.ref it) .none cenv)))
      (t5 := s4.toks + 1 + 1 + 1) (a := h'.objs.size) (oa := oa) I3 ok SC.cell hN f3 hce.symm hfr hhd (hn'.push _) (fun b o e => Heap.get?_push_of_some _ (keep' b o e)) bare5 ga (by omega) (by rw [← hoa]; intro v z; cases z)
    have back : ∀ s' ps' σ' H', Inv (gcx X A' s4 H3 cenv fp) ps' σ' H' s' → Inv X pins σ H' s' := fun s' ps' σ' H' I' =>
      I3.call' (ch := fp) I'.os I'.base I'.hok I'.bare fun b hb => ⟨(f3 b hb).1.2.2.2.1, (f3 b hb).1.2.1, (f3 b hb).1.2.2.2.2.1, (f3 b hb).1.2.2.2.2.2⟩
    have pg : PG (gcx X A' s4 H3 cenv fp) tg g := by rw [← hce]; exact hg A' hr' _ _ _ _ _ _
    have pt : PTs (gcx X A' s4 H3 cenv fp) ifs tt := by rw [← hce]; exact ht A' hr' _ _ _ _ _ _
    have pe : PE (gcx X A' s4 H3 cenv fp) elt te := by rw [← hce]; exact he A' hr' _ _ _ _ _ _
    refine hQ (gcx X A' s4 H3 cenv fp) h'.objs.size oa s4.gens.size (m0 + 1) (wipe σ (own.map (·.2))) _ _ rfl rfl rfl ga isg (Array.getElem?_push_size ..) I5.nolimit bare5 (fun S s'' oS hS e1 e2 e3 e4 e5 e6 => ?_) (fun S hS => Nat.le_trans I5.sz hS) back
    refine ⟨rfl, ?_⟩
    have hS : h'.objs.size + 1 ≤ S := by
      have hS : (h'.push oa).objs.size ≤ S := hS
      rwa [Heap.size_push] at hS
    have fS := I5.fpOk (b := S) (H' := H3) (by show (h'.push oa).objs.size ≤ S; rw [Heap.size_push]; exact hS) (I5.hok.fresh (by show (h'.push oa).objs.size ≤ S; rw [Heap.size_push]; exact hS))
    have I6 : Inv (gcx X A' s4 H3 cenv fp) ([(h'.objs.size, oa)] ++ [(S, oS)]) (wipe σ (own.map (·.2))) H3 s'' := by
      have I6 := Inv.kall I5 e1 e2 e3
      refine I6.pins_of fun p hp => ?_
      rcases List.mem_append.mp hp with hp | hp
      · exact I6.pin p (List.mem_append_right _ hp)
      · have := List.mem_singleton.mp hp
        subst this
        exact ⟨e4, fS.1, fS.2.1, fS.2.2.1, e6⟩
    subst hA'
    refine gen_beginS hc (by rw [← hce]; exact SC.co) T (fun b hb => Nat.ne_of_gt (Nat.lt_trans (f3 b hb).2 (by omega))) (fun b hb => Nat.ne_of_gt (Nat.lt_of_lt_of_le (f3 b hb).2 (by omega))) (Nat.ne_of_lt hS) (by omega) hmono pg pt pe turn m0 γ0 oS _ _ H3 w0 e4 e5 I6 ?_ (fun b hb => (f3 b hb).1.1)
    exact T.keep _ _ _ st4 fun b hb o e => e3 b o (Heap.get?_push_of_some _ (keep' b o e))
  refine ⟨I2.nolimit, ?_⟩
  cases hf : codeAmong gpos ps.toList with
  | none =>
    refine wpAny_genexprCodeX hcode (cd.code hPs hts) (cd.tab hPs) hf fun c' h' tk hx hge hlt hco' _ htab' _ => ?_
    obtain ⟨o1, vs, f1, tf, fl, tg', inF, tx, tt', op, _, _, _, _, _, _, _, _, _, htr, _⟩ := hco'
    exact cont _ h' tk _ hx (Nat.le_trans hge (Nat.le_of_lt hlt)) htab'.2 ⟨_, rfl⟩ htr
  | some cv =>
    refine wpAny_genexprCode_hit hcode (cd.code hPs hts) hf ?_
    exact cont cv s2.heap s2.toks ps (Heap.ExtBut.refl _ _) (Nat.le_refl _) hPs ⟨#[], by simp⟩ hts
end
end GAl

set_option Elab.async false
set_option linter.all false
set_option maxRecDepth 100000
set_option maxHeartbeats 2000000
namespace GAl
open PySem PySem.Spec PyProof.Rows L2 GxR
open Sem (wp)
/-! ### sum of a generator expression of whole numbers -/
abbrev sumObj (T : Int) (t : Tok) (c : Nat) : Obj := { cls := .type "list", dict := none, data := .seq #[.int T t] c, slots := #[] }
def RepSum : Obj → Int → Prop := fun o T => ∃ t c, o = sumObj T t c
def stpSum : Int → V → Hp → (Int → Prop) → Prop := fun T y _ N => ∃ k, y = .int k ∧ N (T + k)
theorem stpSum_mono : ∀ γ y H (p q : Int → Prop), (∀ γ', p γ' → q γ') → stpSum γ y H p → stpSum γ y H q := fun _ _ _ _ _ h ⟨k, e, n⟩ => ⟨k, e, h _ n⟩
theorem repSum_uniq {o : Obj} {T T' : Int} (h : RepSum o T) (h' : RepSum o T') : T = T' := by
  obtain ⟨t, c, rfl⟩ := h
  obtain ⟨t', c', e⟩ := h'
  simp only [sumObj, Obj.mk.injEq, true_and] at e
  have e := e.1
  simp at e
  exact e.1.1
section
variable {X XG : Cx} {A : Around} {a S : Addr} {oa : Obj} {g : Nat} {σw : L2.St} {Qd : Int → Hp → Prop} {R : Result → Shared → Prop}
theorem sum_loop (hh : A.handled = none) (hroom : A.depth < recursionLimit) (hpn : XG.pn = []) (hSy : S ∈ XG.ex ∨ XG.s_0.heap.objs.size ≤ S)
    (hfin : ∀ s' ps σ' H' T t, Inv XG ps σ' H' s' → Qd T H' → R (.ok (.ret (.int T t))) s') :
    ∀ (n : Nat) (s : Shared) (st : Int) (T : Int) (oS : Obj), (st = 0 ∨ st = 2) → s.heap.get? a = some oa → s.heap.get? S = some oS → RepSum oS T → a ≠ S →
      GSt (model X.prog X.w) A.in1.in1 (REndS XG a oa S RepSum σw Qd) (YOutS XG a oa S RepSum stpSum) a g n s → codeAny (model X.prog X.w) A (.builtin "sum.loop" ⟨[.ref a, .ref S, rawInt st, rawInt 0], []⟩) R s := by
  intro n
  induction n with
  | zero =>
    intro s st T oS hst2 hoa hS hRep haS ⟨hg, hl, gs, hgs, hgo⟩
    obtain ⟨tA, c, eS⟩ := hRep
    have hS2 := hS
    rw [eS] at hS2
    refine codeAny_builtin F.entry_sum_loop ?_
    rw [Around.under_plainId F.plain_sum_loop _]
    show wpAny _ A.in1 (seqItems? (.ref S) >>= _) _ _ s
    refine wpAny_bind (wpAny_seqItems hS2 rfl ?_)
    show wpAny _ A.in1 (tryCatch (pyNext (.ref a)) _ >>= _) _ _ s
    refine wpAny_bind (wpAny_tryCatch (next_sz (A := A.in1) hh hl hroom hg hgs hgo (fun v s₁ gs' hsz hb hv => ?_) (fun s₁ hsz hp h' hk => ?_)))
    · obtain ⟨γ, oS', y, H4, σ4, e1, e2, I4, r, k, rfl, nn⟩ := hv
      have e1 : s.heap.get? S = some oS' := e1
      rw [hS] at e1; cases e1
      have eγ : γ = T := repSum_uniq e2 ⟨tA, c, eS⟩
      subst eγ
      obtain ⟨t, rfl⟩ := r
      have hS' : s₁.heap.get? S = some (sumObj γ tA c) := by rw [← eS]; exact (I4.pin (S, oS) (by rw [hpn]; simp)).1
      have ha : s₁.heap.get? a = some oa := (I4.pin (a, oa) (by rw [hpn]; simp)).1
      obtain ⟨x, hx⟩ := gens_some hgs hsz rfl
      have fin : ∀ (h2 : Heap) (tk : Nat) (st' : Int), (st' = 0 ∨ st' = 2) → (∀ b o, b ≠ S → s₁.heap.get? b = some o → h2.get? b = some o) → (∃ t' c', h2.get? S = some (sumObj (γ + k) t' c')) →
          codeAny (model X.prog X.w) A (.builtin "sum.loop" ⟨[.ref a, .ref S, rawInt st', rawInt 0], []⟩) R { s₁.setGen g gs' with heap := h2, toks := tk } := fun h2 tk st' hst' hk ⟨t', c', hS3⟩ => by
        exact False.elim (nn { s₁.setGen g gs' with heap := h2, toks := tk } _ rfl (bare_set I4.bare hb) hk hS3 ⟨t', c', rfl⟩ (fun v z => by cases z))
      rcases hst2 with rfl | rfl
      · show wpAny _ A.in1 (if (_ : Bool) = true then (mkInt (γ + k) >>= _) else _) _ _ _
        split
        · refine wpAny_bind (wpAny_mkInt ?_)
          show wpAny _ A.in1 (updateSeq S (fun _ => #[.int (γ + k) s₁.toks]) >>= _) _ _ _
          refine wpAny_bind (wpAny_updateSeq hS' rfl (wpAny_pure ⟨plainId_quiet F.plain_sum_loop _, fin _ _ 0 (.inl rfl) (fun b o hb e => ?_) ⟨_, _, Heap.get?_update_self _ hS' rfl⟩⟩))
          exact (Heap.get?_update_other _ _ (Ne.symm hb)).trans e
        · refine wpAny_bind (wpAny_rule ?_)
          refine wpAny_bind (wpAny_attempt (wpAny_holding (wpAny_add_int ?_)))
          show wpAny _ A.in1 (updateSeq S (fun _ => #[.int (γ + k) s₁.toks]) >>= _) _ _ _
          refine wpAny_bind (wpAny_updateSeq hS' rfl ?_)
          have hS₂ := Heap.get?_update_self (Obj.mapSeq fun _ => #[Value.int (γ + k) s₁.toks]) hS' rfl
          refine wpAny_bind (wpAny_letGo ?_)
          refine wpAny_bind (wpAny_updateSeq hS₂ rfl (wpAny_pure ⟨plainId_quiet F.plain_sum_loop _, fin _ _ 2 (.inr rfl) (fun b o hb e => ?_) ⟨_, _, Heap.get?_update_self _ hS₂ rfl⟩⟩))
          exact (Heap.get?_update_other _ _ (Ne.symm hb)).trans ((Heap.get?_update_other _ _ (Ne.symm hb)).trans e)
      · show wpAny _ A.in1 ((holding [Value.int k t] (binaryOp .Add (.int γ tA) (.int k t))).attempt >>= _) _ _ _
        refine wpAny_bind (wpAny_attempt (wpAny_holding (wpAny_add_int ?_)))
        show wpAny _ A.in1 (updateSeq S (fun _ => #[.int (γ + k) s₁.toks]) >>= _) _ _ _
        refine wpAny_bind (wpAny_updateSeq hS' rfl ?_)
        have hS₂ := Heap.get?_update_self (Obj.mapSeq fun _ => #[Value.int (γ + k) s₁.toks]) hS' rfl
        refine wpAny_bind (wpAny_letGo ?_)
        refine wpAny_bind (wpAny_updateSeq hS₂ rfl (wpAny_pure ⟨plainId_quiet F.plain_sum_loop _, fin _ _ 2 (.inr rfl) (fun b o hb e => ?_) ⟨_, _, Heap.get?_update_self _ hS₂ rfl⟩⟩))
        exact (Heap.get?_update_other _ _ (Ne.symm hb)).trans ((Heap.get?_update_other _ _ (Ne.symm hb)).trans e)
    · obtain ⟨γ, oS', H4, e1, e2, I4, q⟩ := hp
      have e1 : s.heap.get? S = some oS' := e1
      rw [hS] at e1; cases e1
      have eγ : γ = T := repSum_uniq e2 ⟨tA, c, eS⟩
      subst eγ
      exact wpAny_pure (hfin _ _ σw H4 _ _ (Inv.kall I4 rfl (bare_set I4.bare rfl) hk) q)
  | succ n ih =>
    intro s st T oS hst2 hoa hS hRep haS ⟨hg, hl, gs, hgs, hgo⟩
    obtain ⟨tA, c, eS⟩ := hRep
    have hS2 := hS
    rw [eS] at hS2
    refine codeAny_builtin F.entry_sum_loop ?_
    rw [Around.under_plainId F.plain_sum_loop _]
    show wpAny _ A.in1 (seqItems? (.ref S) >>= _) _ _ s
    refine wpAny_bind (wpAny_seqItems hS2 rfl ?_)
    show wpAny _ A.in1 (tryCatch (pyNext (.ref a)) _ >>= _) _ _ s
    refine wpAny_bind (wpAny_tryCatch (next_sz (A := A.in1) hh hl hroom hg hgs hgo (fun v s₁ gs' hsz hb hv => ?_) (fun s₁ hsz hp h' hk => ?_)))
    · obtain ⟨γ, oS', y, H4, σ4, e1, e2, I4, r, k, rfl, nn⟩ := hv
      have e1 : s.heap.get? S = some oS' := e1
      rw [hS] at e1; cases e1
      have eγ : γ = T := repSum_uniq e2 ⟨tA, c, eS⟩
      subst eγ
      obtain ⟨t, rfl⟩ := r
      have hS' : s₁.heap.get? S = some (sumObj γ tA c) := by rw [← eS]; exact (I4.pin (S, oS) (by rw [hpn]; simp)).1
      have ha : s₁.heap.get? a = some oa := (I4.pin (a, oa) (by rw [hpn]; simp)).1
      obtain ⟨x, hx⟩ := gens_some hgs hsz rfl
      have fin : ∀ (h2 : Heap) (tk : Nat) (st' : Int), (st' = 0 ∨ st' = 2) → (∀ b o, b ≠ S → s₁.heap.get? b = some o → h2.get? b = some o) → (∃ t' c', h2.get? S = some (sumObj (γ + k) t' c')) →
          codeAny (model X.prog X.w) A (.builtin "sum.loop" ⟨[.ref a, .ref S, rawInt st', rawInt 0], []⟩) R { s₁.setGen g gs' with heap := h2, toks := tk } := fun h2 tk st' hst' hk ⟨t', c', hS3⟩ => by
        refine ih _ st' (γ + k) _ hst' (hk a oa haS ha) hS3 ⟨t', c', rfl⟩ haS ⟨isgen_of hg hoa (hk a oa haS ha), ?_, gs', setGen_self hx, ?_⟩
        · exact (Inv.kallS (ps := [(a, oa)]) (s'' := { s₁.setGen g gs' with heap := h2, toks := tk }) I4 hSy (by rw [hpn]; intro p hp; have := List.mem_singleton.mp hp; subst this; exact haS) rfl (bare_set I4.bare hb) hk hS3 (fun v z => by cases z)).nolimit
        · exact nn (Shared.setGen { s₁.setGen g gs' with heap := h2, toks := tk } g .running) _ rfl (bare_set (bare_set I4.bare hb) rfl) hk hS3 ⟨t', c', rfl⟩ (fun v z => by cases z)
      rcases hst2 with rfl | rfl
      · show wpAny _ A.in1 (if (_ : Bool) = true then (mkInt (γ + k) >>= _) else _) _ _ _
        split
        · refine wpAny_bind (wpAny_mkInt ?_)
          show wpAny _ A.in1 (updateSeq S (fun _ => #[.int (γ + k) s₁.toks]) >>= _) _ _ _
          refine wpAny_bind (wpAny_updateSeq hS' rfl (wpAny_pure ⟨plainId_quiet F.plain_sum_loop _, fin _ _ 0 (.inl rfl) (fun b o hb e => ?_) ⟨_, _, Heap.get?_update_self _ hS' rfl⟩⟩))
          exact (Heap.get?_update_other _ _ (Ne.symm hb)).trans e
        · refine wpAny_bind (wpAny_rule ?_)
          refine wpAny_bind (wpAny_attempt (wpAny_holding (wpAny_add_int ?_)))
          show wpAny _ A.in1 (updateSeq S (fun _ => #[.int (γ + k) s₁.toks]) >>= _) _ _ _
          refine wpAny_bind (wpAny_updateSeq hS' rfl ?_)
          have hS₂ := Heap.get?_update_self (Obj.mapSeq fun _ => #[Value.int (γ + k) s₁.toks]) hS' rfl
          refine wpAny_bind (wpAny_letGo ?_)
          refine wpAny_bind (wpAny_updateSeq hS₂ rfl (wpAny_pure ⟨plainId_quiet F.plain_sum_loop _, fin _ _ 2 (.inr rfl) (fun b o hb e => ?_) ⟨_, _, Heap.get?_update_self _ hS₂ rfl⟩⟩))
          exact (Heap.get?_update_other _ _ (Ne.symm hb)).trans ((Heap.get?_update_other _ _ (Ne.symm hb)).trans e)
      · show wpAny _ A.in1 ((holding [Value.int k t] (binaryOp .Add (.int γ tA) (.int k t))).attempt >>= _) _ _ _
        refine wpAny_bind (wpAny_attempt (wpAny_holding (wpAny_add_int ?_)))
        show wpAny _ A.in1 (updateSeq S (fun _ => #[.int (γ + k) s₁.toks]) >>= _) _ _ _
        refine wpAny_bind (wpAny_updateSeq hS' rfl ?_)
        have hS₂ := Heap.get?_update_self (Obj.mapSeq fun _ => #[Value.int (γ + k) s₁.toks]) hS' rfl
        refine wpAny_bind (wpAny_letGo ?_)
        refine wpAny_bind (wpAny_updateSeq hS₂ rfl (wpAny_pure ⟨plainId_quiet F.plain_sum_loop _, fin _ _ 2 (.inr rfl) (fun b o hb e => ?_) ⟨_, _, Heap.get?_update_self _ hS₂ rfl⟩⟩))
        exact (Heap.get?_update_other _ _ (Ne.symm hb)).trans ((Heap.get?_update_other _ _ (Ne.symm hb)).trans e)
    · obtain ⟨γ, oS', H4, e1, e2, I4, q⟩ := hp
      have e1 : s.heap.get? S = some oS' := e1
      rw [hS] at e1; cases e1
      have eγ : γ = T := repSum_uniq e2 ⟨tA, c, eS⟩
      subst eγ
      exact wpAny_pure (hfin _ _ σw H4 _ _ (Inv.kall I4 rfl (bare_set I4.bare rfl) hk) q)

def tSumG (P : Addr) (wi : TI) (g : TG) (tt : TT) (te : TE) (vs : List Nat) : TE := fun σ H Q => tGenS P wi g tt te vs stpSum (0 : Int) (fun T H' => Q (.int T) H') σ H
theorem pe_sumG {c P : Addr} {elt tg iter : Expr} {ifs : List Expr} {p pos gpos : Pos} {scope : Scope} {own : List (Str × Nat)} {wi : TI} {g : TG} {tt : TT} {te : TE} {k : Nat}
    (hr : Room (k + 1) X.A) (hgl : Gl X "sum") (hm : X.mg "sum" = none) (hc : X.calm = true) (hN : X.N.Nodup) (TB : TabB X.base X.mg c P) (hcode : X.env.code = .ref c) (S : GSc X.N X.env.scope scope own) (hi : PI X tg iter wi)
    (hg : ∀ (A' : Around), Room k A' → ∀ (s : Shared) (H : Hp) (cl : List (Str × Addr)) (C : Addr) (code : Value) (fp : List Addr), PG (gcx X A' s H (genEnv scope cl C code builtinsNs X.env) fp) tg g)
    (ht : ∀ (A' : Around), Room k A' → ∀ (s : Shared) (H : Hp) (cl : List (Str × Addr)) (C : Addr) (code : Value) (fp : List Addr), PTs (gcx X A' s H (genEnv scope cl C code builtinsNs X.env) fp) ifs tt)
    (he : ∀ (A' : Around), Room k A' → ∀ (s : Shared) (H : Hp) (cl : List (Str × Addr)) (C : Addr) (code : Value) (fp : List Addr), PE (gcx X A' s H (genEnv scope cl C code builtinsNs X.env) fp) elt te)
    (hs : ∀ v, genFold iter X.env v = pure v := by intro _; rfl)
    (hst : starEach [.GeneratorExp elt [⟨tg, iter, ifs, 0⟩] scope gpos] X.env = (false, eval (.GeneratorExp elt [⟨tg, iter, ifs, 0⟩] scope gpos) X.env) :: starEach [] X.env := by rfl)
    (hb : bootBuiltins "sum" = some (.builtin "sum") := by decide +kernel) :
    PE X (.Call (.Name "sum" p) [.GeneratorExp elt [⟨tg, iter, ifs, 0⟩] scope gpos] [] pos) (tSumG P wi g tt te (own.map (·.2))) := by
  refine ⟨fun pins s σ H Q I h => ?_⟩
  refine wpAny_Call_Name_kw (ld_blt I hgl hm hb ?_)
  refine PyProof.Rows.callWith_builtin1 ?_ hst (by rfl)
  rw [hst]
  show wpAny _ _ (spliced ((false, eval (.GeneratorExp elt [⟨tg, iter, ifs, 0⟩] scope gpos) X.env) :: backTo pos (starEach [] X.env))) _ _ s
  refine Calls.spliced_cons (gen_makeS (Rep := RepSum) hr hc hN TB hcode S hi hg ht he stpSum_mono hs I h fun XG a oa gn n σw s5 gs eP eW epn ha hG hgs hnl hb5 go hy back => ?_)
  refine Calls.spliced_nil ?_
  refine call_function_tree F.kind_sum F.plain_sum F.entry_sum (F.args_sum1 _) ?_
  unfold Builtin.«sum»
  simp only [List.length_cons, List.length_nil]
  rw [if_neg (by decide)]
  refine wpAny_bind (wpAny_of_eq (show Builtin.Builtins.bindParams "sum" ["start"] 0 { } = pure [none] from rfl) ?_)
  refine wpAny_bind (wpAny_pyIter_gen hG ?_)
  refine wpAny_bind (wpAny_mkInt ?_)
  refine wpAny_bind (wpAny_pure ?_)
  simp only [List.forIn_cons, List.forIn_nil]
  refine wpAny_bind (wpAny_bind (wpAny_bind (wpAny_isInstance (T := "int") (b := false) (typeIs_int _ _ _) PySem.sub_int_str ?_)))
  simp only [Bool.false_eq_true, if_false]
  refine wpAny_pure (wpAny_bind (wpAny_bind (wpAny_isInstance (T := "int") (b := false) (typeIs_int _ _ _) PySem.sub_int_bytes ?_)))
  simp only [Bool.false_eq_true, if_false]
  refine wpAny_pure (wpAny_bind (wpAny_bind (wpAny_isInstance (T := "int") (b := false) (typeIs_int _ _ _) PySem.sub_int_bytearray ?_)))
  simp only [Bool.false_eq_true, if_false]
  refine wpAny_pure (wpAny_pure ?_)
  refine wpAny_bind (wpAny_newObj_type ?_)
  have hS : (s5.heap.push (sumObj 0 s5.toks 0)).get? s5.heap.objs.size = some (sumObj 0 s5.toks 0) := Heap.get?_push_size _ rfl
  have keep : ∀ b o, s5.heap.get? b = some o → (s5.heap.push (sumObj 0 s5.toks 0)).get? b = some o := fun b o e => Heap.get?_push_of_some _ e
  refine wpAny_pure ⟨plainId_quiet F.plain_sum_loop _, sum_loop (X := X) (XG := XG) (oa := oa) (g := gn) (σw := σw) (Qd := fun T H' => Q (.int T) H') hr.hd (by have := hr.dp; omega) epn (.inr (hy _ (Nat.le_refl _))) (fun s' ps σ' H' T t I' q => ?_) n _ 0 0 _ (.inl rfl) (keep _ _ ha) hS ⟨_, _, rfl⟩ (Nat.ne_of_lt (Heap.lt_size ha)) ⟨isgen_of hG ha (keep _ _ ha), hnl.keeps keep, gs, hgs, ?_⟩⟩
  · exact ⟨.int T, H', back s' _ σ' H' I', ⟨t, rfl⟩, q⟩
  · exact go _ (Shared.setGen _ gn .running) _ (Nat.le_refl _) rfl (bare_set hb5 rfl) keep hS ⟨_, _, rfl⟩ (fun v z => by cases z)
end
end GAl

set_option Elab.async false
set_option linter.all false
set_option maxRecDepth 100000
set_option maxHeartbeats 4000000
namespace HK
open PySem PySem.Spec PyProof.Rows L2 GAl GxR DTu
abbrev sNeedTree : Stmt := topS 30
theorem scNeedTree : FnScope ["net", "root", "ahead"] ["net", "root", "ahead"] (defScope sNeedTree) := ⟨rfl, rfl, rfl, by decide +kernel, rfl, by decide +kernel, by decide +kernel⟩
section
variable {P : Program} {w : World} {K : PySem.W.Frag} {mg : Str → Option Value} {base : Heap}
def spNeedTree (K : PySem.W.Frag) (Pp Pg : Addr) : Sp := fun vs H Q _ => ∃ (a : Addr) (n : Int) (rs : List R4) (root : Int) (p : Addr) (kvs : List (Key × V)) (g : IF), vs = [.ref a, .int root, .ref p] ∧ NetAt K H a n rs ∧ Good n rs ∧ rs.length ≤ 156 ∧
  H p = some (.dK kvs) ∧ DI kvs g ∧ kvs.length ≤ 5000 ∧ TreeP rs root g kvs.length ∧ TabG H Pp ∧ TabG H Pg ∧ ∀ (H' : Hp), K0 H H' → Q .non H'
theorem ok_needtree {f fG Pp Pg : Addr} {fd fdG : FuncData} (F : Fun K "need_tree" "need_tree" sNeedTree f fd)
    (kG : PySem.W.keepIn K (.ref fG) = true) (bG : Binds K fdG ["net", "root", "ahead"] []) (gG : mg "grows" = some (.ref fG)) (GG : FnOk P w K mg base CX0 4 fG fdG ["net", "root", "ahead"] (spGrows K Pp Pg)) :
    FnOk P w K mg base CX0 5 f fd ["net", "root", "ahead"] (spNeedTree K Pp Pg) := by
  refine F.ok scNeedTree (fun vs H Q E h => ?_) (fun cdv A outer s H vs Q E hr h => ?_)
  · obtain ⟨a, n, rs, v, p, kvs, g, rfl, _⟩ := h
    rfl
  · obtain ⟨a, n, rs, root, p, kvs, g, rfl, hN, hG, hl, hp, hD, hkl, hT, tp, tg, q⟩ := h
    refine ⟨_, pss_one (ps_if (pt_not (pt_val (pe_call GG hr (by rfl) gG kG bG .nil pass0 (pa_cons (pv 0) (pa_cons (pv 1) (pa_cons (pv 2) pa_nil)))))) pss_never pss_nil), ?_⟩
    refine ⟨_, rfl, _, rfl, _, rfl, a, n, rs, root, p, kvs, g, rfl, hN, hG, hl, hp, hD, hkl, tp, tg, fun H' b k hb => ?_⟩
    have : b = true := hb.mpr hT
    subst this
    exact ⟨_, rfl, iteF (q H' k)⟩
end
end HK

set_option Elab.async false
set_option linter.all false
set_option maxRecDepth 100000
set_option maxHeartbeats 2000000
/-! list(d.values()); set(t) of a tuple of whole numbers -/
namespace HkL
open PySem PySem.Spec PyProof.Rows L2
section
variable {X : Cx} {e : Expr} {te : TE} {p apos cpos pos : Pos}
def tListVals (te : TE) : TE := fun σ H Q => te σ H fun x H1 => ∃ (d : Addr) (kvs : List (Key × V)), x = .ref d ∧ Rd H1 d (.dK kvs) ∧ kvs.length ≤ sizeLine ∧ ∀ q, H1 q = none → Q (.ref q) (upd H1 q (.lst (kvs.map (·.2))))
theorem dict_at {pins : List (Addr × Obj)} {σ : L2.St} {H : Hp} {s : Shared} {d : Addr} {kvs : List (Key × V)} (I : Inv X pins σ H s) (h : Rd H d (.dK kvs)) : ∃ vs ep, KV kvs vs ∧ s.heap.DictAt (mixKind X.prog X.w) d vs ep ∧ (d == sysModules) = false := by
  rcases h with h | ⟨o, h⟩
  · obtain ⟨z, lo, vs, rk, hd⟩ := (show ObjOk X.prog X.w H s.heap d (.dK kvs) from I.hok d _ h)
    obtain ⟨ep, hat⟩ := hd.dictAt
    exact ⟨vs, ep, rk, hat, lo⟩
  · obtain ⟨hs, hgd, hx, es, ep, vs, hdt, hsz, kv, hm⟩ := I.frzK h
    exact ⟨vs, ep, kv, hm, hs⟩
theorem pe_listVals (hc : X.calm = true) (he : PE X e te) (hg : Gl X "list") (hm : X.mg "list" = none) (hv : bootBuiltins "list" = some (.type "list")) (hbase : attributeBase e "values" X.env (eval e X.env) = eval e X.env := by rfl) (hline : (apos.endLine == cpos.line) = true := by rfl)
    (hs : starEach [.Call (.Attribute e "values" apos) [] [] cpos] X.env = (false, eval (.Call (.Attribute e "values" apos) [] [] cpos) X.env) :: starEach [] X.env := by rfl) :
    PE X (.Call (.Name "list" p) [.Call (.Attribute e "values" apos) [] [] cpos] [] pos) (tListVals te) := by
  refine ⟨fun pins s σ H Q I hq => ?_⟩
  refine wpAny_Call_Name_kw (ld_blt I hg hm hv ?_)
  refine PyProof.Rows.callWith_type1 ?_ hs rfl
  rw [hs]
  show wpAny _ _ (spliced ((false, eval (.Call (.Attribute e "values" apos) [] [] cpos) X.env) :: backTo pos (starEach [] X.env))) _ _ s
  refine Calls.spliced_cons ?_
  refine wpAny_Call_method (T := "dict") (id := "dict.values") hbase rfl hline F.plainAttrs_dict F.slot_dict_values F.type_dict_values (thn (he.run pins s σ H _ I hq) fun u s1 ⟨x, H1, I1, rx, d, kvs, ex, hd, hz, q⟩ => ?_)
  subst ex
  obtain rfl : u = Value.ref d := rx
  obtain ⟨vs, ep, kv, hat, hs0⟩ := dict_at I1 hd
  have hdo := hat.dictOf
  have lk : kvs.length = vs.length := Paired.length kv
  have I2 : Inv X pins σ H1 { s1 with heap := s1.heap.push { cls := .type "dict_values", data := .fields #[.ref d] } } := I1.kept (t' := s1.toks) fun b ob q => Heap.get?_push_of_some _ q
  refine ⟨hdo.typeIs, hdo.mapOf.noDict, ?_⟩
  show wpAny _ _ (callWith cpos (.builtin "dict.values") [.ref d] [] []) _ X.xe s1
  refine method_meetsIn F.slot_dict_values F.entry_dict_values rfl (PySem.evalArgs_none ⟨rfl, hdo.typeIs, F.args_dict_values_1 _, _, meets_dict_values (mixKind X.prog X.w) d hs0, ⟨vs, hdo⟩, ?_⟩)
  refine Calls.spliced_nil ?_
  refine PySem.W.kdl_call (PySem.W.kdl_values (knd := mixKind X.prog X.w) (kvs := vs) (ep := ep) (r := s1.heap.objs.size) (d := d)) (I1.ok.hd hc) ⟨⟨_, Heap.get?_push_size _ rfl, rfl, rfl⟩, hat.push _⟩ (by rw [← lk]; exact hz) fun h' tk acc' c' hkeep hS hacc => ?_
  refine ⟨.ref _, upd H1 _ (.lst (kvs.map (·.2))), I2.laid hkeep (Nat.le_refl _) (show ObjOk X.prog X.w _ _ _ (.lst (kvs.map (·.2))) from ⟨?_, acc'.toList, c', ?_, ?_⟩), rfl, q _ (I2.hok.fresh (Nat.le_refl _))⟩
  · rw [List.length_map]; exact hz
  · have el : acc'.toList.length = acc'.size := by simp
    refine vals_of_at (by rw [List.length_map, el, hacc.1, lk]) fun j x w h1 h2 => ?_
    obtain ⟨k, hky⟩ := hacc.2 j w (by rw [← Array.getElem?_toList]; exact h2)
    rw [List.getElem?_map] at h1
    cases e2 : kvs[j]? with
    | none => rw [e2] at h1; cases h1
    | some pk =>
      rw [e2] at h1
      cases h1
      obtain ⟨qv, g1, g2, g3⟩ := LiI.paired_get kv e2
      rw [hky] at g1
      cases g1
      exact g3
  · rw [Array.toArray_toList]; exact hS
/-- tuple(l), tuple(t) -/
def rTup (K : PySem.W.Frag) : List V → Hp → VK → Prop := fun xs H Q => ∃ p ys, xs = [.ref p] ∧ ((SqL K H p ys ∧ ∀ l, H l = none → Q (.ref l) (upd H l (.tup ys))) ∨ (SqT K H p ys ∧ Q (.ref p) H))
theorem call_tupR : CallR X (.type "tuple") (rTup X.K) := call_tuple_of
/-- set(t) -/
def rSetT (K : PySem.W.Frag) (w : World) : List V → Hp → VK → Prop := fun vs H Q => ∃ (l : Addr) (ns : List Int), vs = [.ref l] ∧ SqT K H l (ns.map V.int) ∧ ns.length ≤ 1000 ∧ ∀ (p : Addr) (c : Nat), H p = none → c ≤ ns.length → Q (.ref p) (upd H p (SetO w p (fun j => decide (j ∈ ns)) c))
theorem cr_setT (hc : X.calm = true) : CallR X (.type "set") (rSetT X.K X.w) := by
  intro pins s σ H vs us Q I r h
  obtain ⟨l, ns, rfl, hl, hb, q⟩ := h
  cases r with
  | cons r rr =>
    cases rr
    cases r
    obtain ⟨its, rv, pt, hz⟩ := I.tuple hl
    have hi : IntsAre its.toArray.toList ns := ints_of_vals rv
    refine call_set_tupI ns (I.ok.hd hc) (show s.heap.IsTuple l its.toArray from pt) hi (by unfold scanBound; omega) fun h' tk c R1 hcn k => ?_
    exact ⟨.ref _, upd H s.heap.objs.size (SetO X.w s.heap.objs.size (fun j => decide (j ∈ ns)) c), I.laid k (Nat.le_refl _) (setO_new R1), rfl, q _ c (I.hok.fresh (Nat.le_refl _)) hcn⟩
end
end HkL

set_option Elab.async false
set_option linter.all false
set_option maxRecDepth 100000
set_option maxHeartbeats 4000000
namespace HK
open PySem PySem.Spec PyProof.Rows L2 GAl GxR
open Evl (pss_cut)
abbrev sAreP : Stmt := topS 25
abbrev N_scAreP : List Str := ["net", "thing", "place"]
theorem scAreP : FnScope N_scAreP ["net", "thing"] (defScope sAreP) := ⟨rfl, rfl, rfl, by decide +kernel, rfl, by decide +kernel, by decide +kernel⟩
abbrev N_scRises : List Str := ["row", "low", "high"]
/-! ### rising tuples of places -/
def risI (l : List Int) : Bool := (List.range (l.length - 1)).all fun i => decide (l.getD i 0 < l.getD (i + 1) 0)
theorem risI_yes {l : List Int} (h : ∀ j, j < l.length - 1 → l.getD j 0 < l.getD (j + 1) 0) : risI l = true := by
  unfold risI
  rw [List.all_eq_true]
  exact fun j hj => decide_eq_true (h j (List.mem_range.mp hj))
theorem risI_no {l : List Int} {j : Nat} (hj : j < l.length - 1) (h : ¬ l.getD j 0 < l.getD (j + 1) 0) : risI l = false := by
  unfold risI
  rw [Bool.eq_false_iff]
  intro z
  exact h (of_decide_eq_true (List.all_eq_true.mp z j (List.mem_range.mpr hj)))
theorem risI_iff {l : List Int} : risI l = true ↔ l.Pairwise (· < ·) := by
  constructor
  · intro h
    have step : ∀ j, j < l.length - 1 → l.getD j 0 < l.getD (j + 1) 0 := fun j hj => by
      unfold risI at h
      exact of_decide_eq_true (List.all_eq_true.mp h j (List.mem_range.mpr hj))
    have far : ∀ d i, i + d + 1 < l.length → l.getD i 0 < l.getD (i + d + 1) 0 := fun d => by
      induction d with
      | zero => exact fun i hi => step i (by omega)
      | succ d ih =>
        intro i hi
        have h1 := ih i (by omega)
        have h2 := step (i + d + 1) (by omega)
        rw [show i + (d + 1) + 1 = i + d + 1 + 1 by omega]
        omega
    rw [List.pairwise_iff_getElem]
    intro i j hi hj hij
    have := far (j - i - 1) i (by omega)
    rw [show i + (j - i - 1) + 1 = j by omega] at this
    simpa [List.getD_eq_getElem?_getD, List.getElem?_eq_getElem hi, List.getElem?_eq_getElem hj] using this
  · intro h
    refine risI_yes fun j hj => ?_
    have := List.pairwise_iff_getElem.mp h j (j + 1) (by omega) (by omega) (by omega)
    simpa [List.getD_eq_getElem?_getD, List.getElem?_eq_getElem (show j < l.length by omega), List.getElem?_eq_getElem (show j + 1 < l.length by omega)] using this
def AreP (n : Int) (l : List Int) : Prop := (∀ v ∈ l, 0 ≤ v ∧ v < n) ∧ l.Pairwise (· < ·)
theorem AreP.len {n : Int} {l : List Int} (h : AreP n l) : l.length ≤ n.toNat := by
  have nd : l.Nodup := h.2.imp fun a => Int.ne_of_lt a
  have := sub_len (ks := (List.range n.toNat).map fun (i : Nat) => (i : Int)) nd (List.pairwise_map.mpr (List.pairwise_lt_range.imp fun a z => by omega)) fun x hx => by
    obtain ⟨h0, h1⟩ := h.1 x hx
    exact List.mem_map.mpr ⟨x.toNat, List.mem_range.mpr (by omega), by omega⟩
  simpa using this
theorem cut1' (xs : List V) : cutV xs (some 1) none = xs.drop 1 := cut1 xs
theorem getI {ns : List Int} {i : Nat} {x : V} (h : (ns.map V.int)[i]? = some x) : x = .int (ns.getD i 0) := by
  rw [List.getElem?_map] at h
  cases e : ns[i]? with
  | none => rw [e] at h; cases h
  | some v => rw [e] at h; cases h; rw [List.getD_eq_getElem?_getD, e]; rfl
section
variable {P : Program} {w : World} {K : PySem.W.Frag} {mg : Str → Option Value} {base : Heap}
def spRisesI (K : PySem.W.Frag) (Pr : Addr) : Sp := fun vs H Q _ => ∃ (a : Addr) (ns : List Int), vs = [.ref a] ∧ SqT K H a (ns.map V.int) ∧ TabG H Pr ∧ ∀ H', K0 H H' → Q (.bl (risI ns)) H'
theorem ok_risesI {f c Pr : Addr} {fd : FuncData} (F : FunC K "rises" "rises" sRises f fd c) (TB : TabB base mg c Pr) (m_zip : mg "zip" = none) (m_all : mg "all" = none) : FnOk P w K mg base CX0 2 f fd ["row"] (spRisesI K Pr) := by
  refine F.ok scRises (fun vs H Q E h => ?_) (fun A outer s H vs Q E hr h => ?_)
  · obtain ⟨a, ns, rfl, _⟩ := h
    rfl
  · obtain ⟨a, ns, rfl, hS, hP, q⟩ := h
    refine ⟨_, (pss_one (ps_ret (pe_allG (own := [("low", 1), ("high", 2)]) (k := 0) (g := (gTup K 2 (gCons (gName 1) (gCons (gName 2) gNil)))) (tt := tYes) (te := (tOp (rI0 fun i j => .bl (decide (i < j))) (tVar 1) (tVar 2))) (hr.mono (by decide)) (by rfl) m_all rfl scRises.nd TB rfl (gsc_by (N := N_scRises) (sc := defScope sRises) (by decide +kernel)) (RZ.pi_zipA (by rfl) m_zip (pa_cons (pv 0) (pa_cons (pe_slice sl_tupA (pv 0) (po_some pe_int) po_none) pa_nil))) (fun A' hr' _ _ _ _ _ _ => (pg_tup rfl (pgs_cons (pg_name (i := 1) scRises.nd rfl (.inl rfl)) (pgs_cons (pg_name (i := 2) scRises.nd rfl (.inl rfl)) pgs_nil)))) (fun A' hr' _ _ _ _ _ _ => pts_nil) (fun A' hr' _ _ _ _ _ _ => (pe_cmpR op_lt (pv 1) (pv 2) (nomark _)))))), ?_⟩
    have go : ∀ (c : Addr) (H1 : Hp), K0 H H1 → SqT K H1 c ((ns.map V.int).drop 1) → ∃ xs ys, xs = ns.map V.int ∧ SqT K H1 a xs ∧ SqT K H1 c ys ∧ TabG H1 Pr ∧ ∀ H2, Tabbed Pr H1 H2 → ∃ W : Nat → Nat → Hp → Prop, (∃ m, W 0 m H2) ∧
        GTurn (RZ.ItzT K a c) (gTup K 2 (gCons (gName 1) (gCons (gName 2) gNil))) tYes (tOp (rI0 fun i j => .bl (decide (i < j))) (tVar 1) (tVar 2)) [1, 2] [some (.ref a), none, none] (Q (.bl true)) (stpAll (Q (.bl false))) W := fun c H1 k1 hC1 => by
      refine ⟨_, _, rfl, k1.sqT hS, hC1, k1.tab _ hP, fun H2 hT2 => ?_⟩
      have kt := K0.tbd (k1.tab _ hP) hT2
      have k2 : K0 H H2 := k1.trans kt
      refine ⟨fun i m H3 => i + m = ns.length - 1 ∧ K0 H2 H3 ∧ ∀ j, j < i → ns.getD j 0 < ns.getD (j + 1) 0, ⟨ns.length - 1, by omega, K0.refl _, fun j hj => absurd hj (Nat.not_lt_zero _)⟩, fun i m H3 hW => ?_⟩
      obtain ⟨em, k3, hlt⟩ := hW
      have k13 := k2.trans k3
      have hA : SqT K H3 a (ns.map V.int) := k13.sqT hS
      have hC : SqT K H3 c ((ns.map V.int).drop 1) := (kt.trans k3).sqT hC1
      by_cases hi : i < ns.length - 1
      · have h1 : i < (ns.map V.int).length := by rw [List.length_map]; omega
        have h2 : i + 1 < (ns.map V.int).length := by rw [List.length_map]; omega
        have g1 : (ns.map V.int)[i]? = some (ns.map V.int)[i] := List.getElem?_eq_getElem h1
        have g2 : ((ns.map V.int).drop 1)[i]? = some (ns.map V.int)[i + 1] := by rw [List.getElem?_drop, Nat.add_comm 1 i]; exact List.getElem?_eq_getElem h2
        refine .inr ⟨⟨_, _, _, _, hA, hC, g1, g2⟩, fun H' => K0 H2 H' ∧ ns.getD i 0 < ns.getD (i + 1) 0, fun H' hN => ?_, fun x H' hy => ?_⟩
        · obtain ⟨k', hl'⟩ := hN
          refine ⟨m - 1, by omega, by omega, k', fun j hj => ?_⟩
          by_cases e : j = i
          · rw [e]; exact hl'
          · exact hlt j (by omega)
        · obtain ⟨T, x1, x2, rfl, nT, rfl, f1, f2⟩ := hy
          have ex1 : x1 = .int (ns.getD i 0) := getI (f1 _ hA)
          have ex2 : x2 = .int (ns.getD (i + 1) 0) := getI (by
            have := f2 _ hC
            rwa [List.getElem?_drop, Nat.add_comm 1 i] at this)
          subst ex1 ex2
          have kT : K0 H3 (upd H3 T (.tup [.int (ns.getD i 0), .int (ns.getD (i + 1) 0)])) := K0.new nT
          refine ⟨T, _, rfl, .inl (.inl upd_same), rfl, _, _, rfl, _, _, rfl, rfl, rfl, tyes ?_⟩
          refine ⟨_, rfl, _, rfl, _, _, rfl, rfl, _, rfl, ?_⟩
          by_cases hb : ns.getD i 0 < ns.getD (i + 1) 0
          · rw [decide_eq_true hb]
            exact iteT ⟨k3.trans kT, hb⟩
          · rw [decide_eq_false hb]
            exact iteF (qeq (q _ (k13.trans kT)) (risI_no hi hb))
      · refine .inl ⟨⟨_, _, hA, hC, .inr (by rw [List.length_drop, List.length_map]; omega)⟩, ?_⟩
        exact qeq (q _ k13) (risI_yes fun j hj => hlt j (by omega))
    refine ⟨.ref a, rfl, .ref a, rfl, 1, rfl, a, _, rfl, hS, fun z => ?_, fun _ c nc => ?_⟩
    · have e0 : (ns.map V.int).drop 1 = ns.map V.int := by
        cases ns with
        | nil => rfl
        | cons v r =>
          have := z.1
          rw [show HT.sIx ((v :: r).map V.int).length 0 (some 1) = min 1 ((v :: r).map V.int).length from HT.sIx_nat _ 0 1, List.length_map, List.length_cons] at this
          omega
      obtain ⟨xs, ys, e, h1, h2, h3⟩ := go a H (K0.refl H) (by rw [e0]; exact hS)
      exact ⟨a, a, xs, ys, rfl, .inr ⟨h1, h2, h3⟩⟩
    · obtain ⟨xs, ys, e, h1, h2, h3⟩ := go c _ (K0.new nc) (by rw [← cut1]; exact .inl (.inl upd_same))
      exact ⟨a, c, xs, ys, rfl, .inr ⟨h1, h2, h3⟩⟩
def spAreP (K : PySem.W.Frag) (Pr Pa : Addr) : Sp := fun vs H Q _ => ∃ (a : Addr) (n : Int) (rs : List R4) (p : Addr) (ns : List Int), vs = [.ref a, .ref p] ∧ NetAt K H a n rs ∧ SqT K H p (ns.map V.int) ∧ TabG H Pr ∧ TabG H Pa ∧ ∀ (H' : Hp) (b : Bool), K0 H H' → (b = true ↔ AreP n ns) → Q (.bl b) H'
theorem ok_arep {f c Pr Pa : Addr} {fd : FuncData} {f_isplace f_rises : Addr} {fd_isplace fd_rises : FuncData} (F : FunC K "are_places" "are_places" sAreP f fd c) (TB : TabB base mg c Pa)
    (k_isplace : PySem.W.keepIn K (.ref f_isplace) = true) (b_isplace : Binds K fd_isplace ["net", "thing"] []) (g_isplace : mg "is_place" = some (.ref f_isplace)) (G_isplace : FnOk P w K mg base CX0 3 f_isplace fd_isplace ["net", "thing"] (spIsPlace K))
    (k_rises : PySem.W.keepIn K (.ref f_rises) = true) (b_rises : Binds K fd_rises ["row"] []) (g_rises : mg "rises" = some (.ref f_rises)) (G_rises : FnOk P w K mg base CX0 2 f_rises fd_rises ["row"] (spRisesI K Pr))
    (m_isinstance : mg "isinstance" = none) (m_tuple : mg "tuple" = none) (m_all : mg "all" = none) : FnOk P w K mg base CX0 5 f fd ["net", "thing"] (spAreP K Pr Pa) := by
  refine F.ok scAreP (fun vs H Q E h => ?_) (fun A outer s H vs Q E hr h => ?_)
  · obtain ⟨a, n, rs, p, ns, rfl, _⟩ := h
    rfl
  · obtain ⟨a, n, rs, p, ns, rfl, hN, hS, tr, ta, q⟩ := h
    refine ⟨_, (pss_cons (ps_if (pt_not (pt_val (pe_callB call_isi (by rfl) m_isinstance boot_isinstance (pa_cons (pv 1) (pa_cons (pe_bltn (v := .ty "tuple") (by rfl) m_tuple (by decide +kernel) rfl) pa_nil))))) (pss_one (ps_ret pe_bl)) pss_nil)
      (pss_one (ps_ret (pe_and (pe_allG (own := [("place", 2)]) (k := 3) (g := (gName 2)) (tt := tYes) (te := (tCall (spIsPlace K) [] E0 (tCons (tVar 0) (tCons (tVar 2) tNil)))) (hr.mono (by decide)) (by rfl) m_all rfl scAreP.nd TB rfl (gsc_by (N := N_scAreP) (sc := defScope sAreP) (by decide +kernel)) (pi_tup (pv 1)) (fun A' hr' _ _ _ _ _ _ => (pg_name (i := 2) scAreP.nd rfl (.inl rfl))) (fun A' hr' _ _ _ _ _ _ => pts_nil) (fun A' hr' _ _ _ _ _ _ => (pe_call G_isplace (hr'.mono (by decide)) (by rfl) g_isplace k_isplace b_isplace .nil pass0 (pa_cons (pv 0) (pa_cons (pv 2) pa_nil))))) (pe_one (pe_call G_rises (hr.mono (by decide)) (by rfl) g_rises k_rises b_rises .nil pass0 (pa_cons (pv 1) pa_nil))))))), ?_⟩
    refine ⟨_, rfl, .ref p, .ty "tuple", .type "tuple", _, true, rfl, .ty "tuple", sqT_ty hS, kit_ty (tys_tuple (by decide)), _, rfl, iteF ?_⟩
    refine ⟨_, rfl, p, rfl, ⟨_, hS⟩, ta, fun H2 hT2 => ?_⟩
    have k2 : K0 H H2 := K0.tbd ta hT2
    refine ⟨fun i m H3 => i + m = ns.length ∧ K0 H H3 ∧ ∀ v ∈ ns.take i, 0 ≤ v ∧ v < n, ⟨ns.length, by omega, k2, fun v hv => by rw [List.take_zero] at hv; cases hv⟩, fun i m H3 hW => ?_⟩
    obtain ⟨em, k3, hall⟩ := hW
    have hA : SqT K H3 p (ns.map V.int) := k3.sqT hS
    by_cases hi : i < ns.length
    · have h1 : i < (ns.map V.int).length := by rw [List.length_map]; omega
      have g1 : (ns.map V.int)[i]? = some (ns.map V.int)[i] := List.getElem?_eq_getElem h1
      have g0 : ns[i]? = some ns[i] := List.getElem?_eq_getElem hi
      refine .inr ⟨⟨_, _, hA, g1⟩, fun H' => K0 H H' ∧ (0 ≤ ns[i] ∧ ns[i] < n), fun H' hN => ⟨m - 1, by omega, by omega, hN.1, fun v hv => ?_⟩, fun x H' hy => ?_⟩
      · rw [List.take_add_one, g0] at hv
        rcases List.mem_append.mp hv with hv | hv
        · exact hall v hv
        · have := List.mem_singleton.mp hv
          subst this
          exact hN.2
      · obtain ⟨rfl, fx⟩ := hy
        have ex : x = .int ns[i] := by
          have := fx _ hA
          rw [List.getElem?_map, g0] at this
          exact (Option.some.inj this).symm
        subst ex
        refine ⟨rfl, tyes ⟨_, rfl, _, rfl, a, n, rs, ns[i], rfl, hN.k0 k3, _, rfl, ?_⟩⟩
        by_cases hb : 0 ≤ ns[i] ∧ ns[i] < n
        · rw [decide_eq_true hb.1, decide_eq_true (show ns[i] ≤ n - 1 by omega)]
          exact iteT ⟨k3, hb⟩
        · have : (decide (0 ≤ ns[i]) && decide (ns[i] ≤ n - 1)) = false := by
            rw [Bool.eq_false_iff]
            intro z
            rw [Bool.and_eq_true, decide_eq_true_iff, decide_eq_true_iff] at z
            exact hb ⟨z.1, by omega⟩
          rw [this]
          exact iteF ⟨_, rfl, iteF (q _ false k3 ⟨fun z => by (cases z), fun z => absurd (z.1 _ (List.getElem_mem hi)) hb⟩)⟩
    · rw [List.take_of_length_le (by omega)] at hall
      refine .inl ⟨⟨_, hA, by rw [List.length_map]; omega⟩, _, rfl, iteT ?_⟩
      refine ⟨_, rfl, p, ns, rfl, hA, k3.tab _ tr, fun H4 k4 => ?_⟩
      exact q _ _ (k3.trans k4) ⟨fun z => ⟨hall, risI_iff.mp z⟩, fun z => risI_iff.mpr z.2⟩
end
end HK

set_option Elab.async false
set_option linter.all false
set_option maxRecDepth 100000
set_option maxHeartbeats 4000000
namespace HK
open PySem PySem.Spec PyProof.Rows L2 GAl GxR
open Evl (pss_cut)
abbrev sNeedH : Stmt := topS 29
abbrev N_scNeedH : List Str := ["net", "hearers"]
theorem scNeedH : FnScope N_scNeedH ["net", "hearers"] (defScope sNeedH) := ⟨rfl, rfl, rfl, by decide +kernel, rfl, by decide +kernel, by decide +kernel⟩
section
variable {P : Program} {w : World} {K : PySem.W.Frag} {mg : Str → Option Value} {base : Heap}
def spNeedH (K : PySem.W.Frag) (Pr Pa : Addr) : Sp := fun vs H Q _ => ∃ (a : Addr) (n : Int) (rs : List R4) (p : Addr) (ns : List Int), vs = [.ref a, .ref p] ∧ NetAt K H a n rs ∧ SqT K H p (ns.map V.int) ∧ AreP n ns ∧ TabG H Pr ∧ TabG H Pa ∧ ∀ (H' : Hp), K0 H H' → Q .non H'
theorem ok_needh {f Pr Pa : Addr} {fd : FuncData} {f_areplaces : Addr} {fd_areplaces : FuncData} (F : Fun K "need_hearers" "need_hearers" sNeedH f fd)
    (k_areplaces : PySem.W.keepIn K (.ref f_areplaces) = true) (b_areplaces : Binds K fd_areplaces ["net", "thing"] []) (g_areplaces : mg "are_places" = some (.ref f_areplaces)) (G_areplaces : FnOk P w K mg base CX0 5 f_areplaces fd_areplaces ["net", "thing"] (spAreP K Pr Pa)) : FnOk P w K mg base CX0 6 f fd ["net", "hearers"] (spNeedH K Pr Pa) := by
  refine F.ok scNeedH (fun vs H Q E h => ?_) (fun cdv A outer s H vs Q E hr h => ?_)
  · obtain ⟨a, n, rs, p, ns, rfl, _⟩ := h
    rfl
  · obtain ⟨a, n, rs, p, ns, rfl, hN, hS, hA, tr, ta, q⟩ := h
    refine ⟨_, (pss_one (ps_if (pt_not (pt_val (pe_call G_areplaces (hr.mono (by decide)) (by rfl) g_areplaces k_areplaces b_areplaces .nil pass0 (pa_cons (pv 0) (pa_cons (pv 1) pa_nil))))) pss_never pss_nil)), ?_⟩
    refine ⟨_, rfl, _, rfl, a, n, rs, p, ns, rfl, hN, hS, tr, ta, fun H' b k hb => ?_⟩
    have : b = true := hb.mpr hA
    subst this
    exact ⟨_, rfl, iteF (q H' k)⟩
end
end HK

set_option Elab.async false
set_option linter.all false
set_option maxRecDepth 100000
set_option maxHeartbeats 2000000
namespace HK
open PySem PySem.Spec PyProof.Rows L2 GAl GxR
/-- a class of the program's own that can be raised, made of a text -/
structure XCls (K : PySem.W.Frag) (mg : Str → Option Value) (x : Str) (C : Addr) : Prop where
  ex : ∃ (bmB : List Value) (B newId initId : String), ExcBaseFacts B newId initId bmB ∧ PySem.W.excIn K C bmB newId = true
  gl : mg x = some (.ref C)
  keep : PySem.W.keepIn K (.ref C) = true
  sub : PySem.W.subIn K (.ref C) (.type "BaseException") = some true
  ty : PySem.W.typeIn K (.ref C) = some (.type "type")
section
variable {P : Program} {w : World} {K : PySem.W.Frag} {mg : Str → Option Value} {base : Heap}
theorem ps_raiseC {X : Cx} {W : WX} {x m : Str} {C : Addr} {j : Nat} {p p2 pos pos2 : Pos} (hc : X.calm = true) (hW : Takes X W) (h : XCls X.K X.mg x C) (hg : Gl X x) (hd : (x == Str.ofString "__debug__") = false := by rfl) :
    PS X (.Raise (some ((Expr.Name x p).Call [Expr.Constant (Const.str m) j p2] [] pos)) none pos2) fun _ σ H => W (.ref C) none σ H := by
  obtain ⟨bmB, B, n1, n2, e1, e2⟩ := h.ex
  exact ps_raise hc hW (pmk_own e1 e2 h.gl h.keep (raises_own h.sub h.ty) hg hd)
/-- need_net of anything: None where it is a net, else NoNet -/
def spNeedNetX (K : PySem.W.Frag) (Pn Pr C : Addr) : Sp := fun vs H Q E => ∃ (v : V) (b : Bool), vs = [v] ∧ NetAns K H v b ∧ TabG H Pn ∧ TabG H Pr ∧ ∀ H', K0 H H' → (b = true → Q .non H') ∧ (b = false → E (.ref C) none H')
theorem ok_neednetX {f fN Pn Pr C : Addr} {fd fdN : FuncData} (F : Fun K "need_net" "need_net" sNeedNet f fd) (hC : XCls K mg "NoNet" C)
    (kN : PySem.W.keepIn K (.ref fN) = true) (bN : Binds K fdN ["thing"] []) (gN : mg "is_net" = some (.ref fN)) (GN : FnOk P w K mg base CX0 5 fN fdN ["thing"] (spIsNet K Pn Pr)) :
    FnOk P w K mg base (CX P w) 6 f fd ["net"] (spNeedNetX K Pn Pr C) := by
  refine F.okX scNeedNet (fun vs H Q E h => ?_) (fun cdv A outer s H vs Q E hr h => ?_)
  · obtain ⟨v, b, rfl, _⟩ := h
    rfl
  · obtain ⟨v, b, rfl, hA, tn, tr, q⟩ := h
    refine ⟨_, pss_one (ps_if (pt_not (pt_val (pe_call GN hr (by rfl) gN kN bN .nil pass0 (pa_cons (pv 0) pa_nil)))) (pss_one (ps_raiseC rfl (takes_of rfl rfl rfl rfl) hC (by rfl))) pss_nil), ?_⟩
    refine ⟨_, rfl, v, b, rfl, hA, tn, tr, fun H' k => ⟨_, rfl, ?_⟩⟩
    cases b with
    | true => exact iteF ((q H' k).1 rfl)
    | false => exact iteT ((q H' k).2 rfl)
/-- what never refuses may be called where refusals are watched for -/
theorem fn_lift {k : Nat} {f : Addr} {fd : FuncData} {ps : List Str} {sp : Sp} (h : FnOk P w K mg base CX0 k f fd ps sp) : FnOk P w K mg base (CX P w) k f fd ps sp :=
  ⟨h.len, fun A outer s H args us vs Q E hr he hb hv hs => codeAny_mono (h.run A outer s H args us vs Q E hr he hb hv hs) fun r s' hc => by
    cases r with
    | error e => exact absurd hc (fun z => z)
    | ok a => cases a <;> exact hc⟩
theorem fn_up {CX' : CXT} {j k : Nat} {f : Addr} {fd : FuncData} {ps : List Str} {sp : Sp} (h : FnOk P w K mg base CX' j f fd ps sp) (l : j ≤ k) : FnOk P w K mg base CX' k f fd ps sp :=
  ⟨h.len, fun A outer s H args us vs Q E hr he hb hv hs => h.run A outer s H args us vs Q E (hr.mono l) he hb hv hs⟩
/-- one of two promises -/
theorem fn_alt {CX' : CXT} {k : Nat} {f : Addr} {fd : FuncData} {ps : List Str} {sp sp' : Sp} (h : FnOk P w K mg base CX' k f fd ps sp) (h' : FnOk P w K mg base CX' k f fd ps sp') : FnOk P w K mg base CX' k f fd ps (fun vs H Q E => sp vs H Q E ∨ sp' vs H Q E) :=
  ⟨fun vs H Q E hs => hs.elim (h.len vs H Q E) (h'.len vs H Q E), fun A outer s H args us vs Q E hr he hb hv hs => hs.elim (h.run A outer s H args us vs Q E hr he hb hv) (h'.run A outer s H args us vs Q E hr he hb hv)⟩
/-- need_place of a number -/
def spNeedPlaceX (K : PySem.W.Frag) (C : Addr) : Sp := fun vs H Q E => ∃ (a : Addr) (n : Int) (rs : List R4) (v : Int), vs = [.ref a, .int v] ∧ NetAt K H a n rs ∧ (0 ≤ v ∧ v < n → Q .non H) ∧ (¬ (0 ≤ v ∧ v < n) → E (.ref C) none H)
theorem ok_needplaceX {f fN C : Addr} {fd fdN : FuncData} (F : Fun K "need_place" "need_place" sNeedPlace f fd) (hC : XCls K mg "NoPlace" C)
    (kN : PySem.W.keepIn K (.ref fN) = true) (bN : Binds K fdN ["net", "thing"] []) (gN : mg "is_place" = some (.ref fN)) (GN : FnOk P w K mg base CX0 3 fN fdN ["net", "thing"] (spIsPlace K)) :
    FnOk P w K mg base (CX P w) 4 f fd ["net", "place"] (spNeedPlaceX K C) := by
  refine F.okX scNeedPlace (fun vs H Q E h => ?_) (fun cdv A outer s H vs Q E hr h => ?_)
  · obtain ⟨a, n, rs, v, rfl, _⟩ := h
    rfl
  · obtain ⟨a, n, rs, v, rfl, hN, q1, q2⟩ := h
    refine ⟨_, pss_one (ps_if (pt_not (pt_val (pe_call GN hr (by rfl) gN kN bN .nil pass0 (pa_cons (pv 0) (pa_cons (pv 1) pa_nil))))) (pss_one (ps_raiseC rfl (takes_of rfl rfl rfl rfl) hC (by rfl))) pss_nil), ?_⟩
    refine ⟨_, rfl, _, rfl, a, n, rs, v, rfl, hN, _, rfl, ?_⟩
    by_cases h : 0 ≤ v ∧ v < n
    · rw [decide_eq_true h.1, decide_eq_true (show v ≤ n - 1 by omega)]
      exact iteF (q1 h)
    · have : (decide (0 ≤ v) && decide (v ≤ n - 1)) = false := by
        rw [Bool.eq_false_iff]
        intro z
        rw [Bool.and_eq_true, decide_eq_true_iff, decide_eq_true_iff] at z
        exact h ⟨z.1, by omega⟩
      rw [this]
      exact iteT (q2 h)
/-- need_hearers of a tuple of numbers -/
def spNeedHX (K : PySem.W.Frag) (Pr Pa C : Addr) : Sp := fun vs H Q E => ∃ (a : Addr) (n : Int) (rs : List R4) (p : Addr) (ns : List Int), vs = [.ref a, .ref p] ∧ NetAt K H a n rs ∧ SqT K H p (ns.map V.int) ∧ TabG H Pr ∧ TabG H Pa ∧ ∀ (H' : Hp), K0 H H' → (AreP n ns → Q .non H') ∧ (¬ AreP n ns → E (.ref C) none H')
theorem ok_needhX {f fN Pr Pa C : Addr} {fd fdN : FuncData} (F : Fun K "need_hearers" "need_hearers" sNeedH f fd) (hC : XCls K mg "NoPlace" C)
    (kN : PySem.W.keepIn K (.ref fN) = true) (bN : Binds K fdN ["net", "thing"] []) (gN : mg "are_places" = some (.ref fN)) (GN : FnOk P w K mg base CX0 5 fN fdN ["net", "thing"] (spAreP K Pr Pa)) :
    FnOk P w K mg base (CX P w) 6 f fd ["net", "hearers"] (spNeedHX K Pr Pa C) := by
  refine F.okX scNeedH (fun vs H Q E h => ?_) (fun cdv A outer s H vs Q E hr h => ?_)
  · obtain ⟨a, n, rs, p, ns, rfl, _⟩ := h
    rfl
  · obtain ⟨a, n, rs, p, ns, rfl, hN, hS, tr, ta, q⟩ := h
    refine ⟨_, pss_one (ps_if (pt_not (pt_val (pe_call GN hr (by rfl) gN kN bN .nil pass0 (pa_cons (pv 0) (pa_cons (pv 1) pa_nil))))) (pss_one (ps_raiseC rfl (takes_of rfl rfl rfl rfl) hC (by rfl))) pss_nil), ?_⟩
    refine ⟨_, rfl, _, rfl, a, n, rs, p, ns, rfl, hN, hS, tr, ta, fun H' b k hb => ⟨_, rfl, ?_⟩⟩
    cases b with
    | true => exact iteF ((q H' k).1 (hb.mp rfl))
    | false => exact iteT ((q H' k).2 (fun z => absurd (hb.mpr z) (by decide)))
/-- need_tree of a dict of whole numbers -/
def spNeedTreeX (K : PySem.W.Frag) (Pp Pg C : Addr) : Sp := fun vs H Q E => ∃ (a : Addr) (n : Int) (rs : List R4) (root : Int) (p : Addr) (kvs : List (Key × V)) (g : IF), vs = [.ref a, .int root, .ref p] ∧ NetAt K H a n rs ∧ Good n rs ∧ rs.length ≤ 156 ∧
  H p = some (.dK kvs) ∧ DI kvs g ∧ kvs.length ≤ 5000 ∧ TabG H Pp ∧ TabG H Pg ∧ ∀ (H' : Hp), K0 H H' → (TreeP rs root g kvs.length → Q .non H') ∧ (¬ TreeP rs root g kvs.length → E (.ref C) none H')
theorem ok_needtreeX {f fN Pp Pg C : Addr} {fd fdN : FuncData} (F : Fun K "need_tree" "need_tree" sNeedTree f fd) (hC : XCls K mg "NoTree" C)
    (kN : PySem.W.keepIn K (.ref fN) = true) (bN : Binds K fdN ["net", "root", "ahead"] []) (gN : mg "grows" = some (.ref fN)) (GN : FnOk P w K mg base CX0 4 fN fdN ["net", "root", "ahead"] (spGrows K Pp Pg)) :
    FnOk P w K mg base (CX P w) 5 f fd ["net", "root", "ahead"] (spNeedTreeX K Pp Pg C) := by
  refine F.okX scNeedTree (fun vs H Q E h => ?_) (fun cdv A outer s H vs Q E hr h => ?_)
  · obtain ⟨a, n, rs, root, p, kvs, g, rfl, _⟩ := h
    rfl
  · obtain ⟨a, n, rs, root, p, kvs, g, rfl, hN, hG, hl, hp, hD, hkl, tp, tg, q⟩ := h
    refine ⟨_, pss_one (ps_if (pt_not (pt_val (pe_call GN hr (by rfl) gN kN bN .nil pass0 (pa_cons (pv 0) (pa_cons (pv 1) (pa_cons (pv 2) pa_nil)))))) (pss_one (ps_raiseC rfl (takes_of rfl rfl rfl rfl) hC (by rfl))) pss_nil), ?_⟩
    refine ⟨_, rfl, _, rfl, _, rfl, a, n, rs, root, p, kvs, g, rfl, hN, hG, hl, hp, hD, hkl, tp, tg, fun H' b k hb => ⟨_, rfl, ?_⟩⟩
    cases b with
    | true => exact iteF ((q H' k).1 (hb.mp rfl))
    | false => exact iteT ((q H' k).2 (fun z => absurd (hb.mpr z) (by decide)))
end
end HK

set_option Elab.async false
set_option linter.all false
set_option maxRecDepth 100000
set_option maxHeartbeats 4000000
namespace HK
open PySem PySem.Spec PyProof.Rows L2 GAl GxR
abbrev sUnder : Stmt := topS 46
theorem scUnder : FnScope ["numbers", "start", "end", "more"] ["numbers", "start", "end", "more"] (defScope sUnder) := ⟨rfl, rfl, rfl, by decide +kernel, rfl, by decide +kernel, by decide +kernel⟩
def undB (f : IF) (s e m : Int) : Bool := match f s with
  | none => false
  | some x => match f e with
    | none => true
    | some b => decide (x + m < b)
section
variable {P : Program} {w : World} {K : PySem.W.Frag} {mg : Str → Option Value} {base : Heap}
def spUnder (K : PySem.W.Frag) : Sp := fun vs H Q _ => ∃ (p : Addr) (kvs : List (Key × V)) (g : IF) (a b c : Int), vs = [.ref p, .int a, .int b, .int c] ∧ Rd H p (.dK kvs) ∧ DI kvs g ∧ Q (.bl (undB g a b c)) H
theorem ok_under {f : Addr} {fd : FuncData} (F : Fun K "undercuts" "undercuts" sUnder f fd) : FnOk P w K mg base CX0 1 f fd ["numbers", "start", "end", "more"] (spUnder K) := by
  refine F.ok scUnder (fun vs H Q E h => ?_) (fun cdv A outer s H vs Q E hr h => ?_)
  · obtain ⟨p, kvs, g, a, b, c, rfl, _⟩ := h
    rfl
  · obtain ⟨p, kvs, g, a, b, c, rfl, hp, hD, q⟩ := h
    have hu := hu_of hr
    refine ⟨_, pss_one (ps_ret (pe_and (pe_cmp (pc_din hu (pv 1) (pv 0))) (pe_one (pe_or (pe_cmp (pc_dnotin hu (pv 2) (pv 0))) (pe_one (pe_cmpR op_lt (pe_op op_add (pe_dget hu (pv 0) (pv 1) (fun _ _ => rfl)) (pv 3)) (pe_dget hu (pv 0) (pv 2) (fun _ _ => rfl)) (nomark _))))))), ?_⟩
    unfold undB at q
    have ds := dgetR hp hD a
    have de := dgetR hp hD b
    refine ⟨_, rfl, _, rfl, p, _, rfl, ds, _, rfl, ?_⟩
    cases es : g a with
    | none => rw [es] at q; exact iteF q
    | some x =>
      rw [es] at q ds
      refine iteT ⟨_, rfl, _, rfl, p, _, rfl, de, _, rfl, ?_⟩
      cases ee : g b with
      | none => rw [ee] at q; exact iteT q
      | some y =>
        rw [ee] at q de
        exact iteF ⟨_, rfl, _, rfl, p, _, rfl, ds, _, rfl, x, c, rfl, rfl, _, rfl, _, rfl, p, _, rfl, de, x + c, y, rfl, rfl, q⟩
end
end HK

set_option Elab.async false
set_option linter.all false
set_option maxRecDepth 100000
set_option maxHeartbeats 2000000
namespace HK
open PySem PySem.Spec PyProof.Rows L2 GAl GxR
abbrev sEarly : Stmt := topS 43
theorem scEarly : FnScope ["net", "root", "many", "roads", "least", "turn", "start", "end", "cost", "late"] ["net", "root"] (defScope sEarly) := ⟨rfl, rfl, rfl, by decide +kernel, rfl, by decide +kernel, by decide +kernel⟩
section
variable {P : Program} {w : World} {K : PySem.W.Frag} {mg : Str → Option Value} {base : Heap}
def spEarly (K : PySem.W.Frag) (Pn Pr : Addr) : Sp := fun vs H Q _ => ∃ (a : Addr) (n : Int) (rs : List R4) (root : Int), vs = [.ref a, .int root] ∧ NetAt K H a n rs ∧ Good n rs ∧ rs.length ≤ 156 ∧ 0 ≤ root ∧ root < n ∧ TabG H Pn ∧ TabG H Pr ∧
  ∀ (p : Addr) (kvs : List (Key × V)) (H' : Hp), K0 H H' → H p = none → H' p = some (.dK kvs) → DI kvs (due n rs root) → kvs.length ≤ 2000 → Q (.ref p) H'
theorem ok_early {f fN fP fU Pn Pr : Addr} {fd fdN fdP fdU : FuncData} (F : Fun K "earliest" "earliest" sEarly f fd)
    (kN : PySem.W.keepIn K (.ref fN) = true) (bN : Binds K fdN ["net"] []) (gN : mg "need_net" = some (.ref fN)) (GN : FnOk P w K mg base CX0 6 fN fdN ["net"] (spNeedNet K Pn Pr))
    (kP : PySem.W.keepIn K (.ref fP) = true) (bP : Binds K fdP ["net", "place"] []) (gP : mg "need_place" = some (.ref fP)) (GP : FnOk P w K mg base CX0 4 fP fdP ["net", "place"] (spNeedPlace K))
    (kU : PySem.W.keepIn K (.ref fU) = true) (bU : Binds K fdU ["numbers", "start", "end", "more"] []) (gU : mg "undercuts" = some (.ref fU)) (GU : FnOk P w K mg base CX0 1 fU fdU ["numbers", "start", "end", "more"] (spUnder K)) (mr : mg "range" = none) :
    FnOk P w K mg base CX0 7 f fd ["net", "root"] (spEarly K Pn Pr) := by
  refine F.ok scEarly (fun vs H Q E h => ?_) (fun cdv A outer s H vs Q E hr h => ?_)
  · obtain ⟨a, n, rs, v, rfl, _⟩ := h
    rfl
  · obtain ⟨a, n, rs, root, rfl, hN, hG, hl, r0, r1, tn, tr, q⟩ := h
    have hu := hu_of hr
    refine ⟨_, pss_cons (ps_expr (pe_call GN hr (by rfl) gN kN bN .nil pass0 (pa_cons (pv 0) pa_nil)))
      (pss_cons (ps_expr (pe_call GP (hr.mono (by decide)) (by rfl) gP kP bP .nil pass0 (pa_cons (pv 0) (pa_cons (pv 1) pa_nil))))
      (pss_cons (ps_asg (pv 0) (pg_tup rfl (pgs_cons (pg_name (i := 2) scEarly.nd rfl (.inl rfl)) (pgs_cons (pg_name (i := 3) scEarly.nd rfl (.inl rfl)) pgs_nil))))
      (pss_cons (ps_set (i := 4) scEarly.nd rfl (.inl rfl) (pe_disp (pps_cons (pv 1) pe_int pps_nil) rfl rfl (fun z => by cases z) (by decide)))
      (pss_cons (ps_for PassesOwn.never rfl (pi_range1 (by rfl) mr (pa_cons (pv 2) pa_nil)) (pg_name (i := 5) scEarly.nd rfl (.inl rfl))
        (pss_one (ps_for PassesOwn.never rfl (pi_tup (pv 3)) (pg_tup rfl (pgs_cons (pg_name (i := 6) scEarly.nd rfl (.inl rfl)) (pgs_cons (pg_name (i := 7) scEarly.nd rfl (.inl rfl)) (pgs_cons (pg_name (i := 8) scEarly.nd rfl (.inl rfl)) (pgs_cons (pg_name (i := 9) scEarly.nd rfl (.inl rfl)) pgs_nil)))))
          (pss_one (ps_if (pt_val (pe_call GU (hr.mono (by decide)) (by rfl) gU kU bU .nil pass0 (pa_cons (pv 4) (pa_cons (pv 6) (pa_cons (pv 7) (pa_cons (pv 9) pa_nil))))))
            (pss_one (ps_dput hu (pv 4) (pv 7) (pe_op op_add (pe_dget hu (pv 4) (pv 6) (fun _ _ => rfl)) (pv 9)) rfl)) pss_nil)))))
      (pss_one (ps_ret (pv 4))))))), ?_⟩
    refine ⟨_, rfl, a, n, rs, rfl, hN, hG, hl, tn, tr, fun H1 k1 => ?_⟩
    have hN1 := hN.k0 k1
    refine ⟨_, rfl, _, rfl, a, n, rs, root, rfl, hN1, r0, r1, ?_⟩
    obtain ⟨r, xs, o, h1, h2, hc, hd, h3⟩ := hN1
    have n1 := hG.n1
    have n2 := hG.n2
    refine ⟨_, rfl, a, _, rfl, h1, rfl, _, _, rfl, _, _, rfl, rfl, ?_⟩
    refine fun p np => ⟨_, rfl, ⟨upd_same, [(Sum.inl root, .int 0)], rfl, (by show 1 ≤ 15; decide), ?_⟩⟩
    have nHp := k1.dom p np
    rw [upd_upd]
    have hxs : SqT K H1 r xs := h2
    have hrl : xs.length = rs.length := h3.len
    refine ⟨_, rfl, n, rfl, by omega, by omega, for_range (lo := 0) (n := n.toNat) (fun i σ' H' => ∃ y5 y6 y7 y8 y9, σ' = [some (.ref a), some (.int root), some (.int n), some (.ref r), some (.ref p), y5, y6, y7, y8, y9] ∧ K0 H1 H' ∧
        ∃ kvs, H' p = some (.dK kvs) ∧ DI kvs (iter (fun f => rnd id rs f) i (ini root)) ∧ kvs.length ≤ 1 + 156 * i)
      ⟨none, none, none, none, none, rfl, K0.new np, _, upd_same, DI.one root, by show _ ≤ 1 + 156 * 0; exact Nat.le_of_eq rfl⟩ (fun i σ' H' hi h => ?_) (fun σ' H' h => ?_)⟩
    · obtain ⟨y5, y6, y7, y8, y9, rfl, k2, kvs, hk, hD, hlen⟩ := h
      refine ⟨.ref r, rfl, r, rfl, ⟨xs, k2.sqT hxs⟩, for_tup (xs := xs) (fun j σ' H' => ∃ y5 y6 y7 y8 y9, σ' = [some (.ref a), some (.int root), some (.int n), some (.ref r), some (.ref p), y5, y6, y7, y8, y9] ∧ K0 H1 H' ∧
          ∃ kvs, H' p = some (.dK kvs) ∧ DI kvs (rnd id (rs.take j) (iter (fun f => rnd id rs f) i (ini root))) ∧ kvs.length ≤ 1 + 156 * i + j)
        ⟨_, y6, y7, y8, y9, rfl, k2, kvs, hk, hD, hlen⟩ (fun j σ' H' hj h => ?_) (fun j x σ' H' hx h => ?_) (fun σ' H' h => ?_)⟩
      · obtain ⟨_, _, _, _, _, _, k3, _⟩ := h
        exact k3.sqT hxs
      · obtain ⟨y5, y6, y7, y8, y9, rfl, k3, kvs, hk, hD, hlen⟩ := h
        obtain ⟨d, e1, e2⟩ := dpAll_get h3 hx
        obtain ⟨t, rfl, hrd⟩ : ∃ t : R4, d = t.d ∧ rs[j]? = some t := by
          rw [List.getElem?_map] at e1
          cases e3 : rs[j]? with
          | none => rw [e3] at e1; cases e1
          | some t => rw [e3] at e1; cases e1; exact ⟨t, rfl, rfl⟩
        obtain ⟨q1, rfl, hs⟩ := dp_r4 e2
        have hjl : j < xs.length := by
          rw [hrl]; exact (List.getElem?_eq_some_iff.mp hrd).1
        rw [rnd_take hrd]
        generalize hg : rnd id (rs.take j) (iter (fun f => rnd id rs f) i (ini root)) = g at hD ⊢
        refine ⟨q1, _, rfl, k3.sqT hs, rfl, _, _, rfl, _, _, rfl, _, _, rfl, _, _, rfl, rfl, ?_⟩
        refine ⟨_, rfl, _, rfl, _, rfl, _, rfl, p, kvs, g, t.s, t.e, t.l, rfl, .inl hk, hD, _, rfl, ?_⟩
        have hsz : kvs.length < sizeLine := Nat.lt_of_le_of_lt (m := 5000) (by omega) (by decide)
        unfold rlx undB
        cases es : g t.s with
        | none => exact ⟨_, _, _, _, _, rfl, k3, kvs, hk, by rw [show id g t.s = none from es]; exact hD, by omega⟩
        | some x =>
          rw [show id g t.s = some x from es]
          have gets : DGet H' p (.int t.s) (some (.int x)) := by
            have := DGet.k (k := Sum.inl t.s) hk
            rw [hD.val, es] at this
            exact this
          cases ee : g t.e with
          | none =>
            refine iteT ⟨_, rfl, _, rfl, p, _, rfl, gets, _, rfl, x, t.l, rfl, rfl, _, rfl, _, rfl, p, _, rfl, DPut.k (k := Sum.inl t.e) hk hsz, ?_⟩
            refine ⟨_, _, _, _, _, rfl, k3.mut np, _, upd_same, hD.put _ _, Nat.le_trans (length_putK _ _ _) (by omega)⟩
          | some b =>
            by_cases hb : x + t.l < b
            · show if decide (x + t.l < b) = true then _ else _
              rw [decide_eq_true hb]
              simp only [hb, if_true]
              refine ⟨_, rfl, _, rfl, p, _, rfl, gets, _, rfl, x, t.l, rfl, rfl, _, rfl, _, rfl, p, _, rfl, DPut.k (k := Sum.inl t.e) hk hsz, ?_⟩
              refine ⟨_, _, _, _, _, rfl, k3.mut np, _, upd_same, hD.put _ _, Nat.le_trans (length_putK _ _ _) (by omega)⟩
            · show if decide (x + t.l < b) = true then _ else _
              rw [decide_eq_false hb]
              simp only [hb, if_false]
              exact ⟨_, _, _, _, _, rfl, k3, kvs, hk, hD, by omega⟩
      · obtain ⟨y5, y6, y7, y8, y9, rfl, k3, kvs, hk, hD, hlen⟩ := h
        rw [hrl, List.take_length] at hD
        exact ⟨_, _, _, _, _, rfl, k3, kvs, hk, hD, by omega⟩
    · obtain ⟨y5, y6, y7, y8, y9, rfl, k2, kvs, hk, hD, hlen⟩ := h
      exact ⟨_, rfl, q p kvs H' (k1.trans k2) nHp hk hD (by omega)⟩
end
end HK

set_option Elab.async false
set_option linter.all false
set_option maxRecDepth 100000
set_option maxHeartbeats 4000000
namespace HK
open PySem PySem.Spec PyProof.Rows L2 GAl GxR
abbrev sX_earliest : Stmt := topS 43
abbrev N_scX_earliest : List Str := ["net", "root", "many", "roads", "least", "turn", "start", "end", "cost", "late"]
theorem scX_earliest : FnScope N_scX_earliest ["net", "root"] (defScope sX_earliest) := ⟨rfl, rfl, rfl, by decide +kernel, rfl, by decide +kernel, by decide +kernel⟩
abbrev sX_are_earliest : Stmt := topS 45
abbrev N_scX_are_earliest : List Str := ["net", "root", "numbers", "start", "end", "cost", "late", "place"]
theorem scX_are_earliest : FnScope N_scX_are_earliest ["net", "root", "numbers"] (defScope sX_are_earliest) := ⟨rfl, rfl, rfl, by decide +kernel, rfl, by decide +kernel, by decide +kernel⟩
abbrev sX_is_closed : Stmt := topS 48
abbrev N_scX_is_closed : List Str := ["net", "root", "places", "start", "end", "cost", "late"]
theorem scX_is_closed : FnScope N_scX_is_closed ["net", "root", "places"] (defScope sX_is_closed) := ⟨rfl, rfl, rfl, by decide +kernel, rfl, by decide +kernel, by decide +kernel⟩
abbrev sX_is_tree : Stmt := topS 35
abbrev N_scX_is_tree : List Str := ["net", "root", "ahead"]
theorem scX_is_tree : FnScope N_scX_is_tree ["net", "root", "ahead"] (defScope sX_is_tree) := ⟨rfl, rfl, rfl, by decide +kernel, rfl, by decide +kernel, by decide +kernel⟩
abbrev sX_price : Stmt := topS 39
abbrev N_scX_price : List Str := ["net", "root", "ahead", "prices", "end", "start"]
theorem scX_price : FnScope N_scX_price ["net", "root", "ahead"] (defScope sX_price) := ⟨rfl, rfl, rfl, by decide +kernel, rfl, by decide +kernel, by decide +kernel⟩
abbrev sX_lateness : Stmt := topS 40
abbrev N_scX_lateness : List Str := ["net", "root", "ahead", "lates", "told", "place"]
theorem scX_lateness : FnScope N_scX_lateness ["net", "root", "ahead"] (defScope sX_lateness) := ⟨rfl, rfl, rfl, by decide +kernel, rfl, by decide +kernel, by decide +kernel⟩
abbrev sX_are_prices : Stmt := topS 52
abbrev N_scX_are_prices : List Str := ["net", "root", "ahead", "numbers", "place", "number", "start", "end", "cost", "late"]
theorem scX_are_prices : FnScope N_scX_are_prices ["net", "root", "ahead", "numbers"] (defScope sX_are_prices) := ⟨rfl, rfl, rfl, by decide +kernel, rfl, by decide +kernel, by decide +kernel⟩
abbrev sX_graft : Stmt := topS 50
abbrev N_scX_graft : List Str := ["net", "root", "ahead", "place", "numbers", "before", "grown", "at"]
theorem scX_graft : FnScope N_scX_graft ["net", "root", "ahead", "place"] (defScope sX_graft) := ⟨rfl, rfl, rfl, by decide +kernel, rfl, by decide +kernel, by decide +kernel⟩
abbrev sX_is_trim : Stmt := topS 36
abbrev N_scX_is_trim : List Str := ["net", "root", "hearers", "ahead", "copying", "place"]
theorem scX_is_trim : FnScope N_scX_is_trim ["net", "root", "hearers", "ahead"] (defScope sX_is_trim) := ⟨rfl, rfl, rfl, by decide +kernel, rfl, by decide +kernel, by decide +kernel⟩
abbrev sX_cut : Stmt := topS 53
abbrev N_scX_cut : List Str := ["net", "root", "hearers", "ahead"]
theorem scX_cut : FnScope N_scX_cut ["net", "root", "hearers", "ahead"] (defScope sX_cut) := ⟨rfl, rfl, rfl, by decide +kernel, rfl, by decide +kernel, by decide +kernel⟩
def BadNet (K : PySem.W.Frag) (H : Hp) (C : Addr) (v0 : V) (E : XK) : Prop := NetAns K H v0 false ∧ ∀ H', K0 H H' → E (.ref C) none H'
def BadRoot (K : PySem.W.Frag) (H : Hp) (C : Addr) (v0 v1 : V) (E : XK) : Prop := ∃ (a : Addr) (n : Int) (rs : List R4) (r : Int), v0 = .ref a ∧ v1 = .int r ∧ NetAt K H a n rs ∧ Good n rs ∧ rs.length ≤ 156 ∧ ¬ (0 ≤ r ∧ r < n) ∧ ∀ H', K0 H H' → E (.ref C) none H'
/-- net and root are good; then what R says -/
def GoodRoot (K : PySem.W.Frag) (H : Hp) (v0 v1 : V) (R : Addr → Int → List R4 → Int → Prop) : Prop := ∃ (a : Addr) (n : Int) (rs : List R4) (r : Int), v0 = .ref a ∧ v1 = .int r ∧ NetAt K H a n rs ∧ Good n rs ∧ rs.length ≤ 156 ∧ 0 ≤ r ∧ r < n ∧ R a n rs r
def BadPlace (H : Hp) (C : Addr) (v : V) (E : XK) (n : Int) : Prop := ∃ x : Int, v = .int x ∧ ¬ (0 ≤ x ∧ x < n) ∧ ∀ H', K0 H H' → E (.ref C) none H'
def BadHear (K : PySem.W.Frag) (H : Hp) (Pa C : Addr) (v : V) (E : XK) (n : Int) : Prop := ∃ (p : Addr) (ns : List Int), v = .ref p ∧ SqT K H p (ns.map V.int) ∧ TabG H Pa ∧ ¬ AreP n ns ∧ ∀ H', K0 H H' → E (.ref C) none H'
def BadTree (H : Hp) (Pp Pg C : Addr) (v : V) (E : XK) (rs : List R4) (r : Int) : Prop := ∃ (p : Addr) (kvs : List (Key × V)) (g : IF), v = .ref p ∧ H p = some (.dK kvs) ∧ DI kvs g ∧ kvs.length ≤ 5000 ∧ TabG H Pp ∧ TabG H Pg ∧ ¬ TreeP rs r g kvs.length ∧ ∀ H', K0 H H' → E (.ref C) none H'
section
variable {P : Program} {w : World} {K : PySem.W.Frag} {mg : Str → Option Value} {base : Heap}
theorem FunC.okX {x qual : Str} {st : Stmt} {f : Addr} {fd : FuncData} {c : Addr} {N ps : List Str} {k : Nat} {sp : Sp} (F : FunC K x qual st f fd c) (S : FnScope N ps (defScope st)) (len : ∀ vs H Q E, sp vs H Q E → vs.length = ps.length)
    (hbody : ∀ (A : Around) (outer : List Env) (s : Shared) (H : Hp) (vs : List V) (Q : VK) (E : XK), Room k (A.deeper (envOfC qual (defScope st) s.heap.objs.size f (.ref c))) → sp vs H Q E →
      ∃ t, PSs (cxOf (CX P w) P w K mg base N qual (defScope st) f (.ref c) A outer s H E) (defBody st) t ∧ t { nx := fun _ H' => Q .non H', rt := Q } (start N vs) H) : FnOk P w K mg base (CX P w) (k + 1) f fd ps sp := by
  obtain ⟨oc, od, kV, doc, pm, an, ct, osl, rfl, lk, hcd⟩ := F.ex
  exact fn_of lk hcd S len fun A outer s H vs Q E hr hsp => hbody A outer s H vs Q E hr hsp
def spX_earliest (K : PySem.W.Frag) (Pn Pr CN CP : Addr) : Sp := fun vs H Q E => ∃ v0 v1 : V, vs = [v0, v1] ∧ TabG H Pn ∧ TabG H Pr ∧ (BadNet K H CN v0 E ∨ BadRoot K H CP v0 v1 E)
theorem okX_earliest {f fN fP Pn Pr CN CP : Addr} {fd fdN fdP : FuncData} (F : Fun K "earliest" "earliest" sX_earliest f fd)
    (kN : PySem.W.keepIn K (.ref fN) = true) (bN : Binds K fdN ["net"] []) (gN : mg "need_net" = some (.ref fN)) (GN : FnOk P w K mg base (CX P w) 6 fN fdN ["net"] (spNeedNetX K Pn Pr CN))
    (kP : PySem.W.keepIn K (.ref fP) = true) (bP : Binds K fdP ["net", "place"] []) (gP : mg "need_place" = some (.ref fP)) (GP : FnOk P w K mg base (CX P w) 4 fP fdP ["net", "place"] (spNeedPlaceX K CP))
    : FnOk P w K mg base (CX P w) 7 f fd ["net", "root"] (spX_earliest K Pn Pr CN CP) := by
  refine F.okX scX_earliest (fun vs H Q E h => ?_) (fun cdv A outer s H vs Q E hr h => ?_)
  · obtain ⟨v0, v1, rfl, _⟩ := h
    rfl
  · obtain ⟨v0, v1, rfl, tn, tr, h⟩ := h
    refine ⟨_, (pss_cons (ps_expr (pe_call GN (hr.mono (by decide)) (by rfl) gN kN bN .nil (passes_call (takes_of rfl rfl rfl rfl) fun _ _ _ _ h => h) (pa_cons (pv 0) pa_nil))) (pss_cons (ps_expr (pe_call GP (hr.mono (by decide)) (by rfl) gP kP bP .nil (passes_call (takes_of rfl rfl rfl rfl) fun _ _ _ _ h => h) (pa_cons (pv 0) (pa_cons (pv 1) pa_nil)))) pss_never)), ?_⟩
    rcases h with h | h
    · obtain ⟨hA, q⟩ := h
      exact ⟨_, rfl, v0, false, rfl, hA, tn, tr, fun H' k => ⟨fun z => (by cases z), fun _ => q H' k⟩⟩
    · obtain ⟨a, n, rs, r, rfl, rfl, hN, hG, hl, hb, q⟩ := h
      exact ⟨_, rfl, .ref a, true, rfl, hN.ans hG hl, tn, tr, fun H1 k1 => ⟨fun _ => ⟨_, rfl, _, rfl, a, n, rs, r, rfl, hN.k0 k1, fun z => absurd z hb, fun _ => q H1 k1⟩, fun z => (by cases z)⟩⟩
def spX_are_earliest (K : PySem.W.Frag) (Pn Pr CN CP : Addr) : Sp := fun vs H Q E => ∃ v0 v1 v2 : V, vs = [v0, v1, v2] ∧ TabG H Pn ∧ TabG H Pr ∧ (BadNet K H CN v0 E ∨ BadRoot K H CP v0 v1 E)
theorem okX_are_earliest {c f fN fP Pn Pr CN CP : Addr} {fd fdN fdP : FuncData} (F : FunC K "are_earliest" "are_earliest" sX_are_earliest f fd c)
    (kN : PySem.W.keepIn K (.ref fN) = true) (bN : Binds K fdN ["net"] []) (gN : mg "need_net" = some (.ref fN)) (GN : FnOk P w K mg base (CX P w) 6 fN fdN ["net"] (spNeedNetX K Pn Pr CN))
    (kP : PySem.W.keepIn K (.ref fP) = true) (bP : Binds K fdP ["net", "place"] []) (gP : mg "need_place" = some (.ref fP)) (GP : FnOk P w K mg base (CX P w) 4 fP fdP ["net", "place"] (spNeedPlaceX K CP))
    : FnOk P w K mg base (CX P w) 7 f fd ["net", "root", "numbers"] (spX_are_earliest K Pn Pr CN CP) := by
  refine F.okX scX_are_earliest (fun vs H Q E h => ?_) (fun A outer s H vs Q E hr h => ?_)
  · obtain ⟨v0, v1, v2, rfl, _⟩ := h
    rfl
  · obtain ⟨v0, v1, v2, rfl, tn, tr, h⟩ := h
    refine ⟨_, (pss_cons (ps_expr (pe_call GN (hr.mono (by decide)) (by rfl) gN kN bN .nil (passes_call (takes_of rfl rfl rfl rfl) fun _ _ _ _ h => h) (pa_cons (pv 0) pa_nil))) (pss_cons (ps_expr (pe_call GP (hr.mono (by decide)) (by rfl) gP kP bP .nil (passes_call (takes_of rfl rfl rfl rfl) fun _ _ _ _ h => h) (pa_cons (pv 0) (pa_cons (pv 1) pa_nil)))) pss_never)), ?_⟩
    rcases h with h | h
    · obtain ⟨hA, q⟩ := h
      exact ⟨_, rfl, v0, false, rfl, hA, tn, tr, fun H' k => ⟨fun z => (by cases z), fun _ => q H' k⟩⟩
    · obtain ⟨a, n, rs, r, rfl, rfl, hN, hG, hl, hb, q⟩ := h
      exact ⟨_, rfl, .ref a, true, rfl, hN.ans hG hl, tn, tr, fun H1 k1 => ⟨fun _ => ⟨_, rfl, _, rfl, a, n, rs, r, rfl, hN.k0 k1, fun z => absurd z hb, fun _ => q H1 k1⟩, fun z => (by cases z)⟩⟩
def spX_is_closed (K : PySem.W.Frag) (Pn Pr CN CP : Addr) : Sp := fun vs H Q E => ∃ v0 v1 v2 : V, vs = [v0, v1, v2] ∧ TabG H Pn ∧ TabG H Pr ∧ (BadNet K H CN v0 E ∨ BadRoot K H CP v0 v1 E)
theorem okX_is_closed {c f fN fP Pn Pr CN CP : Addr} {fd fdN fdP : FuncData} (F : FunC K "is_closed" "is_closed" sX_is_closed f fd c)
    (kN : PySem.W.keepIn K (.ref fN) = true) (bN : Binds K fdN ["net"] []) (gN : mg "need_net" = some (.ref fN)) (GN : FnOk P w K mg base (CX P w) 6 fN fdN ["net"] (spNeedNetX K Pn Pr CN))
    (kP : PySem.W.keepIn K (.ref fP) = true) (bP : Binds K fdP ["net", "place"] []) (gP : mg "need_place" = some (.ref fP)) (GP : FnOk P w K mg base (CX P w) 4 fP fdP ["net", "place"] (spNeedPlaceX K CP))
    : FnOk P w K mg base (CX P w) 7 f fd ["net", "root", "places"] (spX_is_closed K Pn Pr CN CP) := by
  refine F.okX scX_is_closed (fun vs H Q E h => ?_) (fun A outer s H vs Q E hr h => ?_)
  · obtain ⟨v0, v1, v2, rfl, _⟩ := h
    rfl
  · obtain ⟨v0, v1, v2, rfl, tn, tr, h⟩ := h
    refine ⟨_, (pss_cons (ps_expr (pe_call GN (hr.mono (by decide)) (by rfl) gN kN bN .nil (passes_call (takes_of rfl rfl rfl rfl) fun _ _ _ _ h => h) (pa_cons (pv 0) pa_nil))) (pss_cons (ps_expr (pe_call GP (hr.mono (by decide)) (by rfl) gP kP bP .nil (passes_call (takes_of rfl rfl rfl rfl) fun _ _ _ _ h => h) (pa_cons (pv 0) (pa_cons (pv 1) pa_nil)))) pss_never)), ?_⟩
    rcases h with h | h
    · obtain ⟨hA, q⟩ := h
      exact ⟨_, rfl, v0, false, rfl, hA, tn, tr, fun H' k => ⟨fun z => (by cases z), fun _ => q H' k⟩⟩
    · obtain ⟨a, n, rs, r, rfl, rfl, hN, hG, hl, hb, q⟩ := h
      exact ⟨_, rfl, .ref a, true, rfl, hN.ans hG hl, tn, tr, fun H1 k1 => ⟨fun _ => ⟨_, rfl, _, rfl, a, n, rs, r, rfl, hN.k0 k1, fun z => absurd z hb, fun _ => q H1 k1⟩, fun z => (by cases z)⟩⟩
def spX_is_tree (K : PySem.W.Frag) (Pn Pr CN CP : Addr) : Sp := fun vs H Q E => ∃ v0 v1 v2 : V, vs = [v0, v1, v2] ∧ TabG H Pn ∧ TabG H Pr ∧ (BadNet K H CN v0 E ∨ BadRoot K H CP v0 v1 E)
theorem okX_is_tree {f fN fP Pn Pr CN CP : Addr} {fd fdN fdP : FuncData} (F : Fun K "is_tree" "is_tree" sX_is_tree f fd)
    (kN : PySem.W.keepIn K (.ref fN) = true) (bN : Binds K fdN ["net"] []) (gN : mg "need_net" = some (.ref fN)) (GN : FnOk P w K mg base (CX P w) 6 fN fdN ["net"] (spNeedNetX K Pn Pr CN))
    (kP : PySem.W.keepIn K (.ref fP) = true) (bP : Binds K fdP ["net", "place"] []) (gP : mg "need_place" = some (.ref fP)) (GP : FnOk P w K mg base (CX P w) 4 fP fdP ["net", "place"] (spNeedPlaceX K CP))
    : FnOk P w K mg base (CX P w) 7 f fd ["net", "root", "ahead"] (spX_is_tree K Pn Pr CN CP) := by
  refine F.okX scX_is_tree (fun vs H Q E h => ?_) (fun cdv A outer s H vs Q E hr h => ?_)
  · obtain ⟨v0, v1, v2, rfl, _⟩ := h
    rfl
  · obtain ⟨v0, v1, v2, rfl, tn, tr, h⟩ := h
    refine ⟨_, (pss_cons (ps_expr (pe_call GN (hr.mono (by decide)) (by rfl) gN kN bN .nil (passes_call (takes_of rfl rfl rfl rfl) fun _ _ _ _ h => h) (pa_cons (pv 0) pa_nil))) (pss_cons (ps_expr (pe_call GP (hr.mono (by decide)) (by rfl) gP kP bP .nil (passes_call (takes_of rfl rfl rfl rfl) fun _ _ _ _ h => h) (pa_cons (pv 0) (pa_cons (pv 1) pa_nil)))) pss_never)), ?_⟩
    rcases h with h | h
    · obtain ⟨hA, q⟩ := h
      exact ⟨_, rfl, v0, false, rfl, hA, tn, tr, fun H' k => ⟨fun z => (by cases z), fun _ => q H' k⟩⟩
    · obtain ⟨a, n, rs, r, rfl, rfl, hN, hG, hl, hb, q⟩ := h
      exact ⟨_, rfl, .ref a, true, rfl, hN.ans hG hl, tn, tr, fun H1 k1 => ⟨fun _ => ⟨_, rfl, _, rfl, a, n, rs, r, rfl, hN.k0 k1, fun z => absurd z hb, fun _ => q H1 k1⟩, fun z => (by cases z)⟩⟩
def spX_price (K : PySem.W.Frag) (Pn Pr Pp Pg CN CP CT : Addr) : Sp := fun vs H Q E => ∃ v0 v1 v2 : V, vs = [v0, v1, v2] ∧ TabG H Pn ∧ TabG H Pr ∧ (BadNet K H CN v0 E ∨ BadRoot K H CP v0 v1 E ∨ GoodRoot K H v0 v1 (fun _ n rs r => BadTree H Pp Pg CT v2 E rs r))
theorem okX_price {c f fN fP fT Pn Pr Pp Pg CN CP CT : Addr} {fd fdN fdP fdT : FuncData} (F : FunC K "price" "price" sX_price f fd c)
    (kN : PySem.W.keepIn K (.ref fN) = true) (bN : Binds K fdN ["net"] []) (gN : mg "need_net" = some (.ref fN)) (GN : FnOk P w K mg base (CX P w) 6 fN fdN ["net"] (spNeedNetX K Pn Pr CN))
    (kP : PySem.W.keepIn K (.ref fP) = true) (bP : Binds K fdP ["net", "place"] []) (gP : mg "need_place" = some (.ref fP)) (GP : FnOk P w K mg base (CX P w) 4 fP fdP ["net", "place"] (spNeedPlaceX K CP))
    (kT : PySem.W.keepIn K (.ref fT) = true) (bT : Binds K fdT ["net", "root", "ahead"] []) (gT : mg "need_tree" = some (.ref fT)) (GT : FnOk P w K mg base (CX P w) 5 fT fdT ["net", "root", "ahead"] (spNeedTreeX K Pp Pg CT))
    : FnOk P w K mg base (CX P w) 7 f fd ["net", "root", "ahead"] (spX_price K Pn Pr Pp Pg CN CP CT) := by
  refine F.okX scX_price (fun vs H Q E h => ?_) (fun A outer s H vs Q E hr h => ?_)
  · obtain ⟨v0, v1, v2, rfl, _⟩ := h
    rfl
  · obtain ⟨v0, v1, v2, rfl, tn, tr, h⟩ := h
    refine ⟨_, (pss_cons (ps_expr (pe_call GN (hr.mono (by decide)) (by rfl) gN kN bN .nil (passes_call (takes_of rfl rfl rfl rfl) fun _ _ _ _ h => h) (pa_cons (pv 0) pa_nil))) (pss_cons (ps_expr (pe_call GP (hr.mono (by decide)) (by rfl) gP kP bP .nil (passes_call (takes_of rfl rfl rfl rfl) fun _ _ _ _ h => h) (pa_cons (pv 0) (pa_cons (pv 1) pa_nil)))) (pss_cons (ps_expr (pe_call GT (hr.mono (by decide)) (by rfl) gT kT bT .nil (passes_call (takes_of rfl rfl rfl rfl) fun _ _ _ _ h => h) (pa_cons (pv 0) (pa_cons (pv 1) (pa_cons (pv 2) pa_nil))))) pss_never))), ?_⟩
    rcases h with h | h | h
    · obtain ⟨hA, q⟩ := h
      exact ⟨_, rfl, v0, false, rfl, hA, tn, tr, fun H' k => ⟨fun z => (by cases z), fun _ => q H' k⟩⟩
    · obtain ⟨a, n, rs, r, rfl, rfl, hN, hG, hl, hb, q⟩ := h
      exact ⟨_, rfl, .ref a, true, rfl, hN.ans hG hl, tn, tr, fun H1 k1 => ⟨fun _ => ⟨_, rfl, _, rfl, a, n, rs, r, rfl, hN.k0 k1, fun z => absurd z hb, fun _ => q H1 k1⟩, fun z => (by cases z)⟩⟩
    · obtain ⟨a, n, rs, r, rfl, rfl, hN, hG, hl, r0, r1, h⟩ := h
      refine ⟨_, rfl, .ref a, true, rfl, hN.ans hG hl, tn, tr, fun H1 k1 => ⟨fun _ => ⟨_, rfl, _, rfl, a, n, rs, r, rfl, hN.k0 k1, fun _ => ?_, fun z => absurd ⟨r0, r1⟩ z⟩, fun z => (by cases z)⟩⟩
      obtain ⟨p, kvs, g, rfl, hp, hD, hkl, tp, tg, hb, q⟩ := h
      exact ⟨_, rfl, _, rfl, _, rfl, a, n, rs, r, p, kvs, g, rfl, hN.k0 k1, hG, hl, k1.oth p _ hp (fun _ z => by cases z), hD, hkl, k1.tab _ tp, k1.tab _ tg, fun H3 k3 => ⟨fun z => absurd z hb, fun _ => q H3 (k1.trans k3)⟩⟩
def spX_lateness (K : PySem.W.Frag) (Pn Pr Pp Pg CN CP CT : Addr) : Sp := fun vs H Q E => ∃ v0 v1 v2 : V, vs = [v0, v1, v2] ∧ TabG H Pn ∧ TabG H Pr ∧ (BadNet K H CN v0 E ∨ BadRoot K H CP v0 v1 E ∨ GoodRoot K H v0 v1 (fun _ n rs r => BadTree H Pp Pg CT v2 E rs r))
theorem okX_lateness {f fN fP fT Pn Pr Pp Pg CN CP CT : Addr} {fd fdN fdP fdT : FuncData} (F : Fun K "lateness" "lateness" sX_lateness f fd)
    (kN : PySem.W.keepIn K (.ref fN) = true) (bN : Binds K fdN ["net"] []) (gN : mg "need_net" = some (.ref fN)) (GN : FnOk P w K mg base (CX P w) 6 fN fdN ["net"] (spNeedNetX K Pn Pr CN))
    (kP : PySem.W.keepIn K (.ref fP) = true) (bP : Binds K fdP ["net", "place"] []) (gP : mg "need_place" = some (.ref fP)) (GP : FnOk P w K mg base (CX P w) 4 fP fdP ["net", "place"] (spNeedPlaceX K CP))
    (kT : PySem.W.keepIn K (.ref fT) = true) (bT : Binds K fdT ["net", "root", "ahead"] []) (gT : mg "need_tree" = some (.ref fT)) (GT : FnOk P w K mg base (CX P w) 5 fT fdT ["net", "root", "ahead"] (spNeedTreeX K Pp Pg CT))
    : FnOk P w K mg base (CX P w) 7 f fd ["net", "root", "ahead"] (spX_lateness K Pn Pr Pp Pg CN CP CT) := by
  refine F.okX scX_lateness (fun vs H Q E h => ?_) (fun cdv A outer s H vs Q E hr h => ?_)
  · obtain ⟨v0, v1, v2, rfl, _⟩ := h
    rfl
  · obtain ⟨v0, v1, v2, rfl, tn, tr, h⟩ := h
    refine ⟨_, (pss_cons (ps_expr (pe_call GN (hr.mono (by decide)) (by rfl) gN kN bN .nil (passes_call (takes_of rfl rfl rfl rfl) fun _ _ _ _ h => h) (pa_cons (pv 0) pa_nil))) (pss_cons (ps_expr (pe_call GP (hr.mono (by decide)) (by rfl) gP kP bP .nil (passes_call (takes_of rfl rfl rfl rfl) fun _ _ _ _ h => h) (pa_cons (pv 0) (pa_cons (pv 1) pa_nil)))) (pss_cons (ps_expr (pe_call GT (hr.mono (by decide)) (by rfl) gT kT bT .nil (passes_call (takes_of rfl rfl rfl rfl) fun _ _ _ _ h => h) (pa_cons (pv 0) (pa_cons (pv 1) (pa_cons (pv 2) pa_nil))))) pss_never))), ?_⟩
    rcases h with h | h | h
    · obtain ⟨hA, q⟩ := h
      exact ⟨_, rfl, v0, false, rfl, hA, tn, tr, fun H' k => ⟨fun z => (by cases z), fun _ => q H' k⟩⟩
    · obtain ⟨a, n, rs, r, rfl, rfl, hN, hG, hl, hb, q⟩ := h
      exact ⟨_, rfl, .ref a, true, rfl, hN.ans hG hl, tn, tr, fun H1 k1 => ⟨fun _ => ⟨_, rfl, _, rfl, a, n, rs, r, rfl, hN.k0 k1, fun z => absurd z hb, fun _ => q H1 k1⟩, fun z => (by cases z)⟩⟩
    · obtain ⟨a, n, rs, r, rfl, rfl, hN, hG, hl, r0, r1, h⟩ := h
      refine ⟨_, rfl, .ref a, true, rfl, hN.ans hG hl, tn, tr, fun H1 k1 => ⟨fun _ => ⟨_, rfl, _, rfl, a, n, rs, r, rfl, hN.k0 k1, fun _ => ?_, fun z => absurd ⟨r0, r1⟩ z⟩, fun z => (by cases z)⟩⟩
      obtain ⟨p, kvs, g, rfl, hp, hD, hkl, tp, tg, hb, q⟩ := h
      exact ⟨_, rfl, _, rfl, _, rfl, a, n, rs, r, p, kvs, g, rfl, hN.k0 k1, hG, hl, k1.oth p _ hp (fun _ z => by cases z), hD, hkl, k1.tab _ tp, k1.tab _ tg, fun H3 k3 => ⟨fun z => absurd z hb, fun _ => q H3 (k1.trans k3)⟩⟩
def spX_are_prices (K : PySem.W.Frag) (Pn Pr Pp Pg CN CP CT : Addr) : Sp := fun vs H Q E => ∃ v0 v1 v2 v3 : V, vs = [v0, v1, v2, v3] ∧ TabG H Pn ∧ TabG H Pr ∧ (BadNet K H CN v0 E ∨ BadRoot K H CP v0 v1 E ∨ GoodRoot K H v0 v1 (fun _ n rs r => BadTree H Pp Pg CT v2 E rs r))
theorem okX_are_prices {c f fN fP fT Pn Pr Pp Pg CN CP CT : Addr} {fd fdN fdP fdT : FuncData} (F : FunC K "are_prices" "are_prices" sX_are_prices f fd c)
    (kN : PySem.W.keepIn K (.ref fN) = true) (bN : Binds K fdN ["net"] []) (gN : mg "need_net" = some (.ref fN)) (GN : FnOk P w K mg base (CX P w) 6 fN fdN ["net"] (spNeedNetX K Pn Pr CN))
    (kP : PySem.W.keepIn K (.ref fP) = true) (bP : Binds K fdP ["net", "place"] []) (gP : mg "need_place" = some (.ref fP)) (GP : FnOk P w K mg base (CX P w) 4 fP fdP ["net", "place"] (spNeedPlaceX K CP))
    (kT : PySem.W.keepIn K (.ref fT) = true) (bT : Binds K fdT ["net", "root", "ahead"] []) (gT : mg "need_tree" = some (.ref fT)) (GT : FnOk P w K mg base (CX P w) 5 fT fdT ["net", "root", "ahead"] (spNeedTreeX K Pp Pg CT))
    : FnOk P w K mg base (CX P w) 7 f fd ["net", "root", "ahead", "numbers"] (spX_are_prices K Pn Pr Pp Pg CN CP CT) := by
  refine F.okX scX_are_prices (fun vs H Q E h => ?_) (fun A outer s H vs Q E hr h => ?_)
  · obtain ⟨v0, v1, v2, v3, rfl, _⟩ := h
    rfl
  · obtain ⟨v0, v1, v2, v3, rfl, tn, tr, h⟩ := h
    refine ⟨_, (pss_cons (ps_expr (pe_call GN (hr.mono (by decide)) (by rfl) gN kN bN .nil (passes_call (takes_of rfl rfl rfl rfl) fun _ _ _ _ h => h) (pa_cons (pv 0) pa_nil))) (pss_cons (ps_expr (pe_call GP (hr.mono (by decide)) (by rfl) gP kP bP .nil (passes_call (takes_of rfl rfl rfl rfl) fun _ _ _ _ h => h) (pa_cons (pv 0) (pa_cons (pv 1) pa_nil)))) (pss_cons (ps_expr (pe_call GT (hr.mono (by decide)) (by rfl) gT kT bT .nil (passes_call (takes_of rfl rfl rfl rfl) fun _ _ _ _ h => h) (pa_cons (pv 0) (pa_cons (pv 1) (pa_cons (pv 2) pa_nil))))) pss_never))), ?_⟩
    rcases h with h | h | h
    · obtain ⟨hA, q⟩ := h
      exact ⟨_, rfl, v0, false, rfl, hA, tn, tr, fun H' k => ⟨fun z => (by cases z), fun _ => q H' k⟩⟩
    · obtain ⟨a, n, rs, r, rfl, rfl, hN, hG, hl, hb, q⟩ := h
      exact ⟨_, rfl, .ref a, true, rfl, hN.ans hG hl, tn, tr, fun H1 k1 => ⟨fun _ => ⟨_, rfl, _, rfl, a, n, rs, r, rfl, hN.k0 k1, fun z => absurd z hb, fun _ => q H1 k1⟩, fun z => (by cases z)⟩⟩
    · obtain ⟨a, n, rs, r, rfl, rfl, hN, hG, hl, r0, r1, h⟩ := h
      refine ⟨_, rfl, .ref a, true, rfl, hN.ans hG hl, tn, tr, fun H1 k1 => ⟨fun _ => ⟨_, rfl, _, rfl, a, n, rs, r, rfl, hN.k0 k1, fun _ => ?_, fun z => absurd ⟨r0, r1⟩ z⟩, fun z => (by cases z)⟩⟩
      obtain ⟨p, kvs, g, rfl, hp, hD, hkl, tp, tg, hb, q⟩ := h
      exact ⟨_, rfl, _, rfl, _, rfl, a, n, rs, r, p, kvs, g, rfl, hN.k0 k1, hG, hl, k1.oth p _ hp (fun _ z => by cases z), hD, hkl, k1.tab _ tp, k1.tab _ tg, fun H3 k3 => ⟨fun z => absurd z hb, fun _ => q H3 (k1.trans k3)⟩⟩
def spX_graft (K : PySem.W.Frag) (Pn Pr Pp Pg CN CP CT : Addr) : Sp := fun vs H Q E => ∃ v0 v1 v2 v3 : V, vs = [v0, v1, v2, v3] ∧ TabG H Pn ∧ TabG H Pr ∧ (BadNet K H CN v0 E ∨ BadRoot K H CP v0 v1 E ∨ GoodRoot K H v0 v1 (fun _ n _ _ => BadPlace H CP v3 E n) ∨ GoodRoot K H v0 v1 (fun _ n rs r => (∃ x : Int, v3 = .int x ∧ 0 ≤ x ∧ x < n) ∧ BadTree H Pp Pg CT v2 E rs r))
theorem okX_graft {f fN fP fT Pn Pr Pp Pg CN CP CT : Addr} {fd fdN fdP fdT : FuncData} (F : Fun K "graft" "graft" sX_graft f fd)
    (kN : PySem.W.keepIn K (.ref fN) = true) (bN : Binds K fdN ["net"] []) (gN : mg "need_net" = some (.ref fN)) (GN : FnOk P w K mg base (CX P w) 6 fN fdN ["net"] (spNeedNetX K Pn Pr CN))
    (kP : PySem.W.keepIn K (.ref fP) = true) (bP : Binds K fdP ["net", "place"] []) (gP : mg "need_place" = some (.ref fP)) (GP : FnOk P w K mg base (CX P w) 4 fP fdP ["net", "place"] (spNeedPlaceX K CP))
    (kT : PySem.W.keepIn K (.ref fT) = true) (bT : Binds K fdT ["net", "root", "ahead"] []) (gT : mg "need_tree" = some (.ref fT)) (GT : FnOk P w K mg base (CX P w) 5 fT fdT ["net", "root", "ahead"] (spNeedTreeX K Pp Pg CT))
    : FnOk P w K mg base (CX P w) 7 f fd ["net", "root", "ahead", "place"] (spX_graft K Pn Pr Pp Pg CN CP CT) := by
  refine F.okX scX_graft (fun vs H Q E h => ?_) (fun cdv A outer s H vs Q E hr h => ?_)
  · obtain ⟨v0, v1, v2, v3, rfl, _⟩ := h
    rfl
  · obtain ⟨v0, v1, v2, v3, rfl, tn, tr, h⟩ := h
    refine ⟨_, (pss_cons (ps_expr (pe_call GN (hr.mono (by decide)) (by rfl) gN kN bN .nil (passes_call (takes_of rfl rfl rfl rfl) fun _ _ _ _ h => h) (pa_cons (pv 0) pa_nil))) (pss_cons (ps_expr (pe_call GP (hr.mono (by decide)) (by rfl) gP kP bP .nil (passes_call (takes_of rfl rfl rfl rfl) fun _ _ _ _ h => h) (pa_cons (pv 0) (pa_cons (pv 1) pa_nil)))) (pss_cons (ps_expr (pe_call GP (hr.mono (by decide)) (by rfl) gP kP bP .nil (passes_call (takes_of rfl rfl rfl rfl) fun _ _ _ _ h => h) (pa_cons (pv 0) (pa_cons (pv 3) pa_nil)))) (pss_cons (ps_expr (pe_call GT (hr.mono (by decide)) (by rfl) gT kT bT .nil (passes_call (takes_of rfl rfl rfl rfl) fun _ _ _ _ h => h) (pa_cons (pv 0) (pa_cons (pv 1) (pa_cons (pv 2) pa_nil))))) pss_never)))), ?_⟩
    rcases h with h | h | h | h
    · obtain ⟨hA, q⟩ := h
      exact ⟨_, rfl, v0, false, rfl, hA, tn, tr, fun H' k => ⟨fun z => (by cases z), fun _ => q H' k⟩⟩
    · obtain ⟨a, n, rs, r, rfl, rfl, hN, hG, hl, hb, q⟩ := h
      exact ⟨_, rfl, .ref a, true, rfl, hN.ans hG hl, tn, tr, fun H1 k1 => ⟨fun _ => ⟨_, rfl, _, rfl, a, n, rs, r, rfl, hN.k0 k1, fun z => absurd z hb, fun _ => q H1 k1⟩, fun z => (by cases z)⟩⟩
    · obtain ⟨a, n, rs, r, rfl, rfl, hN, hG, hl, r0, r1, h⟩ := h
      refine ⟨_, rfl, .ref a, true, rfl, hN.ans hG hl, tn, tr, fun H1 k1 => ⟨fun _ => ⟨_, rfl, _, rfl, a, n, rs, r, rfl, hN.k0 k1, fun _ => ?_, fun z => absurd ⟨r0, r1⟩ z⟩, fun z => (by cases z)⟩⟩
      obtain ⟨x, rfl, hb, q⟩ := h
      exact ⟨_, rfl, _, rfl, a, n, rs, x, rfl, hN.k0 k1, fun z => absurd z hb, fun _ => q H1 k1⟩
    · obtain ⟨a, n, rs, r, rfl, rfl, hN, hG, hl, r0, r1, h⟩ := h
      refine ⟨_, rfl, .ref a, true, rfl, hN.ans hG hl, tn, tr, fun H1 k1 => ⟨fun _ => ⟨_, rfl, _, rfl, a, n, rs, r, rfl, hN.k0 k1, fun _ => ?_, fun z => absurd ⟨r0, r1⟩ z⟩, fun z => (by cases z)⟩⟩
      obtain ⟨⟨x, rfl, x0, x1⟩, p, kvs, g, rfl, hp, hD, hkl, tp, tg, hb, q⟩ := h
      refine ⟨_, rfl, _, rfl, a, n, rs, x, rfl, hN.k0 k1, fun _ => ?_, fun z => absurd ⟨x0, x1⟩ z⟩
      exact ⟨_, rfl, _, rfl, _, rfl, a, n, rs, r, p, kvs, g, rfl, hN.k0 k1, hG, hl, k1.oth p _ hp (fun _ z => by cases z), hD, hkl, k1.tab _ tp, k1.tab _ tg, fun H3 k3 => ⟨fun z => absurd z hb, fun _ => q H3 (k1.trans k3)⟩⟩
def spX_is_trim (K : PySem.W.Frag) (Pn Pr Pa CN CP : Addr) : Sp := fun vs H Q E => ∃ v0 v1 v2 v3 : V, vs = [v0, v1, v2, v3] ∧ TabG H Pn ∧ TabG H Pr ∧ (BadNet K H CN v0 E ∨ BadRoot K H CP v0 v1 E ∨ GoodRoot K H v0 v1 (fun _ n _ _ => BadHear K H Pa CP v2 E n))
theorem okX_is_trim {c f fN fP fH Pn Pr Pa CN CP : Addr} {fd fdN fdP fdH : FuncData} (F : FunC K "is_trim" "is_trim" sX_is_trim f fd c)
    (kN : PySem.W.keepIn K (.ref fN) = true) (bN : Binds K fdN ["net"] []) (gN : mg "need_net" = some (.ref fN)) (GN : FnOk P w K mg base (CX P w) 6 fN fdN ["net"] (spNeedNetX K Pn Pr CN))
    (kP : PySem.W.keepIn K (.ref fP) = true) (bP : Binds K fdP ["net", "place"] []) (gP : mg "need_place" = some (.ref fP)) (GP : FnOk P w K mg base (CX P w) 4 fP fdP ["net", "place"] (spNeedPlaceX K CP))
    (kH : PySem.W.keepIn K (.ref fH) = true) (bH : Binds K fdH ["net", "hearers"] []) (gH : mg "need_hearers" = some (.ref fH)) (GH : FnOk P w K mg base (CX P w) 6 fH fdH ["net", "hearers"] (spNeedHX K Pr Pa CP))
    : FnOk P w K mg base (CX P w) 7 f fd ["net", "root", "hearers", "ahead"] (spX_is_trim K Pn Pr Pa CN CP) := by
  refine F.okX scX_is_trim (fun vs H Q E h => ?_) (fun A outer s H vs Q E hr h => ?_)
  · obtain ⟨v0, v1, v2, v3, rfl, _⟩ := h
    rfl
  · obtain ⟨v0, v1, v2, v3, rfl, tn, tr, h⟩ := h
    refine ⟨_, (pss_cons (ps_expr (pe_call GN (hr.mono (by decide)) (by rfl) gN kN bN .nil (passes_call (takes_of rfl rfl rfl rfl) fun _ _ _ _ h => h) (pa_cons (pv 0) pa_nil))) (pss_cons (ps_expr (pe_call GP (hr.mono (by decide)) (by rfl) gP kP bP .nil (passes_call (takes_of rfl rfl rfl rfl) fun _ _ _ _ h => h) (pa_cons (pv 0) (pa_cons (pv 1) pa_nil)))) (pss_cons (ps_expr (pe_call GH (hr.mono (by decide)) (by rfl) gH kH bH .nil (passes_call (takes_of rfl rfl rfl rfl) fun _ _ _ _ h => h) (pa_cons (pv 0) (pa_cons (pv 2) pa_nil)))) pss_never))), ?_⟩
    rcases h with h | h | h
    · obtain ⟨hA, q⟩ := h
      exact ⟨_, rfl, v0, false, rfl, hA, tn, tr, fun H' k => ⟨fun z => (by cases z), fun _ => q H' k⟩⟩
    · obtain ⟨a, n, rs, r, rfl, rfl, hN, hG, hl, hb, q⟩ := h
      exact ⟨_, rfl, .ref a, true, rfl, hN.ans hG hl, tn, tr, fun H1 k1 => ⟨fun _ => ⟨_, rfl, _, rfl, a, n, rs, r, rfl, hN.k0 k1, fun z => absurd z hb, fun _ => q H1 k1⟩, fun z => (by cases z)⟩⟩
    · obtain ⟨a, n, rs, r, rfl, rfl, hN, hG, hl, r0, r1, h⟩ := h
      refine ⟨_, rfl, .ref a, true, rfl, hN.ans hG hl, tn, tr, fun H1 k1 => ⟨fun _ => ⟨_, rfl, _, rfl, a, n, rs, r, rfl, hN.k0 k1, fun _ => ?_, fun z => absurd ⟨r0, r1⟩ z⟩, fun z => (by cases z)⟩⟩
      obtain ⟨p, ns, rfl, hS, ta, hb, q⟩ := h
      exact ⟨_, rfl, _, rfl, a, n, rs, p, ns, rfl, hN.k0 k1, k1.sqT hS, k1.tab _ tr, k1.tab _ ta, fun H2 k2 => ⟨fun z => absurd z hb, fun _ => q H2 (k1.trans k2)⟩⟩
def spX_cut (K : PySem.W.Frag) (Pn Pr Pa Pp Pg CN CP CT : Addr) : Sp := fun vs H Q E => ∃ v0 v1 v2 v3 : V, vs = [v0, v1, v2, v3] ∧ TabG H Pn ∧ TabG H Pr ∧ (BadNet K H CN v0 E ∨ BadRoot K H CP v0 v1 E ∨ GoodRoot K H v0 v1 (fun _ n _ _ => BadHear K H Pa CP v2 E n) ∨ GoodRoot K H v0 v1 (fun _ n rs r => (∃ (p : Addr) (ns : List Int), v2 = .ref p ∧ SqT K H p (ns.map V.int) ∧ TabG H Pa ∧ AreP n ns) ∧ BadTree H Pp Pg CT v3 E rs r))
theorem okX_cut {f fN fP fH fT Pn Pr Pa Pp Pg CN CP CT : Addr} {fd fdN fdP fdH fdT : FuncData} (F : Fun K "cut" "cut" sX_cut f fd)
    (kN : PySem.W.keepIn K (.ref fN) = true) (bN : Binds K fdN ["net"] []) (gN : mg "need_net" = some (.ref fN)) (GN : FnOk P w K mg base (CX P w) 6 fN fdN ["net"] (spNeedNetX K Pn Pr CN))
    (kP : PySem.W.keepIn K (.ref fP) = true) (bP : Binds K fdP ["net", "place"] []) (gP : mg "need_place" = some (.ref fP)) (GP : FnOk P w K mg base (CX P w) 4 fP fdP ["net", "place"] (spNeedPlaceX K CP))
    (kH : PySem.W.keepIn K (.ref fH) = true) (bH : Binds K fdH ["net", "hearers"] []) (gH : mg "need_hearers" = some (.ref fH)) (GH : FnOk P w K mg base (CX P w) 6 fH fdH ["net", "hearers"] (spNeedHX K Pr Pa CP))
    (kT : PySem.W.keepIn K (.ref fT) = true) (bT : Binds K fdT ["net", "root", "ahead"] []) (gT : mg "need_tree" = some (.ref fT)) (GT : FnOk P w K mg base (CX P w) 5 fT fdT ["net", "root", "ahead"] (spNeedTreeX K Pp Pg CT))
    : FnOk P w K mg base (CX P w) 7 f fd ["net", "root", "hearers", "ahead"] (spX_cut K Pn Pr Pa Pp Pg CN CP CT) := by
  refine F.okX scX_cut (fun vs H Q E h => ?_) (fun cdv A outer s H vs Q E hr h => ?_)
  · obtain ⟨v0, v1, v2, v3, rfl, _⟩ := h
    rfl
  · obtain ⟨v0, v1, v2, v3, rfl, tn, tr, h⟩ := h
    refine ⟨_, (pss_cons (ps_expr (pe_call GN (hr.mono (by decide)) (by rfl) gN kN bN .nil (passes_call (takes_of rfl rfl rfl rfl) fun _ _ _ _ h => h) (pa_cons (pv 0) pa_nil))) (pss_cons (ps_expr (pe_call GP (hr.mono (by decide)) (by rfl) gP kP bP .nil (passes_call (takes_of rfl rfl rfl rfl) fun _ _ _ _ h => h) (pa_cons (pv 0) (pa_cons (pv 1) pa_nil)))) (pss_cons (ps_expr (pe_call GH (hr.mono (by decide)) (by rfl) gH kH bH .nil (passes_call (takes_of rfl rfl rfl rfl) fun _ _ _ _ h => h) (pa_cons (pv 0) (pa_cons (pv 2) pa_nil)))) (pss_cons (ps_expr (pe_call GT (hr.mono (by decide)) (by rfl) gT kT bT .nil (passes_call (takes_of rfl rfl rfl rfl) fun _ _ _ _ h => h) (pa_cons (pv 0) (pa_cons (pv 1) (pa_cons (pv 3) pa_nil))))) pss_never)))), ?_⟩
    rcases h with h | h | h | h
    · obtain ⟨hA, q⟩ := h
      exact ⟨_, rfl, v0, false, rfl, hA, tn, tr, fun H' k => ⟨fun z => (by cases z), fun _ => q H' k⟩⟩
    · obtain ⟨a, n, rs, r, rfl, rfl, hN, hG, hl, hb, q⟩ := h
      exact ⟨_, rfl, .ref a, true, rfl, hN.ans hG hl, tn, tr, fun H1 k1 => ⟨fun _ => ⟨_, rfl, _, rfl, a, n, rs, r, rfl, hN.k0 k1, fun z => absurd z hb, fun _ => q H1 k1⟩, fun z => (by cases z)⟩⟩
    · obtain ⟨a, n, rs, r, rfl, rfl, hN, hG, hl, r0, r1, h⟩ := h
      refine ⟨_, rfl, .ref a, true, rfl, hN.ans hG hl, tn, tr, fun H1 k1 => ⟨fun _ => ⟨_, rfl, _, rfl, a, n, rs, r, rfl, hN.k0 k1, fun _ => ?_, fun z => absurd ⟨r0, r1⟩ z⟩, fun z => (by cases z)⟩⟩
      obtain ⟨p, ns, rfl, hS, ta, hb, q⟩ := h
      exact ⟨_, rfl, _, rfl, a, n, rs, p, ns, rfl, hN.k0 k1, k1.sqT hS, k1.tab _ tr, k1.tab _ ta, fun H2 k2 => ⟨fun z => absurd z hb, fun _ => q H2 (k1.trans k2)⟩⟩
    · obtain ⟨a, n, rs, r, rfl, rfl, hN, hG, hl, r0, r1, h⟩ := h
      refine ⟨_, rfl, .ref a, true, rfl, hN.ans hG hl, tn, tr, fun H1 k1 => ⟨fun _ => ⟨_, rfl, _, rfl, a, n, rs, r, rfl, hN.k0 k1, fun _ => ?_, fun z => absurd ⟨r0, r1⟩ z⟩, fun z => (by cases z)⟩⟩
      obtain ⟨⟨p', ns, rfl, hS, ta, hA⟩, p, kvs, g, rfl, hp, hD, hkl, tp, tg, hb, q⟩ := h
      refine ⟨_, rfl, _, rfl, a, n, rs, p', ns, rfl, hN.k0 k1, k1.sqT hS, k1.tab _ tr, k1.tab _ ta, fun H2 k2 => ⟨fun _ => ?_, fun z => absurd hA z⟩⟩
      have k12 := k1.trans k2
      exact ⟨_, rfl, _, rfl, _, rfl, a, n, rs, r, p, kvs, g, rfl, hN.k0 k12, hG, hl, k12.oth p _ hp (fun _ z => by cases z), hD, hkl, k12.tab _ tp, k12.tab _ tg, fun H3 k3 => ⟨fun z => absurd z hb, fun _ => q H3 (k12.trans k3)⟩⟩
end
end HK

set_option Elab.async false
set_option linter.all false
set_option maxRecDepth 100000
set_option maxHeartbeats 4000000
namespace HK
open PySem PySem.Spec PyProof.Rows L2 GAl GxR
open Evl (pss_cut)
abbrev sServes : Stmt := topS 37
abbrev N_scServes : List Str := ["root", "hearers", "ahead", "place"]
theorem scServes : FnScope N_scServes ["root", "hearers", "ahead"] (defScope sServes) := ⟨rfl, rfl, rfl, by decide +kernel, rfl, by decide +kernel, by decide +kernel⟩
/-! ### trim trees -/
def ServP (root : Int) (g : IF) (l : List Int) : Prop := ∀ v ∈ l, v = root ∨ (g v).isSome = true
def TrimP (rs : List R4) (root : Int) (g : IF) (m : Nat) (l : List Int) : Prop := TreeP rs root g m ∧ ServP root g l ∧ ∀ v x, g v = some x → v ∈ l ∨ ∃ u, g u = some v
theorem DI.vals {kvs : List (Key × V)} {f : IF} (h : DI kvs f) : ∃ xs : List Int, kvs.map (·.2) = xs.map V.int ∧ ∀ x, x ∈ xs ↔ ∃ v, f v = some x := by
  have aux : ∀ {l : List (Key × V)}, (∀ p ∈ l, ∃ i x : Int, p = (Sum.inl i, V.int x)) → ∃ xs : List Int, l.map (·.2) = xs.map V.int := fun {l} => by
    induction l with
    | nil => exact fun _ => ⟨[], rfl⟩
    | cons p r ih =>
      intro hl
      obtain ⟨xs, e⟩ := ih fun q hq => hl q (List.mem_cons_of_mem _ hq)
      obtain ⟨i, x, rfl⟩ := hl p (List.mem_cons_self ..)
      exact ⟨x :: xs, by rw [List.map_cons, List.map_cons, e]⟩
  obtain ⟨xs, e⟩ := aux h.ks
  refine ⟨xs, e, fun x => ⟨fun hx => ?_, fun ⟨v, ev⟩ => ?_⟩⟩
  · have : V.int x ∈ kvs.map (·.2) := by rw [e]; exact List.mem_map.mpr ⟨x, hx, rfl⟩
    obtain ⟨p, hp, ep⟩ := List.mem_map.mp this
    obtain ⟨i, y, rfl, e2⟩ := h.at_ hp
    cases ep
    exact ⟨i, e2⟩
  · have := (h.mem v).mpr (by rw [ev]; rfl)
    obtain ⟨p, hp, ep⟩ := List.mem_map.mp this
    obtain ⟨i, y, rfl, e2⟩ := h.at_ hp
    cases ep
    rw [ev] at e2
    cases e2
    have : V.int x ∈ kvs.map (·.2) := List.mem_map.mpr ⟨_, hp, rfl⟩
    rw [e] at this
    obtain ⟨y, hy, ey⟩ := List.mem_map.mp this
    cases ey
    exact hy
theorem flat_ints' (L : List Int) : (L.map V.int).all flatV = true := by
  rw [List.all_map, List.all_eq_true]
  exact fun _ _ => rfl
theorem inV_iff' (i : Int) (L : List Int) : inV (.int i) (L.map V.int) = decide (i ∈ L) := by
  rw [Bool.eq_iff_iff, decide_eq_true_iff]
  constructor
  · intro h
    unfold inV at h
    rw [List.any_map, List.any_eq_true] at h
    obtain ⟨j, hj, e⟩ := h
    have : j = i := by simpa [eqV] using e
    rw [← this]; exact hj
  · exact fun h => inV_mem h
section
variable {P : Program} {w : World} {K : PySem.W.Frag} {mg : Str → Option Value} {base : Heap}
def spServes (K : PySem.W.Frag) (Ps : Addr) : Sp := fun vs H Q _ => ∃ (root : Int) (p : Addr) (ns : List Int) (d : Addr) (kvs : List (Key × V)) (g : IF), vs = [.int root, .ref p, .ref d] ∧ SqT K H p (ns.map V.int) ∧ H d = some (.dK kvs) ∧ DI kvs g ∧ TabG H Ps ∧ ∀ (H' : Hp) (b : Bool), K0 H H' → (b = true ↔ ServP root g ns) → Q (.bl b) H'
theorem ok_serves {f c Ps : Addr} {fd : FuncData} (F : FunC K "serves" "serves" sServes f fd c) (TB : TabB base mg c Ps) (m_all : mg "all" = none) : FnOk P w K mg base CX0 2 f fd ["root", "hearers", "ahead"] (spServes K Ps) := by
  refine F.ok scServes (fun vs H Q E h => ?_) (fun A outer s H vs Q E hr h => ?_)
  · obtain ⟨root, p, ns, d, kvs, g, rfl, _⟩ := h
    rfl
  · obtain ⟨root, p, ns, d, kvs, g, rfl, hS, hd, hD, ts, q⟩ := h
    refine ⟨_, (pss_one (ps_ret (pe_allG (own := [("place", 3)]) (k := 0) (g := (gName 3)) (tt := tYes) (te := (tOrV (tOp rEq (tVar 3) (tVar 0)) (tDIn (tVar 3) (tVar 2)))) (hr.mono (by decide)) (by rfl) m_all rfl scServes.nd TB rfl (gsc_by (N := N_scServes) (sc := defScope sServes) (by decide +kernel)) (pi_tup (pv 1)) (fun A' hr' _ _ _ _ _ _ => (pg_name (i := 3) scServes.nd rfl (.inl rfl))) (fun A' hr' _ _ _ _ _ _ => pts_nil) (fun A' hr' _ _ _ _ _ _ => (pe_or (pe_cmpR op_eq (pv 3) (pv 0) (nomark _)) (pe_one (pe_cmp (pc_din (hu_of hr') (pv 3) (pv 2))))))))), ?_⟩
    refine ⟨_, rfl, p, rfl, ⟨_, hS⟩, ts, fun H2 hT2 => ?_⟩
    have k2 : K0 H H2 := K0.tbd ts hT2
    refine ⟨fun i m H3 => i + m = ns.length ∧ K0 H H3 ∧ ServP root g (ns.take i), ⟨ns.length, by omega, k2, fun v hv => by rw [List.take_zero] at hv; cases hv⟩, fun i m H3 hW => ?_⟩
    obtain ⟨em, k3, hall⟩ := hW
    have hA : SqT K H3 p (ns.map V.int) := k3.sqT hS
    by_cases hi : i < ns.length
    · have h1 : i < (ns.map V.int).length := by rw [List.length_map]; omega
      have g1 : (ns.map V.int)[i]? = some (ns.map V.int)[i] := List.getElem?_eq_getElem h1
      have g0 : ns[i]? = some ns[i] := List.getElem?_eq_getElem hi
      refine .inr ⟨⟨_, _, hA, g1⟩, fun H' => K0 H H' ∧ (ns[i] = root ∨ (g ns[i]).isSome = true), fun H' hN => ⟨m - 1, by omega, by omega, hN.1, fun v hv => ?_⟩, fun x H' hy => ?_⟩
      · rw [List.take_add_one, g0] at hv
        rcases List.mem_append.mp hv with hv | hv
        · exact hall v hv
        · have := List.mem_singleton.mp hv
          subst this
          exact hN.2
      · obtain ⟨rfl, fx⟩ := hy
        have ex : x = .int ns[i] := by
          have := fx _ hA
          rw [List.getElem?_map, g0] at this
          exact (Option.some.inj this).symm
        subst ex
        refine ⟨rfl, tyes ⟨_, rfl, _, rfl, rfl, _, rfl, ?_⟩⟩
        by_cases hb : ns[i] = root
        · rw [decide_eq_true (show V.int ns[i] = V.int root by rw [hb])]
          exact iteT ⟨_, rfl, iteT ⟨k3, .inl hb⟩⟩
        · rw [decide_eq_false (show ¬ V.int ns[i] = V.int root from fun z => hb (V.int.inj z))]
          refine iteF ⟨_, rfl, _, rfl, d, _, rfl, dgetR (.inl (k3.oth d _ hd (fun _ z => by cases z))) hD ns[i], _, rfl, ?_⟩
          cases eg : g ns[i] with
          | some y => exact iteT ⟨k3, .inr rfl⟩
          | none =>
            refine iteF (q _ false k3 ⟨fun z => by (cases z), fun z => ?_⟩)
            rcases z _ (List.getElem_mem hi) with z | z
            · exact absurd z hb
            · rw [eg] at z; cases z
    · rw [List.take_of_length_le (by omega)] at hall
      exact .inl ⟨⟨_, hA, by rw [List.length_map]; omega⟩, q _ true k3 ⟨fun _ => hall, fun _ => rfl⟩⟩
end
end HK

set_option Elab.async false
set_option linter.all false
set_option maxRecDepth 100000
set_option maxHeartbeats 4000000
namespace HK
open PySem PySem.Spec PyProof.Rows L2 GAl GxR
abbrev sX_ways : Stmt := topS 44
abbrev N_scX_ways : List Str := ["net", "root", "least", "ahead", "start", "end", "cost", "late"]
theorem scX_ways : FnScope N_scX_ways ["net", "root"] (defScope sX_ways) := ⟨rfl, rfl, rfl, by decide +kernel, rfl, by decide +kernel, by decide +kernel⟩
section
variable {P : Program} {w : World} {K : PySem.W.Frag} {mg : Str → Option Value} {base : Heap}
theorem okX_ways {f fE Pn Pr CN CP : Addr} {fd fdE : FuncData} (F : Fun K "ways" "ways" sX_ways f fd)
    (kE : PySem.W.keepIn K (.ref fE) = true) (bE : Binds K fdE ["net", "root"] []) (gE : mg "earliest" = some (.ref fE)) (GE : FnOk P w K mg base (CX P w) 7 fE fdE ["net", "root"] (spX_earliest K Pn Pr CN CP)) :
    FnOk P w K mg base (CX P w) 8 f fd ["net", "root"] (spX_earliest K Pn Pr CN CP) := by
  refine F.okX scX_ways (fun vs H Q E h => ?_) (fun cdv A outer s H vs Q E hr h => ?_)
  · obtain ⟨v0, v1, rfl, _⟩ := h
    rfl
  · obtain ⟨v0, v1, rfl, tn, tr, h⟩ := h
    refine ⟨_, (pss_cons (ps_set (i := 2) scX_ways.nd rfl (.inl rfl) (pe_call GE (hr.mono (by decide)) (by rfl) gE kE bE .nil (passes_call (takes_of rfl rfl rfl rfl) fun _ _ _ _ h => h) (pa_cons (pv 0) (pa_cons (pv 1) pa_nil)))) pss_never), ?_⟩
    exact ⟨_, rfl, _, rfl, v0, v1, rfl, tn, tr, h⟩
/-- cut of a tree that doesn't serve the hearers -/
def spX_cut2 (K : PySem.W.Frag) (Pn Pr Pa Pp Pg Ps CT : Addr) : Sp := fun vs H Q E => ∃ v0 v1 v2 v3 : V, vs = [v0, v1, v2, v3] ∧ TabG H Pn ∧ TabG H Pr ∧ GoodRoot K H v0 v1 (fun _ n rs r => ∃ (p : Addr) (ns : List Int) (d : Addr) (kvs : List (Key × V)) (g : IF), v2 = .ref p ∧ v3 = .ref d ∧ SqT K H p (ns.map V.int) ∧ TabG H Pa ∧ AreP n ns ∧ H d = some (.dK kvs) ∧ DI kvs g ∧ kvs.length ≤ 5000 ∧ TabG H Pp ∧ TabG H Pg ∧ TabG H Ps ∧ TreeP rs r g kvs.length ∧ ¬ ServP r g ns ∧ ∀ H', K0 H H' → E (.ref CT) none H')
theorem okX_cut2 {f fN fP fH fT fS Pn Pr Pa Pp Pg Ps CN CP CT : Addr} {fd fdN fdP fdH fdT fdS : FuncData} (F : Fun K "cut" "cut" sX_cut f fd) (hC : XCls K mg "NoTree" CT)
    (kN : PySem.W.keepIn K (.ref fN) = true) (bN : Binds K fdN ["net"] []) (gN : mg "need_net" = some (.ref fN)) (GN : FnOk P w K mg base (CX P w) 6 fN fdN ["net"] (spNeedNetX K Pn Pr CN))
    (kP : PySem.W.keepIn K (.ref fP) = true) (bP : Binds K fdP ["net", "place"] []) (gP : mg "need_place" = some (.ref fP)) (GP : FnOk P w K mg base (CX P w) 4 fP fdP ["net", "place"] (spNeedPlaceX K CP))
    (kH : PySem.W.keepIn K (.ref fH) = true) (bH : Binds K fdH ["net", "hearers"] []) (gH : mg "need_hearers" = some (.ref fH)) (GH : FnOk P w K mg base (CX P w) 6 fH fdH ["net", "hearers"] (spNeedHX K Pr Pa CP))
    (kT : PySem.W.keepIn K (.ref fT) = true) (bT : Binds K fdT ["net", "root", "ahead"] []) (gT : mg "need_tree" = some (.ref fT)) (GT : FnOk P w K mg base (CX P w) 5 fT fdT ["net", "root", "ahead"] (spNeedTreeX K Pp Pg CT))
    (kS : PySem.W.keepIn K (.ref fS) = true) (bS : Binds K fdS ["root", "hearers", "ahead"] []) (gS : mg "serves" = some (.ref fS)) (GS : FnOk P w K mg base CX0 2 fS fdS ["root", "hearers", "ahead"] (spServes K Ps))
    : FnOk P w K mg base (CX P w) 7 f fd ["net", "root", "hearers", "ahead"] (spX_cut2 K Pn Pr Pa Pp Pg Ps CT) := by
  refine F.okX scX_cut (fun vs H Q E h => ?_) (fun cdv A outer s H vs Q E hr h => ?_)
  · obtain ⟨v0, v1, v2, v3, rfl, _⟩ := h
    rfl
  · obtain ⟨v0, v1, v2, v3, rfl, tn, tr, h⟩ := h
    refine ⟨_, (pss_cons (ps_expr (pe_call GN (hr.mono (by decide)) (by rfl) gN kN bN .nil (passes_call (takes_of rfl rfl rfl rfl) fun _ _ _ _ h => h) (pa_cons (pv 0) pa_nil)))
      (pss_cons (ps_expr (pe_call GP (hr.mono (by decide)) (by rfl) gP kP bP .nil (passes_call (takes_of rfl rfl rfl rfl) fun _ _ _ _ h => h) (pa_cons (pv 0) (pa_cons (pv 1) pa_nil))))
      (pss_cons (ps_expr (pe_call GH (hr.mono (by decide)) (by rfl) gH kH bH .nil (passes_call (takes_of rfl rfl rfl rfl) fun _ _ _ _ h => h) (pa_cons (pv 0) (pa_cons (pv 2) pa_nil))))
      (pss_cons (ps_expr (pe_call GT (hr.mono (by decide)) (by rfl) gT kT bT .nil (passes_call (takes_of rfl rfl rfl rfl) fun _ _ _ _ h => h) (pa_cons (pv 0) (pa_cons (pv 1) (pa_cons (pv 3) pa_nil)))))
      (pss_cons (ps_if (pt_not (pt_val (pe_call GS (hr.mono (by decide)) (by rfl) gS kS bS .nil pass0 (pa_cons (pv 1) (pa_cons (pv 2) (pa_cons (pv 3) pa_nil)))))) (pss_one (ps_raiseC rfl (takes_of rfl rfl rfl rfl) hC (by rfl))) pss_nil) pss_never))))), ?_⟩
    obtain ⟨a, n, rs, r, rfl, rfl, hN, hG, hl, r0, r1, p, ns, d, kvs, g, rfl, rfl, hS, ta, hA, hd, hD, hkl, tp, tg, ts, hT, hb, q⟩ := h
    refine ⟨_, rfl, .ref a, true, rfl, hN.ans hG hl, tn, tr, fun H1 k1 => ⟨fun _ => ⟨_, rfl, _, rfl, a, n, rs, r, rfl, hN.k0 k1, fun _ => ?_, fun z => absurd ⟨r0, r1⟩ z⟩, fun z => (by cases z)⟩⟩
    refine ⟨_, rfl, _, rfl, a, n, rs, p, ns, rfl, hN.k0 k1, k1.sqT hS, k1.tab _ tr, k1.tab _ ta, fun H2 k2 => ⟨fun _ => ?_, fun z => absurd hA z⟩⟩
    have k12 := k1.trans k2
    refine ⟨_, rfl, _, rfl, _, rfl, a, n, rs, r, d, kvs, g, rfl, hN.k0 k12, hG, hl, k12.oth d _ hd (fun _ z => by cases z), hD, hkl, k12.tab _ tp, k12.tab _ tg, fun H3 k3 => ⟨fun _ => ?_, fun z => absurd hT z⟩⟩
    have k13 := k12.trans k3
    refine ⟨_, rfl, _, rfl, _, rfl, r, p, ns, d, kvs, g, rfl, k13.sqT hS, k13.oth d _ hd (fun _ z => by cases z), hD, k13.tab _ ts, fun H4 b k4 hb' => ⟨_, rfl, ?_⟩⟩
    cases b with
    | true => exact absurd (hb'.mp rfl) hb
    | false => exact iteT (q H4 (k13.trans k4))
end
end HK

set_option Elab.async false
set_option linter.all false
set_option maxRecDepth 100000
set_option maxHeartbeats 4000000
namespace HK
open PySem PySem.Spec PyProof.Rows L2 GAl GxR DTu
abbrev sIsTree : Stmt := topS 35
theorem scIsTree : FnScope ["net", "root", "ahead"] ["net", "root", "ahead"] (defScope sIsTree) := ⟨rfl, rfl, rfl, by decide +kernel, rfl, by decide +kernel, by decide +kernel⟩
section
variable {P : Program} {w : World} {K : PySem.W.Frag} {mg : Str → Option Value} {base : Heap}
def spIsTree (K : PySem.W.Frag) (Pn Pr Pp Pg : Addr) : Sp := fun vs H Q _ => ∃ (a : Addr) (n : Int) (rs : List R4) (root : Int) (p : Addr) (kvs : List (Key × V)) (g : IF), vs = [.ref a, .int root, .ref p] ∧ NetAt K H a n rs ∧ Good n rs ∧ rs.length ≤ 156 ∧ 0 ≤ root ∧ root < n ∧
  H p = some (.dK kvs) ∧ DI kvs g ∧ kvs.length ≤ 5000 ∧ TbL H [Pn, Pr, Pp, Pg] ∧ ∀ (H' : Hp) (b : Bool), K0 H H' → (b = true ↔ TreeP rs root g kvs.length) → Q (.bl b) H'
theorem ok_istree {f fN fP fG Pn Pr Pp Pg : Addr} {fd fdN fdP fdG : FuncData} (F : Fun K "is_tree" "is_tree" sIsTree f fd)
    (kN : PySem.W.keepIn K (.ref fN) = true) (bN : Binds K fdN ["net"] []) (gN : mg "need_net" = some (.ref fN)) (GN : FnOk P w K mg base CX0 6 fN fdN ["net"] (spNeedNet K Pn Pr))
    (kP : PySem.W.keepIn K (.ref fP) = true) (bP : Binds K fdP ["net", "place"] []) (gP : mg "need_place" = some (.ref fP)) (GP : FnOk P w K mg base CX0 4 fP fdP ["net", "place"] (spNeedPlace K))
    (kG : PySem.W.keepIn K (.ref fG) = true) (bG : Binds K fdG ["net", "root", "ahead"] []) (gG : mg "grows" = some (.ref fG)) (GG : FnOk P w K mg base CX0 4 fG fdG ["net", "root", "ahead"] (spGrows K Pp Pg)) :
    FnOk P w K mg base CX0 7 f fd ["net", "root", "ahead"] (spIsTree K Pn Pr Pp Pg) := by
  refine F.ok scIsTree (fun vs H Q E h => ?_) (fun cdv A outer s H vs Q E hr h => ?_)
  · obtain ⟨a, n, rs, v, p, kvs, g, rfl, _⟩ := h
    rfl
  · obtain ⟨a, n, rs, root, p, kvs, g, rfl, hN, hG, hl, r0, r1, hp, hD, hkl, tb, q⟩ := h
    refine ⟨_, pss_cons (ps_expr (pe_call GN hr (by rfl) gN kN bN .nil pass0 (pa_cons (pv 0) pa_nil)))
      (pss_cons (ps_expr (pe_call GP (hr.mono (by decide)) (by rfl) gP kP bP .nil pass0 (pa_cons (pv 0) (pa_cons (pv 1) pa_nil))))
      (pss_one (ps_ret (pe_call GG (hr.mono (by decide)) (by rfl) gG kG bG .nil pass0 (pa_cons (pv 0) (pa_cons (pv 1) (pa_cons (pv 2) pa_nil))))))), ?_⟩
    refine ⟨_, rfl, a, n, rs, rfl, hN, hG, hl, tb Pn (by simp), tb Pr (by simp), fun H1 k1 => ?_⟩
    refine ⟨_, rfl, _, rfl, a, n, rs, root, rfl, hN.k0 k1, r0, r1, ?_⟩
    exact ⟨_, rfl, _, rfl, _, rfl, a, n, rs, root, p, kvs, g, rfl, hN.k0 k1, hG, hl, k1.oth p _ hp (fun _ z => by cases z), hD, hkl, k1.tab _ (tb Pp (by simp)), k1.tab _ (tb Pg (by simp)), fun H' b k' hb => q H' b (k1.trans k') hb⟩
end
end HK

set_option Elab.async false
set_option linter.all false
set_option maxRecDepth 100000
set_option maxHeartbeats 2000000
namespace HK
open PySem PySem.Spec PyProof.Rows L2 GAl GxR
section
variable {P : Program} {w : World} {K : PySem.W.Frag} {mg : Str → Option Value} {base : Heap}
def spFound (K : PySem.W.Frag) : Sp := fun vs H Q _ => ∃ (a : Addr) (n : Int) (rs : List R4) (root : Int), vs = [.ref a, .int root] ∧ NetAt K H a n rs ∧ Good n rs ∧ rs.length ≤ 156 ∧ 0 ≤ root ∧ root < n ∧
  ∀ (p : Addr) (kvs : List (Key × V)) (H' : Hp), K0 H H' → H p = none → H' p = some (.dK kvs) → DI kvs (due n rs root) → kvs.length ≤ 2000 → Q (.ref p) H'
end
end HK

set_option Elab.async false
set_option linter.all false
set_option maxRecDepth 100000
set_option maxHeartbeats 4000000
namespace HK
open PySem PySem.Spec PyProof.Rows L2 GAl GxR
abbrev sAreE : Stmt := topS 45
abbrev sAtt : Stmt := topS 47
theorem scAtt : FnScope ["net", "numbers", "place", "start", "end", "cost", "late"] ["net", "numbers", "place"] (defScope sAtt) := ⟨rfl, rfl, rfl, by decide +kernel, rfl, by decide +kernel, by decide +kernel⟩
theorem scAreE : FnScope ["net", "root", "numbers", "start", "end", "cost", "late", "place"] ["net", "root", "numbers"] (defScope sAreE) := ⟨rfl, rfl, rfl, by decide +kernel, rfl, by decide +kernel, by decide +kernel⟩
def HoldsP (n : Int) (rs : List R4) (root : Int) (f : IF) : Prop := f root = some 0 ∧ (∀ v x, f v = some x → 0 ≤ v ∧ v < n) ∧ Closed rs f ∧ ∀ v x, f v = some x → v = root ∨ ∃ r ∈ rs, r.e = v ∧ ∃ a, f r.s = some a ∧ a + r.l = x
def underB (f : IF) (t : R4) : Bool := undB f t.s t.e t.l
theorem under_iff {f : IF} {t : R4} : underB f t = false ↔ ∀ a, f t.s = some a → ∃ b, f t.e = some b ∧ b ≤ a + t.l := by
  unfold underB undB
  cases e : f t.s with
  | none => exact ⟨fun _ a z => by (cases z), fun _ => rfl⟩
  | some x =>
    cases e2 : f t.e with
    | none => exact ⟨fun z => by (cases z), fun z => by obtain ⟨b, z, _⟩ := z x rfl; cases z⟩
    | some b =>
      constructor
      · intro z a ea
        cases ea
        have := of_decide_eq_false z
        exact ⟨b, rfl, by omega⟩
      · intro z
        obtain ⟨c, ec, lc⟩ := z x rfl
        cases ec
        exact decide_eq_false (by omega)
section
variable {P : Program} {w : World} {K : PySem.W.Frag} {mg : Str → Option Value} {base : Heap}
def spAtt (K : PySem.W.Frag) (Pa : Addr) : Sp := fun vs H Q _ => ∃ (a : Addr) (n : Int) (rs : List R4) (p : Addr) (kvs : List (Key × V)) (g : IF) (v x : Int), vs = [.ref a, .ref p, .int v] ∧ NetAt K H a n rs ∧ Rd H p (.dK kvs) ∧ DI kvs g ∧ g v = some x ∧ TabG H Pa ∧
  ∀ H' b, K0 H H' → (b = true ↔ ∃ r ∈ rs, r.e = v ∧ ∃ y, g r.s = some y ∧ y + r.l = x) → Q (.bl b) H'
theorem ok_att {f c Pa : Addr} {fd : FuncData} (F : FunC K "is_attained" "is_attained" sAtt f fd c) (TB : TabB base mg c Pa) (ma : mg "any" = none) : FnOk P w K mg base CX0 2 f fd ["net", "numbers", "place"] (spAtt K Pa) := by
  refine F.ok scAtt (fun vs H Q E h => ?_) (fun A outer s H vs Q E hr h => ?_)
  · obtain ⟨a, n, rs, p, kvs, g, v, x, rfl, _⟩ := h
    rfl
  · obtain ⟨a, n, rs, p, kvs, g, v, x, rfl, hN, hp, hD, hv, hT, q⟩ := h
    refine ⟨_, pss_one (ps_ret (pe_anyG (own := [("start", 3), ("end", 4), ("cost", 5), ("late", 6)]) (k := 0) (g := gTup K 4 (gCons (gName 3) (gCons (gName 4) (gCons (gName 5) (gCons (gName 6) gNil))))) (tt := tYes)
        (te := tAndV (tOp rEq (tVar 4) (tVar 2)) (tAndV (tDIn (tVar 3) (tVar 1)) (tOp rEq (tOp (rI0 fun i j => .int (i + j)) (tDGet (tVar 1) (tVar 3)) (tVar 6)) (tDGet (tVar 1) (tVar 2))))) hr (by rfl) ma rfl scAtt.nd TB rfl (gsc_by (N := ["net", "numbers", "place", "start", "end", "cost", "late"]) (sc := defScope sAtt) (by decide +kernel))
          (pi_tup (pe_ix ix_tup (pv 0) pe_int (fun _ _ => rfl))) (fun A' hr' _ _ _ _ _ _ => pg_tup rfl (pgs_cons (pg_name (i := 3) scAtt.nd rfl (.inl rfl)) (pgs_cons (pg_name (i := 4) scAtt.nd rfl (.inl rfl)) (pgs_cons (pg_name (i := 5) scAtt.nd rfl (.inl rfl)) (pgs_cons (pg_name (i := 6) scAtt.nd rfl (.inl rfl)) pgs_nil))))) (fun A' hr' _ _ _ _ _ _ => pts_nil)
          (fun A' hr' _ _ _ _ _ _ => pe_and (pe_cmpR op_eq (pv 4) (pv 2) (nomark _)) (pe_and (pe_cmp (pc_din (hu_of hr') (pv 3) (pv 1))) (pe_one (pe_cmpR op_eq (pe_op op_add (pe_dget (hu_of hr') (pv 1) (pv 3) (fun _ _ => rfl)) (pv 6)) (pe_dget (hu_of hr') (pv 1) (pv 2) (fun _ _ => rfl)) (nomark _))))))), ?_⟩
    obtain ⟨r, xs, o, h1, h2, hc, hd, h3⟩ := hN
    have hxs : SqT K H r xs := h2
    have hrl : xs.length = rs.length := h3.len
    refine ⟨_, rfl, a, _, 1, .ref r, rfl, rfl, h1, atI_nat (j := 1) rfl, r, rfl, ⟨xs, hxs⟩, hT, fun H2 hT2 => ?_⟩
    have k2 : K0 H H2 := K0.tbd hT hT2
    refine ⟨fun i m H3 => i + m = xs.length ∧ K0 H H3 ∧ ∀ t ∈ rs.take i, ¬ (t.e = v ∧ ∃ y, g t.s = some y ∧ y + t.l = x), ⟨xs.length, by omega, k2, fun t ht => by rw [List.take_zero] at ht; cases ht⟩, fun i m H3 hW => ?_⟩
    obtain ⟨em, k3, hno⟩ := hW
    have hY : SqT K H3 r xs := k3.sqT hxs
    by_cases hi : i < xs.length
    · have g1 : xs[i]? = some xs[i] := List.getElem?_eq_getElem hi
      obtain ⟨t, q1, hrd, hx, hs⟩ := road_at h3 g1
      have htk : rs.take (i + 1) = rs.take i ++ [t] := by rw [List.take_add_one, hrd]; rfl
      refine .inr ⟨⟨_, _, hY, g1⟩, fun H' => K0 H H' ∧ ¬ (t.e = v ∧ ∃ y, g t.s = some y ∧ y + t.l = x), fun H' hN => ⟨m - 1, by omega, by omega, hN.1, fun t' ht' => ?_⟩, fun x' H' hy => ?_⟩
      · rw [htk] at ht'
        rcases List.mem_append.mp ht' with ht' | ht'
        · exact hno t' ht'
        · have := List.mem_singleton.mp ht'
          subst this
          exact hN.2
      · obtain ⟨rfl, fx⟩ := hy
        have ex : x' = xs[i] := Option.some.inj ((fx _ hY).symm.trans g1)
        rw [hx] at ex
        subst ex
        have hp3 := k3.rd hp
        have ds := dgetR hp3 hD t.s
        have dv := dgetR hp3 hD v
        rw [hv] at dv
        refine ⟨q1, _, rfl, k3.sqT hs, rfl, _, _, rfl, _, _, rfl, _, _, rfl, _, _, rfl, rfl, rfl, tyes ?_⟩
        refine ⟨_, rfl, _, rfl, rfl, _, rfl, ?_⟩
        by_cases he : t.e = v
        · subst he
          rw [decide_eq_true (show V.int t.e = V.int t.e from rfl)]
          refine iteT ⟨_, rfl, _, rfl, p, _, rfl, ds, _, rfl, ?_⟩
          cases es : g t.s with
          | none => exact iteF ⟨_, rfl, iteF ⟨k3, fun z => by obtain ⟨_, y, z, _⟩ := z; cases z⟩⟩
          | some y =>
            rw [es] at ds
            refine iteT ⟨_, rfl, _, rfl, p, _, rfl, ds, _, rfl, y, t.l, rfl, rfl, _, rfl, _, rfl, p, _, rfl, dv, rfl, _, rfl, ?_⟩
            by_cases hyx : y + t.l = x
            · subst hyx
              rw [decide_eq_true (show V.int (y + t.l) = V.int (y + t.l) from rfl)]
              exact iteT (q _ true k3 ⟨fun _ => ⟨t, List.mem_of_getElem? hrd, rfl, y, es, rfl⟩, fun _ => rfl⟩)
            · rw [decide_eq_false (show ¬ V.int (y + t.l) = V.int x from fun z => hyx (by cases z; rfl))]
              exact iteF ⟨k3, fun z => by obtain ⟨_, y', z, z2⟩ := z; cases z; exact hyx z2⟩
        · rw [decide_eq_false (show ¬ V.int t.e = V.int v from fun z => he (by cases z; rfl))]
          exact iteF ⟨_, rfl, iteF ⟨k3, fun z => he z.1⟩⟩
    · refine .inl ⟨⟨_, hY, by omega⟩, q _ false k3 ⟨fun z => by (cases z), fun z => ?_⟩⟩
      obtain ⟨t, ht, z⟩ := z
      rw [List.take_of_length_le (by omega)] at hno
      exact absurd z (hno t ht)
end
end HK

set_option Elab.async false
set_option linter.all false
set_option maxRecDepth 100000
set_option maxHeartbeats 4000000
namespace HK
open PySem PySem.Spec PyProof.Rows L2 GAl GxR
open Evl (pss_cut)
section
variable {P : Program} {w : World} {K : PySem.W.Frag} {mg : Str → Option Value} {base : Heap}
structure Tb (H : Hp) (Pn Pr Pp Pa Pe : Addr) : Prop where
  n : TabG H Pn
  r : TabG H Pr
  p : TabG H Pp
  a : TabG H Pa
  e : TabG H Pe
theorem Tb.k0 {H H' : Hp} {Pn Pr Pp Pa Pe : Addr} (h : Tb H Pn Pr Pp Pa Pe) (k : K0 H H') : Tb H' Pn Pr Pp Pa Pe := ⟨k.tab _ h.n, k.tab _ h.r, k.tab _ h.p, k.tab _ h.a, k.tab _ h.e⟩
theorem Tb.kt {t : Addr} {H H' : Hp} {Pn Pr Pp Pa Pe : Addr} (h : Tb H Pn Pr Pp Pa Pe) (k : Kt t H H') : Tb H' Pn Pr Pp Pa Pe := ⟨k.tab _ h.n, k.tab _ h.r, k.tab _ h.p, k.tab _ h.a, k.tab _ h.e⟩
def spAreE (K : PySem.W.Frag) (Pn Pr Pp Pa Pe : Addr) : Sp := fun vs H Q _ => ∃ (a : Addr) (n : Int) (rs : List R4) (root : Int) (p : Addr) (kvs : List (Key × V)) (g : IF), vs = [.ref a, .int root, .ref p] ∧ NetAt K H a n rs ∧ Good n rs ∧ rs.length ≤ 156 ∧ 0 ≤ root ∧ root < n ∧
  H p = some (.dK kvs) ∧ DI kvs g ∧ Tb H Pn Pr Pp Pa Pe ∧ ∀ (H' : Hp) (b : Bool), K0 H H' → (b = true ↔ HoldsP n rs root g) → Q (.bl b) H'
theorem ok_aree {f c fN fP fW fU fA Pn Pr Pp Pa Pe : Addr} {fd fdN fdP fdW fdU fdA : FuncData} (F : FunC K "are_earliest" "are_earliest" sAreE f fd c) (TB : TabB base mg c Pe)
    (kN : PySem.W.keepIn K (.ref fN) = true) (bN : Binds K fdN ["net"] []) (gN : mg "need_net" = some (.ref fN)) (GN : FnOk P w K mg base CX0 6 fN fdN ["net"] (spNeedNet K Pn Pr))
    (kP : PySem.W.keepIn K (.ref fP) = true) (bP : Binds K fdP ["net", "place"] []) (gP : mg "need_place" = some (.ref fP)) (GP : FnOk P w K mg base CX0 4 fP fdP ["net", "place"] (spNeedPlace K))
    (kW : PySem.W.keepIn K (.ref fW) = true) (bW : Binds K fdW ["thing"] []) (gW : mg "are_whole_pairs" = some (.ref fW)) (GW : FnOk P w K mg base CX0 3 fW fdW ["thing"] (spPairs K Pp))
    (kU : PySem.W.keepIn K (.ref fU) = true) (bU : Binds K fdU ["numbers", "start", "end", "more"] []) (gU : mg "undercuts" = some (.ref fU)) (GU : FnOk P w K mg base CX0 1 fU fdU ["numbers", "start", "end", "more"] (spUnder K))
    (kA : PySem.W.keepIn K (.ref fA) = true) (bA : Binds K fdA ["net", "numbers", "place"] []) (gA : mg "is_attained" = some (.ref fA)) (GA : FnOk P w K mg base CX0 2 fA fdA ["net", "numbers", "place"] (spAtt K Pa))
    (mall : mg "all" = none) (many : mg "any" = none) :
    FnOk P w K mg base CX0 7 f fd ["net", "root", "numbers"] (spAreE K Pn Pr Pp Pa Pe) := by
  refine F.ok scAreE (fun vs H Q E h => ?_) (fun A outer s H vs Q E hr h => ?_)
  · obtain ⟨a, n, rs, v, p, kvs, g, rfl, _⟩ := h
    rfl
  · obtain ⟨a, n, rs, root, p, kvs, g, rfl, hN, hG, hl, r0, r1, hp, hD, tb, q⟩ := h
    have hu := hu_of hr
    refine ⟨_, pss_cons (ps_expr (pe_call GN hr (by rfl) gN kN bN .nil pass0 (pa_cons (pv 0) pa_nil)))
      (pss_cons (ps_expr (pe_call GP (hr.mono (by decide)) (by rfl) gP kP bP .nil pass0 (pa_cons (pv 0) (pa_cons (pv 1) pa_nil))))
      (pss_cons (ps_if (PW.pt (pw_or (pt_not (pt_val (pe_call GW (hr.mono (by decide)) (by rfl) gW kW bW .nil pass0 (pa_cons (pv 2) pa_nil)))) (pw_or (pt_cmp (pc_dnotin hu (pv 1) (pv 2))) (pw_or1 (pt_cmpR op_ne (pe_dget hu (pv 2) (pv 1) (fun _ _ => rfl)) pe_int (nomark _)))))) (pss_one (ps_ret pe_bl)) pss_nil)
      (pss_cons (ps_if (pt_val (pe_anyG (own := [("start", 3), ("end", 4), ("cost", 5), ("late", 6)]) (k := 5) (g := gTup K 4 (gCons (gName 3) (gCons (gName 4) (gCons (gName 5) (gCons (gName 6) gNil))))) (tt := tYes) (te := tCall (spUnder K) [] E0 (tCons (tVar 2) (tCons (tVar 3) (tCons (tVar 4) (tCons (tVar 6) tNil))))) hr (by rfl) many rfl scAreE.nd TB rfl (gsc_by (N := ["net", "root", "numbers", "start", "end", "cost", "late", "place"]) (sc := defScope sAreE) (by decide +kernel))
          (pi_tup (pe_ix ix_tup (pv 0) pe_int (fun _ _ => rfl))) (fun A' hr' _ _ _ _ _ _ => pg_tup rfl (pgs_cons (pg_name (i := 3) scAreE.nd rfl (.inl rfl)) (pgs_cons (pg_name (i := 4) scAreE.nd rfl (.inl rfl)) (pgs_cons (pg_name (i := 5) scAreE.nd rfl (.inl rfl)) (pgs_cons (pg_name (i := 6) scAreE.nd rfl (.inl rfl)) pgs_nil))))) (fun A' hr' _ _ _ _ _ _ => pts_nil)
          (fun A' hr' _ _ _ _ _ _ => pe_call GU (hr'.mono (by decide)) (by rfl) gU kU bU .nil pass0 (pa_cons (pv 2) (pa_cons (pv 3) (pa_cons (pv 4) (pa_cons (pv 6) pa_nil))))))) (pss_one (ps_ret pe_bl)) pss_nil)
      (pss_one (ps_ret (pe_lock (pe_allG (own := [("place", 7)]) (k := 5) (g := gName 7) (tt := tYes) (te := tOrV (tOp rEq (tVar 7) (tVar 1)) (tCall (spAtt K Pa) [] E0 (tCons (tVar 0) (tCons (tVar 2) (tCons (tVar 7) tNil))))) hr (by rfl) mall rfl scAreE.nd TB rfl (gsc_by (N := ["net", "root", "numbers", "start", "end", "cost", "late", "place"]) (sc := defScope sAreE) (by decide +kernel))
          (pi_keys (pv 2)) (fun A' hr' _ _ _ _ _ _ => pg_name (i := 7) scAreE.nd rfl (.inl rfl)) (fun A' hr' _ _ _ _ _ _ => pts_nil)
          (fun A' hr' _ _ _ _ _ _ => pe_or (pe_cmpR op_eq (pv 7) (pv 1) (nomark _)) (pe_one (pe_call GA (hr'.mono (by decide)) (by rfl) gA kA bA .nil pass0 (pa_cons (pv 0) (pa_cons (pv 2) (pa_cons (pv 7) pa_nil))))))))))))), ?_⟩
    refine ⟨_, rfl, a, n, rs, rfl, hN, hG, hl, tb.n, tb.r, fun H1 k1 => ?_⟩
    have hN1 := hN.k0 k1
    refine ⟨_, rfl, _, rfl, a, n, rs, root, rfl, hN1, r0, r1, ?_⟩
    have hp1 := k1.oth p _ hp (fun _ z => by cases z)
    refine ⟨_, rfl, p, kvs, g, rfl, hp1, hD, (tb.k0 k1).p, fun H2 k2 => ⟨_, rfl, iteF ?_⟩⟩
    have k12 := k1.trans k2
    have hp2 := k12.oth p _ hp (fun _ z => by cases z)
    have dr := dgetR (.inl hp2) hD root
    refine ⟨_, rfl, _, rfl, p, _, rfl, dr, _, rfl, ?_⟩
    cases er : g root with
    | none => exact iteT (iteT (q _ false k12 ⟨fun z => by (cases z), fun z => by rw [z.1] at er; cases er⟩))
    | some x0 =>
    rw [er] at dr
    refine iteF ⟨_, rfl, _, rfl, p, _, rfl, dr, rfl, _, rfl, ?_⟩
    by_cases hx0 : ¬ x0 = 0
    · rw [decide_eq_false (show ¬ V.int x0 = V.int 0 from fun z => hx0 (by cases z; rfl))]
      exact iteT (q _ false k12 ⟨fun z => by (cases z), fun z => by rw [z.1] at er; cases er; exact absurd rfl hx0⟩)
    have hx0 : x0 = 0 := Decidable.not_not.mp hx0
    subst hx0
    rw [decide_eq_true (show V.int 0 = V.int 0 from rfl)]
    refine iteF ?_
    have hN2 := hN.k0 k12
    have hNk : ∀ {H'}, K0 H2 H' → NetAt K H' a n rs := fun k => hN2.k0 k
    obtain ⟨r, xs, o, h1, h2, hc, hd, h3⟩ := hN2
    have hxs : SqT K H2 r xs := h2
    have hrl : xs.length = rs.length := h3.len
    have tb2 := tb.k0 k12
    refine ⟨_, rfl, a, _, 1, .ref r, rfl, rfl, h1, atI_nat (j := 1) rfl, r, rfl, ⟨xs, hxs⟩, tb2.e, fun H3 hT3 => ?_⟩
    have k3 : K0 H2 H3 := K0.tbd tb2.e hT3
    refine ⟨fun i m H4 => i + m = xs.length ∧ K0 H2 H4 ∧ ∀ t ∈ rs.take i, underB g t = false, ⟨xs.length, by omega, k3, fun t ht => by rw [List.take_zero] at ht; cases ht⟩, fun i m H4 hW => ?_⟩
    obtain ⟨em, k4, hno⟩ := hW
    have hY : SqT K H4 r xs := k4.sqT hxs
    by_cases hi : i < xs.length
    · have g1 : xs[i]? = some xs[i] := List.getElem?_eq_getElem hi
      obtain ⟨t, q1, hrd, hx, hs⟩ := road_at h3 g1
      have htk : rs.take (i + 1) = rs.take i ++ [t] := by rw [List.take_add_one, hrd]; rfl
      refine .inr ⟨⟨_, _, hY, g1⟩, fun H' => K0 H2 H' ∧ underB g t = false, fun H' hN => ⟨m - 1, by omega, by omega, hN.1, fun t' ht' => ?_⟩, fun x' H' hy => ?_⟩
      · rw [htk] at ht'
        rcases List.mem_append.mp ht' with ht' | ht'
        · exact hno t' ht'
        · have := List.mem_singleton.mp ht'
          subst this
          exact hN.2
      · obtain ⟨rfl, fx⟩ := hy
        have ex : x' = xs[i] := Option.some.inj ((fx _ hY).symm.trans g1)
        rw [hx] at ex
        subst ex
        refine ⟨q1, _, rfl, k4.sqT hs, rfl, _, _, rfl, _, _, rfl, _, _, rfl, _, _, rfl, rfl, rfl, tyes ⟨_, rfl, _, rfl, _, rfl, _, rfl, p, kvs, g, t.s, t.e, t.l, rfl, .inl (k4.oth p _ hp2 (fun _ z => by cases z)), hD, _, rfl, ?_⟩⟩
        show if underB g t = true then _ else _
        cases eu : underB g t with
        | false => exact iteF ⟨k4, rfl⟩
        | true =>
          refine iteT ⟨_, rfl, iteT (q _ false (k12.trans k4) ⟨fun z => by (cases z), fun z => ?_⟩)⟩
          have := under_iff.mpr (z.2.2.1 t (List.mem_of_getElem? hrd))
          rw [eu] at this; cases this
    · refine .inl ⟨⟨_, hY, by omega⟩, _, rfl, iteF ?_⟩
      rw [List.take_of_length_le (by omega)] at hno
      have hcl : Closed rs g := fun t ht => under_iff.mp (hno t ht)
      have k14 := k12.trans k4
      have hp4 := k14.oth p _ hp (fun _ z => by cases z)
      refine ⟨p, _, hp4, trivial, fun od => ⟨_, rfl, p, od, rfl, .inl ⟨kvs, upd_same, tabG_lock hp4 (fun _ z => by cases z) (tb.k0 k14).e, fun H5 hT5 => ?_⟩⟩⟩
      have k5 : K0 (upd H4 p (.frz od (.dK kvs))) H5 := K0.tbd (tabG_lock hp4 (fun _ z => by cases z) (tb.k0 k14).e) hT5
      refine ⟨fun i m H6 => i + m = kvs.length ∧ K0 (upd H4 p (.frz od (.dK kvs))) H6 ∧ ∀ e ∈ kvs.take i, ∀ v x, e = (Sum.inl v, V.int x) → v = root ∨ ∃ r ∈ rs, r.e = v ∧ ∃ y, g r.s = some y ∧ y + r.l = x, ⟨kvs.length, by omega, k5, fun e he => by rw [List.take_zero] at he; cases he⟩, fun i m H6 hW => ?_⟩
      obtain ⟨em, k6, hyes⟩ := hW
      have hp6 : H6 p = some (.frz od (.dK kvs)) := k6.oth p _ upd_same (fun _ z => by cases z)
      have kend : ∀ {H7}, K0 (upd H4 p (.frz od (.dK kvs))) H7 → K0 H (upd H7 p (.dK kvs)) := fun k => k14.trans (K0.lock hp4 (fun _ z => by cases z) k)
      by_cases hi2 : i < kvs.length
      · have g2 : kvs[i]? = some kvs[i] := List.getElem?_eq_getElem hi2
        obtain ⟨j, z, e, e2⟩ := hD.at_ (List.mem_of_getElem? g2)
        rw [e] at g2
        have htk : kvs.take (i + 1) = kvs.take i ++ [(Sum.inl j, V.int z)] := by rw [List.take_add_one, g2]; rfl
        refine .inr ⟨⟨hp6, hi2⟩, fun H' => K0 (upd H4 p (.frz od (.dK kvs))) H' ∧ (j = root ∨ ∃ r ∈ rs, r.e = j ∧ ∃ y, g r.s = some y ∧ y + r.l = z), fun H' hN => ⟨m - 1, by omega, by omega, hN.1, fun e' he' v x ev => ?_⟩, fun x' H' hy => ?_⟩
        · rw [htk] at he'
          rcases List.mem_append.mp he' with he' | he'
          · exact hyes e' he' v x ev
          · have := List.mem_singleton.mp he'
            rw [this] at ev
            cases ev
            exact hN.2
        · obtain ⟨rfl, k, v, hkv, rfl⟩ := hy
          rw [g2] at hkv
          cases hkv
          refine ⟨rfl, tyes ⟨_, rfl, _, rfl, rfl, _, rfl, ?_⟩⟩
          by_cases hj : j = root
          · subst hj
            rw [decide_eq_true (show kV (Sum.inl j) = V.int j from rfl)]
            exact iteT ⟨_, rfl, iteT ⟨k6, .inl rfl⟩⟩
          · rw [decide_eq_false (show ¬ kV (Sum.inl j) = V.int root from fun z => hj (by cases z; rfl))]
            have nk : NetAt K H' a n rs := (netAt_lock (hNk k4) hp4).k0 k6
            refine iteF ⟨_, rfl, _, rfl, _, rfl, a, n, rs, p, kvs, g, j, z, rfl, nk, .inr ⟨od, hp6⟩, hD, e2, k6.tab _ (tabG_lock hp4 (fun _ z => by cases z) (tb.k0 k14).a), fun H7 b k7 hb => ⟨b, rfl, ?_⟩⟩
            cases b with
            | true => exact iteT ⟨k6.trans k7, .inr (hb.mp rfl)⟩
            | false =>
              refine iteF ⟨(k6.trans k7).oth p _ upd_same (fun _ z => by cases z), q _ false (kend (k6.trans k7)) ⟨fun z => by (cases z), fun w => ?_⟩⟩
              rcases w.2.2.2 j z e2 with w | w
              · exact absurd w hj
              · have := hb.mpr w
                cases this
      · refine .inl ⟨⟨hp6, by omega⟩, hp6, q _ true (kend k6) ⟨fun _ => ?_, fun _ => rfl⟩⟩
        rw [List.take_of_length_le (by omega)] at hyes
        have hat : ∀ v x, g v = some x → v = root ∨ ∃ r ∈ rs, r.e = v ∧ ∃ y, g r.s = some y ∧ y + r.l = x := fun v x e => by
          have hm := (hD.mem v).mpr (by rw [e]; rfl)
          obtain ⟨en, hen, ee⟩ := List.mem_map.mp hm
          obtain ⟨v', x', rfl, e'⟩ := hD.at_ hen
          have ee : (Sum.inl v' : Key) = Sum.inl v := ee
          cases ee
          rw [e] at e'
          cases e'
          exact hyes _ hen v x rfl
        refine ⟨er, fun v x e => ?_, hcl, hat⟩
        rcases hat v x e with rfl | ⟨r, hr', rfl, _⟩
        · exact ⟨r0, r1⟩
        · exact ⟨(hG.ok r hr').e0, (hG.ok r hr').e1⟩
end
end HK

set_option Elab.async false
set_option linter.all false
set_option maxRecDepth 100000
set_option maxHeartbeats 4000000
namespace HK
open PySem PySem.Spec PyProof.Rows L2 GAl GxR
open Evl (pss_cut)
abbrev sIsClosed : Stmt := topS 48
abbrev N_scIsClosed : List Str := ["net", "root", "places", "start", "end", "cost", "late"]
theorem scIsClosed : FnScope N_scIsClosed ["net", "root", "places"] (defScope sIsClosed) := ⟨rfl, rfl, rfl, by decide +kernel, rfl, by decide +kernel, by decide +kernel⟩
/-- places out of which no road leads -/
def ClosedP (n : Int) (rs : List R4) (root : Int) (ns : List Int) : Prop := AreP n ns ∧ root ∈ ns ∧ ∀ r ∈ rs, r.s ∈ ns → r.e ∈ ns
theorem flatI (ns : List Int) : (ns.map V.int).all flatV = true := by
  rw [List.all_map, List.all_eq_true]
  exact fun _ _ => rfl
theorem inI_iff {i : Int} {js : List Int} : inV (.int i) (js.map V.int) = true ↔ i ∈ js := by
  unfold inV
  rw [List.any_map, List.any_eq_true]
  constructor
  · rintro ⟨x, hx, e⟩
    have e : (x == i) = true := e
    rw [← beq_iff_eq.mp e]; exact hx
  · intro h
    exact ⟨i, h, by simp [eqV]⟩
theorem inI {k : Int} {ns : List Int} : inV (V.int k) (ns.map V.int) = decide (k ∈ ns) := by
  rw [Bool.eq_iff_iff, inI_iff, decide_eq_true_iff]
section
variable {P : Program} {w : World} {K : PySem.W.Frag} {mg : Str → Option Value} {base : Heap}
def spIsClosed (K : PySem.W.Frag) (Pn Pr Pa Pc : Addr) : Sp := fun vs H Q _ => ∃ (a : Addr) (n : Int) (rs : List R4) (root : Int) (p : Addr) (ns : List Int), vs = [.ref a, .int root, .ref p] ∧ NetAt K H a n rs ∧ Good n rs ∧ rs.length ≤ 156 ∧ 0 ≤ root ∧ root < n ∧ SqT K H p (ns.map V.int) ∧ ns.length ≤ 1000 ∧
  TbL H [Pn, Pr, Pa, Pc] ∧ ∀ (H' : Hp) (b : Bool), K0 H H' → (b = true ↔ ClosedP n rs root ns) → Q (.bl b) H'
theorem ok_isclosed {f c Pn Pr Pa Pc : Addr} {fd : FuncData} {f_neednet f_needplace f_areplaces : Addr} {fd_neednet fd_needplace fd_areplaces : FuncData} (F : FunC K "is_closed" "is_closed" sIsClosed f fd c) (TB : TabB base mg c Pc)
    (k_neednet : PySem.W.keepIn K (.ref f_neednet) = true) (b_neednet : Binds K fd_neednet ["net"] []) (g_neednet : mg "need_net" = some (.ref f_neednet)) (G_neednet : FnOk P w K mg base CX0 6 f_neednet fd_neednet ["net"] (spNeedNet K Pn Pr))
    (k_needplace : PySem.W.keepIn K (.ref f_needplace) = true) (b_needplace : Binds K fd_needplace ["net", "place"] []) (g_needplace : mg "need_place" = some (.ref f_needplace)) (G_needplace : FnOk P w K mg base CX0 4 f_needplace fd_needplace ["net", "place"] (spNeedPlace K))
    (k_areplaces : PySem.W.keepIn K (.ref f_areplaces) = true) (b_areplaces : Binds K fd_areplaces ["net", "thing"] []) (g_areplaces : mg "are_places" = some (.ref f_areplaces)) (G_areplaces : FnOk P w K mg base CX0 5 f_areplaces fd_areplaces ["net", "thing"] (spAreP K Pr Pa))
    (m_all : mg "all" = none) : FnOk P w K mg base CX0 7 f fd ["net", "root", "places"] (spIsClosed K Pn Pr Pa Pc) := by
  refine F.ok scIsClosed (fun vs H Q E h => ?_) (fun A outer s H vs Q E hr h => ?_)
  · obtain ⟨a, n, rs, root, p, ns, rfl, _⟩ := h
    rfl
  · obtain ⟨a, n, rs, root, p, ns, rfl, hN, hG, hl, r0, r1, hp, hnl, tb, q⟩ := h
    have hu := hu_of hr
    refine ⟨_, (pss_cons (ps_expr (pe_call G_neednet (hr.mono (by decide)) (by rfl) g_neednet k_neednet b_neednet .nil pass0 (pa_cons (pv 0) pa_nil)))
      (pss_cons (ps_expr (pe_call G_needplace (hr.mono (by decide)) (by rfl) g_needplace k_needplace b_needplace .nil pass0 (pa_cons (pv 0) (pa_cons (pv 1) pa_nil))))
      (pss_cons (ps_if (PW.pt (pw_or (pt_not (pt_val (pe_call G_areplaces (hr.mono (by decide)) (by rfl) g_areplaces k_areplaces b_areplaces .nil pass0 (pa_cons (pv 0) (pa_cons (pv 2) pa_nil))))) (pw_or1 (pt_cmpR op_notIn_seq (pv 1) (pv 2) rfl)))) (pss_one (ps_ret pe_bl)) pss_nil)
      (pss_one (ps_ret (pe_allG (own := [("start", 3), ("end", 4), ("cost", 5), ("late", 6)]) (k := 0) (g := (gTup K 4 (gCons (gName 3) (gCons (gName 4) (gCons (gName 5) (gCons (gName 6) gNil)))))) (tt := (tTest (tOp (rIn K false) (tVar 3) (tVar 2)))) (te := (tOp (rIn K false) (tVar 4) (tVar 2))) (hr.mono (by decide)) (by rfl) m_all rfl scIsClosed.nd TB rfl (gsc_by (N := N_scIsClosed) (sc := defScope sIsClosed) (by decide +kernel)) (pi_tup (pe_ix ix_tup (pv 0) pe_int (fun _ _ => rfl))) (fun A' hr' _ _ _ _ _ _ => (pg_tup rfl (pgs_cons (pg_name (i := 3) scIsClosed.nd rfl (.inl rfl)) (pgs_cons (pg_name (i := 4) scIsClosed.nd rfl (.inl rfl)) (pgs_cons (pg_name (i := 5) scIsClosed.nd rfl (.inl rfl)) (pgs_cons (pg_name (i := 6) scIsClosed.nd rfl (.inl rfl)) pgs_nil)))))) (fun A' hr' _ _ _ _ _ _ => (pts_one (pt_cmpR op_in_seq (pv 3) (pv 2) rfl))) (fun A' hr' _ _ _ _ _ _ => (pe_cmpR op_in_seq (pv 4) (pv 2) rfl)))))))), ?_⟩
    refine ⟨_, rfl, a, n, rs, rfl, hN, hG, hl, tb Pn (by simp), tb Pr (by simp), fun H1 k1 => ?_⟩
    refine ⟨_, rfl, _, rfl, a, n, rs, root, rfl, hN.k0 k1, r0, r1, ?_⟩
    refine ⟨_, rfl, _, rfl, a, n, rs, p, ns, rfl, hN.k0 k1, k1.sqT hp, k1.tab _ (tb Pr (by simp)), k1.tab _ (tb Pa (by simp)), fun H2 b k2 hb => ⟨_, rfl, ?_⟩⟩
    have k12 := k1.trans k2
    cases b with
    | false => exact iteT (iteT (q _ false k12 ⟨fun z => (by cases z), fun z => absurd (hb.mpr z.1) (by decide)⟩))
    | true =>
      have hA := hb.mp rfl
      refine iteF ⟨_, rfl, _, rfl, p, _, rfl, .inr (k12.sqT hp), rfl, flatI ns, _, rfl, ?_⟩
      show if (!inV (V.int root) (ns.map V.int)) = true then _ else _
      rw [inI]
      by_cases hm : root ∈ ns
      · rw [decide_eq_true hm]
        refine iteF ?_
        have hN2 := hN.k0 k12
        obtain ⟨r, xs, o, h1, h2, hc, hdd, h3⟩ := hN2
        have hxs : SqT K H2 r xs := h2
        have hrl : xs.length = rs.length := h3.len
        have tq : TabG H2 Pc := k12.tab _ (tb Pc (by simp))
        refine ⟨_, rfl, a, _, 1, .ref r, rfl, rfl, h1, atI_nat (j := 1) rfl, r, rfl, ⟨xs, hxs⟩, tq, fun H3 hT3 => ?_⟩
        have k3 : K0 H2 H3 := K0.tbd tq hT3
        refine ⟨fun i m H4 => i + m = xs.length ∧ K0 H2 H4 ∧ ∀ rd ∈ rs.take i, rd.s ∈ ns → rd.e ∈ ns, ⟨xs.length, by omega, k3, fun rd hrd => (by rw [List.take_zero] at hrd; cases hrd)⟩, fun i m H4 hW => ?_⟩
        obtain ⟨em, k4, hall⟩ := hW
        have hY : SqT K H4 r xs := k4.sqT hxs
        have k14 := k12.trans k4
        by_cases hi : i < xs.length
        · have g1 : xs[i]? = some xs[i] := List.getElem?_eq_getElem hi
          obtain ⟨rd, q1, hrd, hx, hs⟩ := road_at h3 g1
          have htk : rs.take (i + 1) = rs.take i ++ [rd] := by rw [List.take_add_one, hrd]; rfl
          refine .inr ⟨⟨_, _, hY, g1⟩, fun H' => K0 H2 H' ∧ (rd.s ∈ ns → rd.e ∈ ns), fun H' hN' => ⟨m - 1, by omega, by omega, hN'.1, fun u hu => ?_⟩, fun x' H' hy => ?_⟩
          · rw [htk] at hu
            rcases List.mem_append.mp hu with hu | hu
            · exact hall u hu
            · rw [List.mem_singleton.mp hu]; exact hN'.2
          · obtain ⟨rfl, fx⟩ := hy
            have ex : x' = xs[i] := Option.some.inj ((fx _ hY).symm.trans g1)
            rw [hx] at ex
            subst ex
            refine ⟨q1, _, rfl, k4.sqT hs, rfl, _, _, rfl, _, _, rfl, _, _, rfl, _, _, rfl, rfl, rfl, ?_⟩
            refine ⟨_, rfl, _, rfl, p, _, rfl, .inr (k14.sqT hp), rfl, flatI ns, _, rfl, ?_⟩
            show if (inV (V.int rd.s) (ns.map V.int)) = true then _ else _
            rw [inI]
            by_cases hs' : rd.s ∈ ns
            · rw [decide_eq_true hs']
              refine iteT ⟨_, rfl, _, rfl, p, _, rfl, .inr (k14.sqT hp), rfl, flatI ns, _, rfl, ?_⟩
              show if (inV (V.int rd.e) (ns.map V.int)) = true then _ else _
              rw [inI]
              by_cases he : rd.e ∈ ns
              · rw [decide_eq_true he]
                exact iteT ⟨k4, fun _ => he⟩
              · rw [decide_eq_false he]
                exact iteF (q _ false k14 ⟨fun z => (by cases z), fun z => absurd (z.2.2 rd (List.mem_of_getElem? hrd) hs') he⟩)
            · rw [decide_eq_false hs']
              exact iteF ⟨k4, fun z => absurd z hs'⟩
        · rw [List.take_of_length_le (by omega)] at hall
          exact .inl ⟨⟨_, hY, by omega⟩, q _ true k14 ⟨fun _ => ⟨hA, hm, hall⟩, fun _ => rfl⟩⟩
      · rw [decide_eq_false hm]
        exact iteT (q _ false k12 ⟨fun z => (by cases z), fun z => absurd z.2.1 hm⟩)
end
end HK

set_option Elab.async false
set_option linter.all false
set_option maxRecDepth 100000
set_option maxHeartbeats 4000000
namespace HK
open PySem PySem.Spec PyProof.Rows L2 GAl GxR
open Evl (pss_cut)
abbrev sIsTrim : Stmt := topS 36
abbrev N_scIsTrim : List Str := ["net", "root", "hearers", "ahead", "copying", "place"]
theorem scIsTrim : FnScope N_scIsTrim ["net", "root", "hearers", "ahead"] (defScope sIsTrim) := ⟨rfl, rfl, rfl, by decide +kernel, rfl, by decide +kernel, by decide +kernel⟩
section
variable {P : Program} {w : World} {K : PySem.W.Frag} {mg : Str → Option Value} {base : Heap}
def spIsTrim (K : PySem.W.Frag) (Pn Pr Pa Pp Pg Ps Pt : Addr) : Sp := fun vs H Q _ => ∃ (a : Addr) (n : Int) (rs : List R4) (root : Int) (p : Addr) (ns : List Int) (d : Addr) (kvs : List (Key × V)) (g : IF), vs = [.ref a, .int root, .ref p, .ref d] ∧ NetAt K H a n rs ∧ Good n rs ∧ rs.length ≤ 156 ∧ 0 ≤ root ∧ root < n ∧
  SqT K H p (ns.map V.int) ∧ AreP n ns ∧ H d = some (.dK kvs) ∧ DI kvs g ∧ kvs.length ≤ 5000 ∧ TbL H [Pn, Pr, Pa, Pp, Pg, Ps, Pt] ∧ ∀ (H' : Hp) (b : Bool), K0 H H' → (b = true ↔ TrimP rs root g kvs.length ns) → Q (.bl b) H'
theorem ok_istrim {f c Pn Pr Pa Pp Pg Ps Pt : Addr} {fd : FuncData} {f_neednet f_needplace f_needhearers f_grows f_serves : Addr} {fd_neednet fd_needplace fd_needhearers fd_grows fd_serves : FuncData} (F : FunC K "is_trim" "is_trim" sIsTrim f fd c) (TB : TabB base mg c Pt)
    (k_neednet : PySem.W.keepIn K (.ref f_neednet) = true) (b_neednet : Binds K fd_neednet ["net"] []) (g_neednet : mg "need_net" = some (.ref f_neednet)) (G_neednet : FnOk P w K mg base CX0 6 f_neednet fd_neednet ["net"] (spNeedNet K Pn Pr))
    (k_needplace : PySem.W.keepIn K (.ref f_needplace) = true) (b_needplace : Binds K fd_needplace ["net", "place"] []) (g_needplace : mg "need_place" = some (.ref f_needplace)) (G_needplace : FnOk P w K mg base CX0 4 f_needplace fd_needplace ["net", "place"] (spNeedPlace K))
    (k_needhearers : PySem.W.keepIn K (.ref f_needhearers) = true) (b_needhearers : Binds K fd_needhearers ["net", "hearers"] []) (g_needhearers : mg "need_hearers" = some (.ref f_needhearers)) (G_needhearers : FnOk P w K mg base CX0 6 f_needhearers fd_needhearers ["net", "hearers"] (spNeedH K Pr Pa))
    (k_grows : PySem.W.keepIn K (.ref f_grows) = true) (b_grows : Binds K fd_grows ["net", "root", "ahead"] []) (g_grows : mg "grows" = some (.ref f_grows)) (G_grows : FnOk P w K mg base CX0 4 f_grows fd_grows ["net", "root", "ahead"] (spGrows K Pp Pg))
    (k_serves : PySem.W.keepIn K (.ref f_serves) = true) (b_serves : Binds K fd_serves ["root", "hearers", "ahead"] []) (g_serves : mg "serves" = some (.ref f_serves)) (G_serves : FnOk P w K mg base CX0 2 f_serves fd_serves ["root", "hearers", "ahead"] (spServes K Ps))
    (m_list : mg "list" = none) (m_all : mg "all" = none) : FnOk P w K mg base CX0 7 f fd ["net", "root", "hearers", "ahead"] (spIsTrim K Pn Pr Pa Pp Pg Ps Pt) := by
  refine F.ok scIsTrim (fun vs H Q E h => ?_) (fun A outer s H vs Q E hr h => ?_)
  · obtain ⟨a, n, rs, root, p, ns, d, kvs, g, rfl, _⟩ := h
    rfl
  · obtain ⟨a, n, rs, root, p, ns, d, kvs, g, rfl, hN, hG, hl, r0, r1, hS, hA, hd, hD, hkl, tb, q⟩ := h
    have hu := hu_of hr
    refine ⟨_, (pss_cons (ps_expr (pe_call G_neednet (hr.mono (by decide)) (by rfl) g_neednet k_neednet b_neednet .nil pass0 (pa_cons (pv 0) pa_nil)))
      (pss_cons (ps_expr (pe_call G_needplace (hr.mono (by decide)) (by rfl) g_needplace k_needplace b_needplace .nil pass0 (pa_cons (pv 0) (pa_cons (pv 1) pa_nil))))
      (pss_cons (ps_expr (pe_call G_needhearers (hr.mono (by decide)) (by rfl) g_needhearers k_needhearers b_needhearers .nil pass0 (pa_cons (pv 0) (pa_cons (pv 2) pa_nil))))
      (pss_cons (ps_if (PW.pt (pw_or (pt_not (pt_val (pe_call G_grows (hr.mono (by decide)) (by rfl) g_grows k_grows b_grows .nil pass0 (pa_cons (pv 0) (pa_cons (pv 1) (pa_cons (pv 3) pa_nil)))))) (pw_or1 (pt_not (pt_val (pe_call G_serves (hr.mono (by decide)) (by rfl) g_serves k_serves b_serves .nil pass0 (pa_cons (pv 1) (pa_cons (pv 2) (pa_cons (pv 3) pa_nil))))))))) (pss_one (ps_ret pe_bl)) pss_nil)
      (pss_cons (ps_set (i := 4) scIsTrim.nd rfl (.inr rfl) (HkL.pe_listVals rfl (pv 3) (by rfl) m_list (by decide +kernel)))
      (pss_one (ps_ret (pe_lock (pe_allG (own := [("place", 5)]) (k := 5) (g := (gName 5)) (tt := tYes) (te := (tOrV (tOp (rIn K false) (tVar 5) (tVar 2)) (tOp (rIn K false) (tVar 5) (tVar 4)))) (hr.mono (by decide)) (by rfl) m_all rfl scIsTrim.nd TB rfl (gsc_by (N := N_scIsTrim) (sc := defScope sIsTrim) (by decide +kernel)) (pi_keys (pv 3)) (fun A' hr' _ _ _ _ _ _ => (pg_name (i := 5) scIsTrim.nd rfl (.inl rfl))) (fun A' hr' _ _ _ _ _ _ => pts_nil) (fun A' hr' _ _ _ _ _ _ => (pe_or (pe_cmpR op_in_seq (pv 5) (pv 2) rfl) (pe_one (pe_cmpR op_in_seq (pv 5) (pv 4) rfl))))))))))))), ?_⟩
    refine ⟨_, rfl, a, n, rs, rfl, hN, hG, hl, tb Pn (by simp), tb Pr (by simp), fun H1 k1 => ?_⟩
    refine ⟨_, rfl, _, rfl, a, n, rs, root, rfl, hN.k0 k1, r0, r1, ?_⟩
    refine ⟨_, rfl, _, rfl, a, n, rs, p, ns, rfl, hN.k0 k1, k1.sqT hS, hA, k1.tab _ (tb Pr (by simp)), k1.tab _ (tb Pa (by simp)), fun H2 k2 => ?_⟩
    have k12 := k1.trans k2
    refine ⟨_, rfl, _, rfl, _, rfl, a, n, rs, root, d, kvs, g, rfl, hN.k0 k12, hG, hl, k12.oth d _ hd (fun _ z => by cases z), hD, hkl, k12.tab _ (tb Pp (by simp)), k12.tab _ (tb Pg (by simp)), fun H3 b k3 hb => ⟨_, rfl, ?_⟩⟩
    have k13 := k12.trans k3
    cases b with
    | false => exact iteT (iteT (q _ false k13 ⟨fun z => by (cases z), fun z => absurd (hb.mpr z.1) (by decide)⟩))
    | true =>
    have hTree := hb.mp rfl
    refine iteF ⟨_, rfl, _, rfl, _, rfl, root, p, ns, d, kvs, g, rfl, k13.sqT hS, k13.oth d _ hd (fun _ z => by cases z), hD, k13.tab _ (tb Ps (by simp)), fun H4 b k4 hb => ⟨_, rfl, ?_⟩⟩
    have k14 := k13.trans k4
    cases b with
    | false => exact iteT (q _ false k14 ⟨fun z => by (cases z), fun z => absurd (hb.mpr z.2.1) (by decide)⟩)
    | true =>
    have hServ := hb.mp rfl
    refine iteF ?_
    have hd4 := k14.oth d _ hd (fun _ z => by cases z)
    refine ⟨_, rfl, d, kvs, rfl, .inl hd4, Nat.le_trans hkl (by decide), fun l nl => ?_⟩
    have k5 : K0 H4 (upd H4 l (.lst (kvs.map (·.2)))) := K0.new nl
    have k15 := k14.trans k5
    have hl5 : upd H4 l (.lst (kvs.map (·.2))) l = some (.lst (kvs.map (·.2))) := upd_same
    generalize hH5 : upd H4 l (.lst (kvs.map (·.2))) = H5 at k5 k15 hl5
    have hd5 := k15.oth d _ hd (fun _ z => by cases z)
    obtain ⟨vals, ev, hv⟩ := hD.vals
    have hld : l ≠ d := fun z => by rw [z, hd4] at nl; cases nl
    have tt5 : TabG H5 Pt := k15.tab _ (tb Pt (by simp))
    refine ⟨d, _, hd5, trivial, fun od => ⟨_, rfl, d, od, rfl, .inl ⟨kvs, upd_same, tabG_lock hd5 (fun _ z => by cases z) tt5, fun H6 hT6 => ?_⟩⟩⟩
    have k6 : K0 (upd H5 d (.frz od (.dK kvs))) H6 := K0.tbd (tabG_lock hd5 (fun _ z => by cases z) tt5) hT6
    refine ⟨fun i m H7 => i + m = kvs.length ∧ K0 (upd H5 d (.frz od (.dK kvs))) H7 ∧ ∀ e ∈ kvs.take i, ∀ v x, e = (Sum.inl v, V.int x) → v ∈ ns ∨ ∃ u, g u = some v, ⟨kvs.length, by omega, k6, fun e he => by rw [List.take_zero] at he; cases he⟩, fun i m H7 hW => ?_⟩
    obtain ⟨em, k7, hyes⟩ := hW
    have hd7 : H7 d = some (.frz od (.dK kvs)) := k7.oth d _ upd_same (fun _ z => by cases z)
    have hl7 : H7 l = some (.lst (vals.map V.int)) := by rw [← ev]; exact k7.oth l _ (by rw [upd_ne hld]; exact hl5) (fun _ z => by cases z)
    have hS7 : SqT K H7 p (ns.map V.int) := k7.sqT (sqT_lock (k15.sqT hS) hd5)
    have kend : ∀ {H8}, K0 (upd H5 d (.frz od (.dK kvs))) H8 → K0 H (upd H8 d (.dK kvs)) := fun k => k15.trans (K0.lock hd5 (fun _ z => by cases z) k)
    by_cases hi : i < kvs.length
    · have g2 : kvs[i]? = some kvs[i] := List.getElem?_eq_getElem hi
      obtain ⟨j, z, e, e2⟩ := hD.at_ (List.mem_of_getElem? g2)
      rw [e] at g2
      have htk : kvs.take (i + 1) = kvs.take i ++ [(Sum.inl j, V.int z)] := by rw [List.take_add_one, g2]; rfl
      refine .inr ⟨⟨hd7, hi⟩, fun H' => K0 (upd H5 d (.frz od (.dK kvs))) H' ∧ (j ∈ ns ∨ ∃ u, g u = some j), fun H' hN => ⟨m - 1, by omega, by omega, hN.1, fun e' he' => ?_⟩, fun x' H' hy => ?_⟩
      · rw [htk] at he'
        rcases List.mem_append.mp he' with he' | he'
        · exact hyes e' he'
        · have := List.mem_singleton.mp he'
          subst this
          intro v x ee
          cases ee
          exact hN.2
      · obtain ⟨rfl, k, v, hkv, rfl⟩ := hy
        rw [g2] at hkv
        cases hkv
        refine ⟨rfl, tyes ⟨_, rfl, _, rfl, p, _, rfl, .inr hS7, rfl, flat_ints' ns, _, rfl, ?_⟩⟩
        show if inV (V.int j) (ns.map V.int) = true then _ else _
        rw [inV_iff']
        by_cases hj : j ∈ ns
        · rw [decide_eq_true hj]
          exact iteT ⟨_, rfl, iteT ⟨k7, .inl hj⟩⟩
        · rw [decide_eq_false hj]
          refine iteF ⟨_, rfl, _, rfl, l, _, rfl, .inl (.inl (.inl hl7)), rfl, flat_ints' vals, _, rfl, ?_⟩
          show if inV (V.int j) (vals.map V.int) = true then _ else _
          rw [inV_iff']
          by_cases hjv : j ∈ vals
          · rw [decide_eq_true hjv]
            exact iteT ⟨k7, .inr ((hv j).mp hjv)⟩
          · rw [decide_eq_false hjv]
            refine iteF ⟨hd7, q _ false (kend k7) ⟨fun z => by (cases z), fun z => ?_⟩⟩
            rcases z.2.2 _ _ e2 with z | z
            · exact absurd z hj
            · exact absurd ((hv j).mpr z) hjv
    · rw [List.take_of_length_le (by omega)] at hyes
      exact .inl ⟨⟨hd7, by omega⟩, hd7, q _ true (kend k7) ⟨fun _ => ⟨hTree, hServ, fun v x e => hyes _ (hD.pair e) v x rfl⟩, fun _ => rfl⟩⟩
end
end HK

set_option Elab.async false
set_option linter.all false
set_option maxRecDepth 100000
set_option maxHeartbeats 4000000
namespace HK
open PySem PySem.Spec PyProof.Rows L2 GAl GxR DTu
open Evl (pss_cut)
abbrev sPrice : Stmt := topS 39
abbrev Nprice : List Str := ["net", "root", "ahead", "prices", "end", "start"]
theorem scPrice : FnScope Nprice ["net", "root", "ahead"] (defScope sPrice) := ⟨rfl, rfl, rfl, by decide +kernel, rfl, by decide +kernel, by decide +kernel⟩
/-- what a road of a tree has -/
def cst (sel : R4 → Int) (rs : List R4) : Key × V → Int
  | (.inl v, .int x) => ((road rs x v).map sel).getD 0
  | _ => 0
theorem sum_take {f : Key × V → Int} {kvs : List (Key × V)} {i : Nat} {p : Key × V} (h : kvs[i]? = some p) : ((kvs.take (i + 1)).map f).sum = ((kvs.take i).map f).sum + f p := by
  rw [List.take_add_one, h, List.map_append, List.sum_append]
  simp
section
variable {P : Program} {w : World} {K : PySem.W.Frag} {mg : Str → Option Value} {base : Heap}
def spPrice (K : PySem.W.Frag) (Pn Pr Pp Pg Pc : Addr) : Sp := fun vs H Q _ => ∃ (a : Addr) (n : Int) (rs : List R4) (root : Int) (p : Addr) (kvs : List (Key × V)) (g : IF), vs = [.ref a, .int root, .ref p] ∧ NetAt K H a n rs ∧ Good n rs ∧ rs.length ≤ 156 ∧ 0 ≤ root ∧ root < n ∧
  H p = some (.dK kvs) ∧ DI kvs g ∧ kvs.length ≤ 5000 ∧ TreeP rs root g kvs.length ∧ TbL H [Pn, Pr, Pp, Pg, Pc] ∧ ∀ (H' : Hp), K0 H H' → Q (.int (kvs.map (cst (·.c) rs)).sum) H'
theorem ok_price {f c fN fP fT fR Pn Pr Pp Pg Pc : Addr} {fd fdN fdP fdT fdR : FuncData} (F : FunC K "price" "price" sPrice f fd c) (TB : TabB base mg c Pc)
    (kN : PySem.W.keepIn K (.ref fN) = true) (bN : Binds K fdN ["net"] []) (gN : mg "need_net" = some (.ref fN)) (GN : FnOk P w K mg base CX0 6 fN fdN ["net"] (spNeedNet K Pn Pr))
    (kP : PySem.W.keepIn K (.ref fP) = true) (bP : Binds K fdP ["net", "place"] []) (gP : mg "need_place" = some (.ref fP)) (GP : FnOk P w K mg base CX0 4 fP fdP ["net", "place"] (spNeedPlace K))
    (kT : PySem.W.keepIn K (.ref fT) = true) (bT : Binds K fdT ["net", "root", "ahead"] []) (gT : mg "need_tree" = some (.ref fT)) (GT : FnOk P w K mg base CX0 5 fT fdT ["net", "root", "ahead"] (spNeedTree K Pp Pg))
    (kR : PySem.W.keepIn K (.ref fR) = true) (bR : Binds K fdR ["net"] []) (gR : mg "road_prices" = some (.ref fR)) (GR : FnOk P w K mg base CX0 1 fR fdR ["net"] (spTab (·.c) K))
    (ms : mg "sum" = none) : FnOk P w K mg base CX0 7 f fd ["net", "root", "ahead"] (spPrice K Pn Pr Pp Pg Pc) := by
  refine F.ok scPrice (fun vs H Q E h => ?_) (fun A outer s H vs Q E hr h => ?_)
  · obtain ⟨a, n, rs, v, p, kvs, g, rfl, _⟩ := h
    rfl
  · obtain ⟨a, n, rs, root, p, kvs, g, rfl, hN, hG, hl, r0, r1, hp, hD, hkl, hT, tb, q⟩ := h
    have hu := hu_of hr
    refine ⟨_, pss_cons (ps_expr (pe_call GN hr (by rfl) gN kN bN .nil pass0 (pa_cons (pv 0) pa_nil)))
      (pss_cons (ps_expr (pe_call GP (hr.mono (by decide)) (by rfl) gP kP bP .nil pass0 (pa_cons (pv 0) (pa_cons (pv 1) pa_nil))))
      (pss_cons (ps_expr (pe_call GT (hr.mono (by decide)) (by rfl) gT kT bT .nil pass0 (pa_cons (pv 0) (pa_cons (pv 1) (pa_cons (pv 2) pa_nil)))))
      (pss_cons (ps_set (i := 3) scPrice.nd rfl (.inr rfl) (pe_call GR (hr.mono (by decide)) (by rfl) gR kR bR .nil pass0 (pa_cons (pv 0) pa_nil)))
      (pss_one (ps_ret (pe_lock (pe_sumG (own := [("end", 4), ("start", 5)]) (k := 5) (g := gTup K 2 (gCons (gName 4) (gCons (gName 5) gNil))) (tt := tYes) (te := tDGet (tVar 3) (tTup (tCons (tVar 5) (tCons (tVar 4) tNil)))) hr (by rfl) ms rfl scPrice.nd TB rfl (gsc_by (N := Nprice) (sc := defScope sPrice) (by decide +kernel))
          (pi_items (pv 2)) (fun A' hr' _ _ _ _ _ _ => pg_tup rfl (pgs_cons (pg_name (i := 4) scPrice.nd rfl (.inl rfl)) (pgs_cons (pg_name (i := 5) scPrice.nd rfl (.inl rfl)) pgs_nil))) (fun A' hr' _ _ _ _ _ _ => pts_nil)
          (fun A' hr' _ _ _ _ _ _ => pe_dget (hu_of hr') (pv 3) (pe_tup (pa_cons (pv 5) (pa_cons (pv 4) pa_nil))) (fun _ _ => rfl))))))))), ?_⟩
    refine ⟨_, rfl, a, n, rs, rfl, hN, hG, hl, tb Pn (by simp), tb Pr (by simp), fun H1 k1 => ?_⟩
    refine ⟨_, rfl, _, rfl, a, n, rs, root, rfl, hN.k0 k1, r0, r1, ?_⟩
    refine ⟨_, rfl, _, rfl, _, rfl, a, n, rs, root, p, kvs, g, rfl, hN.k0 k1, hG, hl, k1.oth p _ hp (fun _ z => by cases z), hD, hkl, hT, k1.tab _ (tb Pp (by simp)), k1.tab _ (tb Pg (by simp)), fun H2 k2 => ?_⟩
    have k12 := k1.trans k2
    refine ⟨_, rfl, a, n, rs, rfl, hN.k0 k12, hG, hl, fun D ts H3 k3 nD hD3 hTP => ?_⟩
    have k13 := k12.trans k3
    have hp3 := k13.oth p _ hp (fun _ z => by cases z)
    have hpD : p ≠ D := fun z => by
      have := k12.oth p _ hp (fun _ z => by cases z)
      rw [z, nD] at this; cases this
    have tc : TabG H3 Pc := k13.tab _ (tb Pc (by simp))
    refine ⟨p, _, hp3, trivial, fun od => ⟨_, rfl, p, od, kvs, rfl, upd_same, tabG_lock hp3 (fun _ z => by cases z) tc, fun H4 hT4 => ?_⟩⟩
    have k4 : K0 (upd H3 p (.frz od (.dK kvs))) H4 := K0.tbd (tabG_lock hp3 (fun _ z => by cases z) tc) hT4
    refine ⟨fun i m T H5 => i + m = kvs.length ∧ K0 (upd H3 p (.frz od (.dK kvs))) H5 ∧ T = ((kvs.take i).map (cst (·.c) rs)).sum, ⟨kvs.length, by omega, k4, rfl⟩, fun i m T H5 hW => ?_⟩
    obtain ⟨em, k5, eT⟩ := hW
    have hp5 : H5 p = some (.frz od (.dK kvs)) := k5.oth p _ upd_same (fun _ z => by cases z)
    have hD5 : H5 D = some (.dT ts) := k5.oth D _ (by rw [upd_ne hpD.symm]; exact hD3) (fun _ z => by cases z)
    have kend : ∀ {H7}, K0 (upd H3 p (.frz od (.dK kvs))) H7 → K0 H (upd H7 p (.dK kvs)) := fun k => k13.trans (K0.lock hp3 (fun _ z => by cases z) k)
    by_cases hi : i < kvs.length
    · have g2 : kvs[i]? = some kvs[i] := List.getElem?_eq_getElem hi
      obtain ⟨j, z, e, e2⟩ := hD.at_ (List.mem_of_getElem? g2)
      rw [e] at g2
      refine .inr ⟨⟨hp5, hi⟩, fun T' H' => K0 (upd H3 p (.frz od (.dK kvs))) H' ∧ T' = ((kvs.take (i + 1)).map (cst (·.c) rs)).sum, fun T' H' hN => ⟨m - 1, by omega, by omega, hN.1, hN.2⟩, fun x' H' hy => ?_⟩
      obtain ⟨T0, k, v, hkv, rfl, nT, rfl⟩ := hy
      rw [g2] at hkv
      cases hkv
      have kT := k5.mut (o := .tup [.int j, .int z]) (k5.dom T0 nT)
      have hDT : upd H5 T0 (.tup [.int j, .int z]) D = some (.dT ts) := by rw [upd_ne (ne_of_none hD5 nT)]; exact hD5
      refine ⟨T0, _, rfl, .inl (.inl upd_same), rfl, _, _, rfl, _, _, rfl, rfl, rfl, tyes ?_⟩
      refine ⟨_, rfl, _, rfl, _, rfl, by show 2 ≤ sizeLine; decide, fun kt nkt => ?_⟩
      have kk := kT.mut (o := .tup [.int z, .int j]) (kT.dom kt nkt)
      have hDk : upd (upd H5 T0 (.tup [.int j, .int z])) kt (.tup [.int z, .int j]) D = some (.dT ts) := by rw [upd_ne (ne_of_none hDT nkt)]; exact hDT
      have hr2 := hT.2.1 _ _ e2
      obtain ⟨r, er⟩ := Option.isSome_iff_exists.mp hr2
      have dg := DGet.t (k := [Sum.inl z, Sum.inl j]) hDk upd_same
      rw [hTP.2 z j, er] at dg
      refine ⟨D, _, rfl, dg, r.c, rfl, kk, ?_⟩
      rw [eT, sum_take g2]
      show _ = _ + ((road rs z j).map _).getD 0
      rw [er]
      rfl
    · rw [List.take_of_length_le (by omega)] at eT
      refine .inl ⟨⟨hp5, by omega⟩, hp5, ?_⟩
      rw [eT]
      exact q _ (kend k5)
end
end HK

set_option Elab.async false
set_option linter.all false
set_option maxRecDepth 100000
set_option maxHeartbeats 4000000
namespace HK
open PySem PySem.Spec PyProof.Rows L2 GAl GxR DTu
open Evl (pss_cut)
/-! ### latenesses -/
abbrev sLates : Stmt := topS 34
abbrev sUp : Stmt := topS 41
abbrev sLateness : Stmt := topS 40
theorem scLates : FnScope ["net", "start", "end", "cost", "late"] ["net"] (defScope sLates) := ⟨rfl, rfl, rfl, by decide +kernel, rfl, by decide +kernel, by decide +kernel⟩
theorem scUp : FnScope ["lates", "root", "ahead", "place", "total"] ["lates", "root", "ahead", "place"] (defScope sUp) := ⟨rfl, rfl, rfl, by decide +kernel, rfl, by decide +kernel, by decide +kernel⟩
theorem scLateness : FnScope ["net", "root", "ahead", "lates", "told", "place"] ["net", "root", "ahead"] (defScope sLateness) := ⟨rfl, rfl, rfl, by decide +kernel, rfl, by decide +kernel, by decide +kernel⟩
def lsum (rs : List R4) (root : Int) (g : IF) : Nat → Int → Int
  | 0, _ => 0
  | k + 1, v => lsum rs root g k v + (if clm g k v = root then 0 else ((road rs (stp g (clm g k v)) (clm g k v)).map (·.l)).getD 0)
theorem lsum_stop {rs : List R4} {root : Int} {g : IF} (hr : g root = none) {v : Int} {k : Nat} (h : clm g k v = root) : ∀ j, lsum rs root g (k + j) v = lsum rs root g k v
  | 0 => rfl
  | j + 1 => by
    show lsum rs root g (k + j) v + _ = _
    rw [lsum_stop hr h j, if_pos (show clm g (k.add j) v = root from clm_root hr h j), Int.add_zero]
/-- what is told, key by key -/
def latF (rs : List R4) (root : Int) (g : IF) (m : Nat) (l : List (Key × V)) : IF := l.foldl (fun f p => match p.1 with | .inl v => put f v (lsum rs root g m v) | .inr _ => f) (ini root)
theorem latF_take {rs : List R4} {root : Int} {g : IF} {m : Nat} {kvs : List (Key × V)} {i : Nat} {v : Int} {x : V} (h : kvs[i]? = some (Sum.inl v, x)) : latF rs root g m (kvs.take (i + 1)) = put (latF rs root g m (kvs.take i)) v (lsum rs root g m v) := by
  unfold latF
  rw [List.take_add_one, h, List.foldl_append]
  rfl
section
variable {P : Program} {w : World} {K : PySem.W.Frag} {mg : Str → Option Value} {base : Heap}
theorem ok_lates {f : Addr} {fd : FuncData} (F : Fun K "road_lates" "road_lates" sLates f fd) : FnOk P w K mg base CX0 1 f fd ["net"] (spTab (·.l) K) := by
  refine F.ok scLates (fun vs H Q E h => ?_) (fun cdv A outer s H vs Q E hr h => ?_)
  · obtain ⟨a, n, rs, rfl, _⟩ := h
    rfl
  · obtain ⟨a, n, rs, rfl, hN, G, hl, q⟩ := h
    have hu := hu_of hr
    refine ⟨_, pss_one (ps_ret (pe_dcT (own := [("start", 1), ("end", 2), ("cost", 3), ("late", 4)]) (g := gTup K 4 (gCons (gName 1) (gCons (gName 2) (gCons (gName 3) (gCons (gName 4) gNil))))) (tt := tYes) (tk := tTup (tCons (tVar 1) (tCons (tVar 2) tNil))) (tv := tVar 4) (Nat.lt_of_succ_lt hu) rfl scLates.nd (pi_tup (pe_ix ix_tup (pv 0) pe_int (fun _ _ => rfl)))
      (blkOk_by (N := ["net", "start", "end", "cost", "late"]) (sc := defScope sLates) (by decide +kernel))
      (fun _ _ _ _ _ => pg_tup rfl (pgs_cons (pg_name (i := 1) scLates.nd rfl (.inl rfl)) (pgs_cons (pg_name (i := 2) scLates.nd rfl (.inl rfl)) (pgs_cons (pg_name (i := 3) scLates.nd rfl (.inl rfl)) (pgs_cons (pg_name (i := 4) scLates.nd rfl (.inl rfl)) pgs_nil)))))
      (fun _ _ _ _ _ => pts_nil) (fun _ _ _ _ _ => pe_tup (pa_cons (pv 1) (pa_cons (pv 2) pa_nil))) (fun _ _ _ _ _ => pv 4))), ?_⟩
    obtain ⟨r, xs, o, h1, h2, hc, hd, h3⟩ := hN
    have hxs : SqT K H r xs := h2
    have hrl : xs.length = rs.length := h3.len
    refine ⟨_, rfl, a, _, 1, .ref r, rfl, rfl, h1, atI_nat (j := 1) rfl, r, rfl, ⟨xs, hxs⟩, fun D nD => ?_⟩
    refine ⟨fun i m H' => i + m = xs.length ∧ K0 H H' ∧ ∃ kvs, H' D = some (.dT kvs) ∧ TabP (·.l) (rs.take i) kvs, ⟨xs.length, by omega, K0.new nD, [], upd_same, by rw [List.take_zero]; exact ⟨Nat.le_refl _, fun _ _ => rfl⟩⟩, fun i m H' hW => ?_⟩
    obtain ⟨em, k3, kvs, hD, hT⟩ := hW
    have hY : SqT K H' r xs := k3.sqT hxs
    by_cases hi : i < xs.length
    · have g1 : xs[i]? = some xs[i] := List.getElem?_eq_getElem hi
      obtain ⟨t, q1, hrd, hx, hs⟩ := road_at h3 g1
      have htk : rs.take (i + 1) = rs.take i ++ [t] := by rw [List.take_add_one, hrd]; rfl
      refine .inr ⟨⟨_, _, hY, g1⟩, fun H' => K0 H H' ∧ ∃ kvs, H' D = some (.dT kvs) ∧ TabP (·.l) (rs.take (i + 1)) kvs, fun H' hN => ⟨m - 1, by omega, by omega, hN⟩, fun x' H2 hy => ?_⟩
      obtain ⟨rfl, fx⟩ := hy
      have ex : x' = xs[i] := Option.some.inj ((fx _ hY).symm.trans g1)
      rw [hx] at ex
      subst ex
      refine ⟨q1, _, rfl, k3.sqT hs, rfl, _, _, rfl, _, _, rfl, _, _, rfl, _, _, rfl, rfl, rfl, tyes ?_⟩
      refine ⟨_, rfl, _, rfl, by show 2 ≤ sizeLine; decide, fun kt nkt => ⟨_, rfl, ?_⟩⟩
      have hne : D ≠ kt := fun z => by rw [z, nkt] at hD; cases hD
      have hD2 : upd H2 kt (.tup [.int t.s, .int t.e]) D = some (.dT kvs) := by rw [upd_ne hne]; exact hD
      have hll : kvs.length < sizeLine := Nat.lt_of_le_of_lt (m := 5000) (by have := hT.1; have := List.length_take_le i rs; omega) (by decide)
      refine ⟨_, DPut.t (k := [Sum.inl t.s, Sum.inl t.e]) hD2 upd_same hll, (k3.mut (k3.dom kt nkt)).mut nD, _, upd_same, ?_⟩
      rw [htk]
      refine TabP.put ?_ hT
      rw [← htk]
      exact List.Pairwise.sublist (List.take_sublist _ _) G.up
    · refine .inl ⟨⟨_, hY, by omega⟩, q D kvs H' k3 nD hD ?_⟩
      rwa [List.take_of_length_le (by omega)] at hT
/-- the latenesses of one way -/
def spUp (K : PySem.W.Frag) : Sp := fun vs H Q _ => ∃ (D : Addr) (ts : List (List Key × V)) (rs : List R4) (root : Int) (p : Addr) (kvs : List (Key × V)) (g : IF) (v : Int), vs = [.ref D, .int root, .ref p, .int v] ∧ H D = some (.dT ts) ∧ TabP (·.l) rs ts ∧ Rd H p (.dK kvs) ∧ DI kvs g ∧
  g root = none ∧ (∀ v x, g v = some x → (road rs x v).isSome = true) ∧ clm g kvs.length v = root ∧ ∀ H', K0 H H' → Q (.int (lsum rs root g kvs.length v)) H'
theorem ok_up {f : Addr} {fd : FuncData} (F : Fun K "lateness_up" "lateness_up" sUp f fd) : FnOk P w K mg base CX0 1 f fd ["lates", "root", "ahead", "place"] (spUp K) := by
  refine F.ok scUp (fun vs H Q E h => ?_) (fun cdv A outer s H vs Q E hr h => ?_)
  · obtain ⟨D, ts, rs, root, p, kvs, g, v, rfl, _⟩ := h
    rfl
  · obtain ⟨D, ts, rs, root, p, kvs, g, v, rfl, hD, hTP, hp, hDI, hroot, hroads, hend, q⟩ := h
    have hu := hu_of hr
    refine ⟨_, pss_cons (ps_set (i := 4) scUp.nd rfl (.inl rfl) pe_int)
      (pss_cons (ps_while PassesOwn.never (pt_cmpR op_ne (pv 3) (pv 1) (nomark _))
        (pss_cons (ps_aug (i := 4) scUp.nd rfl (.inl rfl) (pe_dget hu (pv 0) (pe_tup (pa_cons (pe_dget hu (pv 2) (pv 3) (fun _ _ => rfl)) (pa_cons (pv 3) pa_nil))) (fun _ _ => rfl)) ip_add)
        (pss_one (ps_set (i := 3) scUp.nd rfl (.inl rfl) (pe_dget hu (pv 2) (pv 3) (fun _ _ => rfl))))))
      (pss_one (ps_ret (pv 4)))), ?_⟩
    refine ⟨fun m σ' H' => ∃ k, σ' = [some (.ref D), some (.int root), some (.ref p), some (.int (clm g k v)), some (.int (lsum rs root g k v))] ∧ K0 H H' ∧ k + m = kvs.length, ⟨kvs.length, 0, rfl, K0.refl _, by omega⟩, ?_⟩
    rintro m σ' H' ⟨k, rfl, k1, em⟩
    refine ⟨_, rfl, _, rfl, rfl, _, rfl, ?_⟩
    by_cases hc : clm g k v = root
    · rw [decide_eq_true (show V.int (clm g k v) = V.int root by rw [hc])]
      refine ⟨_, rfl, ?_⟩
      have := lsum_stop (rs := rs) hroot hc (kvs.length - k)
      rw [show k + (kvs.length - k) = kvs.length by omega] at this
      rw [← this]
      exact q _ k1
    · rw [decide_eq_false (show ¬ V.int (clm g k v) = V.int root from fun z => hc (V.int.inj z))]
      obtain ⟨x, ex⟩ := (clm_in hroot hend k).resolve_left hc
      have hkl : k < kvs.length := by
        refine Nat.lt_of_not_le fun hle => hc ?_
        have := clm_root hroot hend (k - kvs.length)
        rwa [show kvs.length + (k - kvs.length) = k by omega] at this
      obtain ⟨r, er⟩ := Option.isSome_iff_exists.mp (hroads _ _ ex)
      have dg := dgetR (k1.rd hp) hDI (clm g k v)
      rw [ex] at dg
      have hD1 := k1.oth D _ hD (fun _ z => by cases z)
      refine ⟨fun σ' H' => ∃ k', k' = k + 1 ∧ σ' = [some (.ref D), some (.int root), some (.ref p), some (.int (clm g k' v)), some (.int (lsum rs root g k' v))] ∧ K0 H H', fun σ' H' ⟨k', e1, e2, e3⟩ => ⟨m - 1, by omega, k', e2, e3, by omega⟩, ?_⟩
      refine ⟨_, rfl, _, rfl, _, rfl, _, rfl, p, _, rfl, dg, _, rfl, by show 2 ≤ sizeLine; decide, fun kt nkt => ?_⟩
      have kk := k1.mut (o := .tup [.int x, .int (clm g k v)]) (k1.dom kt nkt)
      have hDk : upd H' kt (.tup [.int x, .int (clm g k v)]) D = some (.dT ts) := by rw [upd_ne (ne_of_none hD1 nkt)]; exact hD1
      have dt := DGet.t (k := [Sum.inl x, Sum.inl (clm g k v)]) hDk upd_same
      rw [hTP.2, er] at dt
      refine ⟨D, _, rfl, dt, _, _, rfl, rfl, ?_⟩
      have dg2 := dgetR (kk.rd hp) hDI (clm g k v)
      rw [ex] at dg2
      refine ⟨_, rfl, _, rfl, p, _, rfl, dg2, k + 1, rfl, ?_, kk⟩
      have e1 : clm g (k + 1) v = x := stp_some ex
      have e2 : lsum rs root g (k + 1) v = lsum rs root g k v + r.l := by
        show lsum rs root g k v + (if clm g k v = root then 0 else _) = _
        rw [if_neg hc, stp_some ex, er]
        rfl
      rw [e1, e2]
      rfl
end
end HK

set_option Elab.async false
set_option linter.all false
set_option maxRecDepth 100000
set_option maxHeartbeats 4000000
namespace HK
open PySem PySem.Spec PyProof.Rows L2 GAl GxR
theorem valV_drop {κ : Type} [DecidableEq κ] (k j : κ) : ∀ kvs : List (κ × V), valV (dropK kvs k) j = if j = k then none else valV kvs j
  | [] => by split <;> rfl
  | p :: r => by
    by_cases e : p.1 = k
    · rw [dropK_pos e, valV_drop k j r]
      by_cases ej : j = k
      · rw [if_pos ej, if_pos ej]
      · rw [if_neg ej, if_neg ej, valV_neg (fun z => ej (by rw [← z, e]))]
    · rw [dropK_neg e]
      by_cases ep : p.1 = j
      · rw [valV_pos ep, valV_pos ep, if_neg (fun z => e (by rw [ep, z]))]
      · rw [valV_neg ep, valV_neg ep, valV_drop k j r]
def drp (f : IF) (i : Int) : IF := fun j => if j = i then none else f j
theorem DI.drop {kvs : List (Key × V)} {f : IF} (h : DI kvs f) (i : Int) : DI (dropK kvs (Sum.inl i)) (drp f i) := by
  refine ⟨?_, fun p hp => h.ks p (dropK_mem hp), fun j => ?_⟩
  · exact List.Nodup.sublist (List.Sublist.map _ List.filter_sublist) h.nd
  · rw [valV_drop, h.val]
    unfold drp
    by_cases e : j = i
    · subst e; simp
    · simp [e]
theorem ints_of : ∀ {kvs : List (Key × V)}, (∀ p ∈ kvs, ∃ i x : Int, p = (Sum.inl i, V.int x)) → ∃ ks : List Int, kvs.map (·.1) = ks.map Sum.inl
  | [], _ => ⟨[], rfl⟩
  | p :: r, h => by
    obtain ⟨ks, e⟩ := ints_of (kvs := r) (fun q hq => h q (List.mem_cons_of_mem _ hq))
    obtain ⟨i, x, rfl⟩ := h p (List.mem_cons_self ..)
    exact ⟨i :: ks, by rw [List.map_cons, List.map_cons, e]⟩
theorem DI.ints {kvs : List (Key × V)} {f : IF} (h : DI kvs f) : ∃ ks : List Int, kvs.map (·.1) = ks.map Sum.inl ∧ ks.Nodup ∧ ∀ i, i ∈ ks ↔ (f i).isSome = true := by
  obtain ⟨ks, e⟩ := ints_of h.ks
  refine ⟨ks, e, ?_, fun i => ?_⟩
  · have := h.nd
    rw [e] at this
    have this : (ks.map (Sum.inl : Int → Key)).Pairwise (· ≠ ·) := this
    rw [List.pairwise_map] at this
    exact this.imp fun h z => h (by rw [z])
  · rw [← h.mem, e]
    constructor
    · exact fun hi => List.mem_map.mpr ⟨i, hi, rfl⟩
    · intro hi
      obtain ⟨j, hj, z⟩ := List.mem_map.mp hi
      cases z; exact hj
theorem DI.small {kvs : List (Key × V)} {f : IF} (h : DI kvs f) (hr : ∀ v x, f v = some x → 0 ≤ v ∧ v < 12) : kvs.length ≤ 12 := by
  obtain ⟨ks, e, nd, hm⟩ := h.ints
  have hl : kvs.length = ks.length := by
    have := congrArg List.length e
    rwa [List.length_map, List.length_map] at this
  have L : ([0, 1, 2, 3, 4, 5, 6, 7, 8, 9, 10, 11] : List Int).Nodup := by decide
  have pm : (([0, 1, 2, 3, 4, 5, 6, 7, 8, 9, 10, 11] : List Int).filter fun i => (f i).isSome).Perm ks := (List.perm_ext_iff_of_nodup (List.Nodup.sublist List.filter_sublist L) nd).mpr fun i => by
    rw [List.mem_filter, hm i]
    constructor
    · exact fun h => h.2
    · intro hi
      refine ⟨?_, hi⟩
      obtain ⟨x, ex⟩ := Option.isSome_iff_exists.mp hi
      have := hr i x ex
      have : i = 0 ∨ i = 1 ∨ i = 2 ∨ i = 3 ∨ i = 4 ∨ i = 5 ∨ i = 6 ∨ i = 7 ∨ i = 8 ∨ i = 9 ∨ i = 10 ∨ i = 11 := by omega
      rcases this with rfl | rfl | rfl | rfl | rfl | rfl | rfl | rfl | rfl | rfl | rfl | rfl <;> decide
  rw [hl, ← pm.length_eq]
  exact Nat.le_trans (List.length_filter_le _ _) (by decide)
theorem Kt.over {t q : Addr} {H H' H'' : Hp} (k : Kt t H H') (k' : Kt q H' H'') (n : H q = none) : Kt t H H'' := ⟨fun b u e => k'.tup b u (k.tup b u e), fun b o u e => k'.frz b o u (k.frz b o u e), fun b o e m m' => k'.oth b o (k.oth b o e m m') (ne_of_none e n) m', fun P h => k'.tab P (k.tab P h), fun b e => k.dom b (k'.dom b e)⟩
theorem Kt.setD {q : Addr} {X Y : Hp} {ls ms : List (Key × V)} (k : Kt q X Y) (h : Y q = some (.dK ls)) : Kt q X (upd Y q (.dK ms)) := by
  refine ⟨fun b u e => ?_, fun b o u e => ?_, fun b o e m m' => ?_, fun P hP => ?_, fun b e => k.dom b (upd_none e)⟩
  · have e' := k.tup b u e
    rw [upd_ne (ne_of e' h (fun z => by cases z))]; exact e'
  · have e' := k.frz b o u e
    rw [upd_ne (ne_of e' h (fun z => by cases z))]; exact e'
  · rw [upd_ne m]; exact k.oth b o e m m'
  · obtain ⟨ps, e, ht⟩ := k.tab P hP
    exact ⟨ps, by rw [upd_ne (ne_of e h (fun z => by cases z))]; exact e, ht⟩
theorem Kt.lock {q p : Addr} {H H' : Hp} {kvs : List (Key × V)} {od : Obj} (h : H p = some (.dK kvs)) (k : Kt q (upd H p (.frz od (.dK kvs))) H') : Kt q H (upd H' p (.dK kvs)) := by
  refine ⟨fun b u e => ?_, fun b o u e => ?_, fun b o e m m' => ?_, fun P hP => ?_, fun b e => ?_⟩
  · have hb := ne_of e h (fun z => by cases z)
    rw [upd_ne hb]
    exact k.tup b u (by rw [upd_ne hb]; exact e)
  · have hb := ne_of e h (fun z => by cases z)
    rw [upd_ne hb]
    exact k.frz b o u (by rw [upd_ne hb]; exact e)
  · by_cases hb : b = p
    · subst hb
      rw [h] at e
      cases e
      exact upd_same
    · rw [upd_ne hb]
      exact k.oth b o (by rw [upd_ne hb]; exact e) m m'
  · obtain ⟨ps, e, ht⟩ := hP
    have hb := ne_of e h (fun z => by cases z)
    obtain ⟨ps', e', ht'⟩ := k.tab P ⟨ps, by rw [upd_ne hb]; exact e, ht⟩
    exact ⟨ps', by rw [upd_ne hb]; exact e', ht'⟩
  · by_cases hb : b = p
    · rw [hb, upd_same] at e; cases e
    · rw [upd_ne hb] at e
      have := k.dom b e
      rwa [upd_ne hb] at this
theorem pick2 {d : Int} (h0 : 0 ≤ d) (h1 : d < 2) (a b : Int) : ∃ y : Int, atI [V.int a, .int b] d = some (.int y) := by
  obtain ⟨k, rfl⟩ := Int.eq_ofNat_of_zero_le h0
  match k, h1 with
  | 0, _ => exact ⟨a, atI_nat rfl⟩
  | 1, _ => exact ⟨b, atI_nat rfl⟩
  | k + 2, h => exact absurd h (by omega)
theorem pick4 {d : Int} (h0 : 0 ≤ d) (h1 : d < 4) (a b c e : Int) : ∃ y : Int, atI [V.int a, .int b, .int c, .int e] d = some (.int y) := by
  obtain ⟨k, rfl⟩ := Int.eq_ofNat_of_zero_le h0
  match k, h1 with
  | 0, _ => exact ⟨a, atI_nat rfl⟩
  | 1, _ => exact ⟨b, atI_nat rfl⟩
  | 2, _ => exact ⟨c, atI_nat rfl⟩
  | 3, _ => exact ⟨e, atI_nat rfl⟩
  | k + 4, h => exact absurd h (by omega)
section
variable {P : Program} {w : World} {K : PySem.W.Frag} {mg : Str → Option Value} {base : Heap}
/-- between the statements: all but the tape as it was, the tape a tape -/
structure Sf (K : PySem.W.Frag) (H : Hp) (t sc : Addr) (ns : List Int) (H' : Hp) : Prop where
  kt : Kt t H H'
  tp : Tape K H' t sc ns
theorem Sf.k0 {H H' H2 : Hp} {t sc : Addr} {ns : List Int} (h : Sf K H t sc ns H') (k : K0 H' H2) : Sf K H t sc ns H2 := ⟨h.kt.trans k.kt, h.tp.k0 k⟩
theorem Sf.go {H H' H2 : Hp} {t sc : Addr} {ns : List Int} (h : Sf K H t sc ns H') (k : Kt t H' H2) (tp : Tape K H2 t sc ns) : Sf K H t sc ns H2 := ⟨h.kt.trans k, tp⟩
theorem Sf.over {H H' H2 : Hp} {t sc q : Addr} {ns : List Int} (h : Sf K H t sc ns H') (h0 : Tape K H t sc ns) (k : Kt q H' H2) (n : H q = none) : Sf K H t sc ns H2 := by
  have kk := h.kt.over k n
  obtain ⟨⟨p, v, e, r⟩, _⟩ := h.tp
  have ht : t ≠ q := fun z => by
    obtain ⟨_, _, e, _⟩ := h0.v
    rw [z, n] at e; cases e
  exact ⟨kk, ⟨p, v, k.oth t _ e ht (fun _ z => by cases z), r⟩, h0.scr.kt kk⟩
theorem Sf.put {H H' : Hp} {t sc q : Addr} {ns : List Int} {ls ms : List (Key × V)} (h : Sf K H t sc ns H') (h0 : Tape K H t sc ns) (n : H q = none) (hk : H' q = some (.dK ls)) : Sf K H t sc ns (upd H' q (.dK ms)) := h.over h0 ((Kt.refl q H').setD hk) n
theorem or_eq {σ : L2.St} {H : Hp} {Q' : Bool → Hp → Prop} {d c c' : Int} {i : Nat} (h : σ[i]? = some (some (.int d))) (q : Q' (decide (d = c ∨ d = c')) H) : tOr (tTest (tOp rEq (tVar i) (tC (.int c)))) (tTest (tOp rEq (tVar i) (tC (.int c')))) σ H Q' := by
  refine ⟨_, h, rfl, _, rfl, ?_⟩
  by_cases e : d = c
  · rw [decide_eq_true (show V.int d = V.int c by rw [e])]
    rw [decide_eq_true (Or.inl e)] at q
    exact q
  · rw [decide_eq_false (show ¬ V.int d = V.int c from fun z => e (by cases z; rfl))]
    refine ⟨_, h, rfl, _, rfl, ?_⟩
    by_cases e' : d = c'
    · rw [decide_eq_true (Or.inr e')] at q
      rw [decide_eq_true (show V.int d = V.int c' by rw [e'])]
      exact q
    · rw [decide_eq_false (show ¬ (d = c ∨ d = c') from fun z => z.elim e e')] at q
      rw [decide_eq_false (show ¬ V.int d = V.int c' from fun z => e' (by cases z; rfl))]
      exact q
/-- dicts of whole numbers -/
def DsAt (H : Hp) (xs : List V) : Prop := ∀ x ∈ xs, ∃ q ls f, x = .ref q ∧ H q = some (.dK ls) ∧ DI ls f ∧ ls.length ≤ 3000
theorem DsAt.kt {t sc : Addr} {ns : List Int} {H H' : Hp} {xs : List V} (h : DsAt H xs) (tp : Tape K H t sc ns) (k : Kt t H H') : DsAt H' xs := fun x hx => by
  obtain ⟨q, ls, f, e, hq, r⟩ := h x hx
  refine ⟨q, ls, f, e, k.oth q _ hq (fun z => ?_) (fun _ z => by cases z), r⟩
  obtain ⟨_, _, e, _⟩ := tp.v
  rw [← z, hq] at e; cases e
theorem DsAt.k0 {H H' : Hp} {xs : List V} (h : DsAt H xs) (k : K0 H H') : DsAt H' xs := fun x hx => by
  obtain ⟨q, ls, f, e, hq, r⟩ := h x hx
  exact ⟨q, ls, f, e, k.oth q _ hq (fun _ z => by cases z), r⟩
theorem DsAt.lst {H : Hp} {xs ys zs : List V} {l : Addr} (h : DsAt H xs) (hl : H l = some (.lst ys)) : DsAt (upd H l (.lst zs)) xs := fun x hx => by
  obtain ⟨q, ls, f, e, hq, r⟩ := h x hx
  exact ⟨q, ls, f, e, by rw [upd_ne (ne_of hq hl (fun z => by cases z))]; exact hq, r⟩
theorem DsAt.cons {H : Hp} {xs : List V} {q : Addr} {ls : List (Key × V)} {f : IF} (hq : H q = some (.dK ls)) (hD : DI ls f) (hl : ls.length ≤ 3000) (h : DsAt H xs) : DsAt H (.ref q :: xs) := fun x hx => by
  rcases List.mem_cons.mp hx with rfl | hx
  · exact ⟨q, ls, f, rfl, hq, hD, hl⟩
  · exact h x hx
theorem DsAt.snoc {H : Hp} {xs : List V} {q : Addr} {ls : List (Key × V)} {f : IF} (h : DsAt H xs) (hq : H q = some (.dK ls)) (hD : DI ls f) (hl : ls.length ≤ 3000) : DsAt H (xs ++ [.ref q]) := fun x hx => by
  rcases List.mem_append.mp hx with hx | hx
  · exact h x hx
  · exact ⟨q, ls, f, List.mem_singleton.mp hx, hq, hD, hl⟩
theorem Sf.lst {H H' : Hp} {t sc l : Addr} {ns : List Int} {zs : List V} (h : Sf K H t sc ns H') (h0 : Tape K H t sc ns) (n : H l = none) : Sf K H t sc ns (upd H' l (.lst zs)) := ⟨h.kt.mut n, h.tp.mut h0.scr h.kt n (h0.ne n)⟩
end
end HK

set_option Elab.async false
set_option linter.all false
set_option maxRecDepth 100000
set_option maxHeartbeats 4000000
namespace HK
open PySem PySem.Spec PyProof.Rows L2 GAl GxR DTu
open Evl (pss_cut)
section
variable {P : Program} {w : World} {K : PySem.W.Frag} {mg : Str → Option Value} {base : Heap}
def spLateness (K : PySem.W.Frag) (Pn Pr Pp Pg : Addr) : Sp := fun vs H Q _ => ∃ (a : Addr) (n : Int) (rs : List R4) (root : Int) (p : Addr) (kvs : List (Key × V)) (g : IF), vs = [.ref a, .int root, .ref p] ∧ NetAt K H a n rs ∧ Good n rs ∧ rs.length ≤ 156 ∧ 0 ≤ root ∧ root < n ∧
  H p = some (.dK kvs) ∧ DI kvs g ∧ kvs.length ≤ 5000 ∧ TreeP rs root g kvs.length ∧ TbL H [Pn, Pr, Pp, Pg] ∧ ∀ (q : Addr) (ls : List (Key × V)) (H' : Hp), K0 H H' → H q = none → H' q = some (.dK ls) → DI ls (latF rs root g kvs.length kvs) → ls.length ≤ 1 + kvs.length → Q (.ref q) H'
theorem ok_lateness {f fN fP fT fR fU Pn Pr Pp Pg : Addr} {fd fdN fdP fdT fdR fdU : FuncData} (F : Fun K "lateness" "lateness" sLateness f fd)
    (kN : PySem.W.keepIn K (.ref fN) = true) (bN : Binds K fdN ["net"] []) (gN : mg "need_net" = some (.ref fN)) (GN : FnOk P w K mg base CX0 6 fN fdN ["net"] (spNeedNet K Pn Pr))
    (kP : PySem.W.keepIn K (.ref fP) = true) (bP : Binds K fdP ["net", "place"] []) (gP : mg "need_place" = some (.ref fP)) (GP : FnOk P w K mg base CX0 4 fP fdP ["net", "place"] (spNeedPlace K))
    (kT : PySem.W.keepIn K (.ref fT) = true) (bT : Binds K fdT ["net", "root", "ahead"] []) (gT : mg "need_tree" = some (.ref fT)) (GT : FnOk P w K mg base CX0 5 fT fdT ["net", "root", "ahead"] (spNeedTree K Pp Pg))
    (kR : PySem.W.keepIn K (.ref fR) = true) (bR : Binds K fdR ["net"] []) (gR : mg "road_lates" = some (.ref fR)) (GR : FnOk P w K mg base CX0 1 fR fdR ["net"] (spTab (·.l) K))
    (kU : PySem.W.keepIn K (.ref fU) = true) (bU : Binds K fdU ["lates", "root", "ahead", "place"] []) (gU : mg "lateness_up" = some (.ref fU)) (GU : FnOk P w K mg base CX0 1 fU fdU ["lates", "root", "ahead", "place"] (spUp K)) :
    FnOk P w K mg base CX0 7 f fd ["net", "root", "ahead"] (spLateness K Pn Pr Pp Pg) := by
  refine F.ok scLateness (fun vs H Q E h => ?_) (fun cdv A outer s H vs Q E hr h => ?_)
  · obtain ⟨a, n, rs, v, p, kvs, g, rfl, _⟩ := h
    rfl
  · obtain ⟨a, n, rs, root, p, kvs, g, rfl, hN, hG, hl, r0, r1, hp, hD, hkl, hT, tb, q⟩ := h
    have hu := hu_of hr
    refine ⟨_, pss_cons (ps_expr (pe_call GN hr (by rfl) gN kN bN .nil pass0 (pa_cons (pv 0) pa_nil)))
      (pss_cons (ps_expr (pe_call GP (hr.mono (by decide)) (by rfl) gP kP bP .nil pass0 (pa_cons (pv 0) (pa_cons (pv 1) pa_nil))))
      (pss_cons (ps_expr (pe_call GT (hr.mono (by decide)) (by rfl) gT kT bT .nil pass0 (pa_cons (pv 0) (pa_cons (pv 1) (pa_cons (pv 2) pa_nil)))))
      (pss_cons (ps_set (i := 3) scLateness.nd rfl (.inl rfl) (pe_call GR (hr.mono (by decide)) (by rfl) gR kR bR .nil pass0 (pa_cons (pv 0) pa_nil)))
      (pss_cons (ps_set (i := 4) scLateness.nd rfl (.inl rfl) (pe_disp (pps_cons (pv 1) pe_int pps_nil) rfl rfl (fun z => by cases z) (by decide)))
      (pss_cons (ps_lock (ps_for PassesOwn.never rfl (pi_keys (pv 2)) (pg_name (i := 5) scLateness.nd rfl (.inl rfl))
        (pss_one (ps_dput hu (pv 4) (pv 5) (pe_call GU (hr.mono (by decide)) (by rfl) gU kU bU .nil pass0 (pa_cons (pv 3) (pa_cons (pv 1) (pa_cons (pv 2) (pa_cons (pv 5) pa_nil))))) rfl))))
      (pss_one (ps_ret (pv 4)))))))), ?_⟩
    refine ⟨_, rfl, a, n, rs, rfl, hN, hG, hl, tb Pn (by simp), tb Pr (by simp), fun H1 k1 => ?_⟩
    refine ⟨_, rfl, _, rfl, a, n, rs, root, rfl, hN.k0 k1, r0, r1, ?_⟩
    refine ⟨_, rfl, _, rfl, _, rfl, a, n, rs, root, p, kvs, g, rfl, hN.k0 k1, hG, hl, k1.oth p _ hp (fun _ z => by cases z), hD, hkl, hT, k1.tab _ (tb Pp (by simp)), k1.tab _ (tb Pg (by simp)), fun H2 k2 => ?_⟩
    have k12 := k1.trans k2
    refine ⟨_, rfl, a, n, rs, rfl, hN.k0 k12, hG, hl, fun D ts H3 k3 nD hD3 hTP => ?_⟩
    have k13 := k12.trans k3
    refine fun t nt => ⟨_, rfl, ⟨upd_same, [(Sum.inl root, .int 0)], rfl, (by show 1 ≤ 15; decide), ?_⟩⟩
    rw [upd_upd]
    have nHt := k13.dom t nt
    have k4 : K0 H3 (upd H3 t (.dK (mergeK [] [(Sum.inl root, .int 0)]))) := K0.new nt
    have k14 := k13.trans k4
    have ht4 : upd H3 t (.dK (mergeK [] [(Sum.inl root, .int 0)])) t = some (.dK (mergeK [] [(Sum.inl root, .int 0)])) := upd_same
    have hD4 := k4.oth D _ hD3 (fun _ z => by cases z)
    have hp4 := k14.oth p _ hp (fun _ z => by cases z)
    generalize hH4 : upd H3 t (.dK (mergeK [] [(Sum.inl root, .int 0)])) = H4 at k4 k14 ht4 hD4 hp4
    have htp : t ≠ p := fun z => by rw [z, hp] at nHt; cases nHt
    have hDp : D ≠ p := fun z => by rw [z, hp4] at hD4; cases hD4
    refine ⟨p, _, hp4, trivial, fun od => ⟨_, rfl, p, od, rfl, .inl ⟨kvs, upd_same, ?_⟩⟩⟩
    refine for_it walk_keys (fun i σ' H' => ∃ y5, σ' = [some (.ref a), some (.int root), some (.ref p), some (.ref D), some (.ref t), y5] ∧ Kt t (upd H4 p (.frz od (.dK kvs))) H' ∧ ∃ ls, H' t = some (.dK ls) ∧ DI ls (latF rs root g kvs.length (kvs.take i)) ∧ ls.length ≤ 1 + i)
      ⟨none, rfl, Kt.refl _ _, _, by rw [upd_ne htp]; exact ht4, by rw [List.take_zero]; exact DI.one root, Nat.le_refl _⟩ (fun i σ' H' _ h => ?_) (fun i x σ' H' H2 hi h y => ?_) (fun σ' H' h => ?_)
    · obtain ⟨_, _, k, _⟩ := h
      exact k.frz _ _ _ upd_same
    · obtain ⟨rfl, k, v, hkv, rfl⟩ := y
      obtain ⟨j, z, e, e2⟩ := hD.at_ (List.mem_of_getElem? hkv)
      cases e
      obtain ⟨y5, rfl, k5, ls, hls, hDI, hll⟩ := h
      have hD5 : H2 D = some (.dT ts) := k5.oth D _ (by rw [upd_ne hDp]; exact hD4) (ne_of hD4 ht4 (fun z => by cases z)) (fun _ z => by cases z)
      refine ⟨_, rfl, _, rfl, _, rfl, _, rfl, D, ts, rs, root, p, kvs, g, j, rfl, hD5, hTP, .inr ⟨od, k5.frz _ _ _ upd_same⟩, hD, hT.1, hT.2.1, hT.2.2 _ _ e2, fun H6 k6 => ?_⟩
      have hls6 := k6.oth t _ hls (fun _ z => by cases z)
      refine ⟨_, rfl, _, rfl, t, _, rfl, DPut.k (k := Sum.inl j) hls6 (Nat.lt_of_le_of_lt (m := 6000) (by omega) (by decide)), ?_⟩
      refine ⟨_, rfl, (k5.trans k6.kt).setD hls6, _, upd_same, ?_, Nat.le_trans (length_putK _ _ _) (by omega)⟩
      rw [latF_take hkv]
      exact hDI.put _ _
    · obtain ⟨y5, rfl, k5, ls, hls, hDI, hll⟩ := h
      rw [List.take_of_length_le (Nat.le_refl _)] at hDI
      have kk : Kt t H4 (upd H' p (.dK kvs)) := Kt.lock hp4 k5
      refine ⟨k5.frz _ _ _ upd_same, _, rfl, q t ls _ ?_ nHt (by rw [upd_ne htp]; exact hls) hDI hll⟩
      refine ⟨fun b o e m => ?_, fun P hP => kk.tab P (k14.tab P hP), fun b e => k14.dom b (kk.dom b e)⟩
      exact kk.oth b o (k14.oth b o e m) (ne_of_none e nHt) m
end
end HK

set_option Elab.async false
set_option linter.all false
set_option maxRecDepth 100000
set_option maxHeartbeats 4000000
namespace HK
open PySem PySem.Spec PyProof.Rows L2 GAl GxR
open Evl (pss_cut)
abbrev sWays : Stmt := topS 44
abbrev N_scWays : List Str := ["net", "root", "least", "ahead", "start", "end", "cost", "late"]
theorem scWays : FnScope N_scWays ["net", "root"] (defScope sWays) := ⟨rfl, rfl, rfl, by decide +kernel, rfl, by decide +kernel, by decide +kernel⟩
/-! ### a tree of earliest ways -/
def tight (f : IF) (r : R4) : Bool := match f r.s with
  | none => false
  | some a => decide (f r.e = some (a + r.l))
def wayF (f : IF) (l : List R4) : IF := l.foldl (fun h r => if tight f r = true then put h r.e r.s else h) (fun _ => none)
theorem wayF_snoc {f : IF} {l : List R4} {r : R4} : wayF f (l ++ [r]) = if tight f r = true then put (wayF f l) r.e r.s else wayF f l := by
  unfold wayF
  rw [List.foldl_append]
  rfl
theorem wayF_take {f : IF} {rs : List R4} {j : Nat} {r : R4} (h : rs[j]? = some r) : wayF f (rs.take (j + 1)) = if tight f r = true then put (wayF f (rs.take j)) r.e r.s else wayF f (rs.take j) := by
  rw [List.take_add_one, h]
  exact wayF_snoc
theorem wayF_some {f : IF} (l : List R4) : (∀ v x, wayF f l v = some x → ∃ r ∈ l, r.e = v ∧ r.s = x ∧ tight f r = true) ∧ (∀ r ∈ l, tight f r = true → (wayF f l r.e).isSome = true) := by
  have gen : ∀ (l : List R4) (h0 : IF), (∀ v x, l.foldl (fun h r => if tight f r = true then put h r.e r.s else h) h0 v = some x → h0 v = some x ∨ ∃ r ∈ l, r.e = v ∧ r.s = x ∧ tight f r = true) ∧
      (∀ v, ((h0 v).isSome = true ∨ ∃ r ∈ l, r.e = v ∧ tight f r = true) → (l.foldl (fun h r => if tight f r = true then put h r.e r.s else h) h0 v).isSome = true) := fun l => by
    induction l with
    | nil => exact fun h0 => ⟨fun v x e => .inl e, fun v h => h.elim id fun ⟨r, hr, _⟩ => by cases hr⟩
    | cons r l ih =>
      intro h0
      obtain ⟨i1, i2⟩ := ih (if tight f r = true then put h0 r.e r.s else h0)
      refine ⟨fun v x e => ?_, fun v h => i2 v ?_⟩
      · rcases i1 v x e with h | ⟨r', h1, h2⟩
        · by_cases ht : tight f r = true
          · rw [if_pos ht] at h
            unfold put at h
            by_cases hv : v = r.e
            · rw [if_pos hv] at h
              cases h
              exact .inr ⟨r, List.mem_cons_self .., hv.symm, rfl, ht⟩
            · rw [if_neg hv] at h
              exact .inl h
          · rw [if_neg ht] at h
            exact .inl h
        · exact .inr ⟨r', List.mem_cons_of_mem _ h1, h2⟩
      · rcases h with h | ⟨r', h1, h2, h3⟩
        · left
          by_cases ht : tight f r = true
          · rw [if_pos ht]
            unfold put
            by_cases hv : v = r.e
            · rw [if_pos hv]; rfl
            · rw [if_neg hv]; exact h
          · rw [if_neg ht]; exact h
        · rcases List.mem_cons.mp h1 with rfl | h1
          · left
            rw [if_pos h3]
            unfold put
            rw [if_pos h2.symm]
            rfl
          · exact .inr ⟨r', h1, h2, h3⟩
  obtain ⟨g1, g2⟩ := gen l (fun _ => none)
  exact ⟨fun v x e => (g1 v x e).resolve_left (fun z => by cases z), fun r hr ht => g2 r.e (.inr ⟨r, hr, rfl, ht⟩)⟩
theorem tight_iff {f : IF} {r : R4} : tight f r = true ↔ ∃ a, f r.s = some a ∧ f r.e = some (a + r.l) := by
  unfold tight
  cases e : f r.s with
  | none => exact ⟨fun z => (by cases z), fun ⟨a, h, _⟩ => by cases h⟩
  | some a =>
    show decide _ = true ↔ _
    rw [decide_eq_true_iff]
    exact ⟨fun h => ⟨a, rfl, h⟩, fun ⟨b, h1, h2⟩ => by cases h1; exact h2⟩
section
variable {n root : Int} {rs : List R4} {f : IF}
theorem way_step (hok : ∀ r ∈ rs, RoadOk n r) (I : IInv n rs root f) {v x : Int} (e : wayF f rs v = some x) : ∃ r ∈ rs, r.e = v ∧ r.s = x ∧ ∃ a, f x = some a ∧ f v = some (a + r.l) ∧ 0 ≤ a ∧ 1 ≤ r.l := by
  obtain ⟨r, hr, h1, h2, ht⟩ := (wayF_some rs).1 v x e
  obtain ⟨a, h3, h4⟩ := tight_iff.mp ht
  subst h1 h2
  exact ⟨r, hr, rfl, rfl, a, h3, h4, (I.rng _ _ h3).2.2, (hok r hr).l0⟩
theorem way_root (hok : ∀ r ∈ rs, RoadOk n r) (I : IInv n rs root f) : wayF f rs root = none := by
  cases e : wayF f rs root with
  | none => rfl
  | some x =>
    obtain ⟨r, _, _, _, a, _, h, h0, h1⟩ := way_step hok I e
    rw [I.rt0] at h
    have := Option.some.inj h
    omega
theorem way_has (I : IInv n rs root f) (C : Closed rs f) {v b : Int} (e : f v = some b) (hv : v ≠ root) : ∃ x, wayF f rs v = some x := by
  rcases I.wt v b e with h | ⟨r, hr, h1, a, h2, h3⟩
  · exact absurd h hv
  · obtain ⟨b', h4, h5⟩ := C r hr a h2
    rw [h1, e] at h4
    cases h4
    have : tight f r = true := tight_iff.mpr ⟨a, h2, by rw [h1, e]; congr 1; omega⟩
    have := (wayF_some rs).2 r hr this
    rw [h1] at this
    exact Option.isSome_iff_exists.mp this
theorem way_dom (hok : ∀ r ∈ rs, RoadOk n r) (I : IInv n rs root f) (C : Closed rs f) (v : Int) : (wayF f rs v).isSome = true ↔ v ≠ root ∧ (f v).isSome = true := by
  constructor
  · intro h
    obtain ⟨x, e⟩ := Option.isSome_iff_exists.mp h
    obtain ⟨r, _, _, _, a, _, h4, _⟩ := way_step hok I e
    refine ⟨fun z => ?_, by rw [h4]; rfl⟩
    rw [z, way_root hok I] at e
    cases e
  · intro ⟨h1, h2⟩
    obtain ⟨b, e⟩ := Option.isSome_iff_exists.mp h2
    obtain ⟨x, ex⟩ := way_has I C e h1
    rw [ex]; rfl
theorem way_up (hok : ∀ r ∈ rs, RoadOk n r) (I : IInv n rs root f) (C : Closed rs f) : ∀ (m : Nat) (v b : Int), f v = some b → b.toNat ≤ m → ∃ k, clm (wayF f rs) k v = root
  | m, v, b, e, hm => by
    by_cases hv : v = root
    · exact ⟨0, hv⟩
    · obtain ⟨x, ex⟩ := way_has I C e hv
      obtain ⟨r, _, _, _, a, h3, h4, h5, h6⟩ := way_step hok I ex
      rw [e] at h4
      have hb := Option.some.inj h4
      match m, hm with
      | 0, hm => exact absurd hm (by omega)
      | m + 1, hm =>
        obtain ⟨k, hk⟩ := way_up hok I C m x a h3 (by omega)
        refine ⟨k + 1, ?_⟩
        have sh : ∀ k, clm (wayF f rs) (k + 1) v = clm (wayF f rs) k (stp (wayF f rs) v) := fun k => by
          induction k with
          | zero => rfl
          | succ k ih => show stp _ (clm _ (k + 1) v) = stp _ (clm _ k _); rw [ih]
        rw [sh, stp_some ex]
        exact hk
theorem way_tree {kvs : List (Key × V)} (up : rs.Pairwise R4.lt) (hok : ∀ r ∈ rs, RoadOk n r) (I : IInv n rs root f) (C : Closed rs f) (hD : DI kvs (wayF f rs)) : TreeP rs root (wayF f rs) kvs.length := by
  refine ⟨way_root hok I, fun v x e => ?_, fun v x e => ?_⟩
  · obtain ⟨r, hr, h1, h2, _⟩ := way_step hok I e
    rw [← h1, ← h2, road_of up hr]
    rfl
  · obtain ⟨r, hr, h1, h2, a, h3, h4, _⟩ := way_step hok I e
    obtain ⟨k, hk⟩ := way_up hok I C _ v _ h4 (Nat.le_refl _)
    exact clm_len hD (way_root hok I) hk
theorem way_sum (up : rs.Pairwise R4.lt) (hok : ∀ r ∈ rs, RoadOk n r) (I : IInv n rs root f) (C : Closed rs f) {v b : Int} (e : f v = some b) : ∀ k, ∃ c, f (clm (wayF f rs) k v) = some c ∧ lsum rs root (wayF f rs) k v = b - c
  | 0 => ⟨b, e, by show (0 : Int) = b - b; omega⟩
  | k + 1 => by
    obtain ⟨c, h1, h2⟩ := way_sum up hok I C e k
    by_cases hc : clm (wayF f rs) k v = root
    · refine ⟨c, ?_, ?_⟩
      · rw [show clm (wayF f rs) (k + 1) v = clm (wayF f rs) k v from stp_none (by rw [hc]; exact way_root hok I)]
        exact h1
      · show lsum rs root (wayF f rs) k v + (if clm (wayF f rs) k v = root then 0 else _) = _
        rw [if_pos hc, h2]
        omega
    · obtain ⟨x, ex⟩ := way_has I C h1 hc
      obtain ⟨r, hr, h3, h4, a, h5, h6, _⟩ := way_step hok I ex
      rw [h1] at h6
      have hcc := Option.some.inj h6
      refine ⟨a, ?_, ?_⟩
      · rw [show clm (wayF f rs) (k + 1) v = x from stp_some ex]
        exact h5
      · show lsum rs root (wayF f rs) k v + (if clm (wayF f rs) k v = root then 0 else _) = _
        rw [if_neg hc, stp_some ex, ← h4, ← h3, road_of up hr, h2]
        show b - c + r.l = b - a
        omega
theorem way_late {kvs : List (Key × V)} (up : rs.Pairwise R4.lt) (hok : ∀ r ∈ rs, RoadOk n r) (I : IInv n rs root f) (C : Closed rs f) (hD : DI kvs (wayF f rs)) {v b : Int} (e : f v = some b) : lsum rs root (wayF f rs) kvs.length v = b := by
  obtain ⟨c, h1, h2⟩ := way_sum up hok I C e kvs.length
  have hroot : clm (wayF f rs) kvs.length v = root := by
    obtain ⟨k, hk⟩ := way_up hok I C _ v _ e (Nat.le_refl _)
    exact clm_len hD (way_root hok I) hk
  rw [hroot, I.rt0] at h1
  cases h1
  rw [h2]
  omega
open Classical in
theorem latF_val {g : IF} {m : Nat} (l : List (Key × V)) (v : Int) : latF rs root g m l v = if (Sum.inl v : Key) ∈ l.map (fun p : Key × V => p.1) then some (lsum rs root g m v) else ini root v := by
  have gen : ∀ (l : List (Key × V)) (f0 : IF), l.foldl (fun f p => match p.1 with | .inl v => put f v (lsum rs root g m v) | .inr _ => f) f0 v = if (Sum.inl v : Key) ∈ l.map (fun p : Key × V => p.1) then some (lsum rs root g m v) else f0 v := fun l => by
    induction l with
    | nil => intro f0; rw [if_neg (fun z => by cases z)]; rfl
    | cons p l ih =>
      intro f0
      rw [List.foldl_cons, ih]
      by_cases hm : (Sum.inl v : Key) ∈ l.map (fun p : Key × V => p.1)
      · rw [if_pos hm, if_pos (by rw [List.map_cons]; exact List.mem_cons_of_mem _ hm)]
      · rw [if_neg hm]
        obtain ⟨pk, pv⟩ := p
        cases pk with
        | inl u =>
          show put f0 u _ v = _
          unfold put
          by_cases hv : v = u
          · subst hv
            rw [if_pos rfl, if_pos (by rw [List.map_cons]; exact List.mem_cons_self ..)]
          · rw [if_neg hv, if_neg (by
              rw [List.map_cons, List.mem_cons]
              rintro (h | h)
              · cases h; exact hv rfl
              · exact hm h)]
        | inr s =>
          rw [if_neg (by
            rw [List.map_cons, List.mem_cons]
            rintro (h | h)
            · cases h
            · exact hm h)]
  exact gen l (ini root)
theorem way_lates {kvs : List (Key × V)} (up : rs.Pairwise R4.lt) (hok : ∀ r ∈ rs, RoadOk n r) (I : IInv n rs root f) (C : Closed rs f) (hD : DI kvs (wayF f rs)) : latF rs root (wayF f rs) kvs.length kvs = f := by
  funext v
  rw [latF_val]
  by_cases hk : (Sum.inl v : Key) ∈ kvs.map (·.1)
  · rw [if_pos hk]
    have := (way_dom hok I C v).mp ((hD.mem v).mp hk)
    obtain ⟨b, e⟩ := Option.isSome_iff_exists.mp this.2
    rw [e, way_late up hok I C hD e]
  · rw [if_neg hk]
    have hn : ¬ (wayF f rs v).isSome = true := fun z => hk ((hD.mem v).mpr z)
    unfold ini put
    by_cases hv : v = root
    · rw [if_pos hv, hv, I.rt0]
    · rw [if_neg hv]
      cases e : f v with
      | none => rfl
      | some b => exact absurd ((way_dom hok I C v).mpr ⟨hv, by rw [e]; rfl⟩) hn
end
theorem strict_ext : ∀ {a b : List Int}, a.Pairwise (· < ·) → b.Pairwise (· < ·) → (∀ x, x ∈ a ↔ x ∈ b) → a = b
  | [], [], _, _, _ => rfl
  | [], y :: b, _, _, h => by have := (h y).mpr (List.mem_cons_self ..); cases this
  | x :: a, [], _, _, h => by have := (h x).mp (List.mem_cons_self ..); cases this
  | x :: a, y :: b, ha, hb, h => by
    have ha' := List.pairwise_cons.mp ha
    have hb' := List.pairwise_cons.mp hb
    have exy : x = y := by
      rcases List.mem_cons.mp ((h x).mp (List.mem_cons_self ..)) with e | e
      · exact e
      · rcases List.mem_cons.mp ((h y).mpr (List.mem_cons_self ..)) with e' | e'
        · exact e'.symm
        · have := hb'.1 x e
          have := ha'.1 y e'
          omega
    subst exy
    congr 1
    refine strict_ext ha'.2 hb'.2 fun z => ?_
    constructor
    · intro hz
      rcases List.mem_cons.mp ((h z).mp (List.mem_cons_of_mem _ hz)) with e | e
      · subst e; exact absurd (ha'.1 _ hz) (Int.lt_irrefl _)
      · exact e
    · intro hz
      rcases List.mem_cons.mp ((h z).mpr (List.mem_cons_of_mem _ hz)) with e | e
      · subst e; exact absurd (hb'.1 _ hz) (Int.lt_irrefl _)
      · exact e
section
variable {P : Program} {w : World} {K : PySem.W.Frag} {mg : Str → Option Value} {base : Heap}
def spWays (K : PySem.W.Frag) (Pn Pr : Addr) : Sp := fun vs H Q _ => ∃ (a : Addr) (n : Int) (rs : List R4) (root : Int), vs = [.ref a, .int root] ∧ NetAt K H a n rs ∧ Good n rs ∧ rs.length ≤ 156 ∧ 0 ≤ root ∧ root < n ∧ TabG H Pn ∧ TabG H Pr ∧
  ∀ (p : Addr) (kvs : List (Key × V)) (H' : Hp), K0 H H' → H p = none → H' p = some (.dK kvs) → DI kvs (wayF (due n rs root) rs) → kvs.length ≤ 12 → Q (.ref p) H'
theorem ok_ways {f Pn Pr : Addr} {fd : FuncData} {f_early : Addr} {fd_early : FuncData} (F : Fun K "ways" "ways" sWays f fd)
    (k_early : PySem.W.keepIn K (.ref f_early) = true) (b_early : Binds K fd_early ["net", "root"] []) (g_early : mg "earliest" = some (.ref f_early)) (G_early : FnOk P w K mg base CX0 7 f_early fd_early ["net", "root"] (spEarly K Pn Pr)) : FnOk P w K mg base CX0 8 f fd ["net", "root"] (spWays K Pn Pr) := by
  refine F.ok scWays (fun vs H Q E h => ?_) (fun cdv A outer s H vs Q E hr h => ?_)
  · obtain ⟨a, n, rs, root, rfl, _⟩ := h
    rfl
  · obtain ⟨a, n, rs, root, rfl, hN, G, hl, r0, r1, tn, tr, q⟩ := h
    have hu := hu_of hr
    have I := due_inv (root := root) G.ok r0 r1
    have C := due_closed (root := root) G.ok r0 r1
    refine ⟨_, (pss_cons (ps_set (i := 2) scWays.nd rfl (.inl rfl) (pe_call G_early (hr.mono (by decide)) (by rfl) g_early k_early b_early .nil pass0 (pa_cons (pv 0) (pa_cons (pv 1) pa_nil))))
      (pss_cons (ps_set (i := 3) scWays.nd rfl (.inl rfl) pe_dnewK)
      (pss_cons (ps_for PassesOwn.never rfl (pi_tup (pe_ix ix_tup (pv 0) pe_int (fun _ _ => rfl))) (pg_tup rfl (pgs_cons (pg_name (i := 4) scWays.nd rfl (.inl rfl)) (pgs_cons (pg_name (i := 5) scWays.nd rfl (.inl rfl)) (pgs_cons (pg_name (i := 6) scWays.nd rfl (.inl rfl)) (pgs_cons (pg_name (i := 7) scWays.nd rfl (.inl rfl)) pgs_nil)))))
      (pss_one (ps_if (PW.pt (pw_and (pt_cmp (pc_din hu (pv 4) (pv 2))) (pw_and1 (pt_cmpR op_eq (pe_op op_add (pe_dget hu (pv 2) (pv 4) (fun _ _ => rfl)) (pv 7)) (pe_dget hu (pv 2) (pv 5) (fun _ _ => rfl)) (nomark _))))) (pss_one (ps_dput hu (pv 3) (pv 5) (pv 4) rfl)) pss_nil)))
      (pss_one (ps_ret (pv 3)))))), ?_⟩
    refine ⟨_, rfl, _, rfl, a, n, rs, root, rfl, hN, G, hl, r0, r1, tn, tr, fun p kvs H1 k1 np hp hD hkl => ?_⟩
    refine fun t nt => ?_
    have k2 := k1.mut (p := t) (o := .dK []) (k1.dom t nt)
    have nHt := k1.dom t nt
    have hpt : p ≠ t := ne_of_none hp nt
    have d0 : DI [] (wayF (due n rs root) []) := ⟨List.nodup_nil, fun p hp => (by cases hp), fun i => rfl⟩
    have hN2 := hN.k0 k2
    obtain ⟨r, xs, o, h1, h2, hc, hd, h3⟩ := hN2
    have hxs : SqT K (upd H1 t (.dK [])) r xs := h2
    have hp2 : upd H1 t (.dK []) p = some (.dK kvs) := by rw [upd_ne hpt]; exact hp
    have ht2 : upd H1 t (.dK []) t = some (.dK []) := upd_same
    generalize upd H1 t (.dK []) = H2 at k2 h1 h2 h3 hxs hp2 ht2
    have small : ∀ {ls : List (Key × V)} {j : Nat}, DI ls (wayF (due n rs root) (rs.take j)) → ls.length ≤ 12 := fun {ls j} h => h.small fun v x e => by
      obtain ⟨r', hr', e1, e2, ht⟩ := (wayF_some _).1 v x e
      have ok := G.ok r' (List.mem_of_mem_take hr')
      have := ok.e0
      have := ok.e1
      have := G.n2
      subst e1
      omega
    refine ⟨_, rfl, a, _, 1, .ref r, rfl, rfl, h1, atI_nat (j := 1) rfl, r, rfl, ⟨xs, hxs⟩, for_tup (xs := xs) (fun j σ' H' => ∃ y4 y5 y6 y7, σ' = [some (.ref a), some (.int root), some (.ref p), some (.ref t), y4, y5, y6, y7] ∧ Kt t H2 H' ∧ ∃ ls, H' t = some (.dK ls) ∧ DI ls (wayF (due n rs root) (rs.take j)))
      ⟨none, none, none, none, rfl, Kt.refl _ _, [], ht2, by rw [List.take_zero]; exact d0⟩ (fun j σ' H' _ h => ?_) (fun j x σ' H' hx h => ?_) (fun σ' H' h => ?_)⟩
    · obtain ⟨_, _, _, _, _, k, _⟩ := h
      exact k.sqT hxs
    · obtain ⟨y4, y5, y6, y7, rfl, k3, ls, hls, hDI⟩ := h
      obtain ⟨rd, q1, hrd, rfl, hs⟩ := road_at h3 hx
      have hm := List.mem_of_getElem? hrd
      have hp3 : H' p = some (.dK kvs) := k3.oth p _ hp2 hpt (fun _ z => by cases z)
      have ds := dgetR (.inl hp3) hD rd.s
      refine ⟨q1, _, rfl, k3.sqT hs, rfl, _, _, rfl, _, _, rfl, _, _, rfl, _, _, rfl, rfl, ?_⟩
      refine ⟨_, rfl, _, rfl, p, _, rfl, ds, _, rfl, ?_⟩
      rw [wayF_take hrd]
      cases es : due n rs root rd.s with
      | none =>
        rw [show tight (due n rs root) rd = false by unfold tight; rw [es]]
        exact iteF (iteF ⟨_, _, _, _, rfl, k3, ls, hls, by rw [if_neg (by decide)]; exact hDI⟩)
      | some b =>
        rw [es] at ds
        obtain ⟨c, ec, hcb⟩ := C rd hm b es
        have de := dgetR (.inl hp3) hD rd.e
        rw [ec] at de
        refine iteT ⟨_, rfl, _, rfl, p, _, rfl, ds, _, rfl, _, _, rfl, rfl, _, rfl, _, rfl, p, _, rfl, de, rfl, _, rfl, ?_⟩
        by_cases hb : b + rd.l = c
        · rw [decide_eq_true (show V.int (b + rd.l) = V.int c by rw [hb])]
          rw [show tight (due n rs root) rd = true from tight_iff.mpr ⟨b, es, by rw [ec, hb]⟩]
          refine iteT ⟨_, rfl, _, rfl, _, rfl, t, _, rfl, DPut.k (k := Sum.inl rd.e) hls (Nat.lt_of_le_of_lt (m := 5000) (Nat.le_trans (small hDI) (by decide)) (by decide)), ?_⟩
          exact ⟨_, _, _, _, rfl, k3.setD hls, _, upd_same, by rw [if_pos rfl]; exact hDI.put _ _⟩
        · rw [decide_eq_false (show ¬ V.int (b + rd.l) = V.int c from fun z => hb (V.int.inj z))]
          rw [show tight (due n rs root) rd = false by
            rw [Bool.eq_false_iff]
            intro z
            obtain ⟨b', e1, e2⟩ := tight_iff.mp z
            rw [es] at e1
            cases e1
            rw [ec] at e2
            exact hb (Option.some.inj e2).symm]
          exact iteF ⟨_, _, _, _, rfl, k3, ls, hls, by rw [if_neg (by decide)]; exact hDI⟩
    · obtain ⟨y4, y5, y6, y7, rfl, k3, ls, hls, hDI⟩ := h
      rw [h3.len, List.take_of_length_le (Nat.le_refl _)] at hDI
      refine ⟨_, rfl, q t ls _ ?_ nHt hls hDI ?_⟩
      · exact ⟨fun b o e m => k3.oth b o (k2.oth b o e m) (ne_of_none e nHt) m, fun P hP => k3.tab P (k2.tab P hP), fun b e => k2.dom b (k3.dom b e)⟩
      · refine small (j := rs.length) ?_
        rw [List.take_of_length_le (Nat.le_refl _)]
        exact hDI
end
end HK

set_option Elab.async false
set_option linter.all false
set_option maxRecDepth 100000
set_option maxHeartbeats 4000000
namespace HK
open PySem PySem.Spec PyProof.Rows L2 GAl GxR
/-! ### walks by roads, what they cost -/
inductive Wk (S : Int → Prop) (rs : List R4) : List Int → Int → Prop
  | src {v : Int} : S v → Wk S rs [v] 0
  | step {l : List Int} {x : Int} {r : R4} : Wk S rs (r.s :: l) x → r ∈ rs → Wk S rs (r.e :: r.s :: l) (x + r.c)
section
variable {n : Int} {rs : List R4} {S : Int → Prop}
theorem Wk.nonneg (hok : ∀ r ∈ rs, RoadOk n r) {l : List Int} {x : Int} (h : Wk S rs l x) : 0 ≤ x := by
  induction h with
  | src => exact Int.le_refl _
  | step _ hr ih => have := (hok _ hr).c0; omega
theorem Wk.range (hok : ∀ r ∈ rs, RoadOk n r) (hS : ∀ v, S v → 0 ≤ v ∧ v < n) {l : List Int} {x : Int} (h : Wk S rs l x) : ∀ v ∈ l, 0 ≤ v ∧ v < n := by
  induction h with
  | src hv => intro v h; rw [List.mem_singleton.mp h]; exact hS _ hv
  | step _ hr ih =>
    intro v h
    rcases List.mem_cons.mp h with rfl | h
    · exact ⟨(hok _ hr).e0, (hok _ hr).e1⟩
    · exact ih v h
theorem Wk.suffix (hok : ∀ r ∈ rs, RoadOk n r) {v : Int} {b : List Int} : ∀ (a : List Int) {x : Int}, Wk S rs (a ++ v :: b) x → ∃ y, y ≤ x ∧ Wk S rs (v :: b) y
  | [], x, h => ⟨x, Int.le_refl _, h⟩
  | u :: a, x, h => by
    generalize hl : (u :: a) ++ v :: b = l at h
    cases h with
    | src hs =>
      have := congrArg List.length hl
      simp at this
    | step h' hr =>
      have e : a ++ v :: b = _ := (List.cons.inj hl).2
      rw [← e] at h'
      obtain ⟨y, hy, hw⟩ := Wk.suffix hok a h'
      have := (hok _ hr).c0
      exact ⟨y, by omega, hw⟩
theorem Wk.simple (hok : ∀ r ∈ rs, RoadOk n r) {l : List Int} {x : Int} (h : Wk S rs l x) : ∀ {v : Int} {t : List Int}, l = v :: t → ∃ t' y, y ≤ x ∧ Wk S rs (v :: t') y ∧ (v :: t').Nodup := by
  induction h with
  | src hv =>
    intro v t e
    cases e
    exact ⟨[], 0, Int.le_refl _, .src hv, List.pairwise_singleton ..⟩
  | @step l x r h' hr ih =>
    intro v t e
    cases e
    obtain ⟨t', y, hy, hw, hn⟩ := ih rfl
    by_cases hm : r.e ∈ r.s :: t'
    · obtain ⟨a, b, hab⟩ := List.append_of_mem hm
      rw [hab] at hw hn
      obtain ⟨z, hz, hw'⟩ := Wk.suffix hok a hw
      have := (hok _ hr).c0
      exact ⟨b, z, by omega, hw', hn.sublist (List.sublist_append_right _ _)⟩
    · exact ⟨_, y + r.c, by omega, .step hw hr, List.nodup_cons.mpr ⟨hm, hn⟩⟩
theorem nodup_len {l : List Int} (nd : l.Nodup) (h : ∀ v ∈ l, 0 ≤ v ∧ v < n) : l.length ≤ n.toNat := by
  have := sub_len (ks := (List.range n.toNat).map fun (i : Nat) => (i : Int)) nd (List.pairwise_map.mpr (List.pairwise_lt_range.imp fun a z => by omega)) fun x hx => by
    obtain ⟨h0, h1⟩ := h x hx
    exact List.mem_map.mpr ⟨x.toNat, List.mem_range.mpr (by omega), by omega⟩
  simpa using this
/-- one road looked at -/
def rlxC (g : IF) (r : R4) : IF := match g r.s with
  | none => g
  | some a => match g r.e with
    | none => put g r.e (a + r.c)
    | some b => if a + r.c < b then put g r.e (a + r.c) else g
def rndC (l : List R4) (g : IF) : IF := l.foldl rlxC g
def Att (S : Int → Prop) (rs : List R4) (f : IF) : Prop := ∀ v b, f v = some b → ∃ l, Wk S rs (v :: l) b
def UpTo (S : Int → Prop) (rs : List R4) (k : Nat) (f : IF) : Prop := ∀ l v x, Wk S rs (v :: l) x → l.length ≤ k → ∃ b, f v = some b ∧ b ≤ x
def ClosedC (rs : List R4) (f : IF) : Prop := ∀ r ∈ rs, ∀ a, f r.s = some a → ∃ b, f r.e = some b ∧ b ≤ a + r.c
theorem put_same {g : IF} {v x : Int} : put g v x v = some x := if_pos rfl
theorem put_ne {g : IF} {v x u : Int} (h : u ≠ v) : put g v x u = g u := if_neg h
theorem rlxC_le (g : IF) (r : R4) : Le (rlxC g r) g := fun v b e => by
  unfold rlxC
  cases es : g r.s with
  | none => exact ⟨b, e, Int.le_refl _⟩
  | some a =>
    cases ee : g r.e with
    | none =>
      by_cases hv : v = r.e
      · rw [hv, ee] at e; cases e
      · exact ⟨b, (put_ne hv).trans e, Int.le_refl _⟩
    | some c =>
      show ∃ b', (if a + r.c < c then put g r.e (a + r.c) else g) v = some b' ∧ b' ≤ b
      by_cases h : a + r.c < c
      · rw [if_pos h]
        by_cases hv : v = r.e
        · subst hv
          rw [ee] at e
          cases e
          exact ⟨_, put_same, by omega⟩
        · exact ⟨b, (put_ne hv).trans e, Int.le_refl _⟩
      · rw [if_neg h]
        exact ⟨b, e, Int.le_refl _⟩
theorem rlxC_att {g : IF} {r : R4} (hr : r ∈ rs) (h : Att S rs g) : Att S rs (rlxC g r) := by
  have hput : ∀ a, g r.s = some a → Att S rs (put g r.e (a + r.c)) := fun a es v b e => by
    by_cases hv : v = r.e
    · subst hv
      rw [put_same] at e
      cases e
      obtain ⟨l, hl⟩ := h _ _ es
      exact ⟨_, .step hl hr⟩
    · rw [put_ne hv] at e
      exact h v b e
  unfold rlxC
  cases es : g r.s with
  | none => exact h
  | some a =>
    cases ee : g r.e with
    | none => exact hput a es
    | some c =>
      show Att S rs (if a + r.c < c then put g r.e (a + r.c) else g)
      by_cases hc : a + r.c < c
      · rw [if_pos hc]; exact hput a es
      · rw [if_neg hc]; exact h
theorem rlxC_end {g : IF} {r : R4} {a : Int} (hs : g r.s = some a) : ∃ b, rlxC g r r.e = some b ∧ b ≤ a + r.c := by
  unfold rlxC
  rw [hs]
  cases ee : g r.e with
  | none => exact ⟨_, put_same, Int.le_refl _⟩
  | some c =>
    show ∃ b, (if a + r.c < c then put g r.e (a + r.c) else g) r.e = some b ∧ b ≤ a + r.c
    by_cases hc : a + r.c < c
    · rw [if_pos hc]; exact ⟨_, put_same, Int.le_refl _⟩
    · rw [if_neg hc]; exact ⟨c, ee, by omega⟩
theorem rndC_le : ∀ (l : List R4) (g : IF), Le (rndC l g) g
  | [], g => Le.refl g
  | r :: l, g => (rndC_le l (rlxC g r)).trans (rlxC_le g r)
theorem rndC_att : ∀ (l : List R4) {g : IF}, (∀ r ∈ l, r ∈ rs) → Att S rs g → Att S rs (rndC l g)
  | [], _, _, h => h
  | r :: l, _, hl, h => rndC_att l (fun r' hr' => hl r' (List.mem_cons_of_mem _ hr')) (rlxC_att (hl r (List.mem_cons_self ..)) h)
theorem rndC_end {r : R4} : ∀ (l : List R4) {g : IF} {a : Int}, r ∈ l → g r.s = some a → ∃ b, rndC l g r.e = some b ∧ b ≤ a + r.c
  | r0 :: l, g, a, hm, hs => by
    rcases List.mem_cons.mp hm with rfl | hm
    · obtain ⟨b, e, hb⟩ := rlxC_end hs
      obtain ⟨b', e', hb'⟩ := rndC_le l (rlxC g r) _ _ e
      exact ⟨b', e', by omega⟩
    · obtain ⟨a', e, ha⟩ := rlxC_le g r0 _ _ hs
      obtain ⟨b, e', hb⟩ := rndC_end l hm e
      exact ⟨b, e', by omega⟩
theorem rndC_up {k : Nat} {g : IF} (h : UpTo S rs k g) : UpTo S rs (k + 1) (rndC rs g) := fun l v x hw hl => by
  cases hw with
  | src hv =>
    obtain ⟨b, e, hb⟩ := h [] v 0 (.src hv) (Nat.zero_le _)
    obtain ⟨b', e', hb'⟩ := rndC_le rs g _ _ e
    exact ⟨b', e', by omega⟩
  | @step l' x' r h' hr =>
    obtain ⟨a, e, ha⟩ := h l' r.s x' h' (by rw [List.length_cons] at hl; omega)
    obtain ⟨b, e', hb⟩ := rndC_end rs hr e
    exact ⟨b, e', by omega⟩
theorem iterC {f0 : IF} (ha : Att S rs f0) (h0 : ∀ v, S v → f0 v = some 0) : ∀ k, Att S rs (iter (rndC rs) k f0) ∧ UpTo S rs k (iter (rndC rs) k f0)
  | 0 => ⟨ha, fun l v x hw hl => by
    cases hw with
    | src hv => exact ⟨0, h0 v hv, Int.le_refl _⟩
    | step _ _ => exact absurd hl (by simp)⟩
  | k + 1 => by
    obtain ⟨a, u⟩ := iterC ha h0 k
    exact ⟨rndC_att rs (fun _ h => h) a, rndC_up u⟩
theorem closed_of (hok : ∀ r ∈ rs, RoadOk n r) (hS : ∀ v, S v → 0 ≤ v ∧ v < n) {f : IF} (ha : Att S rs f) (hu : UpTo S rs n.toNat f) : ClosedC rs f := fun r hr a e => by
  obtain ⟨l, hl⟩ := ha _ _ e
  obtain ⟨t, y, hy, hw, hn⟩ := (Wk.step hl hr).simple hok rfl
  have hlen := nodup_len hn (hw.range hok hS)
  rw [List.length_cons] at hlen
  obtain ⟨b, eb, hb⟩ := hu t r.e y hw (by omega)
  exact ⟨b, eb, by omega⟩
open Classical in
/-- noughts at some places -/
noncomputable def zeroF (S : Int → Prop) : IF := fun v => if S v then some 0 else none
theorem zeroF_put {S : Int → Prop} {v : Int} : put (zeroF S) v 0 = zeroF (fun u => S u ∨ u = v) := by
  funext u
  unfold put zeroF
  by_cases h : u = v
  · rw [if_pos h, if_pos (Or.inr h)]
  · rw [if_neg h]
    by_cases hs : S u
    · rw [if_pos hs, if_pos (Or.inl hs)]
    · rw [if_neg hs, if_neg (fun z => z.elim hs h)]
theorem zeroF_congr {S T : Int → Prop} (h : ∀ v, S v ↔ T v) : zeroF S = zeroF T := by
  funext v
  unfold zeroF
  by_cases hs : S v
  · rw [if_pos hs, if_pos ((h v).mp hs)]
  · rw [if_neg hs, if_neg (fun z => hs ((h v).mpr z))]
theorem zeroF_some {S : Int → Prop} {v b : Int} : zeroF S v = some b ↔ S v ∧ b = 0 := by
  unfold zeroF
  by_cases hs : S v
  · rw [if_pos hs]; exact ⟨fun e => ⟨hs, (Option.some.inj e).symm⟩, fun e => by rw [e.2]⟩
  · rw [if_neg hs]; exact ⟨fun e => (by cases e), fun e => absurd e.1 hs⟩
def InT (root : Int) (g : IF) (v : Int) : Prop := v = root ∨ (g v).isSome = true
noncomputable def cheapF (n : Int) (rs : List R4) (root : Int) (g : IF) : IF := iter (rndC rs) n.toNat (zeroF (InT root g))
/-- what the numbers of a graft are -/
def PricesP (n : Int) (rs : List R4) (root : Int) (g f : IF) : Prop := (∀ v x, f v = some x → 0 ≤ v ∧ v < n ∧ 0 ≤ x) ∧ (∀ v, InT root g v → f v = some 0) ∧ ClosedC rs f
theorem cheap_ok {root : Int} {g : IF} (hok : ∀ r ∈ rs, RoadOk n r) (hS : ∀ v, InT root g v → 0 ≤ v ∧ v < n) : PricesP n rs root g (cheapF n rs root g) := by
  have h0 : Att (InT root g) rs (zeroF (InT root g)) := fun v b e => by
    obtain ⟨h1, h2⟩ := zeroF_some.mp e
    subst h2
    exact ⟨[], .src h1⟩
  obtain ⟨a, u⟩ := iterC h0 (fun v hv => zeroF_some.mpr ⟨hv, rfl⟩) n.toNat
  refine ⟨fun v x e => ?_, fun v hv => ?_, closed_of hok hS a u⟩
  · obtain ⟨l, hl⟩ := a v x e
    have := hl.range hok hS v (List.mem_cons_self ..)
    exact ⟨this.1, this.2, hl.nonneg hok⟩
  · obtain ⟨b, e, hb⟩ := u [] v 0 (.src hv) (Nat.zero_le _)
    obtain ⟨l, hl⟩ := a v b e
    have := hl.nonneg hok
    have hb0 : b = 0 := by omega
    subst hb0
    exact e
end
end HK

set_option Elab.async false
set_option linter.all false
set_option maxRecDepth 100000
set_option maxHeartbeats 4000000
namespace HK
open PySem PySem.Spec PyProof.Rows L2 GAl GxR
/-! ### the ways out of a tree, as they are lessened -/
section
variable {n : Int} {rs : List R4} {S : Int → Prop}
theorem putK_new {kvs : List (Key × V)} {f : IF} (h : DI kvs f) {v : Int} {x : V} (e : f v = none) : (putK kvs (Sum.inl v) x).length = kvs.length + 1 := by
  unfold putK
  rw [valV_any, h.val, e]
  simp
theorem putK_old {kvs : List (Key × V)} {f : IF} (h : DI kvs f) {v y : Int} {x : V} (e : f v = some y) : (putK kvs (Sum.inl v) x).length = kvs.length := by
  unfold putK
  rw [valV_any, h.val, e]
  simp
theorem DI.few {kvs : List (Key × V)} {f : IF} (h : DI kvs f) (hr : ∀ v x, f v = some x → 0 ≤ v ∧ v < n) : kvs.length ≤ n.toNat := by
  obtain ⟨ks, eks, ksn, ksm⟩ := h.ints
  have : ks.length = kvs.length := by
    have := congrArg List.length eks
    rw [List.length_map, List.length_map] at this
    exact this.symm
  rw [← this]
  exact nodup_len ksn fun v hv => by
    obtain ⟨x, e⟩ := Option.isSome_iff_exists.mp ((ksm v).mp hv)
    exact hr v x e
/-- the way back to the tree -/
inductive Back (p : IF) (S : Int → Prop) : Int → List Int → Prop
  | here {v : Int} : S v → Back p S v []
  | up {v u : Int} {l : List Int} : p v = some u → Back p S u l → Back p S v (v :: l)
/-- numbers and ways back, while they are lessened -/
structure Lsn (n : Int) (rs : List R4) (S : Int → Prop) (f p : IF) (k : Nat) : Prop where
  att : Att S rs f
  zero : ∀ v, S v → f v = some 0
  top : ∀ v x, f v = some x → x ≤ 1000 * (k : Int)
  off : ∀ v u, p v = some u → ¬ S v
  way : ∀ v u, p v = some u → ∃ r ∈ rs, r.s = u ∧ r.e = v ∧ ∃ x y, f u = some x ∧ f v = some y ∧ x + r.c ≤ y
  back : ∀ v x, f v = some x → ∃ l, Back p S v l
theorem Lsn.le {f p : IF} {k : Nat} (h : Lsn n rs S f p k) (hok : ∀ r ∈ rs, RoadOk n r) {v u x : Int} (e : p v = some u) (ev : f v = some x) : ∃ y, f u = some y ∧ y ≤ x := by
  obtain ⟨r, hr, _, _, a, b, h1, h2, h3⟩ := h.way v u e
  rw [ev] at h2
  cases h2
  have := (hok r hr).c0
  exact ⟨a, h1, by omega⟩
theorem Lsn.same {f p : IF} {k : Nat} (h : Lsn n rs S f p k) (hok : ∀ r ∈ rs, RoadOk n r) {e s : Int} {v : Int} {l : List Int} (b : Back p S v l) : ∀ {x}, f v = some x → (∀ b, f e = some b → x < b) → Back (put p e s) S v l := by
  induction b with
  | here hv => intros; exact .here hv
  | @up v u l ep _ ih =>
    intro x ev hlt
    obtain ⟨y, eu, hy⟩ := h.le hok ep ev
    have hne : v ≠ e := fun z => by
      subst z
      have := hlt x ev
      omega
    exact .up (by rw [put_ne hne]; exact ep) (ih eu fun b hb => by have := hlt b hb; omega)
theorem Lsn.step {f p : IF} {k k' : Nat} (h : Lsn n rs S f p k) (hok : ∀ r ∈ rs, RoadOk n r) {r : R4} (hr : r ∈ rs) {x : Int} (es : f r.s = some x) (hlt : ∀ b, f r.e = some b → x + r.c < b) (hk : k ≤ k') (hk' : f r.e = none → k' = k + 1) : Lsn n rs S (put f r.e (x + r.c)) (put p r.e r.s) k' := by
  have c0 := (hok r hr).c0
  have c1 := (hok r hr).c1
  have hne : r.s ≠ r.e := (hok r hr).ne
  have hx : x ≤ 1000 * (k : Int) := h.top _ _ es
  have hx0 : 0 ≤ x := by
    obtain ⟨l, hl⟩ := h.att _ _ es
    exact hl.nonneg hok
  have nS : ¬ S r.e := fun z => by
    have := hlt 0 (h.zero _ z)
    omega
  refine ⟨?_, fun v hv => ?_, fun v y e => ?_, fun v u e => ?_, fun v u e => ?_, fun v y e => ?_⟩
  · intro v b e
    by_cases hv : v = r.e
    · subst hv
      rw [put_same] at e
      cases e
      obtain ⟨l, hl⟩ := h.att _ _ es
      exact ⟨_, .step hl hr⟩
    · rw [put_ne hv] at e
      exact h.att v b e
  · rw [put_ne (u := v) (v := r.e) (fun z => nS (by rw [← z]; exact hv))]
    exact h.zero v hv
  · by_cases hv : v = r.e
    · subst hv
      rw [put_same] at e
      cases e
      cases ee : f r.e with
      | none => have := hk' ee; omega
      | some b =>
        have h1 := hlt b ee
        have h2 := h.top _ _ ee
        omega
    · rw [put_ne hv] at e
      have := h.top v y e
      omega
  · by_cases hv : v = r.e
    · rw [hv]; exact nS
    · rw [put_ne hv] at e
      exact h.off v u e
  · by_cases hv : v = r.e
    · subst hv
      rw [put_same] at e
      cases e
      exact ⟨r, hr, rfl, rfl, x, x + r.c, by rw [put_ne hne]; exact es, put_same, Int.le_refl _⟩
    · rw [put_ne hv] at e
      obtain ⟨r', hr', e1, e2, a, b, h1, h2, h3⟩ := h.way v u e
      by_cases hu : u = r.e
      · refine ⟨r', hr', e1, e2, x + r.c, b, by rw [hu]; exact put_same, by rw [put_ne hv]; exact h2, ?_⟩
        have := hlt a (by rw [← hu]; exact h1)
        omega
      · exact ⟨r', hr', e1, e2, a, b, by rw [put_ne hu]; exact h1, by rw [put_ne hv]; exact h2, h3⟩
  · -- ways back
    obtain ⟨ls, hls⟩ := h.back _ _ es
    have bs : Back (put p r.e r.s) S r.s ls := h.same hok hls es fun b hb => by have := hlt b hb; omega
    have be : Back (put p r.e r.s) S r.e (r.e :: ls) := .up put_same bs
    have all : ∀ {v l}, Back p S v l → ∃ l', Back (put p r.e r.s) S v l' := fun {v l} b => by
      induction b with
      | here hv => exact ⟨[], .here hv⟩
      | @up v u l ep _ ih =>
        by_cases hv : v = r.e
        · rw [hv]; exact ⟨_, be⟩
        · obtain ⟨l', hl'⟩ := ih
          exact ⟨_, .up (by rw [put_ne hv]; exact ep) hl'⟩
    by_cases hv : v = r.e
    · rw [hv]; exact ⟨_, be⟩
    · rw [put_ne hv] at e
      obtain ⟨l, hl⟩ := h.back v y e
      exact all hl
/-- what is left to lessen -/
def vlu (f : IF) (v : Int) : Nat := match f v with
  | none => 20000
  | some x => x.toNat
def msr (f : IF) : Nat → Nat
  | 0 => 0
  | k + 1 => msr f k + vlu f k
theorem msr_far {f : IF} {e x : Int} : ∀ k : Nat, (k : Int) ≤ e → msr (put f e x) k = msr f k
  | 0, _ => rfl
  | k + 1, h => by
    show msr (put f e x) k + vlu (put f e x) k = msr f k + vlu f k
    rw [msr_far k (by omega)]
    unfold vlu
    rw [put_ne (by omega)]
theorem msr_lt {f : IF} {e x : Int} (e0 : 0 ≤ e) (h : x.toNat < vlu f e) : ∀ k : Nat, e < k → msr (put f e x) k < msr f k
  | 0, z => by omega
  | k + 1, z => by
    show msr (put f e x) k + vlu (put f e x) k < msr f k + vlu f k
    by_cases hk : e = k
    · rw [msr_far k (by omega), ← hk]
      have : vlu (put f e x) e = x.toNat := by unfold vlu; rw [put_same]
      omega
    · have := msr_lt e0 h k (by omega)
      have e2 : vlu (put f e x) k = vlu f k := by unfold vlu; rw [put_ne (by omega)]
      omega
/-- what holds numbers that no road undercuts any more -/
theorem closed_le {f : IF} (hz : ∀ v, S v → f v = some 0) (hc : ClosedC rs f) {l : List Int} {x : Int} (h : Wk S rs l x) : ∀ {v t}, l = v :: t → ∃ b, f v = some b ∧ b ≤ x := by
  induction h with
  | src hv =>
    intro v t e
    cases e
    exact ⟨0, hz _ hv, Int.le_refl _⟩
  | @step l x r h' hr ih =>
    intro v t e
    cases e
    obtain ⟨a, ea, ha⟩ := ih rfl
    obtain ⟨b, eb, hb⟩ := hc r hr a ea
    exact ⟨b, eb, by omega⟩
theorem least_eq {f f' : IF} (ha : Att S rs f) (ha' : Att S rs f') (hz : ∀ v, S v → f v = some 0) (hz' : ∀ v, S v → f' v = some 0) (hc : ClosedC rs f) (hc' : ClosedC rs f') : f = f' := by
  funext v
  cases e : f v with
  | none =>
    cases e' : f' v with
    | none => rfl
    | some b =>
      obtain ⟨l, hl⟩ := ha' v b e'
      obtain ⟨c, ec, _⟩ := closed_le hz hc hl rfl
      rw [e] at ec
      cases ec
  | some a =>
    obtain ⟨l, hl⟩ := ha v a e
    obtain ⟨b, eb, hb⟩ := closed_le hz' hc' hl rfl
    obtain ⟨l', hl'⟩ := ha' v b eb
    obtain ⟨c, ec, hcc⟩ := closed_le hz hc hl' rfl
    rw [e] at ec
    cases ec
    rw [eb]
    have : a = b := by omega
    rw [this]
theorem cheap_att {root : Int} {g : IF} : Att (InT root g) rs (cheapF n rs root g) := by
  have h0 : Att (InT root g) rs (zeroF (InT root g)) := fun v b e => by
    obtain ⟨h1, h2⟩ := zeroF_some.mp e
    subst h2
    exact ⟨[], .src h1⟩
  exact (iterC h0 (fun v hv => zeroF_some.mpr ⟨hv, rfl⟩) n.toNat).1
/-! the way back, without a place twice -/
theorem Back.uniq {p : IF} (off : ∀ v u, p v = some u → ¬ S v) {v : Int} {l : List Int} (h : Back p S v l) : ∀ {l'}, Back p S v l' → l = l' := by
  induction h with
  | here hv =>
    intro l' h'
    cases h' with
    | here _ => rfl
    | up e _ => exact absurd hv (off _ _ e)
  | up e _ ih =>
    intro l' h'
    cases h' with
    | here hv => exact absurd hv (off _ _ e)
    | up e' h'' =>
      rw [e] at e'
      cases e'
      rw [ih h'']
theorem Back.at_ {p : IF} {v : Int} {l : List Int} (h : Back p S v l) : ∀ u ∈ l, ∃ t, Back p S u (u :: t) ∧ t.length < l.length := by
  induction h with
  | here => intro u hu; cases hu
  | @up v w l e h' ih =>
    intro u hu
    rcases List.mem_cons.mp hu with rfl | hu
    · exact ⟨l, .up e h', by simp⟩
    · obtain ⟨t, ht, hl⟩ := ih u hu
      exact ⟨t, ht, by rw [List.length_cons]; omega⟩
theorem Back.nodup {p : IF} (off : ∀ v u, p v = some u → ¬ S v) {v : Int} {l : List Int} (h : Back p S v l) : l.Nodup := by
  induction h with
  | here => exact List.nodup_nil
  | @up v w l e h' ih =>
    refine List.nodup_cons.mpr ⟨fun hm => ?_, ih⟩
    obtain ⟨t, ht, hl⟩ := h'.at_ v hm
    have := Back.uniq off (Back.up e h') ht
    have := (List.cons.inj this).2
    rw [this] at hl
    omega
theorem Back.in_ {p : IF} {v : Int} {l : List Int} (h : Back p S v l) : ∀ u ∈ l, ∃ w, p u = some w := by
  induction h with
  | here => intro u hu; cases hu
  | @up v w l e h' ih =>
    intro u hu
    rcases List.mem_cons.mp hu with rfl | hu
    · exact ⟨w, e⟩
    · exact ih u hu
/-- a tree with a way put to it -/
def addF (p g : IF) (l : List Int) : IF := fun v => if v ∈ l then p v else g v
theorem addF_put {p g : IF} {l : List Int} {v u : Int} (e : p v = some u) : HK.put (addF p g l) v u = addF p g (l ++ [v]) := by
  funext w
  unfold HK.put addF
  by_cases h : w = v
  · subst h
    rw [if_pos rfl, if_pos (by simp), e]
  · rw [if_neg h]
    by_cases hl : w ∈ l
    · rw [if_pos hl, if_pos (by simp [hl])]
    · rw [if_neg hl, if_neg (by simp [hl, h])]
end
end HK

set_option Elab.async false
set_option linter.all false
set_option maxRecDepth 100000
set_option maxHeartbeats 4000000
namespace HK
open PySem PySem.Spec PyProof.Rows L2 GAl GxR
open Evl (pss_cut)
theorem und_iff {f : IF} {s e m : Int} : undB f s e m = true ↔ ∃ a, f s = some a ∧ ∀ b, f e = some b → a + m < b := by
  unfold undB
  cases es : f s with
  | none => exact ⟨fun z => (by cases z), fun ⟨a, h, _⟩ => by cases h⟩
  | some a =>
    cases ee : f e with
    | none => exact ⟨fun _ => ⟨a, rfl, fun b h => by cases h⟩, fun _ => rfl⟩
    | some b =>
      show decide _ = true ↔ _
      rw [decide_eq_true_iff]
      exact ⟨fun h => ⟨a, rfl, fun b' e => by cases e; exact h⟩, fun ⟨a', h1, h2⟩ => by cases h1; exact h2 b rfl⟩
theorem closedC_iff {rs : List R4} {f : IF} : ClosedC rs f ↔ ∀ r ∈ rs, undB f r.s r.e r.c = false := by
  constructor
  · intro h r hr
    rw [Bool.eq_false_iff]
    intro z
    obtain ⟨a, e, hb⟩ := und_iff.mp z
    obtain ⟨b, eb, hle⟩ := h r hr a e
    have := hb b eb
    omega
  · intro h r hr a e
    cases ee : f r.e with
    | none =>
      have := h r hr
      rw [Bool.eq_false_iff] at this
      exact absurd (und_iff.mpr ⟨a, e, fun b z => by rw [ee] at z; cases z⟩) this
    | some b =>
      refine ⟨b, rfl, ?_⟩
      refine Int.not_lt.mp fun hlt => ?_
      have := h r hr
      rw [Bool.eq_false_iff] at this
      exact this (und_iff.mpr ⟨a, e, fun b' z => by rw [ee] at z; cases z; exact hlt⟩)
end HK

set_option Elab.async false
set_option linter.all false
set_option maxRecDepth 100000
set_option maxHeartbeats 4000000
namespace HK
open PySem PySem.Spec PyProof.Rows L2 GAl GxR
open Evl (pss_cut)
theorem rndC_take {rs : List R4} {g : IF} {j : Nat} {r : R4} (h : rs[j]? = some r) : rndC (rs.take (j + 1)) g = rlxC (rndC (rs.take j) g) r := by
  unfold rndC
  rw [List.take_add_one, h, List.foldl_append]
  rfl
section
variable {P : Program} {w : World} {K : PySem.W.Frag} {mg : Str → Option Value} {base : Heap}
def spCheap (K : PySem.W.Frag) : Sp := fun vs H Q _ => ∃ (a : Addr) (n : Int) (rs : List R4) (root : Int) (d : Addr) (kvs : List (Key × V)) (g : IF), vs = [.ref a, .int root, .ref d] ∧ NetAt K H a n rs ∧ Good n rs ∧ rs.length ≤ 156 ∧ 0 ≤ root ∧ root < n ∧
  H d = some (.dK kvs) ∧ DI kvs g ∧ kvs.length ≤ 5000 ∧ ∀ (q : Addr) (ls : List (Key × V)) (H' : Hp), K0 H H' → H q = none → H' q = some (.dK ls) → DI ls (cheapF n rs root g) → ls.length ≤ 8000 → Q (.ref q) H'
end
end HK

set_option Elab.async false
set_option linter.all false
set_option maxRecDepth 100000
set_option maxHeartbeats 2000000
namespace HkL
open PySem PySem.Spec L2 PySem.W
section
variable {X : Cx}
/-- a name set by a comprehension of a dict, on one line -/
theorem ps_setDc {i : Nat} {y : Str} {py : Pos} {kx vx tg iter : Expr} {ifs : List Expr} {scope : Scope} {own : List (Str × Nat)} {pos spos : Pos} {wi : TI} {g : TG} {tt : TT} {tk tv : TE} (hc : X.calm = true) (hN : X.N.Nodup) (hy : X.N[i]? = some y) (hyl : X.env.scope.names.lookup y = some .local)
    (hsw : swapsWith (.DictComp kx vx [⟨tg, iter, ifs, 0⟩] scope pos) (some (.Name y py)) spos.line X.env = pure true) (hi : PI X tg iter wi) (ok : BlkOk X.N X.env.scope scope own)
    (hg : ∀ (s : Shared) (H : Hp) (C : Addr) (cl : List (Str × Addr)) (fp : List Addr), PG (X.blk s H scope (compEnvC scope cl C X.env) fp) tg g) (ht : ∀ (s : Shared) (H : Hp) (C : Addr) (cl : List (Str × Addr)) (fp : List Addr), PTs (X.blk s H scope (compEnvC scope cl C X.env) fp) ifs tt)
    (hk : ∀ (s : Shared) (H : Hp) (C : Addr) (cl : List (Str × Addr)) (fp : List Addr), PE (X.blk s H scope (compEnvC scope cl C X.env) fp) kx tk)
    (he : ∀ (s : Shared) (H : Hp) (C : Addr) (cl : List (Str × Addr)) (fp : List Addr), PE (X.blk s H scope (compEnvC scope cl C X.env) fp) vx tv) (hs : ∀ x, foldedSetIterable iter X.env x = pure x := by intro _; rfl) :
    PS X (.Assign [.Name y py] (.DictComp kx vx [⟨tg, iter, ifs, 0⟩] scope pos) spos) (tAsg (tDc wi g tt tk tv (own.map (·.2))) (gName i)) := by
  refine ⟨fun pins s σ H D I h => ?_⟩
  rw [exec_Assign_Name_used _ _ _ _ hsw]
  refine wpAny_bind (wpAny_standAt (wpAny_bind ?_))
  show wpAny _ X.A (do let _ ← comprehension (.DictComp kx vx [⟨tg, iter, ifs, 0⟩] scope pos) scope X.env (firstIterPos [⟨tg, iter, ifs, 0⟩] pos) newDict false (eval iter X.env) (some (assign (.Name y py) X.env))) _ _ s
  have h : tDc wi g tt tk tv (own.map (·.2)) σ H (fun x H1 => gName i x σ H1 D.nx) := h
  refine wpAny_bind (thn (dc_core (Qf := fun _ s' => SP X pins D .next s') hc hN I hi ok hg ht hk he hs h fun L C s' m H' I' q hn f => ?_) fun _ s' hq => wpAny_pure (wpAny_pure hq))
  show wpAny _ _ (assign (.Name y py) X.env (.ref L)) _ _ _
  refine wpAny_assign_Name (store_ok2 (v := V.ref L) I' hN hy (.inl hyl) rfl (fun s2 I2 ⟨a, sb, ha⟩ => ?_) (.inr hyl))
  obtain ⟨f0, f1, f2, f3, f4, f5⟩ := f
  have haC : C ≠ a := by
    rcases ha with z | z
    · rw [z]; exact f1
    · exact fun e => f4 y a z e.symm
  refine ⟨m, hn.sameBut sb haC, fun h3 sb3 => ?_⟩
  exact ⟨_, H', I2.turned (t' := s2.toks) (fun b o hb e => (sb3.2 b hb).trans e) f0 f1 f3 f4 f5, q⟩
theorem swd_true {kx vx : Expr} {gs : List Comprehension} {scope : Scope} {pos py : Pos} {y : Str} {l : Nat} {env : Env} (hk : env.scope.kind = .function) (hy : env.scope.names.lookup y = some .local) (hl : (py.line == pos.line) = true)
    (ha : (scope.names.any fun (n, k) => n == y && (k == .local || k == .cell)) = false) : swapsWith (.DictComp kx vx gs scope pos) (some (.Name y py)) l env = pure true := by
  have ky : env.kindOf y = some .local := hy
  have hb : env.blockKind = .function := by unfold Env.blockKind; rw [hk]; rfl
  unfold swapsWith
  simp only [hb, ky, ha, Expr.pos, hl]
  rfl
end
end HkL

set_option Elab.async false
set_option linter.all false
set_option maxRecDepth 100000
set_option maxHeartbeats 4000000
namespace HK
open PySem PySem.Spec PyProof.Rows L2 GAl GxR
open Evl (pss_cut)
abbrev sWft : Stmt := topS 51
abbrev N_scWft : List Str := ["net", "root", "ahead", "numbers", "before", "lessened", "start", "end", "cost", "late", "place"]
theorem scWft : FnScope N_scWft ["net", "root", "ahead"] (defScope sWft) := ⟨rfl, rfl, rfl, by decide +kernel, rfl, by decide +kernel, by decide +kernel⟩
abbrev sGraft : Stmt := topS 50
abbrev N_scGraft : List Str := ["net", "root", "ahead", "place", "numbers", "before", "grown", "at"]
theorem scGraft : FnScope N_scGraft ["net", "root", "ahead", "place"] (defScope sGraft) := ⟨rfl, rfl, rfl, by decide +kernel, rfl, by decide +kernel, by decide +kernel⟩
section
variable {P : Program} {w : World} {K : PySem.W.Frag} {mg : Str → Option Value} {base : Heap}
def spWft (K : PySem.W.Frag) : Sp := fun vs H Q _ => ∃ (a : Addr) (n : Int) (rs : List R4) (root : Int) (d : Addr) (kvs : List (Key × V)) (g : IF), vs = [.ref a, .int root, .ref d] ∧ NetAt K H a n rs ∧ Good n rs ∧ rs.length ≤ 156 ∧ (∀ v, InT root g v → 0 ≤ v ∧ v < n) ∧
  H d = some (.dK kvs) ∧ DI kvs g ∧ kvs.length ≤ 5000 ∧ ∀ (t q b : Addr) (ls bs : List (Key × V)) (f p : IF) (H' : Hp), K0 H H' → H q = none → H b = none → q ≠ b → H' t = some (.tup [.ref q, .ref b]) → H' q = some (.dK ls) → H' b = some (.dK bs) → DI ls f → DI bs p → Lsn n rs (InT root g) f p ls.length → ClosedC rs f → Q (.ref t) H'
theorem ok_wft {f : Addr} {fd : FuncData} {f_under : Addr} {fd_under : FuncData} (F : Fun K "ways_from_tree" "ways_from_tree" sWft f fd) (k_under : PySem.W.keepIn K (.ref f_under) = true) (b_under : Binds K fd_under ["numbers", "start", "end", "more"] []) (g_under : mg "undercuts" = some (.ref f_under)) (G_under : FnOk P w K mg base CX0 1 f_under fd_under ["numbers", "start", "end", "more"] (spUnder K)) : FnOk P w K mg base CX0 2 f fd ["net", "root", "ahead"] (spWft K) := by
  refine F.ok scWft (fun vs H Q E h => ?_) (fun cdv A outer s H vs Q E hr h => ?_)
  · obtain ⟨a, n, rs, root, d, kvs, g, rfl, _⟩ := h
    rfl
  · obtain ⟨a, n, rs, root, d, kvs, g, rfl, hN, G, hl, hIn, hd, hD, hkl, q⟩ := h
    have hu := hu_of hr
    have n1 := G.n1
    have n2 := G.n2
    refine ⟨_, (pss_cut (ps_lock (HkL.ps_setDc (i := 3) (own := [("place", 10)]) (g := (gName 10)) (tt := tYes) (tk := (tVar 10)) (tv := (tC (.int 0))) rfl scWft.nd rfl rfl (HkL.swd_true rfl rfl rfl rfl) (pi_keys (pv 2)) (blkOk_by (N := N_scWft) (sc := defScope sWft) (by decide +kernel)) (fun _ _ _ _ _ => (pg_name (i := 10) scWft.nd rfl (.inl rfl))) (fun _ _ _ _ _ => pts_nil) (fun _ _ _ _ _ => (pv 10)) (fun _ _ _ _ _ => pe_int)))
      (pss_cons (ps_dput hu (pv 3) (pv 1) pe_int rfl)
      (pss_cons (ps_set (i := 4) scWft.nd rfl (.inl rfl) pe_dnewK)
      (pss_cons (ps_set (i := 5) scWft.nd rfl (.inl rfl) pe_bl)
      (pss_cut (ps_while PassesOwn.never (pt_val (pv 5))
      (pss_cons (ps_set (i := 5) scWft.nd rfl (.inl rfl) pe_bl)
      (pss_one (ps_for PassesOwn.never rfl (pi_tup (pe_ix ix_tup (pv 0) pe_int (fun _ _ => rfl))) (pg_tup rfl (pgs_cons (pg_name (i := 6) scWft.nd rfl (.inl rfl)) (pgs_cons (pg_name (i := 7) scWft.nd rfl (.inl rfl)) (pgs_cons (pg_name (i := 8) scWft.nd rfl (.inl rfl)) (pgs_cons (pg_name (i := 9) scWft.nd rfl (.inl rfl)) pgs_nil)))))
      (pss_one (ps_if (pt_val (pe_call G_under (hr.mono (by decide)) (by rfl) g_under k_under b_under .nil pass0 (pa_cons (pv 3) (pa_cons (pv 6) (pa_cons (pv 7) (pa_cons (pv 8) pa_nil)))))) (pss_cons (ps_dput hu (pv 3) (pv 7) (pe_op op_add (pe_dget hu (pv 3) (pv 6) (fun _ _ => rfl)) (pv 8)) rfl)
      (pss_cons (ps_dput hu (pv 4) (pv 7) (pv 6) rfl)
      (pss_one (ps_set (i := 5) scWft.nd rfl (.inl rfl) pe_bl)))) pss_nil))))))
      (pss_one (ps_ret (pe_tup (pa_cons (pv 3) (pa_cons (pv 4) pa_nil)))))))))), ?_⟩
    have hok := G.ok
    refine ⟨fun σ' H' => ∃ q1 ls, σ' = [some (.ref a), some (.int root), some (.ref d), some (.ref q1), none, none, none, none, none, none, none] ∧ K0 H H' ∧ H q1 = none ∧ H' q1 = some (.dK ls) ∧ DI ls (zeroF (fun u => (g u).isSome = true)) ∧ ls.length ≤ kvs.length, ?_, ?_⟩
    · refine ⟨d, _, hd, trivial, fun od => ⟨_, rfl, d, od, rfl, .inl ⟨kvs, upd_same, fun D nD => ?_⟩⟩⟩
      have nHD : H D = none := by
        by_cases e : D = d
        · rw [e, upd_same] at nD; cases nD
        · rwa [upd_ne e] at nD
      have hDd : D ≠ d := fun z => by rw [z, hd] at nHD; cases nHD
      refine ⟨fun i m H' => i + m = kvs.length ∧ K0 (upd H d (.frz od (.dK kvs))) H' ∧ ∃ ls, H' D = some (.dK ls) ∧ DI ls (zeroF (fun u => (Sum.inl u : Key) ∈ (kvs.take i).map (·.1))) ∧ ls.length ≤ i, ⟨kvs.length, by omega, K0.new nD, [], upd_same, ?_, Nat.le_refl _⟩, fun i m H' hW => ?_⟩
      · refine ⟨List.nodup_nil, fun p hp => (by cases hp), fun i => ?_⟩
        rw [List.take_zero]
        unfold zeroF
        simp
        rfl
      · obtain ⟨em, k1, ls, hls, hDI, hll⟩ := hW
        have hd1 : H' d = some (.frz od (.dK kvs)) := k1.oth d _ upd_same (fun _ z => by cases z)
        by_cases hi : i < kvs.length
        · refine .inr ⟨⟨hd1, hi⟩, fun H2 => K0 (upd H d (.frz od (.dK kvs))) H2 ∧ ∃ ls, H2 D = some (.dK ls) ∧ DI ls (zeroF (fun u => (Sum.inl u : Key) ∈ (kvs.take (i + 1)).map (·.1))) ∧ ls.length ≤ i + 1, fun H2 h2 => ⟨m - 1, by omega, by omega, h2⟩, fun x H2 y => ?_⟩
          obtain ⟨rfl, k, v, hkv, rfl⟩ := y
          obtain ⟨j, z, e, e2⟩ := hD.at_ (List.mem_of_getElem? hkv)
          cases e
          refine ⟨rfl, tyes ⟨_, rfl, ls, Sum.inl j, rfl, hls, Nat.lt_of_le_of_lt (m := 6000) (by omega) (by decide), k1.mut nD, _, upd_same, ?_, Nat.le_trans (length_putK _ _ _) (by omega)⟩⟩
          have := hDI.put j 0
          rw [zeroF_put] at this
          rw [zeroF_congr (T := fun u => (Sum.inl u : Key) ∈ (kvs.take i).map (·.1) ∨ u = j)]
          · exact this
          · intro u
            rw [List.take_add_one, hkv, List.map_append, List.mem_append]
            constructor
            · rintro (h | h)
              · exact .inl h
              · exact .inr (by have := List.mem_singleton.mp h; cases this; rfl)
            · rintro (h | h)
              · exact .inl h
              · exact .inr (List.mem_singleton.mpr (by rw [h]))
        · rw [List.take_of_length_le (by omega)] at hDI
          refine .inl ⟨⟨hd1, by omega⟩, hd1, D, ls, rfl, K0.lock hd (fun _ z => by cases z) k1, nHD, by rw [upd_ne hDd]; exact hls, ?_, by omega⟩
          rw [zeroF_congr (T := fun u => (Sum.inl u : Key) ∈ kvs.map (·.1))]
          · exact hDI
          · intro u
            rw [hD.mem]
    rintro σ' H1 ⟨q1, ls1, rfl, k1, nq1, hq1, hD1, hl1⟩
    refine ⟨_, rfl, _, rfl, q1, _, rfl, DPut.k (k := Sum.inl root) hq1 (Nat.lt_of_le_of_lt (m := 6000) (by omega) (by decide)), ?_⟩
    have k2 := k1.mut (o := .dK (putK ls1 (Sum.inl root) (.int 0))) nq1
    have hD2 : DI (putK ls1 (Sum.inl root) (.int 0)) (zeroF (InT root g)) := by
      have := hD1.put root 0
      rw [zeroF_put] at this
      rw [zeroF_congr (T := fun u => (g u).isSome = true ∨ u = root)]
      · exact this
      · exact fun u => ⟨fun z => z.elim .inr .inl, fun z => z.elim .inr .inl⟩
    have hq2 : upd H1 q1 (.dK (putK ls1 (Sum.inl root) (.int 0))) q1 = some (.dK (putK ls1 (Sum.inl root) (.int 0))) := upd_same
    generalize putK ls1 (Sum.inl root) (.int 0) = ls2 at k2 hD2 hq2
    generalize upd H1 q1 (.dK ls2) = H2 at k2 hq2
    refine fun b nb => ?_
    have nHb := k2.dom b nb
    have hqb : q1 ≠ b := fun z => by rw [← z, hq2] at nb; cases nb
    have k3 := k2.mut (o := .dK []) nHb
    have hq3 : upd H2 b (.dK []) q1 = some (.dK ls2) := by rw [upd_ne hqb]; exact hq2
    have hb3 : upd H2 b (.dK []) b = some (.dK []) := upd_same
    generalize upd H2 b (.dK []) = H3 at k3 hq3 hb3
    have L0 : Lsn n rs (InT root g) (zeroF (InT root g)) (fun _ => none) ls2.length := by
      refine ⟨fun v x e => ?_, fun v hv => zeroF_some.mpr ⟨hv, rfl⟩, fun v x e => ?_, fun v u e => (by cases e), fun v u e => (by cases e), fun v x e => ⟨[], .here (zeroF_some.mp e).1⟩⟩
      · obtain ⟨h1, h2⟩ := zeroF_some.mp e
        subst h2
        exact ⟨[], .src h1⟩
      · obtain ⟨h1, h2⟩ := zeroF_some.mp e
        omega
    refine ⟨fun σ' H' => ∃ y6 y7 y8 y9 ls bs f p, σ' = [some (.ref a), some (.int root), some (.ref d), some (.ref q1), some (.ref b), some (.bl false), y6, y7, y8, y9, none] ∧ K0 H H' ∧ H' q1 = some (.dK ls) ∧ H' b = some (.dK bs) ∧ DI ls f ∧ DI bs p ∧ Lsn n rs (InT root g) f p ls.length ∧ ClosedC rs f, ?_, ?_⟩
    · refine ⟨fun m σ' H' => ∃ c y6 y7 y8 y9 ls bs f p, σ' = [some (.ref a), some (.int root), some (.ref d), some (.ref q1), some (.ref b), some (.bl c), y6, y7, y8, y9, none] ∧ K0 H H' ∧ H' q1 = some (.dK ls) ∧ H' b = some (.dK bs) ∧ DI ls f ∧ DI bs p ∧ Lsn n rs (InT root g) f p ls.length ∧ (c = true → msr f n.toNat < m) ∧ (c = false → ClosedC rs f),
        ⟨msr (zeroF (InT root g)) n.toNat + 1, true, none, none, none, none, ls2, [], _, _, rfl, k3, hq3, hb3, hD2, ⟨List.nodup_nil, fun p hp => (by cases hp), fun i => rfl⟩, L0, fun _ => by omega, fun z => by cases z⟩, ?_⟩
      rintro m σ' H' ⟨c, y6, y7, y8, y9, ls, bs, f, p, rfl, k4, hq4, hb4, hD4, hB4, L4, hm, hcl⟩
      refine ⟨_, rfl, c, rfl, ?_⟩
      cases c with
      | false => exact ⟨_, _, _, _, _, _, _, _, rfl, k4, hq4, hb4, hD4, hB4, L4, hcl rfl⟩
      | true =>
        have hm := hm rfl
        refine ⟨fun σ' H' => ∃ c y6 y7 y8 y9 ls bs f' p, σ' = [some (.ref a), some (.int root), some (.ref d), some (.ref q1), some (.ref b), some (.bl c), y6, y7, y8, y9, none] ∧ K0 H H' ∧ H' q1 = some (.dK ls) ∧ H' b = some (.dK bs) ∧ DI ls f' ∧ DI bs p ∧ Lsn n rs (InT root g) f' p ls.length ∧ (c = true → msr f' n.toNat < msr f n.toNat) ∧ (c = false → ClosedC rs f'), ?_, ?_⟩
        · rintro σ' H' ⟨c, y6, y7, y8, y9, ls, bs, f', p, rfl, k4, hq4, hb4, hD4, hB4, L4, hm', hcl'⟩
          cases c with
          | true => exact ⟨msr f' n.toNat + 1, by have := hm' rfl; omega, true, _, _, _, _, _, _, _, _, rfl, k4, hq4, hb4, hD4, hB4, L4, fun _ => by omega, fun z => by cases z⟩
          | false => exact ⟨0, by omega, false, _, _, _, _, _, _, _, _, rfl, k4, hq4, hb4, hD4, hB4, L4, fun z => (by cases z), fun _ => hcl' rfl⟩
        · obtain ⟨r, xs, o, h1, h2, hc, hdd, h3⟩ := hN
          have hxs : SqT K H r xs := h2
          have hrl : xs.length = rs.length := h3.len
          refine ⟨_, rfl, a, _, 1, .ref r, rfl, rfl, k4.sqT h1, atI_nat (j := 1) rfl, r, rfl, ⟨xs, k4.sqT hxs⟩, for_tup (xs := xs) (fun j σ' H2 => ∃ c y6 y7 y8 y9 ls bs f' p, σ' = [some (.ref a), some (.int root), some (.ref d), some (.ref q1), some (.ref b), some (.bl c), y6, y7, y8, y9, none] ∧ K0 H H2 ∧ H2 q1 = some (.dK ls) ∧ H2 b = some (.dK bs) ∧ DI ls f' ∧ DI bs p ∧ Lsn n rs (InT root g) f' p ls.length ∧ (c = true → msr f' n.toNat < msr f n.toNat) ∧ (c = false → f' = f ∧ ∀ rd ∈ rs.take j, undB f rd.s rd.e rd.c = false))
            ⟨false, y6, y7, y8, y9, ls, bs, f, p, rfl, k4, hq4, hb4, hD4, hB4, L4, fun z => (by cases z), fun _ => ⟨rfl, fun rd hrd => (by rw [List.take_zero] at hrd; cases hrd)⟩⟩ (fun j σ' H2 _ h => ?_) (fun j x σ' H2 hx h => ?_) (fun σ' H2 h => ?_)⟩
          · obtain ⟨_, _, _, _, _, _, _, _, _, _, k, _⟩ := h
            exact k.sqT hxs
          · obtain ⟨c, y6, y7, y8, y9, ls, bs, f', p, rfl, k5, hq5, hb5, hD5, hB5, L5, hm5, hc5⟩ := h
            obtain ⟨rd, r1, hrd, rfl, hs⟩ := road_at h3 hx
            have hrm : rd ∈ rs := List.mem_of_getElem? hrd
            have ok := hok rd hrm
            refine ⟨r1, _, rfl, k5.sqT hs, rfl, _, _, rfl, _, _, rfl, _, _, rfl, _, _, rfl, rfl, ?_⟩
            refine ⟨_, rfl, _, rfl, _, rfl, _, rfl, q1, ls, f', rd.s, rd.e, rd.c, rfl, .inl hq5, hD5, _, rfl, ?_⟩
            cases hb : undB f' rd.s rd.e rd.c with
            | false =>
              refine iteF ⟨c, _, _, _, _, ls, bs, f', p, rfl, k5, hq5, hb5, hD5, hB5, L5, hm5, fun z => ?_⟩
              obtain ⟨h1, h2⟩ := hc5 z
              refine ⟨h1, fun u hu => ?_⟩
              rw [List.take_add_one, hrd] at hu
              rcases List.mem_append.mp hu with hu | hu
              · exact h2 u hu
              · rw [List.mem_singleton.mp hu, ← h1]; exact hb
            | true =>
              obtain ⟨x, es, hlt⟩ := und_iff.mp hb
              have ds := dgetR (.inl hq5) hD5 rd.s
              rw [es] at ds
              have hf : ∀ v x, f' v = some x → 0 ≤ v ∧ v < n := fun v x e => by
                obtain ⟨l, hl⟩ := L5.att v x e
                exact hl.range hok hIn v (List.mem_cons_self ..)
              have hp : ∀ v x, p v = some x → 0 ≤ v ∧ v < n := fun v x e => by
                obtain ⟨r', hr', _, e2, _⟩ := L5.way v x e
                have := hok r' hr'
                exact ⟨e2 ▸ this.e0, e2 ▸ this.e1⟩
              have f1 := hD5.few hf
              have f2 := hB5.few hp
              refine iteT ⟨_, rfl, _, rfl, q1, _, rfl, ds, _, rfl, _, _, rfl, rfl, _, rfl, _, rfl, q1, _, rfl, DPut.k (k := Sum.inl rd.e) hq5 (Nat.lt_of_le_of_lt (m := 100) (by omega) (by decide)), ?_⟩
              have hb6 : upd H2 q1 (.dK (putK ls (Sum.inl rd.e) (.int (x + rd.c)))) b = some (.dK bs) := by rw [upd_ne (Ne.symm hqb)]; exact hb5
              refine ⟨_, rfl, _, rfl, _, rfl, b, _, rfl, DPut.k (k := Sum.inl rd.e) hb6 (Nat.lt_of_le_of_lt (m := 100) (by omega) (by decide)), ?_⟩
              have hx : x ≤ 1000 * (ls.length : Int) := L5.top _ _ es
              have hlow : msr (HK.put f' rd.e (x + rd.c)) n.toNat < msr f' n.toNat := by
                have c1 := ok.c1
                have e1 := ok.e1
                have e0 := ok.e0
                refine msr_lt ok.e0 ?_ _ (by omega)
                unfold vlu
                cases ee : f' rd.e with
                | none => show (x + rd.c).toNat < 20000; omega
                | some y =>
                  have := hlt y ee
                  have c0 := ok.c0
                  obtain ⟨l, hl⟩ := L5.att _ _ es
                  have := hl.nonneg hok
                  show (x + rd.c).toNat < y.toNat
                  omega
              refine ⟨true, _, _, _, _, _, _, _, _, rfl, (k5.mut nq1).mut nHb, by rw [upd_ne hqb]; exact upd_same, upd_same, hD5.put _ _, hB5.put _ _, L5.step hok hrm es hlt ?_ ?_, fun _ => ?_, fun z => (by cases z)⟩
              · cases ee : f' rd.e with
                | none => rw [putK_new hD5 ee]; omega
                | some y => rw [putK_old hD5 ee]; exact Nat.le_refl _
              · exact fun ee => putK_new hD5 ee
              · cases c with
                | true => have := hm5 rfl; omega
                | false => rw [← (hc5 rfl).1]; exact hlow
          · obtain ⟨c, y6, y7, y8, y9, ls, bs, f', p, rfl, k5, hq5, hb5, hD5, hB5, L5, hm5, hc5⟩ := h
            refine ⟨c, _, _, _, _, ls, bs, f', p, rfl, k5, hq5, hb5, hD5, hB5, L5, hm5, fun z => ?_⟩
            obtain ⟨h1, h2⟩ := hc5 z
            rw [hrl, List.take_of_length_le (Nat.le_refl _)] at h2
            rw [h1]
            exact closedC_iff.mpr h2
    rintro σ' H4 ⟨y6, y7, y8, y9, ls, bs, f, p, rfl, k4, hq4, hb4, hD4, hB4, L4, hcl⟩
    refine ⟨_, rfl, _, rfl, by show 2 ≤ sizeLine; decide, fun t nt => ?_⟩
    have hqt : q1 ≠ t := fun z => by rw [← z, hq4] at nt; cases nt
    have hbt : b ≠ t := fun z => by rw [← z, hb4] at nt; cases nt
    exact q t q1 b ls bs f p _ (k4.mut (k4.dom t nt)) nq1 nHb hqb upd_same (by rw [upd_ne hqt]; exact hq4) (by rw [upd_ne hbt]; exact hb4) hD4 hB4 L4 hcl
end
end HK

set_option Elab.async false
set_option linter.all false
set_option maxRecDepth 100000
set_option maxHeartbeats 4000000
namespace HK
open PySem PySem.Spec PyProof.Rows L2 GAl GxR
open Evl (pss_cut)
/-- a way back by cheapest roads -/
structure Cheap (rs : List R4) (S : Int → Prop) (f p : IF) : Prop where
  zero : ∀ v, S v → f v = some 0
  off : ∀ v u, p v = some u → ¬ S v
  way : ∀ v u, p v = some u → ∃ r ∈ rs, r.s = u ∧ r.e = v ∧ ∃ x y, f u = some x ∧ f v = some y ∧ x + r.c = y
theorem Lsn.cheap {n : Int} {rs : List R4} {S : Int → Prop} {f p : IF} {k : Nat} (h : Lsn n rs S f p k) (hc : ClosedC rs f) : Cheap rs S f p := ⟨h.zero, h.off, fun v u e => by
  obtain ⟨r, hr, e1, e2, x, y, h1, h2, h3⟩ := h.way v u e
  obtain ⟨b, eb, hb⟩ := hc r hr x (by rw [e1]; exact h1)
  rw [e2, h2] at eb
  cases eb
  exact ⟨r, hr, e1, e2, x, y, h1, h2, by omega⟩⟩
section
variable {P : Program} {w : World} {K : PySem.W.Frag} {mg : Str → Option Value} {base : Heap}
/-- what a graft tells -/
def GraftT (H H' : Hp) (n : Int) (rs : List R4) (root : Int) (kvs : List (Key × V)) (g : IF) (place : Int) (t : Addr) : Prop := ∃ (q : Addr) (ls : List (Key × V)), H q = none ∧ H' q = some (.dK ls) ∧ DI ls (cheapF n rs root g) ∧ ls.length ≤ 12 ∧
  ((cheapF n rs root g place = none ∧ H' t = some (.tup [.non, .non, .ref q])) ∨
   ∃ (b : Addr) (ws : List (Key × V)) (x : Int) (l : List Int) (p : IF), H b = none ∧ b ≠ q ∧ H' b = some (.dK ws) ∧ DI ws (addF p g l) ∧ ws.length = kvs.length + l.length ∧ l.length ≤ 12 ∧ cheapF n rs root g place = some x ∧ Back p (InT root g) place l ∧ Cheap rs (InT root g) (cheapF n rs root g) p ∧ H' t = some (.tup [.ref b, .int x, .ref q]))
def spGraft (K : PySem.W.Frag) (Pn Pr Pp Pg : Addr) : Sp := fun vs H Q _ => ∃ (a : Addr) (n : Int) (rs : List R4) (root : Int) (d : Addr) (kvs : List (Key × V)) (g : IF) (place : Int), vs = [.ref a, .int root, .ref d, .int place] ∧ NetAt K H a n rs ∧ Good n rs ∧ rs.length ≤ 156 ∧ 0 ≤ root ∧ root < n ∧ 0 ≤ place ∧ place < n ∧
  H d = some (.dK kvs) ∧ DI kvs g ∧ kvs.length ≤ 5000 ∧ TreeP rs root g kvs.length ∧ (∀ v, InT root g v → 0 ≤ v ∧ v < n) ∧ TbL H [Pn, Pr, Pp, Pg] ∧ ∀ (t : Addr) (H' : Hp), K0 H H' → H t = none → GraftT H H' n rs root kvs g place t → Q (.ref t) H'
theorem ok_graft {f Pn Pr Pp Pg : Addr} {fd : FuncData} {f_neednet f_needplace f_needtree f_wft : Addr} {fd_neednet fd_needplace fd_needtree fd_wft : FuncData} (F : Fun K "graft" "graft" sGraft f fd)
    (k_neednet : PySem.W.keepIn K (.ref f_neednet) = true) (b_neednet : Binds K fd_neednet ["net"] []) (g_neednet : mg "need_net" = some (.ref f_neednet)) (G_neednet : FnOk P w K mg base CX0 6 f_neednet fd_neednet ["net"] (spNeedNet K Pn Pr))
    (k_needplace : PySem.W.keepIn K (.ref f_needplace) = true) (b_needplace : Binds K fd_needplace ["net", "place"] []) (g_needplace : mg "need_place" = some (.ref f_needplace)) (G_needplace : FnOk P w K mg base CX0 4 f_needplace fd_needplace ["net", "place"] (spNeedPlace K))
    (k_needtree : PySem.W.keepIn K (.ref f_needtree) = true) (b_needtree : Binds K fd_needtree ["net", "root", "ahead"] []) (g_needtree : mg "need_tree" = some (.ref f_needtree)) (G_needtree : FnOk P w K mg base CX0 5 f_needtree fd_needtree ["net", "root", "ahead"] (spNeedTree K Pp Pg))
    (k_wft : PySem.W.keepIn K (.ref f_wft) = true) (b_wft : Binds K fd_wft ["net", "root", "ahead"] []) (g_wft : mg "ways_from_tree" = some (.ref f_wft)) (G_wft : FnOk P w K mg base CX0 2 f_wft fd_wft ["net", "root", "ahead"] (spWft K))
    (m_dict : mg "dict" = none) : FnOk P w K mg base CX0 7 f fd ["net", "root", "ahead", "place"] (spGraft K Pn Pr Pp Pg) := by
  refine F.ok scGraft (fun vs H Q E h => ?_) (fun cdv A outer s H vs Q E hr h => ?_)
  · obtain ⟨a, n, rs, root, d, kvs, g, place, rfl, _⟩ := h
    rfl
  · obtain ⟨a, n, rs, root, d, kvs, g, place, rfl, hN, hG, hl, r0, r1, p0, p1, hd, hD, hkl, hT, hIn, tb, q⟩ := h
    have hu := hu_of hr
    have n1 := hG.n1
    have n2 := hG.n2
    have hok := hG.ok
    refine ⟨_, (pss_cons (ps_expr (pe_call G_neednet (hr.mono (by decide)) (by rfl) g_neednet k_neednet b_neednet .nil pass0 (pa_cons (pv 0) pa_nil)))
      (pss_cons (ps_expr (pe_call G_needplace (hr.mono (by decide)) (by rfl) g_needplace k_needplace b_needplace .nil pass0 (pa_cons (pv 0) (pa_cons (pv 1) pa_nil))))
      (pss_cons (ps_expr (pe_call G_needplace (hr.mono (by decide)) (by rfl) g_needplace k_needplace b_needplace .nil pass0 (pa_cons (pv 0) (pa_cons (pv 3) pa_nil))))
      (pss_cons (ps_expr (pe_call G_needtree (hr.mono (by decide)) (by rfl) g_needtree k_needtree b_needtree .nil pass0 (pa_cons (pv 0) (pa_cons (pv 1) (pa_cons (pv 2) pa_nil)))))
      (pss_cons (ps_asg (pe_call G_wft (hr.mono (by decide)) (by rfl) g_wft k_wft b_wft .nil pass0 (pa_cons (pv 0) (pa_cons (pv 1) (pa_cons (pv 2) pa_nil)))) (pg_tup rfl (pgs_cons (pg_name (i := 4) scGraft.nd rfl (.inl rfl)) (pgs_cons (pg_name (i := 5) scGraft.nd rfl (.inl rfl)) pgs_nil))))
      (pss_cons (ps_if (pt_cmp (pc_dnotin hu (pv 3) (pv 4))) (pss_one (ps_ret (pe_tup (pa_cons pe_non (pa_cons pe_non (pa_cons (pv 4) pa_nil)))))) pss_nil)
      (pss_cons (ps_set (i := 6) scGraft.nd rfl (.inl rfl) (pe_callTy call_dictD (by rfl) m_dict (by decide +kernel) (pa_cons (pv 2) pa_nil)))
      (pss_cons (ps_set (i := 7) scGraft.nd rfl (.inl rfl) (pv 3))
      (pss_cons (ps_while PassesOwn.never (pt_cmp (pc_din hu (pv 7) (pv 5)))
      (pss_cons (ps_dput hu (pv 6) (pv 7) (pe_dget hu (pv 5) (pv 7) (fun _ _ => rfl)) rfl)
      (pss_one (ps_set (i := 7) scGraft.nd rfl (.inl rfl) (pe_dget hu (pv 5) (pv 7) (fun _ _ => rfl))))))
      (pss_one (ps_ret (pe_tup (pa_cons (pv 6) (pa_cons (pe_dget hu (pv 4) (pv 3) (fun _ _ => rfl)) (pa_cons (pv 4) pa_nil))))))))))))))), ?_⟩
    refine ⟨_, rfl, a, n, rs, rfl, hN, hG, hl, tb Pn (by simp), tb Pr (by simp), fun H1 k1 => ?_⟩
    refine ⟨_, rfl, _, rfl, a, n, rs, root, rfl, hN.k0 k1, r0, r1, ?_⟩
    refine ⟨_, rfl, _, rfl, a, n, rs, place, rfl, hN.k0 k1, p0, p1, ?_⟩
    refine ⟨_, rfl, _, rfl, _, rfl, a, n, rs, root, d, kvs, g, rfl, hN.k0 k1, hG, hl, k1.oth d _ hd (fun _ z => by cases z), hD, hkl, hT, k1.tab _ (tb Pp (by simp)), k1.tab _ (tb Pg (by simp)), fun H2 k2 => ?_⟩
    have k12 := k1.trans k2
    have hd2 := k12.oth d _ hd (fun _ z => by cases z)
    refine ⟨_, rfl, _, rfl, _, rfl, a, n, rs, root, d, kvs, g, rfl, hN.k0 k12, hG, hl, hIn, hd2, hD, hkl, fun t q1 b ls bs f p H3 k3 nq nb hqb ht hq hb hDf hDp L hcl => ?_⟩
    have k13 := k12.trans k3
    have hPr := cheap_ok (root := root) hok hIn
    have ef : f = cheapF n rs root g := least_eq L.att cheap_att L.zero hPr.2.1 hcl hPr.2.2
    have C := L.cheap hcl
    have fin : ∀ v x, f v = some x → 0 ≤ v ∧ v < n := fun v x e => by
      obtain ⟨l, hl⟩ := L.att v x e
      exact hl.range hok hIn v (List.mem_cons_self ..)
    have hlen := hDf.few fin
    have dq := dgetR (.inl hq) hDf place
    have nHq := k12.dom q1 nq
    have nHb := k12.dom b nb
    refine ⟨t, _, rfl, .inl (.inl ht), rfl, _, _, rfl, _, _, rfl, rfl, ?_⟩
    refine ⟨_, rfl, _, rfl, q1, _, rfl, dq, _, rfl, ?_⟩
    cases ep : f place with
    | none =>
      refine iteT ⟨_, rfl, by show 3 ≤ sizeLine; decide, fun t2 nt2 => ?_⟩
      have hqt : q1 ≠ t2 := fun z => by rw [← z, hq] at nt2; cases nt2
      refine q t2 _ (k13.mut (k13.dom t2 nt2)) (k13.dom t2 nt2) ⟨q1, ls, nHq, by rw [upd_ne hqt]; exact hq, by rw [← ef]; exact hDf, by omega, .inl ⟨by rw [← ef]; exact ep, upd_same⟩⟩
    | some x =>
      obtain ⟨l, hbk⟩ := L.back _ _ ep
      have hnd := hbk.nodup L.off
      have hin := hbk.in_
      have hll : l.length ≤ n.toNat := nodup_len hnd fun v hv => by
        obtain ⟨u, e⟩ := hin v hv
        obtain ⟨r, hr, _, e2, _⟩ := L.way v u e
        have := hok r hr
        exact ⟨e2 ▸ this.e0, e2 ▸ this.e1⟩
      refine iteF ⟨_, rfl, d, kvs, rfl, .inl (k13.oth d _ hd (fun _ z => by cases z)), fun w nw => ?_⟩
      have hwq : w ≠ q1 := fun z => by rw [z, hq] at nw; cases nw
      refine ⟨_, rfl, fun m σ' H' => ∃ at_ l1 l2 ws, σ' = [some (.ref a), some (.int root), some (.ref d), some (.int place), some (.ref q1), some (.ref b), some (.ref w), some (.int at_)] ∧ K0 H3 H' ∧ l1 ++ l2 = l ∧ Back p (InT root g) at_ l2 ∧ H' w = some (.dK ws) ∧ DI ws (addF p g l1) ∧ ws.length = kvs.length + l1.length ∧ m = l2.length,
        ⟨l.length, place, [], l, kvs, rfl, K0.new nw, rfl, hbk, upd_same, ?_, rfl, rfl⟩, ?_⟩
      · have : addF p g [] = g := by funext v; unfold addF; simp
        rw [this]; exact hD
      · rintro m σ' H' ⟨at_, l1, l2, ws, rfl, k4, el, hbk2, hw, hDw, hwl, em⟩
        have hb4 := k4.oth b _ hb (fun _ z => by cases z)
        have da := dgetR (.inl hb4) hDp at_
        refine ⟨_, rfl, _, rfl, b, _, rfl, da, _, rfl, ?_⟩
        cases hbk2 with
        | here hS =>
          have pn : p at_ = none := by
            cases e : p at_ with
            | none => rfl
            | some u => exact absurd hS (L.off _ _ e)
          rw [pn]
          refine iteF ?_
          have hq4 := k4.oth q1 _ hq (fun _ z => by cases z)
          have dq4 := dgetR (.inl hq4) hDf place
          rw [ep] at dq4
          refine ⟨_, rfl, _, rfl, _, rfl, q1, _, rfl, dq4, _, rfl, by show 3 ≤ sizeLine; decide, fun t2 nt2 => ?_⟩
          have hqt : q1 ≠ t2 := fun z => by rw [← z, hq4] at nt2; cases nt2
          have hwt : w ≠ t2 := fun z => by rw [← z, hw] at nt2; cases nt2
          have k5 := k13.trans k4
          rw [List.append_nil] at el
          subst el
          exact q t2 _ (k5.mut (k5.dom t2 nt2)) (k5.dom t2 nt2) ⟨q1, ls, nHq, by rw [upd_ne hqt]; exact hq4, by rw [← ef]; exact hDf, by omega, .inr ⟨w, ws, x, l1, p, k13.dom w nw, hwq, by rw [upd_ne hwt]; exact hw, hDw, hwl, by omega, by rw [← ef]; exact ep, hbk, by rw [← ef]; exact C, upd_same⟩⟩
        | @up _ u l2' e hbk3 =>
          rw [e] at da
          rw [e]
          refine iteT ⟨fun σ' H' => ∃ at_ l1 l2 ws, σ' = [some (.ref a), some (.int root), some (.ref d), some (.int place), some (.ref q1), some (.ref b), some (.ref w), some (.int at_)] ∧ K0 H3 H' ∧ l1 ++ l2 = l ∧ Back p (InT root g) at_ l2 ∧ H' w = some (.dK ws) ∧ DI ws (addF p g l1) ∧ ws.length = kvs.length + l1.length ∧ l2 = l2', fun σ' H' ⟨at_, l1, l2, ws, e1, e2, e3, e4, e5, e6, e7, e8⟩ => ⟨l2'.length, by rw [em, List.length_cons]; omega, at_, l1, l2, ws, e1, e2, e3, e4, e5, e6, e7, by rw [e8]⟩, ?_⟩
          have hml : at_ ∈ l := by rw [← el]; simp
          have hn1 : at_ ∉ l1 := fun z => by
            rw [← el] at hnd
            exact (List.nodup_append.mp hnd).2.2 at_ z at_ (List.mem_cons_self ..) rfl
          have hnone : addF p g l1 at_ = none := by
            unfold addF
            rw [if_neg hn1]
            cases eg : g at_ with
            | none => rfl
            | some y => exact absurd (.inr (by rw [eg]; rfl)) (L.off _ _ e)
          have hl12 : l1.length ≤ l.length := by rw [← el, List.length_append]; omega
          refine ⟨_, rfl, _, rfl, b, _, rfl, da, _, rfl, _, rfl, w, _, rfl, DPut.k (k := Sum.inl at_) hw (Nat.lt_of_le_of_lt (m := 6000) (by omega) (by decide)), ?_⟩
          have hbw : b ≠ w := fun z => by rw [← z, hb] at nw; cases nw
          have da2 := dgetR (.inl (show upd H' w (.dK (putK ws (Sum.inl at_) (.int u))) b = some (.dK bs) by rw [upd_ne hbw]; exact hb4)) hDp at_
          rw [e] at da2
          refine ⟨_, rfl, _, rfl, b, _, rfl, da2, u, l1 ++ [at_], l2', _, rfl, k4.mut nw, ?_, hbk3, upd_same, ?_, ?_, rfl⟩
          · rw [List.append_assoc]; exact el
          · rw [← addF_put e]; exact hDw.put _ _
          · rw [putK_new hDw hnone, hwl, List.length_append]; rfl
end
end HK

set_option Elab.async false
set_option linter.all false
set_option maxRecDepth 100000
set_option maxHeartbeats 2000000
/-! *d of a dict in a display -/
namespace HkL
open PySem PySem.Spec PyProof.Rows L2
section
variable {X : Cx} {e : Expr} {es : List Expr} {te : TE} {t : TA} {p : Pos}
def tStarD (te : TE) (t : TA) : TA := fun σ H Q => te σ H fun x H1 => ∃ (d : Addr) (kvs : List (Key × V)), x = .ref d ∧ Rd H1 d (.dK kvs) ∧ kvs.length ≤ sizeLine ∧ t σ H1 fun ys H2 => Q ((kvs.map fun kv => kV kv.1) ++ ys) H2
theorem pa_starD (hc : X.calm = true) (he : PE X e te) (hr : PA X es t) (hs : starEach (.Starred e p :: es) X.env = (true, eval e X.env) :: starEach es X.env := by rfl) : PA X (.Starred e p :: es) (tStarD te t) := by
  refine ⟨fun pos pins s σ H Q I h => ?_⟩
  refine PySem.W.items_star (thn (he.run pins s σ H _ I h) fun v s1 ⟨y, H1, I1, ry, d, kvs, ey, hd, hz, q⟩ => ?_) hs
  subst ey
  obtain rfl : v = Value.ref d := ry
  obtain ⟨vs, ep, rk, hat, lo⟩ := dict_at I1 hd
  have hl : kvs.length = vs.length := Paired.length rk
  have z : wpAny (model X.prog X.w) X.A (collect (.ref d)) (fun here s₂ => wpAny (model X.prog X.w) X.A (spliced (backTo pos (starEach es X.env))) (fun vs s₃ => AP X pins σ Q (here ++ vs) s₃) X.xe s₂) X.xe s1 := by
    refine PySem.W.kdu_collect (PySem.W.kdl_dict (knd := mixKind X.prog X.w) (kvs := vs) (ep := ep) lo) (I1.ok.hd hc) hat (by rw [← hl]; exact hz) fun h' tk acc hkeep hacc => ?_
    have I2 : Inv X pins σ H1 { s1 with heap := h', toks := tk } := I1.kept hkeep
    have rv : Vals (kvs.map fun kv => kV kv.1) acc.toList := by
      have el : acc.toList.length = acc.size := by simp
      refine vals_of_at (by rw [List.length_map, el, hacc.1, hl]) fun j x w h1 h2 => ?_
      obtain ⟨k, y, hky, hi⟩ := hacc.2 j w (by rw [← Array.getElem?_toList]; exact h2)
      have e1 : (kvs.map (·.1))[j]? = some k := by
        rw [KV.keys rk, List.getElem?_map, hky] <;> rfl
      have e2 : (kvs.map fun kv => kV kv.1)[j]? = some (kV k) := by
        have e3 : (kvs.map fun kv => kV kv.1) = (kvs.map (·.1)).map kV := by rw [List.map_map] <;> rfl
        rw [e3, List.getElem?_map, e1] <;> rfl
      rw [e2] at h1
      cases h1
      exact keyIs_rel hi
    exact thn (hr.run pos pins _ σ H1 _ I2 q) fun ws s3 ⟨vs', H3, I3, r3, q3⟩ => ⟨_, H3, I3, rv.append r3, q3⟩
  unfold PySem.W.StarOf notIterableAtAll
  exact wpAny_bind (wpAny_specialOf hat.dictOf.typeIs PySem.F.slot_dict_iter.lookup (wpAny_pure ⟨rfl, z⟩))
end
end HkL

set_option Elab.async false
set_option linter.all false
set_option maxRecDepth 100000
set_option maxHeartbeats 4000000
namespace HK
open PySem PySem.Spec PyProof.Rows L2 GAl GxR
open Evl (pss_cut)
abbrev sAreQ : Stmt := topS 52
abbrev N_scAreQ : List Str := ["net", "root", "ahead", "numbers", "place", "number", "start", "end", "cost", "late"]
theorem scAreQ : FnScope N_scAreQ ["net", "root", "ahead", "numbers"] (defScope sAreQ) := ⟨rfl, rfl, rfl, by decide +kernel, rfl, by decide +kernel, by decide +kernel⟩
section
variable {P : Program} {w : World} {K : PySem.W.Frag} {mg : Str → Option Value} {base : Heap}
def spAreQ (K : PySem.W.Frag) (Pn Pr Pp Pg Pq : Addr) : Sp := fun vs H Q _ => ∃ (a : Addr) (n : Int) (rs : List R4) (root : Int) (d : Addr) (kvs : List (Key × V)) (g : IF) (p : Addr) (ls : List (Key × V)) (f : IF), vs = [.ref a, .int root, .ref d, .ref p] ∧ NetAt K H a n rs ∧ Good n rs ∧ rs.length ≤ 156 ∧ 0 ≤ root ∧ root < n ∧
  H d = some (.dK kvs) ∧ DI kvs g ∧ kvs.length ≤ 5000 ∧ TreeP rs root g kvs.length ∧ H p = some (.dK ls) ∧ DI ls f ∧ ls.length ≤ 5000 ∧ TbL H [Pn, Pr, Pp, Pg, Pq] ∧ ∀ (H' : Hp) (b : Bool), K0 H H' → (b = true ↔ PricesP n rs root g f) → Q (.bl b) H'
theorem ok_areq {f c Pn Pr Pp Pg Pq : Addr} {fd : FuncData} {f_neednet f_needplace f_needtree f_pairs f_isplace f_under : Addr} {fd_neednet fd_needplace fd_needtree fd_pairs fd_isplace fd_under : FuncData} (F : FunC K "are_prices" "are_prices" sAreQ f fd c) (TB : TabB base mg c Pq)
    (k_neednet : PySem.W.keepIn K (.ref f_neednet) = true) (b_neednet : Binds K fd_neednet ["net"] []) (g_neednet : mg "need_net" = some (.ref f_neednet)) (G_neednet : FnOk P w K mg base CX0 6 f_neednet fd_neednet ["net"] (spNeedNet K Pn Pr))
    (k_needplace : PySem.W.keepIn K (.ref f_needplace) = true) (b_needplace : Binds K fd_needplace ["net", "place"] []) (g_needplace : mg "need_place" = some (.ref f_needplace)) (G_needplace : FnOk P w K mg base CX0 4 f_needplace fd_needplace ["net", "place"] (spNeedPlace K))
    (k_needtree : PySem.W.keepIn K (.ref f_needtree) = true) (b_needtree : Binds K fd_needtree ["net", "root", "ahead"] []) (g_needtree : mg "need_tree" = some (.ref f_needtree)) (G_needtree : FnOk P w K mg base CX0 5 f_needtree fd_needtree ["net", "root", "ahead"] (spNeedTree K Pp Pg))
    (k_pairs : PySem.W.keepIn K (.ref f_pairs) = true) (b_pairs : Binds K fd_pairs ["thing"] []) (g_pairs : mg "are_whole_pairs" = some (.ref f_pairs)) (G_pairs : FnOk P w K mg base CX0 3 f_pairs fd_pairs ["thing"] (spPairs K Pp))
    (k_isplace : PySem.W.keepIn K (.ref f_isplace) = true) (b_isplace : Binds K fd_isplace ["net", "thing"] []) (g_isplace : mg "is_place" = some (.ref f_isplace)) (G_isplace : FnOk P w K mg base CX0 3 f_isplace fd_isplace ["net", "thing"] (spIsPlace K))
    (k_under : PySem.W.keepIn K (.ref f_under) = true) (b_under : Binds K fd_under ["numbers", "start", "end", "more"] []) (g_under : mg "undercuts" = some (.ref f_under)) (G_under : FnOk P w K mg base CX0 1 f_under fd_under ["numbers", "start", "end", "more"] (spUnder K))
    (m_all : mg "all" = none) (m_any : mg "any" = none) : FnOk P w K mg base CX0 7 f fd ["net", "root", "ahead", "numbers"] (spAreQ K Pn Pr Pp Pg Pq) := by
  refine F.ok scAreQ (fun vs H Q E h => ?_) (fun A outer s H vs Q E hr h => ?_)
  · obtain ⟨a, n, rs, root, d, kvs, g, p, ls, ff, rfl, _⟩ := h
    rfl
  · obtain ⟨a, n, rs, root, d, kvs, g, p, ls, ff, rfl, hN, hG, hl, r0, r1, hd, hD, hkl, hT, hp, hL, hll, tb, q⟩ := h
    have hu := hu_of hr
    refine ⟨_, (pss_cons (ps_expr (pe_call G_neednet (hr.mono (by decide)) (by rfl) g_neednet k_neednet b_neednet .nil pass0 (pa_cons (pv 0) pa_nil)))
      (pss_cons (ps_expr (pe_call G_needplace (hr.mono (by decide)) (by rfl) g_needplace k_needplace b_needplace .nil pass0 (pa_cons (pv 0) (pa_cons (pv 1) pa_nil))))
      (pss_cons (ps_expr (pe_call G_needtree (hr.mono (by decide)) (by rfl) g_needtree k_needtree b_needtree .nil pass0 (pa_cons (pv 0) (pa_cons (pv 1) (pa_cons (pv 2) pa_nil)))))
      (pss_cons (ps_if (pt_not (pt_val (pe_call G_pairs (hr.mono (by decide)) (by rfl) g_pairs k_pairs b_pairs .nil pass0 (pa_cons (pv 3) pa_nil)))) (pss_one (ps_ret pe_bl)) pss_nil)
      (pss_cons (ps_if (pt_not (pt_val (pe_lock (pe_allG (own := [("place", 4), ("number", 5)]) (k := 5) (g := (gTup K 2 (gCons (gName 4) (gCons (gName 5) gNil)))) (tt := tYes) (te := (tAndV (tCall (spIsPlace K) [] E0 (tCons (tVar 0) (tCons (tVar 4) tNil))) (tOp (rI0 fun i j => .bl (decide (j ≤ i))) (tVar 5) (tC (.int 0))))) (hr.mono (by decide)) (by rfl) m_all rfl scAreQ.nd TB rfl (gsc_by (N := N_scAreQ) (sc := defScope sAreQ) (by decide +kernel)) (pi_items (pv 3)) (fun A' hr' _ _ _ _ _ _ => (pg_tup rfl (pgs_cons (pg_name (i := 4) scAreQ.nd rfl (.inl rfl)) (pgs_cons (pg_name (i := 5) scAreQ.nd rfl (.inl rfl)) pgs_nil)))) (fun A' hr' _ _ _ _ _ _ => pts_nil) (fun A' hr' _ _ _ _ _ _ => (pe_and (pe_call G_isplace (hr'.mono (by decide)) (by rfl) g_isplace k_isplace b_isplace .nil pass0 (pa_cons (pv 0) (pa_cons (pv 4) pa_nil))) (pe_one (pe_cmpR op_ge (pv 5) pe_int (nomark _))))))))) (pss_one (ps_ret pe_bl)) pss_nil)
      (pss_cons (ps_if (pt_not (pt_val (pe_allG (own := [("place", 4)]) (k := 5) (g := (gName 4)) (tt := tYes) (te := (tAndV (tDIn (tVar 4) (tVar 3)) (tOp rEq (tDGet (tVar 3) (tVar 4)) (tC (.int 0))))) (hr.mono (by decide)) (by rfl) m_all rfl scAreQ.nd TB rfl (gsc_by (N := N_scAreQ) (sc := defScope sAreQ) (by decide +kernel)) (pi_tup (pe_tup (pa_cons (pv 1) (HkL.pa_starD rfl (pv 2) pa_nil)))) (fun A' hr' _ _ _ _ _ _ => (pg_name (i := 4) scAreQ.nd rfl (.inl rfl))) (fun A' hr' _ _ _ _ _ _ => pts_nil) (fun A' hr' _ _ _ _ _ _ => (pe_and (pe_cmp (pc_din (hu_of hr') (pv 4) (pv 3))) (pe_one (pe_cmpR op_eq (pe_dget (hu_of hr') (pv 3) (pv 4) (fun _ _ => rfl)) pe_int (nomark _)))))))) (pss_one (ps_ret pe_bl)) pss_nil)
      (pss_one (ps_ret (pe_not (pe_anyG (own := [("start", 6), ("end", 7), ("cost", 8), ("late", 9)]) (k := 5) (g := (gTup K 4 (gCons (gName 6) (gCons (gName 7) (gCons (gName 8) (gCons (gName 9) gNil)))))) (tt := tYes) (te := (tCall (spUnder K) [] E0 (tCons (tVar 3) (tCons (tVar 6) (tCons (tVar 7) (tCons (tVar 8) tNil)))))) (hr.mono (by decide)) (by rfl) m_any rfl scAreQ.nd TB rfl (gsc_by (N := N_scAreQ) (sc := defScope sAreQ) (by decide +kernel)) (pi_tup (pe_ix ix_tup (pv 0) pe_int (fun _ _ => rfl))) (fun A' hr' _ _ _ _ _ _ => (pg_tup rfl (pgs_cons (pg_name (i := 6) scAreQ.nd rfl (.inl rfl)) (pgs_cons (pg_name (i := 7) scAreQ.nd rfl (.inl rfl)) (pgs_cons (pg_name (i := 8) scAreQ.nd rfl (.inl rfl)) (pgs_cons (pg_name (i := 9) scAreQ.nd rfl (.inl rfl)) pgs_nil)))))) (fun A' hr' _ _ _ _ _ _ => pts_nil) (fun A' hr' _ _ _ _ _ _ => (pe_call G_under (hr'.mono (by decide)) (by rfl) g_under k_under b_under .nil pass0 (pa_cons (pv 3) (pa_cons (pv 6) (pa_cons (pv 7) (pa_cons (pv 8) pa_nil)))))))))))))))), ?_⟩
    refine ⟨_, rfl, a, n, rs, rfl, hN, hG, hl, tb Pn (by simp), tb Pr (by simp), fun H1 k1 => ?_⟩
    refine ⟨_, rfl, _, rfl, a, n, rs, root, rfl, hN.k0 k1, r0, r1, ?_⟩
    refine ⟨_, rfl, _, rfl, _, rfl, a, n, rs, root, d, kvs, g, rfl, hN.k0 k1, hG, hl, k1.oth d _ hd (fun _ z => by cases z), hD, hkl, hT, k1.tab _ (tb Pp (by simp)), k1.tab _ (tb Pg (by simp)), fun H2 k2 => ?_⟩
    have k12 := k1.trans k2
    refine ⟨_, rfl, p, ls, ff, rfl, k12.oth p _ hp (fun _ z => by cases z), hL, k12.tab _ (tb Pp (by simp)), fun H3 k3 => ⟨_, rfl, iteF ?_⟩⟩
    have k13 := k12.trans k3
    have hp3 := k13.oth p _ hp (fun _ z => by cases z)
    have tq3 : TabG H3 Pq := k13.tab _ (tb Pq (by simp))
    -- places and numbers from 0 on
    refine ⟨p, _, hp3, trivial, fun od => ⟨_, rfl, p, od, ls, rfl, upd_same, tabG_lock hp3 (fun _ z => by cases z) tq3, fun H4 hT4 => ?_⟩⟩
    have k4 : K0 (upd H3 p (.frz od (.dK ls))) H4 := K0.tbd (tabG_lock hp3 (fun _ z => by cases z) tq3) hT4
    have hNl : NetAt K (upd H3 p (.frz od (.dK ls))) a n rs := netAt_lock (hN.k0 k13) hp3
    have kend : ∀ {H7}, K0 (upd H3 p (.frz od (.dK ls))) H7 → K0 H (upd H7 p (.dK ls)) := fun k => k13.trans (K0.lock hp3 (fun _ z => by cases z) k)
    refine ⟨fun i m H5 => i + m = ls.length ∧ K0 (upd H3 p (.frz od (.dK ls))) H5 ∧ ∀ e ∈ ls.take i, ∀ v x, e = (Sum.inl v, V.int x) → 0 ≤ v ∧ v < n ∧ 0 ≤ x, ⟨ls.length, by omega, k4, fun e he => by rw [List.take_zero] at he; cases he⟩, fun i m H5 hW => ?_⟩
    obtain ⟨em, k5, hyes⟩ := hW
    have hp5 : H5 p = some (.frz od (.dK ls)) := k5.oth p _ upd_same (fun _ z => by cases z)
    by_cases hi : i < ls.length
    · have g2 : ls[i]? = some ls[i] := List.getElem?_eq_getElem hi
      obtain ⟨j, z, e, e2⟩ := hL.at_ (List.mem_of_getElem? g2)
      rw [e] at g2
      have htk : ls.take (i + 1) = ls.take i ++ [(Sum.inl j, V.int z)] := by rw [List.take_add_one, g2]; rfl
      refine .inr ⟨⟨hp5, hi⟩, fun H' => K0 (upd H3 p (.frz od (.dK ls))) H' ∧ (0 ≤ j ∧ j < n ∧ 0 ≤ z), fun H' hN' => ⟨m - 1, by omega, by omega, hN'.1, fun e' he' => ?_⟩, fun x' H' hy => ?_⟩
      · rw [htk] at he'
        rcases List.mem_append.mp he' with he' | he'
        · exact hyes e' he'
        · have := List.mem_singleton.mp he'
          subst this
          intro v x ee
          cases ee
          exact hN'.2
      · obtain ⟨T0, k, v, hkv, rfl, nT, rfl⟩ := hy
        rw [g2] at hkv
        cases hkv
        have kT := k5.mut (o := .tup [.int j, .int z]) (k5.dom T0 nT)
        have hpT := kT.oth p _ upd_same (fun _ z => by cases z)
        have bad : ¬ (0 ≤ j ∧ j < n ∧ 0 ≤ z) → Q (.bl false) (upd (upd H5 T0 (.tup [.int j, .int z])) p (.dK ls)) := fun hn => q _ false (kend kT) ⟨fun z => by (cases z), fun w => absurd (w.1 _ _ e2) hn⟩
        refine ⟨T0, _, rfl, .inl (.inl upd_same), rfl, _, _, rfl, _, _, rfl, rfl, rfl, tyes ?_⟩
        refine ⟨_, rfl, _, rfl, a, n, rs, j, rfl, hNl.k0 kT, _, rfl, ?_⟩
        by_cases hj : 0 ≤ j ∧ j < n
        · rw [decide_eq_true hj.1, decide_eq_true (show j ≤ n - 1 by omega)]
          refine iteT ⟨_, rfl, _, 0, rfl, rfl, _, rfl, ?_⟩
          by_cases hz : 0 ≤ z
          · rw [decide_eq_true hz]
            exact iteT ⟨kT, hj.1, hj.2, hz⟩
          · rw [decide_eq_false hz]
            exact iteF ⟨hpT, _, rfl, iteT (bad fun w => hz w.2.2)⟩
        · have : (decide (0 ≤ j) && decide (j ≤ n - 1)) = false := by
            rw [Bool.eq_false_iff]
            intro z
            rw [Bool.and_eq_true, decide_eq_true_iff, decide_eq_true_iff] at z
            exact hj ⟨z.1, by omega⟩
          rw [this]
          exact iteF ⟨_, rfl, iteF ⟨hpT, _, rfl, iteT (bad fun w => hj ⟨w.1, w.2.1⟩)⟩⟩
    · rw [List.take_of_length_le (by omega)] at hyes
      have hA : ∀ v x, ff v = some x → 0 ≤ v ∧ v < n ∧ 0 ≤ x := fun v x e => hyes _ (hL.pair e) v x rfl
      refine .inl ⟨⟨hp5, by omega⟩, hp5, _, rfl, iteF ?_⟩
      have k15 := kend k5
      have hp6 : upd H5 p (.dK ls) p = some (.dK ls) := upd_same
      generalize upd H5 p (.dK ls) = H6 at k15 hp6
      have hd6 := k15.oth d _ hd (fun _ z => by cases z)
      -- the tree has noughts
      obtain ⟨keys, eks, ksn, ksm⟩ := hD.ints
      have ekv : (kvs.map fun kv => kV kv.1) = keys.map V.int := by
        have : (kvs.map fun kv => kV kv.1) = (kvs.map (·.1)).map kV := by rw [List.map_map]; rfl
        rw [this, eks, List.map_map]
        rfl
      have hkeysl : keys.length = kvs.length := by
        have := congrArg List.length eks
        rw [List.length_map, List.length_map] at this
        exact this.symm
      refine ⟨_, rfl, _, rfl, d, kvs, rfl, .inl hd6, Nat.le_trans hkl (by decide), Nat.le_trans (m := 6000) (by rw [List.length_cons, List.length_append, List.length_map]; show kvs.length + 0 + 1 ≤ 6000; omega) (by decide), fun tp ntp => ?_⟩
      have etp : (V.int root :: ((kvs.map fun kv => kV kv.1) ++ [])) = (root :: keys).map V.int := by rw [List.append_nil, ekv]; rfl
      have k7 := k15.mut (p := tp) (o := .tup (V.int root :: ((kvs.map fun kv => kV kv.1) ++ []))) (k15.dom tp ntp)
      have htp : upd H6 tp (.tup (V.int root :: ((kvs.map fun kv => kV kv.1) ++ []))) tp = some (.tup ((root :: keys).map V.int)) := by rw [← etp]; exact upd_same
      have hp7 : upd H6 tp (.tup (V.int root :: ((kvs.map fun kv => kV kv.1) ++ []))) p = some (.dK ls) := by rw [upd_ne (ne_of_none hp6 ntp)]; exact hp6
      generalize upd H6 tp (.tup (V.int root :: ((kvs.map fun kv => kV kv.1) ++ []))) = H7 at k7 htp hp7
      have tq7 : TabG H7 Pq := k7.tab _ (tb Pq (by simp))
      refine ⟨tp, rfl, ⟨_, .inl (.inl htp)⟩, tq7, fun H8 hT8 => ?_⟩
      have k8 : K0 H7 H8 := K0.tbd tq7 hT8
      refine ⟨fun i m H9 => i + m = (root :: keys).length ∧ K0 H7 H9 ∧ ∀ v ∈ (root :: keys).take i, ff v = some 0, ⟨(root :: keys).length, by omega, k8, fun v hv => by rw [List.take_zero] at hv; cases hv⟩, fun i m H9 hW => ?_⟩
      obtain ⟨em, k9, hzs⟩ := hW
      have htp9 : SqT K H9 tp ((root :: keys).map V.int) := k9.sqT (.inl (.inl htp))
      by_cases hi : i < (root :: keys).length
      · have g0 : (root :: keys)[i]? = some (root :: keys)[i] := List.getElem?_eq_getElem hi
        have g1 : ((root :: keys).map V.int)[i]? = some (V.int (root :: keys)[i]) := by rw [List.getElem?_map, g0]; rfl
        generalize hvv : (root :: keys)[i] = v at g0 g1
        have hvm : v ∈ root :: keys := List.mem_of_getElem? g0
        have inT : InT root g v := by
          rcases List.mem_cons.mp hvm with h | h
          · exact .inl h
          · exact .inr ((ksm v).mp h)
        refine .inr ⟨⟨_, _, htp9, g1⟩, fun H' => K0 H7 H' ∧ ff v = some 0, fun H' hN' => ⟨m - 1, by omega, by omega, hN'.1, fun u hu => ?_⟩, fun x H' hy => ?_⟩
        · rw [List.take_add_one, g0] at hu
          rcases List.mem_append.mp hu with hu | hu
          · exact hzs u hu
          · have := List.mem_singleton.mp hu
            subst this
            exact hN'.2
        · obtain ⟨rfl, fx⟩ := hy
          have ex : x = .int v := Option.some.inj ((fx _ htp9).symm.trans g1)
          subst ex
          have ds := dgetR (.inl (k9.oth p _ hp7 (fun _ z => by cases z))) hL v
          have bad : ff v ≠ some 0 → Q (.bl false) H' := fun hn => q _ false (k7.trans k9) ⟨fun z => by (cases z), fun w => absurd (w.2.1 v inT) hn⟩
          refine ⟨rfl, tyes ⟨_, rfl, _, rfl, p, _, rfl, ds, _, rfl, ?_⟩⟩
          cases ev : ff v with
          | none => exact iteF ⟨_, rfl, iteF ⟨_, rfl, iteT (bad (by rw [ev]; exact fun z => by cases z))⟩⟩
          | some b =>
            rw [ev] at ds
            refine iteT ⟨_, rfl, _, rfl, p, _, rfl, ds, rfl, _, rfl, ?_⟩
            by_cases hb : b = 0
            · subst hb
              exact iteT ⟨k9, rfl⟩
            · rw [decide_eq_false (show ¬ V.int b = V.int 0 from fun z => hb (V.int.inj z))]
              exact iteF ⟨_, rfl, iteT (bad (by rw [ev]; exact fun z => hb (Option.some.inj z)))⟩
      · rw [List.take_of_length_le (by omega)] at hzs
        have hZ : ∀ v, InT root g v → ff v = some 0 := fun v hv => by
          rcases hv with h | h
          · exact hzs v (by rw [h]; exact List.mem_cons_self ..)
          · exact hzs v (List.mem_cons_of_mem _ ((ksm v).mpr h))
        refine .inl ⟨⟨_, htp9, by rw [List.length_map]; omega⟩, _, rfl, iteF ?_⟩
        have k19 := k7.trans k9
        have hp9 := k9.oth p _ hp7 (fun _ z => by cases z)
        -- the roads
        have hN9 := hN.k0 k19
        obtain ⟨r, xs, o, h1, h2, hc, hdd, h3⟩ := hN9
        have hxs : SqT K H9 r xs := h2
        have hrl : xs.length = rs.length := h3.len
        have tq9 : TabG H9 Pq := k19.tab _ (tb Pq (by simp))
        refine ⟨_, rfl, a, _, 1, .ref r, rfl, rfl, h1, atI_nat (j := 1) rfl, r, rfl, ⟨xs, hxs⟩, tq9, fun H10 hT10 => ?_⟩
        have k10 : K0 H9 H10 := K0.tbd tq9 hT10
        refine ⟨fun i m H11 => i + m = xs.length ∧ K0 H9 H11 ∧ ∀ rd ∈ rs.take i, undB ff rd.s rd.e rd.c = false, ⟨xs.length, by omega, k10, fun rd hrd => by rw [List.take_zero] at hrd; cases hrd⟩, fun i m H11 hW => ?_⟩
        obtain ⟨em, k11, hund⟩ := hW
        have hY : SqT K H11 r xs := k11.sqT hxs
        by_cases hi : i < xs.length
        · have g1 : xs[i]? = some xs[i] := List.getElem?_eq_getElem hi
          obtain ⟨rd, q1, hrd, hx, hs⟩ := road_at h3 g1
          have htk : rs.take (i + 1) = rs.take i ++ [rd] := by rw [List.take_add_one, hrd]; rfl
          refine .inr ⟨⟨_, _, hY, g1⟩, fun H' => K0 H9 H' ∧ undB ff rd.s rd.e rd.c = false, fun H' hN' => ⟨m - 1, by omega, by omega, hN'.1, fun u hu => ?_⟩, fun x' H' hy => ?_⟩
          · rw [htk] at hu
            rcases List.mem_append.mp hu with hu | hu
            · exact hund u hu
            · have := List.mem_singleton.mp hu
              subst this
              exact hN'.2
          · obtain ⟨rfl, fx⟩ := hy
            have ex : x' = xs[i] := Option.some.inj ((fx _ hY).symm.trans g1)
            rw [hx] at ex
            subst ex
            refine ⟨q1, _, rfl, k11.sqT hs, rfl, _, _, rfl, _, _, rfl, _, _, rfl, _, _, rfl, rfl, rfl, tyes ?_⟩
            refine ⟨_, rfl, _, rfl, _, rfl, _, rfl, p, ls, ff, rd.s, rd.e, rd.c, rfl, .inl (k11.oth p _ hp9 (fun _ z => by cases z)), hL, _, rfl, ?_⟩
            cases hb : undB ff rd.s rd.e rd.c with
            | false => exact iteF ⟨k11, rfl⟩
            | true =>
              refine iteT ⟨_, rfl, q _ false (k19.trans k11) ⟨fun z => by (cases z), fun w => ?_⟩⟩
              have := closedC_iff.mp w.2.2 rd (List.mem_of_getElem? hrd)
              rw [hb] at this
              cases this
        · rw [List.take_of_length_le (by omega)] at hund
          exact .inl ⟨⟨_, hY, by omega⟩, _, rfl, q _ true (k19.trans k11) ⟨fun _ => ⟨hA, hZ, closedC_iff.mpr hund⟩, fun _ => rfl⟩⟩
end
end HK

set_option Elab.async false
set_option linter.all false
set_option maxRecDepth 100000
set_option maxHeartbeats 4000000
namespace HK
open PySem PySem.Spec PyProof.Rows L2 GAl GxR
open Evl (pss_cut)
abbrev sTrimmed : Stmt := topS 38
abbrev N_scTrimmed : List Str := ["hearers", "ahead", "kept", "place", "at"]
theorem scTrimmed : FnScope N_scTrimmed ["hearers", "ahead"] (defScope sTrimmed) := ⟨rfl, rfl, rfl, by decide +kernel, rfl, by decide +kernel, by decide +kernel⟩
abbrev sCut : Stmt := topS 53
abbrev N_scCut : List Str := ["net", "root", "hearers", "ahead"]
theorem scCut : FnScope N_scCut ["net", "root", "hearers", "ahead"] (defScope sCut) := ⟨rfl, rfl, rfl, by decide +kernel, rfl, by decide +kernel, by decide +kernel⟩
/-! ### the part of a dict that lies on the ways of some -/
open Classical in
noncomputable def resF (S : Int → Prop) (g : IF) : IF := fun v => if S v then g v else none
theorem resF_put {S : Int → Prop} {g : IF} {v x : Int} (e : g v = some x) : HK.put (resF S g) v x = resF (fun u => S u ∨ u = v) g := by
  funext u
  unfold HK.put resF
  by_cases h : u = v
  · subst h
    rw [if_pos rfl, if_pos (Or.inr rfl), e]
  · rw [if_neg h]
    by_cases hs : S u
    · rw [if_pos hs, if_pos (Or.inl hs)]
    · rw [if_neg hs, if_neg (fun z => z.elim hs h)]
theorem resF_congr {S T : Int → Prop} {g : IF} (h : ∀ v x, g v = some x → (S v ↔ T v)) : resF S g = resF T g := by
  funext v
  unfold resF
  by_cases hs : S v
  · rw [if_pos hs]
    by_cases ht : T v
    · rw [if_pos ht]
    · rw [if_neg ht]
      cases e : g v with
      | none => rfl
      | some x => exact absurd ((h v x e).mp hs) ht
  · rw [if_neg hs]
    by_cases ht : T v
    · rw [if_pos ht]
      cases e : g v with
      | none => rfl
      | some x => exact absurd ((h v x e).mpr ht) hs
    · rw [if_neg ht]
theorem resF_none {S : Int → Prop} {g : IF} {v : Int} (h : g v = none) : resF S g v = none := by
  unfold resF
  rw [h]
  simp
theorem resF_some {S : Int → Prop} {g : IF} {v x : Int} : resF S g v = some x ↔ S v ∧ g v = some x := by
  unfold resF
  by_cases h : S v <;> simp [h]
def OnW (g : IF) (l : List Int) (u : Int) : Prop := ∃ h ∈ l, ∃ j, u = clm g j h
noncomputable def keptF (g : IF) (l : List Int) : IF := resF (OnW g l) g
theorem kept_nil {g : IF} : keptF g [] = fun _ => none := by
  funext v
  cases e : keptF g [] v with
  | none => rfl
  | some x =>
    obtain ⟨⟨h, hh, _⟩, _⟩ := resF_some.mp e
    cases hh
theorem clm_kept {g : IF} {l : List Int} {v : Int} (h : OnW g l v) : ∀ k, clm (keptF g l) k v = clm g k v ∧ OnW g l (clm g k v)
  | 0 => ⟨rfl, h⟩
  | k + 1 => by
    obtain ⟨ih, w⟩ := clm_kept h k
    have e : keptF g l (clm g k v) = g (clm g k v) := by
      unfold keptF resF
      simp [w]
    refine ⟨?_, ?_⟩
    · show stp (keptF g l) (clm (keptF g l) k v) = stp g (clm g k v)
      rw [ih]
      unfold stp
      rw [e]
    · obtain ⟨a, ha, j, ej⟩ := w
      exact ⟨a, ha, j + 1, by show stp g (clm g k v) = stp g (clm g j a); rw [ej]⟩
theorem onW_self {g : IF} {l : List Int} {h : Int} (hh : h ∈ l) : OnW g l h := ⟨h, hh, 0, rfl⟩
theorem onW_kept {g : IF} {l : List Int} {v : Int} : OnW (keptF g l) l v ↔ OnW g l v := by
  constructor
  · rintro ⟨h, hh, j, rfl⟩
    rw [(clm_kept (onW_self hh) j).1]
    exact (clm_kept (onW_self hh) j).2
  · rintro ⟨h, hh, j, rfl⟩
    exact ⟨h, hh, j, ((clm_kept (onW_self hh) j).1).symm⟩
theorem kept_kept {g : IF} {l : List Int} : keptF (keptF g l) l = keptF g l := by
  funext v
  cases e : keptF g l v with
  | none => exact resF_none e
  | some x => exact resF_some.mpr ⟨onW_kept.mpr (resF_some.mp e).1, e⟩
theorem DI.le {ls kvs : List (Key × V)} {f g : IF} (h : DI ls f) (h' : DI kvs g) (hs : ∀ v x, f v = some x → (g v).isSome = true) : ls.length ≤ kvs.length := by
  obtain ⟨ks, n1, l1, m1, _⟩ := h.keys
  obtain ⟨ks', n2, l2, m2, _⟩ := h'.keys
  rw [← l1, ← l2]
  refine sub_len n1 n2 fun x hx => (m2 x).mpr ?_
  obtain ⟨y, e⟩ := Option.isSome_iff_exists.mp ((m1 x).mp hx)
  exact hs x y e
/-- what is kept is a trim tree -/
theorem kept_trim {rs : List R4} {root : Int} {kvs ls : List (Key × V)} {g : IF} {l : List Int} (hD : DI kvs g) (hL : DI ls (keptF g l)) (hT : TreeP rs root g kvs.length) (hS : ServP root g l) : TrimP rs root (keptF g l) ls.length l := by
  obtain ⟨hr, hroads, hup⟩ := hT
  refine ⟨⟨resF_none hr, fun v x e => hroads v x (resF_some.mp e).2, fun v x e => ?_⟩, fun v hv => ?_, fun v x e => ?_⟩
  · obtain ⟨w, eg⟩ := resF_some.mp e
    have := hup v x eg
    refine clm_len hL (resF_none hr) (m := kvs.length) ?_
    rw [(clm_kept w _).1]
    exact this
  · rcases hS v hv with h | h
    · exact .inl h
    · obtain ⟨x, ex⟩ := Option.isSome_iff_exists.mp h
      exact .inr (by rw [show keptF g l v = some x from resF_some.mpr ⟨onW_self hv, ex⟩]; rfl)
  · obtain ⟨⟨h, hh, j, ej⟩, eg⟩ := resF_some.mp e
    subst ej
    clear e eg
    induction j with
    | zero => exact .inl hh
    | succ j ih =>
      cases eg : g (clm g j h) with
      | none =>
        rw [show clm g (j + 1) h = clm g j h from stp_none eg]
        exact ih
      | some y =>
        refine .inr ⟨clm g j h, ?_⟩
        rw [show clm g (j + 1) h = y from stp_some eg]
        exact resF_some.mpr ⟨⟨h, hh, j, rfl⟩, eg⟩
/-- each hearer's way ends -/
theorem serv_end {rs : List R4} {root : Int} {g : IF} {m : Nat} {l : List Int} (hT : TreeP rs root g m) (hS : ServP root g l) : ∀ h ∈ l, clm g m h = root := fun h hh => by
  rcases hS h hh with e | e
  · rw [e]
    have := clm_root (v := root) (i := 0) hT.1 rfl m
    rwa [Nat.zero_add] at this
  · obtain ⟨x, ex⟩ := Option.isSome_iff_exists.mp e
    exact hT.2.2 h x ex
section
variable {P : Program} {w : World} {K : PySem.W.Frag} {mg : Str → Option Value} {base : Heap}
def spTrimmed (K : PySem.W.Frag) : Sp := fun vs H Q _ => ∃ (p : Addr) (ns : List Int) (d : Addr) (kvs : List (Key × V)) (g : IF) (root : Int), vs = [.ref p, .ref d] ∧ SqT K H p (ns.map V.int) ∧ H d = some (.dK kvs) ∧ DI kvs g ∧ kvs.length ≤ 5000 ∧ g root = none ∧ (∀ h ∈ ns, clm g kvs.length h = root) ∧
  ∀ (q : Addr) (ls : List (Key × V)) (H' : Hp), K0 H H' → H q = none → H' q = some (.dK ls) → DI ls (keptF g ns) → ls.length ≤ kvs.length → Q (.ref q) H'
theorem ok_trimmed {f : Addr} {fd : FuncData} (F : Fun K "trimmed" "trimmed" sTrimmed f fd) : FnOk P w K mg base CX0 1 f fd ["hearers", "ahead"] (spTrimmed K) := by
  refine F.ok scTrimmed (fun vs H Q E h => ?_) (fun cdv A outer s H vs Q E hr h => ?_)
  · obtain ⟨p, ns, d, kvs, g, root, rfl, _⟩ := h
    rfl
  · obtain ⟨p, ns, d, kvs, g, root, rfl, hS, hd, hD, hkl, hroot, hend, q⟩ := h
    have hu := hu_of hr
    refine ⟨_, (pss_cons (ps_set (i := 2) scTrimmed.nd rfl (.inl rfl) pe_dnewK)
      (pss_cons (ps_for PassesOwn.never rfl (pi_tup (pv 0)) (pg_name (i := 3) scTrimmed.nd rfl (.inl rfl))
      (pss_cons (ps_set (i := 4) scTrimmed.nd rfl (.inl rfl) (pv 3))
      (pss_one (ps_while PassesOwn.never (pt_cmp (pc_din hu (pv 4) (pv 1)))
      (pss_cons (ps_dput hu (pv 2) (pv 4) (pe_dget hu (pv 1) (pv 4) (fun _ _ => rfl)) rfl)
      (pss_one (ps_set (i := 4) scTrimmed.nd rfl (.inl rfl) (pe_dget hu (pv 1) (pv 4) (fun _ _ => rfl)))))))))
      (pss_one (ps_ret (pv 2))))), ?_⟩
    refine fun t nt => ?_
    have k1 : K0 H (upd H t (.dK [])) := K0.new nt
    have d0 : DI [] (resF (fun _ => False) g) := ⟨List.nodup_nil, fun p hp => (by cases hp), fun i => by unfold resF; simp; rfl⟩
    have inc : ∀ {S : Int → Prop} {ls : List (Key × V)}, DI ls (resF S g) → ls.length ≤ kvs.length := fun {S ls} h => h.le hD fun v x e => by rw [(resF_some.mp e).2]; rfl
    refine ⟨_, rfl, p, rfl, ⟨_, k1.sqT hS⟩, for_tup (xs := ns.map V.int) (fun i σ' H' => ∃ y3 y4, σ' = [some (.ref p), some (.ref d), some (.ref t), y3, y4] ∧ K0 H H' ∧ ∃ ls, H' t = some (.dK ls) ∧ DI ls (resF (OnW g (ns.take i)) g))
      ⟨none, none, rfl, k1, [], upd_same, by rw [resF_congr (T := fun _ => False)]; exact d0; intro v x _; rw [List.take_zero]; exact ⟨fun ⟨h, hh, _⟩ => by (cases hh), fun z => z.elim⟩⟩ (fun i σ' H' _ h => ?_) (fun i x σ' H' hx h => ?_) (fun σ' H' h => ?_)⟩
    · obtain ⟨_, _, _, k, _⟩ := h
      exact k.sqT hS
    · obtain ⟨y3, y4, rfl, k2, ls, hls, hDI⟩ := h
      rw [List.getElem?_map] at hx
      cases ev : ns[i]? with
      | none => rw [ev] at hx; cases hx
      | some v =>
      rw [ev] at hx
      cases hx
      have hv := hend v (List.mem_of_getElem? ev)
      refine ⟨_, rfl, ?_⟩
      refine ⟨fun m σ' H' => ∃ k, σ' = [some (.ref p), some (.ref d), some (.ref t), some (.int v), some (.int (clm g k v))] ∧ K0 H H' ∧ k + m = kvs.length + 1 ∧ ∃ ls, H' t = some (.dK ls) ∧ DI ls (resF (fun u => OnW g (ns.take i) u ∨ ∃ j, j < k ∧ u = clm g j v) g), ⟨kvs.length + 1, 0, rfl, k2, by omega, ls, hls, by
        rw [resF_congr (T := OnW g (ns.take i))]
        · exact hDI
        · intro u x _
          exact ⟨fun z => z.elim id (fun ⟨j, hj, _⟩ => absurd hj (Nat.not_lt_zero _)), .inl⟩⟩, ?_⟩
      rintro m σ' H2 ⟨k, rfl, k3, em, ls, hls, hDI⟩
      have hd3 := k3.oth d _ hd (fun _ z => by cases z)
      have dg := dgetR (.inl hd3) hD (clm g k v)
      refine ⟨_, rfl, _, rfl, d, _, rfl, dg, _, rfl, ?_⟩
      cases eg : g (clm g k v) with
      | none =>
        refine ⟨_, _, rfl, k3, ls, hls, ?_⟩
        rw [resF_congr (T := fun u => OnW g (ns.take i) u ∨ ∃ j, j < k ∧ u = clm g j v)]
        · exact hDI
        · intro u x eu
          rw [List.take_add_one, ev]
          constructor
          · rintro ⟨h, hh, j, rfl⟩
            rcases List.mem_append.mp hh with hh | hh
            · exact .inl ⟨h, hh, j, rfl⟩
            · have := List.mem_singleton.mp hh
              subst this
              refine .inr ⟨j, Nat.lt_of_not_le fun hle => ?_, rfl⟩
              have := clm_fix eg (j - k)
              rw [show k + (j - k) = j by omega] at this
              rw [this, eg] at eu
              cases eu
          · rintro (⟨h, hh, j, rfl⟩ | ⟨j, _, rfl⟩)
            · exact ⟨h, List.mem_append_left _ hh, j, rfl⟩
            · exact ⟨v, List.mem_append_right _ (List.mem_singleton.mpr rfl), j, rfl⟩
      | some y =>
        rw [eg] at dg
        have hk : k < kvs.length := by
          refine Nat.lt_of_not_le fun hle => ?_
          have := clm_root hroot hv (k - kvs.length)
          rw [show kvs.length + (k - kvs.length) = k by omega] at this
          rw [this, hroot] at eg
          cases eg
        refine ⟨fun σ' H' => ∃ k', k' = k + 1 ∧ σ' = [some (.ref p), some (.ref d), some (.ref t), some (.int v), some (.int (clm g k' v))] ∧ K0 H H' ∧ ∃ ls, H' t = some (.dK ls) ∧ DI ls (resF (fun u => OnW g (ns.take i) u ∨ ∃ j, j < k' ∧ u = clm g j v) g), fun σ' H' ⟨k', e1, e2, e3, e4⟩ => ⟨m - 1, by omega, k', e2, e3, by omega, e4⟩, ?_⟩
        refine ⟨_, rfl, _, rfl, d, _, rfl, dg, _, rfl, _, rfl, t, _, rfl, DPut.k (k := Sum.inl (clm g k v)) hls (Nat.lt_of_le_of_lt (m := 5000) (Nat.le_trans (inc hDI) hkl) (by decide)), ?_⟩
        have k4 := k3.mut (p := t) (o := .dK (putK ls (Sum.inl (clm g k v)) (.int y))) nt
        have htd : d ≠ t := fun z => by rw [z, nt] at hd; cases hd
        have dg2 := dgetR (.inl (show upd H2 t (.dK (putK ls (Sum.inl (clm g k v)) (.int y))) d = some (.dK kvs) by rw [upd_ne htd]; exact hd3)) hD (clm g k v)
        rw [eg] at dg2
        refine ⟨_, rfl, _, rfl, d, _, rfl, dg2, k + 1, rfl, by rw [show clm g (k + 1) v = y from stp_some eg]; rfl, k4, _, upd_same, ?_⟩
        have := hDI.put (clm g k v) y
        rw [resF_put eg] at this
        rw [resF_congr (T := fun u => (OnW g (ns.take i) u ∨ ∃ j, j < k ∧ u = clm g j v) ∨ u = clm g k v)]
        · exact this
        · intro u x _
          constructor
          · rintro (h | ⟨j, hj, e⟩)
            · exact .inl (.inl h)
            · by_cases hjk : j = k
              · subst hjk; exact .inr e
              · exact .inl (.inr ⟨j, by omega, e⟩)
          · rintro ((h | ⟨j, hj, e⟩) | e)
            · exact .inl h
            · exact .inr ⟨j, by omega, e⟩
            · exact .inr ⟨k, by omega, e⟩
    · obtain ⟨y3, y4, rfl, k2, ls, hls, hDI⟩ := h
      rw [List.length_map, List.take_of_length_le (Nat.le_refl _)] at hDI
      exact ⟨_, rfl, q t ls _ k2 nt hls hDI (inc hDI)⟩
def spCut (K : PySem.W.Frag) (Pn Pr Pa Pp Pg Ps : Addr) : Sp := fun vs H Q _ => ∃ (a : Addr) (n : Int) (rs : List R4) (root : Int) (p : Addr) (ns : List Int) (d : Addr) (kvs : List (Key × V)) (g : IF), vs = [.ref a, .int root, .ref p, .ref d] ∧ NetAt K H a n rs ∧ Good n rs ∧ rs.length ≤ 156 ∧ 0 ≤ root ∧ root < n ∧
  SqT K H p (ns.map V.int) ∧ AreP n ns ∧ H d = some (.dK kvs) ∧ DI kvs g ∧ kvs.length ≤ 5000 ∧ TreeP rs root g kvs.length ∧ ServP root g ns ∧ TbL H [Pn, Pr, Pa, Pp, Pg, Ps] ∧
  ∀ (q : Addr) (ls : List (Key × V)) (H' : Hp), K0 H H' → H q = none → H' q = some (.dK ls) → DI ls (keptF g ns) → ls.length ≤ kvs.length → Q (.ref q) H'
theorem ok_cut {f Pn Pr Pa Pp Pg Ps : Addr} {fd : FuncData} {f_neednet f_needplace f_needhearers f_needtree f_serves f_trimmed : Addr} {fd_neednet fd_needplace fd_needhearers fd_needtree fd_serves fd_trimmed : FuncData} (F : Fun K "cut" "cut" sCut f fd)
    (k_neednet : PySem.W.keepIn K (.ref f_neednet) = true) (b_neednet : Binds K fd_neednet ["net"] []) (g_neednet : mg "need_net" = some (.ref f_neednet)) (G_neednet : FnOk P w K mg base CX0 6 f_neednet fd_neednet ["net"] (spNeedNet K Pn Pr))
    (k_needplace : PySem.W.keepIn K (.ref f_needplace) = true) (b_needplace : Binds K fd_needplace ["net", "place"] []) (g_needplace : mg "need_place" = some (.ref f_needplace)) (G_needplace : FnOk P w K mg base CX0 4 f_needplace fd_needplace ["net", "place"] (spNeedPlace K))
    (k_needhearers : PySem.W.keepIn K (.ref f_needhearers) = true) (b_needhearers : Binds K fd_needhearers ["net", "hearers"] []) (g_needhearers : mg "need_hearers" = some (.ref f_needhearers)) (G_needhearers : FnOk P w K mg base CX0 6 f_needhearers fd_needhearers ["net", "hearers"] (spNeedH K Pr Pa))
    (k_needtree : PySem.W.keepIn K (.ref f_needtree) = true) (b_needtree : Binds K fd_needtree ["net", "root", "ahead"] []) (g_needtree : mg "need_tree" = some (.ref f_needtree)) (G_needtree : FnOk P w K mg base CX0 5 f_needtree fd_needtree ["net", "root", "ahead"] (spNeedTree K Pp Pg))
    (k_serves : PySem.W.keepIn K (.ref f_serves) = true) (b_serves : Binds K fd_serves ["root", "hearers", "ahead"] []) (g_serves : mg "serves" = some (.ref f_serves)) (G_serves : FnOk P w K mg base CX0 2 f_serves fd_serves ["root", "hearers", "ahead"] (spServes K Ps))
    (k_trimmed : PySem.W.keepIn K (.ref f_trimmed) = true) (b_trimmed : Binds K fd_trimmed ["hearers", "ahead"] []) (g_trimmed : mg "trimmed" = some (.ref f_trimmed)) (G_trimmed : FnOk P w K mg base CX0 1 f_trimmed fd_trimmed ["hearers", "ahead"] (spTrimmed K)) : FnOk P w K mg base CX0 7 f fd ["net", "root", "hearers", "ahead"] (spCut K Pn Pr Pa Pp Pg Ps) := by
  refine F.ok scCut (fun vs H Q E h => ?_) (fun cdv A outer s H vs Q E hr h => ?_)
  · obtain ⟨a, n, rs, root, p, ns, d, kvs, g, rfl, _⟩ := h
    rfl
  · obtain ⟨a, n, rs, root, p, ns, d, kvs, g, rfl, hN, hG, hl, r0, r1, hS, hA, hd, hD, hkl, hT, hServ, tb, q⟩ := h
    refine ⟨_, (pss_cons (ps_expr (pe_call G_neednet (hr.mono (by decide)) (by rfl) g_neednet k_neednet b_neednet .nil pass0 (pa_cons (pv 0) pa_nil)))
      (pss_cons (ps_expr (pe_call G_needplace (hr.mono (by decide)) (by rfl) g_needplace k_needplace b_needplace .nil pass0 (pa_cons (pv 0) (pa_cons (pv 1) pa_nil))))
      (pss_cons (ps_expr (pe_call G_needhearers (hr.mono (by decide)) (by rfl) g_needhearers k_needhearers b_needhearers .nil pass0 (pa_cons (pv 0) (pa_cons (pv 2) pa_nil))))
      (pss_cons (ps_expr (pe_call G_needtree (hr.mono (by decide)) (by rfl) g_needtree k_needtree b_needtree .nil pass0 (pa_cons (pv 0) (pa_cons (pv 1) (pa_cons (pv 3) pa_nil)))))
      (pss_cons (ps_if (pt_not (pt_val (pe_call G_serves (hr.mono (by decide)) (by rfl) g_serves k_serves b_serves .nil pass0 (pa_cons (pv 1) (pa_cons (pv 2) (pa_cons (pv 3) pa_nil)))))) pss_never pss_nil)
      (pss_one (ps_ret (pe_call G_trimmed (hr.mono (by decide)) (by rfl) g_trimmed k_trimmed b_trimmed .nil pass0 (pa_cons (pv 2) (pa_cons (pv 3) pa_nil)))))))))), ?_⟩
    refine ⟨_, rfl, a, n, rs, rfl, hN, hG, hl, tb Pn (by simp), tb Pr (by simp), fun H1 k1 => ?_⟩
    refine ⟨_, rfl, _, rfl, a, n, rs, root, rfl, hN.k0 k1, r0, r1, ?_⟩
    refine ⟨_, rfl, _, rfl, a, n, rs, p, ns, rfl, hN.k0 k1, k1.sqT hS, hA, k1.tab _ (tb Pr (by simp)), k1.tab _ (tb Pa (by simp)), fun H2 k2 => ?_⟩
    have k12 := k1.trans k2
    refine ⟨_, rfl, _, rfl, _, rfl, a, n, rs, root, d, kvs, g, rfl, hN.k0 k12, hG, hl, k12.oth d _ hd (fun _ z => by cases z), hD, hkl, hT, k12.tab _ (tb Pp (by simp)), k12.tab _ (tb Pg (by simp)), fun H3 k3 => ?_⟩
    have k13 := k12.trans k3
    refine ⟨_, rfl, _, rfl, _, rfl, root, p, ns, d, kvs, g, rfl, k13.sqT hS, k13.oth d _ hd (fun _ z => by cases z), hD, k13.tab _ (tb Ps (by simp)), fun H4 b k4 hb => ?_⟩
    have hbt : b = true := hb.mpr hServ
    subst hbt
    have k14 := k13.trans k4
    refine ⟨_, rfl, iteF ?_⟩
    exact ⟨_, rfl, _, rfl, p, ns, d, kvs, g, root, rfl, k14.sqT hS, k14.oth d _ hd (fun _ z => by cases z), hD, hkl, hT.1, serv_end hT hServ, fun q1 ls H5 k5 nq hq hDI hll => q q1 ls H5 (k14.trans k5) (k14.dom q1 nq) hq hDI hll⟩
end
end HK

set_option Elab.async false
set_option linter.all false
set_option maxRecDepth 100000
set_option maxHeartbeats 2000000
namespace HkE
open PySem PySem.Spec PyProof.Rows L2
/-- what was caught and is kept: an object of that class -/
def Caught (cls : Value) (a : Addr) : HO := .ext fun h => ∃ oe : Obj, h.get? a = some oe ∧ Zc cls none oe ∧ ∃ vs, oe.data = .fields vs
theorem caught_ok {P : Program} {w : World} {H : Hp} {h : Heap} {a : Addr} {cls : Value} {oe : Obj} (e : h.get? a = some oe) (z : Zc cls none oe) (d : ∃ vs, oe.data = .fields vs) : ObjOk P w H h a (Caught cls a) :=
  ⟨⟨oe, e, z, d⟩, ⟨oe, e⟩, fun _ _ ⟨o, q, r⟩ k => ⟨o, k o q, r⟩⟩
section
variable {X : Cx} {σ : L2.St} {H : Hp} {s : Shared} {pins : List (Addr × Obj)}
/-- an object that wasn't there at the entry and that nothing else stands for is tracked from here on -/
theorem inv_track {a : Addr} {oe : Obj} {cls : Value} (I : Inv X pins σ H s) (h0 : X.s_0.heap.get? a = none) (na : H a = none) (nL : X.env.locals ≠ a) (np : ∀ p ∈ X.pn ++ pins, p.1 ≠ a)
    (e : s.heap.get? a = some oe) (z : Zc cls none oe) (d : ∃ vs, oe.data = .fields vs) : Inv X pins σ (upd H a (Caught cls a)) s := by
  have cne : ∀ x c, X.env.cells.lookup x = some c → c ≠ a := by
    intro x c hc hca
    obtain ⟨v, o, ho, hd⟩ := I.cell x c hc
    obtain ⟨vs, hv⟩ := d
    rw [hca] at ho
    rw [e] at ho
    cases ho
    rw [hv] at hd
    cases hd
  have other : ∀ {b : Addr} {o : HO}, H b = some o → b ≠ a := by
    intro b o hb hba
    rw [hba, na] at hb
    cases hb
  have base' : Un X.fs X.ex X.H_0 (upd H a (Caught cls a)) X.s_0.heap s.heap :=
    { keep := I.base.keep, slot := I.base.slot, there := I.base.there
      free := by
        intro b o hb n hx
        have hne : b ≠ a := by
          intro hba
          rw [hba, h0] at hb
          cases hb
        rw [upd_ne hne]
        exact I.base.free b o hb n hx
      tups := by
        intro b xs hb
        have q := I.base.tups b xs hb
        rw [upd_ne (other q)]
        exact q
      frzs := by
        intro b o u hb
        have q := I.base.frzs b o u hb
        rw [upd_ne (other q)]
        exact q
      tbls := by
        intro b ps hb
        obtain ⟨more, q⟩ := I.base.tbls b ps hb
        exact ⟨more, by rw [upd_ne (other q)]; exact q⟩ }
  exact
    { ok := I.ok, os := I.os, bare := I.bare, base := base', loc := I.loc, cell := I.cell, len := I.len
      free := by
        rw [upd_ne nL]
        exact I.free
      freeC := by
        intro x c hc
        rw [upd_ne (cne x c hc)]
        exact I.freeC x c hc
      pin := by
        intro p hp
        obtain ⟨p1, p2, p3⟩ := I.pin p hp
        exact ⟨p1, by rw [upd_ne (np p hp)]; exact p2, p3⟩
      hok := by
        intro b o hb
        by_cases hba : b = a
        · subst hba
          rw [upd_same] at hb
          cases hb
          exact caught_ok e z d
        · rw [upd_ne hba] at hb
          exact (I.hok b o hb).stay (fun _ _ _ q => q) (fun c q => by rw [upd_ne (other q)]; exact q) (fun c xs q => by rw [upd_ne (other q)]; exact q) }
end
/-- the wish of 'except c as n', where the class always matches and what is caught stays known behind the suite -/
def wHold (K : PySem.W.Frag) (c : Value) (i : Nat) (ts : Addr → Value → TS) (D : Ends) : WX := fun cls d σ H =>
  PySem.W.exmOne K cls c = some true ∧ d = none ∧ ∀ a, H a = none →
    ts a cls { nx := fun σ' H' => D.nx (σ'.set i none) (upd H' a (Caught cls a)), rt := fun _ _ => False, bk := fun _ _ => False, ct := fun _ _ => False } (σ.set i (some (.ref a))) H
section
variable {X : Cx} {x n : Str} {c : Value} {i : Nat} {body rest : List Stmt} {b₀ : Stmt} {np pos pos' : Pos} {tb : WX → TS} {ts : Addr → Value → TS}
theorem ps_try_hold (hs : X.stack = X.env :: X.outer) (hf : X.env.frame = some X.env.locals) (hx : X.ex = []) (hN : X.N.Nodup) (hi : X.N[i]? = some n) (hln : X.env.kindOf n = some .local) (hc : Names X x c)
    (hb : ∀ (W : WX) (pn : List (Addr × Obj)) (xe : Value → Shared → Prop), Takes (X.tr pn xe) W → PSs (X.tr pn xe) body (tb W))
    (hsu : ∀ (a : Addr) (cls : Value) (oe : Obj) (pn : List (Addr × Obj)), PSs (X.suite a ((a, oe) :: pn)) (b₀ :: rest) (ts a cls)) :
    PS X (.Try body [.ExceptHandler (some (.Name x np)) (some n) (b₀ :: rest) pos'] [] [] pos) (fun D σ H => tb (wHold X.K c i ts D) D σ H) := by
  constructor
  intro pins s σ H D I h
  have ok := I.ok
  have hfr : X.A.frames = some (X.env :: X.outer) := by
    rw [ok.frames]
    rw [hs]
  apply wpAny_Try_except
  have run := (hb (wHold X.K c i ts D) (X.pn ++ pins) (fun e s₁ => wpAny (model X.prog X.w) X.A (noteFrame e X.env) (fun _ s₂ => wpAny (model X.prog X.w) X.A (setFlight e none)
    (fun _ s₃ => wpAny (model X.prog X.w) X.A (handleBy e X.env [.ExceptHandler (some (.Name x np)) (some n) (b₀ :: rest) pos']) (SP X pins D) X.xe s₃) X.xe s₂) X.xe s₁) ?takes).run [] s σ H D (I.toTry _) h
  case takes =>
    rintro u s' ⟨a, B, sI, pins', σ', H', cls, d, rfl, It, nb, up, sky, na, os, ag, hm, hd0, ht⟩
    subst hd0
    have Ia : Inv X pins σ' H' sI := It.ofTry ok
    rw [show (X.tr (X.pn ++ pins) _).stack = X.stack from rfl, hs] at sky
    refine Sky.land (A := X.A) Zc.steady hfr hf sky ?_
    intro hpz flz upz
    have Iz : Inv X pins σ' H' { s' with heap := hpz } := Ia.landed nb flz.1 (up.trans upz) os ag
    obtain ⟨oz, fz, gz, kz, dz⟩ := flz.there
    have nB : B.get? a = none := flz.2.1
    have nS : a ∉ frs (X.env :: X.outer) := by
      intro hin
      obtain ⟨_, o', e', no⟩ := flz.2.2.1.mem hin
      rw [gz] at e'
      cases e'
      exact no _ dz
    have nI : sI.heap.get? a = none := by
      cases hq : sI.heap.get? a with
      | none => rfl
      | some o =>
        have q := nb a o hq (by show a ∉ frs X.stack; rw [hs]; exact nS)
        rw [nB] at q
        cases q
    have new0 : X.s_0.heap.get? a = none := by
      cases hq : X.s_0.heap.get? a with
      | none => rfl
      | some o =>
        obtain ⟨o', q⟩ := Ia.base.there a o hq (by rw [hx]; exact List.not_mem_nil)
        rw [nI] at q
        cases q
    have nL : X.env.locals ≠ a := by
      intro z
      exact nS (List.mem_filterMap.mpr ⟨X.env, List.mem_cons_self, hf.trans (congrArg some z)⟩)
    have nF : a ∉ X.fs := by
      intro hin
      obtain ⟨en, h1, h2⟩ := List.mem_filterMap.mp hin
      exact nS (List.mem_filterMap.mpr ⟨en, List.mem_cons_of_mem _ h1, h2⟩)
    have nP : ∀ p ∈ X.pn ++ pins, p.1 ≠ a := by
      intro p hp z
      have q := (Ia.pin p hp).1
      rw [z, nI] at q
      cases q
    have Sz := Iz.suite gz dz na (fun z => nL z.symm) nF
    refine wpAny_handleBy_cons (codeAny_handlers_test ?hdl) (fun q => by cases q)
    have LT : PySem.W.Looks (model X.prog X.w) hpz (typeOf (.ref a)) cls := by
      intro A1 Q1 E1 s1 k1 q1
      exact wpAny_typeOf_ref (k1 _ _ gz) (kz.1.symm ▸ q1)
    have hit := PySem.W.exm_one (M := model X.prog X.w) Iz.kIn LT hm
    have goOn : ∀ {Q1 : Value → Shared → Prop} {E1 : Value → Shared → Prop}, Q1 c { s' with heap := hpz } → wpAny (model X.prog X.w) (X.A.mark (some (.ref a))) (eval (.Name x np) X.env) Q1 E1 { s' with heap := hpz } := by
      intro Q1 E1 q1
      rcases hc with ⟨c1, c2, c3 | ⟨c3, c4, c5⟩⟩
      · exact ld_glob (X := X.suite a ((a, oz) :: (X.pn ++ pins))) Sz c1 c3 q1 c2
      · exact ld_blt (X := X.suite a ((a, oz) :: (X.pn ++ pins))) Sz c1 c3 c4 q1 c5 c2
    apply goOn
    apply hit.here
    apply codeAny_handlers_suite_as
    apply HandSPX.lands_againZ flz
    intro hpw flw upw
    have Iw : Inv X pins σ' H' { s' with heap := hpw } := Ia.landed nb flw.1 ((up.trans upz).trans upw) os ag
    obtain ⟨ow, fw, gw, kw, dw⟩ := flw.there
    have Sw := Iw.suite gw dw na (fun z => nL z.symm) nF
    refine store_ok (X := X.suite a ((a, ow) :: (X.pn ++ pins))) (v := .ref a) Sw hN hi (.inl hln) rfl ?_ (.inr hln)
    intro s5 S5
    have fin := (hsu a cls ow (X.pn ++ pins)).run [] s5 _ H' _ S5 (ht a na)
    refine wpAny_mono fin ?_ (fun _ _ z => z.elim)
    intro f sv hsp
    cases f with
    | next =>
      obtain ⟨σv, Hv, Sv, qv⟩ := hsp
      refine gone_ok (X := X.suite a ((a, ow) :: (X.pn ++ pins))) Sv hN hi hln ?_
      intro s7 S7
      obtain ⟨e7, n7, _⟩ := S7.pin (a, ow) (List.mem_append_left _ List.mem_cons_self)
      exact ⟨_, _, inv_track (S7.unsuite ok) new0 n7 nL nP e7 kw ⟨fw, dw⟩, qv⟩
    | brk =>
      obtain ⟨_, _, _, z⟩ := hsp
      exact z.elim
    | cont =>
      obtain ⟨_, _, _, z⟩ := hsp
      exact z.elim
    | ret u =>
      obtain ⟨_, _, _, _, _, z⟩ := hsp
      exact z.elim
  refine wpAny_mono run ?_ (fun _ _ z => z)
  intro f s1 hsp
  cases f with
  | next =>
    obtain ⟨σ1, H1, I1, q1⟩ := hsp
    exact wpAny_execs_nil ⟨σ1, H1, I1.ofTry ok, q1⟩
  | brk =>
    obtain ⟨σ1, H1, I1, q1⟩ := hsp
    exact ⟨σ1, H1, I1.ofTry ok, q1⟩
  | cont =>
    obtain ⟨σ1, H1, I1, q1⟩ := hsp
    exact ⟨σ1, H1, I1.ofTry ok, q1⟩
  | ret u =>
    obtain ⟨v1, σ1, H1, I1, r1, q1⟩ := hsp
    exact ⟨v1, σ1, H1, I1.ofTry ok, r1, q1⟩
end
/-- isinstance(e, c), e kept from a catch -/
def rIsC (K : PySem.W.Frag) : List V → Hp → VK → Prop := fun xs H Q => ∃ (a D : Addr) (c : V) (cv : Value) (b : Bool), xs = [.ref a, c] ∧ H a = some (Caught (.ref D) a) ∧ ExcC K D ∧ (∀ u, RelV c u → u = cv) ∧ PySem.W.kitOne K (.ref D) cv = some b ∧ Q (.bl b) H
theorem call_isC {X : Cx} : CallR X (.builtin "isinstance") (rIsC X.K) := by
  intro pins s σ H args us Q I r h
  obtain ⟨a, D, c, cv, b, rfl, ha, C, hcv, e, q⟩ := h
  cases r with
  | cons rx rr =>
    cases rr with
    | cons rt rr =>
      cases rr
      cases rx
      obtain rfl := hcv _ rt
      obtain ⟨⟨oe, he, hz, vs, hv⟩, _, _⟩ := I.hok a _ ha
      have Ia : PySem.W.InstAt s.heap a oe D none := by
        rcases oe with ⟨oc, od, oda, osl⟩
        obtain ⟨z1, z2⟩ := hz
        simp only at z1 z2 hv
        subst z1
        subst z2
        subst hv
        exact ⟨he, rfl, rfl, trivial⟩
      refine PySem.W.kia_one (PySem.W.handS_kitx_exc C.hg C.hk C.hs C.hd C.ha C.hn C.ht C.hm) I.kIn Ia e (by intro z; cases z) ?_
      intro tk
      exact ⟨.bl b, H, I.kept (t' := tk) (fun _ _ z => z), rfl, q⟩
end HkE

set_option Elab.async false
set_option linter.all false
set_option maxRecDepth 100000
set_option maxHeartbeats 4000000
namespace HK
open PySem PySem.Spec PyProof.Rows L2 GAl GxR
abbrev sDoor : Stmt := topS 62
abbrev N_scDoor : List Str := ["way", "net", "root", "place", "ahead"]
theorem scDoor : FnScope N_scDoor ["way", "net", "root", "place", "ahead"] (defScope sDoor) := ⟨rfl, rfl, rfl, by decide +kernel, rfl, by decide +kernel, by decide +kernel⟩
abbrev sRowDoor : Stmt := topS 63
abbrev N_scRowDoor : List Str := ["way", "net", "root", "row", "ahead"]
theorem scRowDoor : FnScope N_scRowDoor ["way", "net", "root", "row", "ahead"] (defScope sRowDoor) := ⟨rfl, rfl, rfl, by decide +kernel, rfl, by decide +kernel, by decide +kernel⟩
/-- a good net, root, place and tree; then what R says -/
def GoodAll (K : PySem.W.Frag) (H : Hp) (v0 v1 v2 v3 : V) (R : Int → List R4 → Int → Int → IF → Nat → Prop) : Prop :=
  GoodRoot K H v0 v1 (fun _ n rs r => ∃ (x : Int) (p : Addr) (kvs : List (Key × V)) (g : IF), v2 = .int x ∧ 0 ≤ x ∧ x < n ∧ v3 = .ref p ∧ H p = some (.dK kvs) ∧ DI kvs g ∧ kvs.length ≤ 5000 ∧ R n rs r x g kvs.length)
/-- what is no net, of plain data -/
def NoNetP (K : PySem.W.Frag) (H : Hp) (C : Addr) (v0 : V) (E : XK) : Prop := (∃ d, Dp K H v0 d ∧ (∀ m rs, d = .tuple [m, .tuple rs] → rs.length ≤ 1000) ∧ isNetD d = false) ∧ ∀ H', K0 H H' → E (.ref C) none H'
theorem NoNetP.bad {K : PySem.W.Frag} {H : Hp} {C : Addr} {v0 : V} {E : XK} (h : NoNetP K H C v0 E) : BadNet K H C v0 E := by
  obtain ⟨⟨d, h1, h2, h3⟩, q⟩ := h
  exact ⟨.inl ⟨d, h1, h2, h3.symm⟩, q⟩
theorem NoNetP.map {K : PySem.W.Frag} {H : Hp} {C : Addr} {v0 : V} {E E2 : XK} (h : NoNetP K H C v0 E) (f : ∀ C H', K0 H H' → E (.ref C) none H' → E2 (.ref C) none H') : NoNetP K H C v0 E2 := ⟨h.1, fun H' k => f _ _ k (h.2 H' k)⟩
theorem NoNetP.k0 {K : PySem.W.Frag} {H H1 : Hp} {C : Addr} {v0 : V} {E : XK} (h : NoNetP K H C v0 E) (k : K0 H H1) : NoNetP K H1 C v0 E := by
  obtain ⟨⟨d, h1, h2, h3⟩, q⟩ := h
  exact ⟨⟨d, k.dp d v0 h1, h2, h3⟩, fun H' k2 => q H' (k.trans k2)⟩
/-- what comes of a door: a refusal, or anything at all -/
inductive DoorP (K : PySem.W.Frag) (H : Hp) (CN CP CT : Addr) (way : Int) (v0 v1 v2 v3 : V) (G : Hp → Prop) (E : XK) : Prop
  | net (h : NoNetP K H CN v0 E)
  | root (h : BadRoot K H CP v0 v1 E)
  | place (hw : way = 5 ∨ way = 8 ∨ way = 10) (h : GoodRoot K H v0 v1 (fun _ n _ _ => BadPlace H CP v2 E n))
  | tree (hw : 5 < way) (h : GoodAll K H v0 v1 v2 v3 (fun _ rs r _ g m => ¬ TreeP rs r g m)) (q : ∀ H', K0 H H' → E (.ref CT) none H')
  | out (hw : way = 10) (h : GoodAll K H v0 v1 v2 v3 (fun _ rs r x g m => TreeP rs r g m ∧ ¬ InT r g x)) (q : ∀ H', K0 H H' → E (.ref CT) none H')
  | good (h : GoodAll K H v0 v1 v2 v3 (fun _ rs r x g m => TreeP rs r g m ∧ InT r g x)) (q : ∀ H', K0 H H' → G H')
theorem BadRoot.map {K : PySem.W.Frag} {H : Hp} {C : Addr} {v0 v1 : V} {E E2 : XK} (h : BadRoot K H C v0 v1 E) (f : ∀ C H', K0 H H' → E (.ref C) none H' → E2 (.ref C) none H') : BadRoot K H C v0 v1 E2 := by
  obtain ⟨a, n, rs, r, h1, h2, h3, h4, h5, h6, q⟩ := h
  exact ⟨a, n, rs, r, h1, h2, h3, h4, h5, h6, fun H' k => f _ _ k (q H' k)⟩
theorem BadPlace.map {H : Hp} {C : Addr} {v : V} {E E2 : XK} {n : Int} (h : BadPlace H C v E n) (f : ∀ C H', K0 H H' → E (.ref C) none H' → E2 (.ref C) none H') : BadPlace H C v E2 n := by
  obtain ⟨x, h1, h2, q⟩ := h
  exact ⟨x, h1, h2, fun H' k => f _ _ k (q H' k)⟩
theorem GoodRoot.imp {K : PySem.W.Frag} {H : Hp} {v0 v1 : V} {R R2 : Addr → Int → List R4 → Int → Prop} (h : GoodRoot K H v0 v1 R) (f : ∀ a n rs r, R a n rs r → R2 a n rs r) : GoodRoot K H v0 v1 R2 := by
  obtain ⟨a, n, rs, r, h1, h2, h3, h4, h5, h6, h7, q⟩ := h
  exact ⟨a, n, rs, r, h1, h2, h3, h4, h5, h6, h7, f _ _ _ _ q⟩
/-- what each end promises for itself is enough where it is kept on the way -/
theorem DoorP.map {K : PySem.W.Frag} {H : Hp} {CN CP CT : Addr} {way : Int} {v0 v1 v2 v3 : V} {G G2 : Hp → Prop} {E E2 : XK} (h : DoorP K H CN CP CT way v0 v1 v2 v3 G E) (g : ∀ H', K0 H H' → G H' → G2 H') (f : ∀ C H', K0 H H' → E (.ref C) none H' → E2 (.ref C) none H') :
    DoorP K H CN CP CT way v0 v1 v2 v3 G2 E2 := by
  cases h with
  | net h => exact .net (h.map f)
  | root h => exact .root (h.map f)
  | place hw h => exact .place hw (h.imp fun _ _ _ _ z => z.map f)
  | tree hw h q => exact .tree hw h fun H' k => f _ _ k (q H' k)
  | out hw h q => exact .out hw h fun H' k => f _ _ k (q H' k)
  | good h q => exact .good h fun H' k => g _ k (q H' k)
theorem tree_in {n root : Int} {rs : List R4} {g : IF} {m : Nat} (hG : Good n rs) (r0 : 0 ≤ root) (r1 : root < n) (hT : TreeP rs root g m) : ∀ v, InT root g v → 0 ≤ v ∧ v < n := fun v hv => by
  rcases hv with rfl | hv
  · exact ⟨r0, r1⟩
  · obtain ⟨x, ex⟩ := Option.isSome_iff_exists.mp hv
    obtain ⟨r, hr⟩ := Option.isSome_iff_exists.mp (hT.2.1 v x ex)
    obtain ⟨hm, _, he⟩ := road_some hr
    have := hG.ok r hm
    exact ⟨he ▸ this.e0, he ▸ this.e1⟩
theorem BadRoot.k0 {K : PySem.W.Frag} {H H1 : Hp} {C : Addr} {v0 v1 : V} {E : XK} (h : BadRoot K H C v0 v1 E) (k : K0 H H1) : BadRoot K H1 C v0 v1 E := by
  obtain ⟨a, n, rs, r, h1, h2, h3, h4, h5, h6, q⟩ := h
  exact ⟨a, n, rs, r, h1, h2, h3.k0 k, h4, h5, h6, fun H' k2 => q H' (k.trans k2)⟩
theorem GoodRoot.k0 {K : PySem.W.Frag} {H H1 : Hp} {v0 v1 : V} {R R2 : Addr → Int → List R4 → Int → Prop} (h : GoodRoot K H v0 v1 R) (k : K0 H H1) (f : ∀ a n rs r, R a n rs r → R2 a n rs r) : GoodRoot K H1 v0 v1 R2 := by
  obtain ⟨a, n, rs, r, h1, h2, h3, h4, h5, h6, h7, q⟩ := h
  exact ⟨a, n, rs, r, h1, h2, h3.k0 k, h4, h5, h6, h7, f _ _ _ _ q⟩
theorem BadPlace.k0 {H H1 : Hp} {C : Addr} {v : V} {E : XK} {n : Int} (h : BadPlace H C v E n) (k : K0 H H1) : BadPlace H1 C v E n := by
  obtain ⟨x, h1, h2, q⟩ := h
  exact ⟨x, h1, h2, fun H' k2 => q H' (k.trans k2)⟩
theorem GoodAll.k0 {K : PySem.W.Frag} {H H1 : Hp} {v0 v1 v2 v3 : V} {R : Int → List R4 → Int → Int → IF → Nat → Prop} (h : GoodAll K H v0 v1 v2 v3 R) (k : K0 H H1) : GoodAll K H1 v0 v1 v2 v3 R :=
  GoodRoot.k0 h k fun _ _ _ _ ⟨x, p, kvs, g, h1, h2, h3, h4, h5, h6⟩ => ⟨x, p, kvs, g, h1, h2, h3, h4, k.oth p _ h5 (fun _ z => by cases z), h6⟩
theorem DoorP.k0 {K : PySem.W.Frag} {H H1 : Hp} {CN CP CT : Addr} {way : Int} {v0 v1 v2 v3 : V} {G : Hp → Prop} {E : XK} (h : DoorP K H CN CP CT way v0 v1 v2 v3 G E) (k : K0 H H1) : DoorP K H1 CN CP CT way v0 v1 v2 v3 G E := by
  cases h with
  | net h => exact .net (h.k0 k)
  | root h => exact .root (h.k0 k)
  | place hw h => exact .place hw (h.k0 k fun _ _ _ _ z => z.k0 k)
  | tree hw h q => exact .tree hw (h.k0 k) fun H' k2 => q H' (k.trans k2)
  | out hw h q => exact .out hw (h.k0 k) fun H' k2 => q H' (k.trans k2)
  | good h q => exact .good (h.k0 k) fun H' k2 => q H' (k.trans k2)
theorem GoodAll.bad {K : PySem.W.Frag} {H : Hp} {v0 v1 v2 v3 : V} {Pp Pg CT : Addr} {E : XK} (h : GoodAll K H v0 v1 v2 v3 (fun _ rs r _ g m => ¬ TreeP rs r g m)) (q : ∀ H', K0 H H' → E (.ref CT) none H') (tp : TabG H Pp) (tg : TabG H Pg) :
    GoodRoot K H v0 v1 (fun _ n rs r => (∃ x : Int, v2 = .int x ∧ 0 ≤ x ∧ x < n) ∧ BadTree H Pp Pg CT v3 E rs r) :=
  GoodRoot.imp h fun _ _ _ _ ⟨x, p, kvs, g, h1, h2, h3, h4, h5, h6, h7, h8⟩ => ⟨⟨x, h1, h2, h3⟩, p, kvs, g, h4, h5, h6, h7, tp, tg, h8, q⟩
/-- what never makes a refusal of the place's or the tree's own -/
theorem DoorP.low {K : PySem.W.Frag} {H : Hp} {CN CP CT : Addr} {way : Int} {v0 v1 v2 v3 : V} {G : Hp → Prop} {E : XK} (h : DoorP K H CN CP CT way v0 v1 v2 v3 G E) (l : way < 5) :
    (BadNet K H CN v0 E ∨ BadRoot K H CP v0 v1 E) ∨ (GoodAll K H v0 v1 v2 v3 (fun _ rs r x g m => TreeP rs r g m ∧ InT r g x) ∧ ∀ H', K0 H H' → G H') := by
  cases h with
  | net h => exact .inl (.inl h.bad)
  | root h => exact .inl (.inr h)
  | place hw h => omega
  | tree hw h q => omega
  | out hw h q => omega
  | good h q => exact .inr ⟨h, q⟩
theorem DoorP.mid {K : PySem.W.Frag} {H : Hp} {CN CP CT : Addr} {way : Int} {v0 v1 v2 v3 : V} {G : Hp → Prop} {E : XK} (h : DoorP K H CN CP CT way v0 v1 v2 v3 G E) (l : way = 6 ∨ way = 7 ∨ way = 9) :
    (BadNet K H CN v0 E ∨ BadRoot K H CP v0 v1 E ∨ (GoodAll K H v0 v1 v2 v3 (fun _ rs r _ g m => ¬ TreeP rs r g m) ∧ ∀ H', K0 H H' → E (.ref CT) none H')) ∨ (GoodAll K H v0 v1 v2 v3 (fun _ rs r x g m => TreeP rs r g m ∧ InT r g x) ∧ ∀ H', K0 H H' → G H') := by
  cases h with
  | net h => exact .inl (.inl h.bad)
  | root h => exact .inl (.inr (.inl h))
  | place hw h => omega
  | tree hw h q => exact .inl (.inr (.inr ⟨h, q⟩))
  | out hw h q => omega
  | good h q => exact .inr ⟨h, q⟩
theorem BadPlace.hear {K : PySem.W.Frag} {H : Hp} {C Pa q : Addr} {v : V} {E : XK} {n : Int} (h : BadPlace H C v E n) (hq : H q = some (.tup [v])) (ta : TabG H Pa) : BadHear K H Pa C (.ref q) E n := by
  obtain ⟨x, rfl, h2, z⟩ := h
  exact ⟨q, [x], rfl, .inl (.inl hq), ta, fun hA => h2 (hA.1 x List.mem_cons_self), z⟩
theorem one_size (v : V) : [v].length ≤ sizeLine := by
  show 1 ≤ sizeLine
  rw [sizeLine_eq]
  omega
theorem one_areP {n x : Int} (h0 : 0 ≤ x) (h1 : x < n) : AreP n [x] := by
  refine ⟨fun v hv => ?_, List.pairwise_singleton _ _⟩
  rcases List.mem_cons.mp hv with rfl | z
  · exact ⟨h0, h1⟩
  · cases z
/-- the tables of all that a door leads to -/
structure Tbs (H : Hp) (Pn Pr Pp Pg Pa Ps Pt Pc Pq Pz Pi Pe : Addr) : Prop where
  n : TabG H Pn
  r : TabG H Pr
  p : TabG H Pp
  g : TabG H Pg
  a : TabG H Pa
  s : TabG H Ps
  t : TabG H Pt
  c : TabG H Pc
  q : TabG H Pq
  z : TabG H Pz
  i : TabG H Pi
  e : TabG H Pe
theorem Tbs.k0 {H H' : Hp} {Pn Pr Pp Pg Pa Ps Pt Pc Pq Pz Pi Pe : Addr} (h : Tbs H Pn Pr Pp Pg Pa Ps Pt Pc Pq Pz Pi Pe) (k : K0 H H') : Tbs H' Pn Pr Pp Pg Pa Ps Pt Pc Pq Pz Pi Pe :=
  ⟨k.tab _ h.n, k.tab _ h.r, k.tab _ h.p, k.tab _ h.g, k.tab _ h.a, k.tab _ h.s, k.tab _ h.t, k.tab _ h.c, k.tab _ h.q, k.tab _ h.z, k.tab _ h.i, k.tab _ h.e⟩
theorem Tbs.kt {t : Addr} {H H' : Hp} {Pn Pr Pp Pg Pa Ps Pt Pc Pq Pz Pi Pe : Addr} (h : Tbs H Pn Pr Pp Pg Pa Ps Pt Pc Pq Pz Pi Pe) (k : Kt t H H') : Tbs H' Pn Pr Pp Pg Pa Ps Pt Pc Pq Pz Pi Pe :=
  ⟨k.tab _ h.n, k.tab _ h.r, k.tab _ h.p, k.tab _ h.g, k.tab _ h.a, k.tab _ h.s, k.tab _ h.t, k.tab _ h.c, k.tab _ h.q, k.tab _ h.z, k.tab _ h.i, k.tab _ h.e⟩
section
variable {P : Program} {w : World} {K : PySem.W.Frag} {mg : Str → Option Value} {base : Heap}
def spDoor (K : PySem.W.Frag) (CN CP CT Pn Pr Pp Pg Pa Ps Pt Pc Pq Pz Pi Pe : Addr) : Sp := fun vs H Q E => ∃ (way : Int) (v0 v1 v2 v3 : V), vs = [.int way, v0, v1, v2, v3] ∧ 0 ≤ way ∧ way ≤ 10 ∧ Tbs H Pn Pr Pp Pg Pa Ps Pt Pc Pq Pz Pi Pe ∧
  DoorP K H CN CP CT way v0 v1 v2 v3 (fun H' => ∀ v, Q v H') E
set_option maxHeartbeats 16000000 in
theorem ok_door {f CN CP CT Pn Pr Pp Pg Pa Ps Pt Pc Pq Pz Pi Pe : Addr} {fd : FuncData} {f_istree f_early f_ways f_aree f_isclosed f_istrim f_price f_lateness f_graft f_areprices f_cut : Addr} {fd_istree fd_early fd_ways fd_aree fd_isclosed fd_istrim fd_price fd_lateness fd_graft fd_areprices fd_cut : FuncData}
    (F : Fun K "_law_b_door" "_law_b_door" sDoor f fd)
    (k_istree : PySem.W.keepIn K (.ref f_istree) = true) (b_istree : Binds K fd_istree ["net", "root", "ahead"] []) (g_istree : mg "is_tree" = some (.ref f_istree)) (G_istree : FnOk P w K mg base CX0 7 f_istree fd_istree ["net", "root", "ahead"] (spIsTree K Pn Pr Pp Pg)) (X_istree : FnOk P w K mg base (CX P w) 7 f_istree fd_istree ["net", "root", "ahead"] (spX_is_tree K Pn Pr CN CP))
    (k_early : PySem.W.keepIn K (.ref f_early) = true) (b_early : Binds K fd_early ["net", "root"] []) (g_early : mg "earliest" = some (.ref f_early)) (G_early : FnOk P w K mg base CX0 7 f_early fd_early ["net", "root"] (spEarly K Pn Pr)) (X_early : FnOk P w K mg base (CX P w) 7 f_early fd_early ["net", "root"] (spX_earliest K Pn Pr CN CP))
    (k_ways : PySem.W.keepIn K (.ref f_ways) = true) (b_ways : Binds K fd_ways ["net", "root"] []) (g_ways : mg "ways" = some (.ref f_ways)) (G_ways : FnOk P w K mg base CX0 8 f_ways fd_ways ["net", "root"] (spWays K Pn Pr)) (X_ways : FnOk P w K mg base (CX P w) 8 f_ways fd_ways ["net", "root"] (spX_earliest K Pn Pr CN CP))
    (k_aree : PySem.W.keepIn K (.ref f_aree) = true) (b_aree : Binds K fd_aree ["net", "root", "numbers"] []) (g_aree : mg "are_earliest" = some (.ref f_aree)) (G_aree : FnOk P w K mg base CX0 7 f_aree fd_aree ["net", "root", "numbers"] (spAreE K Pn Pr Pp Pi Pe)) (X_aree : FnOk P w K mg base (CX P w) 7 f_aree fd_aree ["net", "root", "numbers"] (spX_are_earliest K Pn Pr CN CP))
    (k_isclosed : PySem.W.keepIn K (.ref f_isclosed) = true) (b_isclosed : Binds K fd_isclosed ["net", "root", "places"] []) (g_isclosed : mg "is_closed" = some (.ref f_isclosed)) (G_isclosed : FnOk P w K mg base CX0 7 f_isclosed fd_isclosed ["net", "root", "places"] (spIsClosed K Pn Pr Pa Pz)) (X_isclosed : FnOk P w K mg base (CX P w) 7 f_isclosed fd_isclosed ["net", "root", "places"] (spX_is_closed K Pn Pr CN CP))
    (k_istrim : PySem.W.keepIn K (.ref f_istrim) = true) (b_istrim : Binds K fd_istrim ["net", "root", "hearers", "ahead"] []) (g_istrim : mg "is_trim" = some (.ref f_istrim)) (G_istrim : FnOk P w K mg base CX0 7 f_istrim fd_istrim ["net", "root", "hearers", "ahead"] (spIsTrim K Pn Pr Pa Pp Pg Ps Pt)) (X_istrim : FnOk P w K mg base (CX P w) 7 f_istrim fd_istrim ["net", "root", "hearers", "ahead"] (spX_is_trim K Pn Pr Pa CN CP))
    (k_price : PySem.W.keepIn K (.ref f_price) = true) (b_price : Binds K fd_price ["net", "root", "ahead"] []) (g_price : mg "price" = some (.ref f_price)) (G_price : FnOk P w K mg base CX0 7 f_price fd_price ["net", "root", "ahead"] (spPrice K Pn Pr Pp Pg Pc)) (X_price : FnOk P w K mg base (CX P w) 7 f_price fd_price ["net", "root", "ahead"] (spX_price K Pn Pr Pp Pg CN CP CT))
    (k_lateness : PySem.W.keepIn K (.ref f_lateness) = true) (b_lateness : Binds K fd_lateness ["net", "root", "ahead"] []) (g_lateness : mg "lateness" = some (.ref f_lateness)) (G_lateness : FnOk P w K mg base CX0 7 f_lateness fd_lateness ["net", "root", "ahead"] (spLateness K Pn Pr Pp Pg)) (X_lateness : FnOk P w K mg base (CX P w) 7 f_lateness fd_lateness ["net", "root", "ahead"] (spX_lateness K Pn Pr Pp Pg CN CP CT))
    (k_graft : PySem.W.keepIn K (.ref f_graft) = true) (b_graft : Binds K fd_graft ["net", "root", "ahead", "place"] []) (g_graft : mg "graft" = some (.ref f_graft)) (G_graft : FnOk P w K mg base CX0 7 f_graft fd_graft ["net", "root", "ahead", "place"] (spGraft K Pn Pr Pp Pg)) (X_graft : FnOk P w K mg base (CX P w) 7 f_graft fd_graft ["net", "root", "ahead", "place"] (spX_graft K Pn Pr Pp Pg CN CP CT))
    (k_areprices : PySem.W.keepIn K (.ref f_areprices) = true) (b_areprices : Binds K fd_areprices ["net", "root", "ahead", "numbers"] []) (g_areprices : mg "are_prices" = some (.ref f_areprices)) (G_areprices : FnOk P w K mg base CX0 7 f_areprices fd_areprices ["net", "root", "ahead", "numbers"] (spAreQ K Pn Pr Pp Pg Pq)) (X_areprices : FnOk P w K mg base (CX P w) 7 f_areprices fd_areprices ["net", "root", "ahead", "numbers"] (spX_are_prices K Pn Pr Pp Pg CN CP CT))
    (k_cut : PySem.W.keepIn K (.ref f_cut) = true) (b_cut : Binds K fd_cut ["net", "root", "hearers", "ahead"] []) (g_cut : mg "cut" = some (.ref f_cut)) (G_cut : FnOk P w K mg base CX0 7 f_cut fd_cut ["net", "root", "hearers", "ahead"] (spCut K Pn Pr Pa Pp Pg Ps)) (X_cut : FnOk P w K mg base (CX P w) 7 f_cut fd_cut ["net", "root", "hearers", "ahead"] (spX_cut K Pn Pr Pa Pp Pg CN CP CT)) (Y_cut : FnOk P w K mg base (CX P w) 7 f_cut fd_cut ["net", "root", "hearers", "ahead"] (spX_cut2 K Pn Pr Pa Pp Pg Ps CT)) :
    FnOk P w K mg base (CX P w) 9 f fd ["way", "net", "root", "place", "ahead"] (spDoor K CN CP CT Pn Pr Pp Pg Pa Ps Pt Pc Pq Pz Pi Pe) := by
  refine F.okX scDoor (fun vs H Q E h => ?_) (fun cdv A outer s H vs Q E hr h => ?_)
  · obtain ⟨way, v0, v1, v2, v3, rfl, _⟩ := h
    rfl
  · obtain ⟨way, v0, v1, v2, v3, rfl, h0, h10, tb, h⟩ := h
    have hu := hu_of hr
    have J_istree := fn_alt (fn_lift G_istree) X_istree
    have J_early := fn_alt (fn_lift G_early) X_early
    have J_ways := fn_alt (fn_lift G_ways) X_ways
    have J_aree := fn_alt (fn_lift G_aree) X_aree
    have J_isclosed := fn_alt (fn_lift G_isclosed) X_isclosed
    have J_istrim := fn_alt (fn_lift G_istrim) X_istrim
    have J_price := fn_alt (fn_lift G_price) X_price
    have J_lateness := fn_alt (fn_lift G_lateness) X_lateness
    have J_graft := fn_alt (fn_lift G_graft) X_graft
    have J_areprices := fn_alt (fn_lift G_areprices) X_areprices
    have J_cut := fn_alt (fn_alt (fn_lift G_cut) X_cut) Y_cut
    refine ⟨_, (pss_cons (ps_if (pt_cmpR op_eq (pv 0) pe_int (nomark _)) (pss_one (ps_ret (pe_call J_istree (hr.mono (by decide)) (by rfl) g_istree k_istree b_istree .nil (passes_call (takes_of rfl rfl rfl rfl) fun _ _ _ _ h => h) (pa_cons (pv 1) (pa_cons (pv 2) (pa_cons (pv 4) pa_nil)))))) pss_nil)
      (pss_cons (ps_if (pt_cmpR op_eq (pv 0) pe_int (nomark _)) (pss_one (ps_ret (pe_call J_early (hr.mono (by decide)) (by rfl) g_early k_early b_early .nil (passes_call (takes_of rfl rfl rfl rfl) fun _ _ _ _ h => h) (pa_cons (pv 1) (pa_cons (pv 2) pa_nil))))) pss_nil)
      (pss_cons (ps_if (pt_cmpR op_eq (pv 0) pe_int (nomark _)) (pss_one (ps_ret (pe_call J_ways (hr.mono (by decide)) (by rfl) g_ways k_ways b_ways .nil (passes_call (takes_of rfl rfl rfl rfl) fun _ _ _ _ h => h) (pa_cons (pv 1) (pa_cons (pv 2) pa_nil))))) pss_nil)
      (pss_cons (ps_if (pt_cmpR op_eq (pv 0) pe_int (nomark _)) (pss_one (ps_ret (pe_call J_aree (hr.mono (by decide)) (by rfl) g_aree k_aree b_aree .nil (passes_call (takes_of rfl rfl rfl rfl) fun _ _ _ _ h => h) (pa_cons (pv 1) (pa_cons (pv 2) (pa_cons (pv 4) pa_nil)))))) pss_nil)
      (pss_cons (ps_if (pt_cmpR op_eq (pv 0) pe_int (nomark _)) (pss_one (ps_ret (pe_call J_isclosed (hr.mono (by decide)) (by rfl) g_isclosed k_isclosed b_isclosed .nil (passes_call (takes_of rfl rfl rfl rfl) fun _ _ _ _ h => h) (pa_cons (pv 1) (pa_cons (pv 2) (pa_cons (pe_tup (pa_cons (pv 3) pa_nil)) pa_nil)))))) pss_nil)
      (pss_cons (ps_if (pt_cmpR op_eq (pv 0) pe_int (nomark _)) (pss_one (ps_ret (pe_call J_istrim (hr.mono (by decide)) (by rfl) g_istrim k_istrim b_istrim .nil (passes_call (takes_of rfl rfl rfl rfl) fun _ _ _ _ h => h) (pa_cons (pv 1) (pa_cons (pv 2) (pa_cons (pe_tup (pa_cons (pv 3) pa_nil)) (pa_cons (pv 4) pa_nil))))))) pss_nil)
      (pss_cons (ps_if (pt_cmpR op_eq (pv 0) pe_int (nomark _)) (pss_one (ps_ret (pe_call J_price (hr.mono (by decide)) (by rfl) g_price k_price b_price .nil (passes_call (takes_of rfl rfl rfl rfl) fun _ _ _ _ h => h) (pa_cons (pv 1) (pa_cons (pv 2) (pa_cons (pv 4) pa_nil)))))) pss_nil)
      (pss_cons (ps_if (pt_cmpR op_eq (pv 0) pe_int (nomark _)) (pss_one (ps_ret (pe_call J_lateness (hr.mono (by decide)) (by rfl) g_lateness k_lateness b_lateness .nil (passes_call (takes_of rfl rfl rfl rfl) fun _ _ _ _ h => h) (pa_cons (pv 1) (pa_cons (pv 2) (pa_cons (pv 4) pa_nil)))))) pss_nil)
      (pss_cons (ps_if (pt_cmpR op_eq (pv 0) pe_int (nomark _)) (pss_one (ps_ret (pe_call J_graft (hr.mono (by decide)) (by rfl) g_graft k_graft b_graft .nil (passes_call (takes_of rfl rfl rfl rfl) fun _ _ _ _ h => h) (pa_cons (pv 1) (pa_cons (pv 2) (pa_cons (pv 4) (pa_cons (pv 3) pa_nil))))))) pss_nil)
      (pss_cons (ps_if (pt_cmpR op_eq (pv 0) pe_int (nomark _)) (pss_one (ps_ret (pe_call J_areprices (hr.mono (by decide)) (by rfl) g_areprices k_areprices b_areprices .nil (passes_call (takes_of rfl rfl rfl rfl) fun _ _ _ _ h => h) (pa_cons (pv 1) (pa_cons (pv 2) (pa_cons (pv 4) (pa_cons pe_dnewK pa_nil))))))) pss_nil)
      (pss_one (ps_ret (pe_call J_cut (hr.mono (by decide)) (by rfl) g_cut k_cut b_cut .nil (passes_call (takes_of rfl rfl rfl rfl) fun _ _ _ _ h => h) (pa_cons (pv 1) (pa_cons (pv 2) (pa_cons (pe_tup (pa_cons (pv 3) pa_nil)) (pa_cons (pv 4) pa_nil))))))))))))))))), ?_⟩
    have hw : way = 0 ∨ way = 1 ∨ way = 2 ∨ way = 3 ∨ way = 4 ∨ way = 5 ∨ way = 6 ∨ way = 7 ∨ way = 8 ∨ way = 9 ∨ way = 10 := by omega
    have sub : ∀ {H' : Hp} {l : List Addr}, Tbs H' Pn Pr Pp Pg Pa Ps Pt Pc Pq Pz Pi Pe → (∀ P ∈ l, P ∈ [Pn, Pr, Pp, Pg, Pa, Ps, Pt, Pc, Pq, Pz, Pi, Pe]) → TbL H' l := fun t h P hP => by
      have := h P hP
      simp only [List.mem_cons, List.not_mem_nil, or_false] at this
      rcases this with rfl | rfl | rfl | rfl | rfl | rfl | rfl | rfl | rfl | rfl | rfl | rfl
      · exact t.n
      · exact t.r
      · exact t.p
      · exact t.g
      · exact t.a
      · exact t.s
      · exact t.t
      · exact t.c
      · exact t.q
      · exact t.z
      · exact t.i
      · exact t.e
    rcases hw with rfl | rfl | rfl | rfl | rfl | rfl | rfl | rfl | rfl | rfl | rfl
    · refine ⟨_, rfl, rfl, _, rfl, iteT ⟨_, rfl, _, rfl, _, rfl, ?_⟩⟩
      rcases h.low (by decide) with h | ⟨h, q⟩
      · exact .inr ⟨_, _, _, rfl, tb.n, tb.r, h⟩
      · obtain ⟨a, n, rs, r, rfl, rfl, hN, hG, hl, r0, r1, x, p, kvs, g, rfl, x0, x1, rfl, hp, hD, hkl, hT, hI⟩ := h
        exact .inl ⟨a, n, rs, r, p, kvs, g, rfl, hN, hG, hl, r0, r1, hp, hD, hkl, sub tb (by simp), fun H' b k _ => q H' k _⟩
    · refine ⟨_, rfl, rfl, _, rfl, iteF ⟨_, rfl, rfl, _, rfl, iteT ⟨_, rfl, _, rfl, ?_⟩⟩⟩
      rcases h.low (by decide) with h | ⟨h, q⟩
      · exact .inr ⟨_, _, rfl, tb.n, tb.r, h⟩
      · obtain ⟨a, n, rs, r, rfl, rfl, hN, hG, hl, r0, r1, x, p, kvs, g, rfl, x0, x1, rfl, hp, hD, hkl, hT, hI⟩ := h
        exact .inl ⟨a, n, rs, r, rfl, hN, hG, hl, r0, r1, tb.n, tb.r, fun p kvs H' k _ _ _ _ => q H' k _⟩
    · refine ⟨_, rfl, rfl, _, rfl, iteF ⟨_, rfl, rfl, _, rfl, iteF ⟨_, rfl, rfl, _, rfl, iteT ⟨_, rfl, _, rfl, ?_⟩⟩⟩⟩
      rcases h.low (by decide) with h | ⟨h, q⟩
      · exact .inr ⟨_, _, rfl, tb.n, tb.r, h⟩
      · obtain ⟨a, n, rs, r, rfl, rfl, hN, hG, hl, r0, r1, x, p, kvs, g, rfl, x0, x1, rfl, hp, hD, hkl, hT, hI⟩ := h
        exact .inl ⟨a, n, rs, r, rfl, hN, hG, hl, r0, r1, tb.n, tb.r, fun p kvs H' k _ _ _ _ => q H' k _⟩
    · refine ⟨_, rfl, rfl, _, rfl, iteF ⟨_, rfl, rfl, _, rfl, iteF ⟨_, rfl, rfl, _, rfl, iteF ⟨_, rfl, rfl, _, rfl, iteT ⟨_, rfl, _, rfl, _, rfl, ?_⟩⟩⟩⟩⟩
      rcases h.low (by decide) with h | ⟨h, q⟩
      · exact .inr ⟨_, _, _, rfl, tb.n, tb.r, h⟩
      · obtain ⟨a, n, rs, r, rfl, rfl, hN, hG, hl, r0, r1, x, p, kvs, g, rfl, x0, x1, rfl, hp, hD, hkl, hT, hI⟩ := h
        exact .inl ⟨a, n, rs, r, p, kvs, g, rfl, hN, hG, hl, r0, r1, hp, hD, ⟨tb.n, tb.r, tb.p, tb.i, tb.e⟩, fun H' b k _ => q H' k _⟩
    · refine ⟨_, rfl, rfl, _, rfl, iteF ⟨_, rfl, rfl, _, rfl, iteF ⟨_, rfl, rfl, _, rfl, iteF ⟨_, rfl, rfl, _, rfl, iteF ⟨_, rfl, rfl, _, rfl, iteT ⟨_, rfl, _, rfl, _, rfl, one_size _, fun t nt => ?_⟩⟩⟩⟩⟩⟩
      have kt := K0.new nt (o := .tup [v2])
      rcases (h.k0 kt).low (by decide) with h | ⟨h, q⟩
      · exact .inr ⟨_, _, _, rfl, (tb.k0 kt).n, (tb.k0 kt).r, h⟩
      · obtain ⟨a, n, rs, r, rfl, rfl, hN, hG, hl, r0, r1, x, p, kvs, g, rfl, x0, x1, rfl, hp, hD, hkl, hT, hI⟩ := h
        exact .inl ⟨a, n, rs, r, t, [x], rfl, hN, hG, hl, r0, r1, .inl (.inl upd_same), (show 1 ≤ 1000 by decide), sub (tb.k0 kt) (by simp), fun H' b k _ => q H' k _⟩
    · refine ⟨_, rfl, rfl, _, rfl, iteF ⟨_, rfl, rfl, _, rfl, iteF ⟨_, rfl, rfl, _, rfl, iteF ⟨_, rfl, rfl, _, rfl, iteF ⟨_, rfl, rfl, _, rfl, iteF ⟨_, rfl, rfl, _, rfl, iteT ⟨_, rfl, _, rfl, _, rfl, one_size _, fun t nt => ?_⟩⟩⟩⟩⟩⟩⟩
      have kt := K0.new nt (o := .tup [v2])
      have tb' := tb.k0 kt
      refine ⟨_, rfl, ?_⟩
      cases h.k0 kt with
      | net h => exact .inr ⟨_, _, _, _, rfl, tb'.n, tb'.r, .inl h.bad⟩
      | root h => exact .inr ⟨_, _, _, _, rfl, tb'.n, tb'.r, .inr (.inl h)⟩
      | place hw h => exact .inr ⟨_, _, _, _, rfl, tb'.n, tb'.r, .inr (.inr (h.imp fun _ _ _ _ z => z.hear upd_same tb'.a))⟩
      | tree hw h q => omega
      | out hw h q => omega
      | good h q =>
        obtain ⟨a, n, rs, r, rfl, rfl, hN, hG, hl, r0, r1, x, p, kvs, g, rfl, x0, x1, rfl, hp, hD, hkl, hT, hI⟩ := h
        exact .inl ⟨a, n, rs, r, t, [x], p, kvs, g, rfl, hN, hG, hl, r0, r1, .inl (.inl upd_same), one_areP x0 x1, hp, hD, hkl, sub tb' (by simp), fun H' b k _ => q H' k _⟩
    · refine ⟨_, rfl, rfl, _, rfl, iteF ⟨_, rfl, rfl, _, rfl, iteF ⟨_, rfl, rfl, _, rfl, iteF ⟨_, rfl, rfl, _, rfl, iteF ⟨_, rfl, rfl, _, rfl, iteF ⟨_, rfl, rfl, _, rfl, iteF ⟨_, rfl, rfl, _, rfl, iteT ⟨_, rfl, _, rfl, _, rfl, ?_⟩⟩⟩⟩⟩⟩⟩⟩
      rcases h.mid (by decide) with h | ⟨h, q⟩
      · refine .inr ⟨_, _, _, rfl, tb.n, tb.r, ?_⟩
        rcases h with h | h | ⟨h, q⟩
        · exact .inl h
        · exact .inr (.inl h)
        · exact .inr (.inr ((h.bad q tb.p tb.g).imp fun _ _ _ _ z => z.2))
      · obtain ⟨a, n, rs, r, rfl, rfl, hN, hG, hl, r0, r1, x, p, kvs, g, rfl, x0, x1, rfl, hp, hD, hkl, hT, hI⟩ := h
        exact .inl ⟨a, n, rs, r, p, kvs, g, rfl, hN, hG, hl, r0, r1, hp, hD, hkl, hT, sub tb (by simp), fun H' k => q H' k _⟩
    · refine ⟨_, rfl, rfl, _, rfl, iteF ⟨_, rfl, rfl, _, rfl, iteF ⟨_, rfl, rfl, _, rfl, iteF ⟨_, rfl, rfl, _, rfl, iteF ⟨_, rfl, rfl, _, rfl, iteF ⟨_, rfl, rfl, _, rfl, iteF ⟨_, rfl, rfl, _, rfl, iteF ⟨_, rfl, rfl, _, rfl, iteT ⟨_, rfl, _, rfl, _, rfl, ?_⟩⟩⟩⟩⟩⟩⟩⟩⟩
      rcases h.mid (by decide) with h | ⟨h, q⟩
      · refine .inr ⟨_, _, _, rfl, tb.n, tb.r, ?_⟩
        rcases h with h | h | ⟨h, q⟩
        · exact .inl h
        · exact .inr (.inl h)
        · exact .inr (.inr ((h.bad q tb.p tb.g).imp fun _ _ _ _ z => z.2))
      · obtain ⟨a, n, rs, r, rfl, rfl, hN, hG, hl, r0, r1, x, p, kvs, g, rfl, x0, x1, rfl, hp, hD, hkl, hT, hI⟩ := h
        exact .inl ⟨a, n, rs, r, p, kvs, g, rfl, hN, hG, hl, r0, r1, hp, hD, hkl, hT, sub tb (by simp), fun p kvs H' k _ _ _ _ => q H' k _⟩
    · refine ⟨_, rfl, rfl, _, rfl, iteF ⟨_, rfl, rfl, _, rfl, iteF ⟨_, rfl, rfl, _, rfl, iteF ⟨_, rfl, rfl, _, rfl, iteF ⟨_, rfl, rfl, _, rfl, iteF ⟨_, rfl, rfl, _, rfl, iteF ⟨_, rfl, rfl, _, rfl, iteF ⟨_, rfl, rfl, _, rfl, iteF ⟨_, rfl, rfl, _, rfl, iteT ⟨_, rfl, _, rfl, _, rfl, _, rfl, ?_⟩⟩⟩⟩⟩⟩⟩⟩⟩⟩
      cases h with
      | net h => exact .inr ⟨_, _, _, _, rfl, tb.n, tb.r, .inl h.bad⟩
      | root h => exact .inr ⟨_, _, _, _, rfl, tb.n, tb.r, .inr (.inl h)⟩
      | place hw h => exact .inr ⟨_, _, _, _, rfl, tb.n, tb.r, .inr (.inr (.inl h))⟩
      | tree hw h q => exact .inr ⟨_, _, _, _, rfl, tb.n, tb.r, .inr (.inr (.inr (h.bad q tb.p tb.g)))⟩
      | out hw h q => omega
      | good h q =>
        obtain ⟨a, n, rs, r, rfl, rfl, hN, hG, hl, r0, r1, x, p, kvs, g, rfl, x0, x1, rfl, hp, hD, hkl, hT, hI⟩ := h
        exact .inl ⟨a, n, rs, r, p, kvs, g, x, rfl, hN, hG, hl, r0, r1, x0, x1, hp, hD, hkl, hT, tree_in hG r0 r1 hT, sub tb (by simp), fun t H' k _ _ => q H' k _⟩
    · refine ⟨_, rfl, rfl, _, rfl, iteF ⟨_, rfl, rfl, _, rfl, iteF ⟨_, rfl, rfl, _, rfl, iteF ⟨_, rfl, rfl, _, rfl, iteF ⟨_, rfl, rfl, _, rfl, iteF ⟨_, rfl, rfl, _, rfl, iteF ⟨_, rfl, rfl, _, rfl, iteF ⟨_, rfl, rfl, _, rfl, iteF ⟨_, rfl, rfl, _, rfl, iteF ⟨_, rfl, rfl, _, rfl, iteT ⟨_, rfl, _, rfl, _, rfl, fun t nt => ?_⟩⟩⟩⟩⟩⟩⟩⟩⟩⟩⟩
      have kt := K0.new nt (o := .dK [])
      have tb' := tb.k0 kt
      have d0 : DI [] (fun _ => none) := ⟨List.nodup_nil, fun p hp => (by cases hp), fun i => rfl⟩
      rcases (h.k0 kt).mid (by decide) with h | ⟨h, q⟩
      · refine .inr ⟨_, _, _, _, rfl, tb'.n, tb'.r, ?_⟩
        rcases h with h | h | ⟨h, q⟩
        · exact .inl h
        · exact .inr (.inl h)
        · exact .inr (.inr ((h.bad q tb'.p tb'.g).imp fun _ _ _ _ z => z.2))
      · obtain ⟨a, n, rs, r, rfl, rfl, hN, hG, hl, r0, r1, x, p, kvs, g, rfl, x0, x1, rfl, hp, hD, hkl, hT, hI⟩ := h
        exact .inl ⟨a, n, rs, r, p, kvs, g, t, [], _, rfl, hN, hG, hl, r0, r1, hp, hD, hkl, hT, upd_same, d0, Nat.zero_le _, sub tb' (by simp), fun H' b k _ => q H' k _⟩
    · refine ⟨_, rfl, rfl, _, rfl, iteF ⟨_, rfl, rfl, _, rfl, iteF ⟨_, rfl, rfl, _, rfl, iteF ⟨_, rfl, rfl, _, rfl, iteF ⟨_, rfl, rfl, _, rfl, iteF ⟨_, rfl, rfl, _, rfl, iteF ⟨_, rfl, rfl, _, rfl, iteF ⟨_, rfl, rfl, _, rfl, iteF ⟨_, rfl, rfl, _, rfl, iteF ⟨_, rfl, rfl, _, rfl, iteF ⟨_, rfl, _, rfl, _, rfl, one_size _, fun t nt => ?_⟩⟩⟩⟩⟩⟩⟩⟩⟩⟩⟩
      have kt := K0.new nt (o := .tup [v2])
      have tb' := tb.k0 kt
      refine ⟨_, rfl, ?_⟩
      cases h.k0 kt with
      | net h => exact .inl (.inr ⟨_, _, _, _, rfl, tb'.n, tb'.r, .inl h.bad⟩)
      | root h => exact .inl (.inr ⟨_, _, _, _, rfl, tb'.n, tb'.r, .inr (.inl h)⟩)
      | place hw h => exact .inl (.inr ⟨_, _, _, _, rfl, tb'.n, tb'.r, .inr (.inr (.inl (h.imp fun _ _ _ _ z => z.hear upd_same tb'.a)))⟩)
      | tree hw h q =>
        refine .inl (.inr ⟨_, _, _, _, rfl, tb'.n, tb'.r, .inr (.inr (.inr ((h.bad q tb'.p tb'.g).imp fun _ n _ _ z => ⟨?_, z.2⟩)))⟩)
        obtain ⟨x, rfl, x0, x1⟩ := z.1
        exact ⟨t, [x], rfl, .inl (.inl upd_same), tb'.a, one_areP x0 x1⟩
      | out hw h q =>
        obtain ⟨a, n, rs, r, rfl, rfl, hN, hG, hl, r0, r1, x, p, kvs, g, rfl, x0, x1, rfl, hp, hD, hkl, hT, hI⟩ := h
        refine .inr ⟨_, _, _, _, rfl, tb'.n, tb'.r, a, n, rs, r, rfl, rfl, hN, hG, hl, r0, r1, t, [x], p, kvs, g, rfl, rfl, .inl (.inl upd_same), tb'.a, one_areP x0 x1, hp, hD, hkl, tb'.p, tb'.g, tb'.s, hT, fun z => hI (z x List.mem_cons_self), q⟩
      | good h q =>
        obtain ⟨a, n, rs, r, rfl, rfl, hN, hG, hl, r0, r1, x, p, kvs, g, rfl, x0, x1, rfl, hp, hD, hkl, hT, hI⟩ := h
        refine .inl (.inl ⟨a, n, rs, r, t, [x], p, kvs, g, rfl, hN, hG, hl, r0, r1, .inl (.inl upd_same), one_areP x0 x1, hp, hD, hkl, hT, fun v hv => ?_, sub tb' (by simp), fun q' ls H' k _ _ _ _ => q H' k _⟩)
        rcases List.mem_cons.mp hv with rfl | z
        · exact hI
        · cases z
end
end HK

set_option Elab.async false
set_option linter.all false
set_option maxRecDepth 100000
set_option maxHeartbeats 2000000
namespace HkE
open PySem PySem.Spec PyProof.Rows L2 PyProof
/-! ### list.count on truths -/
def eqB (k : Bool) : Value → Bool
  | .bool b => b == k
  | _ => false
theorem vals_bools : ∀ (bs : List Bool) (us : List Value), Vals (bs.map V.bl) us → us = bs.map Value.bool
  | [], us, h => by
    cases h
    rfl
  | b :: bs, us, h => by
    cases h with
    | cons r rr =>
      rw [vals_bools bs _ rr]
      rw [show _ = Value.bool b from r]
      rfl
theorem countP_bools (k : Bool) : ∀ bs : List Bool, (bs.map Value.bool).countP (eqB k) = bs.count k
  | [] => rfl
  | b :: bs => by
    rw [List.map_cons, List.countP_cons, countP_bools k bs, List.count_cons]
    rfl
def rCntB (K : PySem.W.Frag) : V → List V → Hp → VK → Prop := fun x args H Q => ∃ (p : Addr) (bs : List Bool) (k : Bool), x = .ref p ∧ args = [.bl k] ∧ SqL K H p (bs.map V.bl) ∧ Q (.int (bs.count k : Nat)) H
theorem mt_countB {X : Cx} : MtR X "list.count" (rCntB X.K) := by
  intro pins s σ H x args v us Q I rx rargs h
  obtain ⟨p, bs, k, rfl, rfl, hp, q⟩ := h
  cases rx
  obtain ⟨u, rfl, ru⟩ := rargs.one
  obtain rfl : u = Value.bool k := ru
  obtain ⟨its, rv, ⟨⟨c, dd, dat, sl⟩, n, ho, hc, hdn, hd⟩, hlen⟩ := I.list hp
  simp only at hc hd
  subst hc
  subst hd
  obtain rfl := vals_bools bs its rv
  refine call_meets PySem.F.slot_list_count ⟨_, ho, rfl⟩ PySem.F.entry_list_count (PySem.F.args_list_count_2 _ _) (SeqAt.list_countAt p (bs.map Value.bool).toArray n dd sl (.bool k) (eqB k)) ⟨ho, ?_, ?_⟩
  · intro y hy
    have hy' : y ∈ bs.map Value.bool := by simpa using hy
    obtain ⟨b, _, rfl⟩ := List.mem_map.mp hy'
    exact PySem.SeqAt.EqAt.bool_bool b k
  · refine ⟨.int (bs.count k : Nat), H, I.tok _, ⟨s.toks, ?_⟩, q⟩
    rw [← countP_bools k bs]
end HkE

set_option Elab.async false
set_option linter.all false
set_option maxRecDepth 100000
set_option maxHeartbeats 4000000
namespace HK
open PySem PySem.Spec PyProof.Rows L2 GAl GxR HkE
abbrev sKind : Stmt := topS 64
abbrev N_scKind : List Str := ["e", "kinds", "others"]
theorem scKind : FnScope N_scKind ["e"] (defScope sKind) := ⟨rfl, rfl, rfl, by decide +kernel, rfl, by decide +kernel, by decide +kernel⟩
/-- what the class D says to isinstance -/
structure KindC (K : PySem.W.Frag) (D : Addr) (Cs : List (Addr × Bool)) : Prop where
  ec : ExcC K D
  ki : ∀ p ∈ Cs, PySem.W.kitOne K (.ref D) (.ref p.1) = some p.2
  ve : PySem.W.kitOne K (.ref D) (.type "ValueError") = some true
/-- which refusal it is -/
inductive KOut : Bool → Bool → Bool → Str → Prop
  | net : KOut true false false "net"
  | place : KOut false true false "place"
  | tree : KOut false false true "tree"
def kCls (C1 C2 C3 C4 C5 C6 C7 C8 C9 C10 C11 : Addr) (b1 b2 b3 : Bool) : List (Addr × Bool) :=
  [(C1, b1), (C2, b2), (C3, b3), (C4, false), (C5, false), (C6, false), (C7, false), (C8, false), (C9, false), (C10, false), (C11, false)]
section
variable {P : Program} {w : World} {K : PySem.W.Frag} {mg : Str → Option Value} {base : Heap}
def spKind (K : PySem.W.Frag) (Cs : Bool → Bool → Bool → List (Addr × Bool)) : Sp := fun vs H Q _ => ∃ (a D : Addr) (b1 b2 b3 : Bool) (t : Str), vs = [.ref a] ∧ H a = some (Caught (.ref D) a) ∧ KindC K D (Cs b1 b2 b3) ∧ KOut b1 b2 b3 t ∧ ∀ H', K0 H H' → Q (.str t) H'
theorem few_size {xs : List V} (h : xs.length ≤ 1000) : xs.length ≤ sizeLine := by
  rw [sizeLine_eq]
  omega
set_option maxHeartbeats 16000000 in
theorem ok_kind {f C1 C2 C3 C4 C5 C6 C7 C8 C9 C10 C11 : Addr} {fd : FuncData} (F : Fun K "_law_b_kind" "_law_b_kind" sKind f fd)
    (c1 : mg "NoNet" = some (.ref C1)) (c2 : mg "NoPlace" = some (.ref C2)) (c3 : mg "NoTree" = some (.ref C3)) (c4 : mg "NoWays" = some (.ref C4)) (c5 : mg "NoDeed" = some (.ref C5)) (c6 : mg "NoEvents" = some (.ref C6)) (c7 : mg "NoKept" = some (.ref C7)) (c8 : mg "TooMany" = some (.ref C8)) (c9 : mg "NoText" = some (.ref C9)) (c10 : mg "NoRow" = some (.ref C10)) (c11 : mg "NoName" = some (.ref C11))
    (m_isinstance : mg "isinstance" = none) (m_any : mg "any" = none) (m_ValueError : mg "ValueError" = none) :
    FnOk P w K mg base CX0 1 f fd ["e"] (spKind K (kCls C1 C2 C3 C4 C5 C6 C7 C8 C9 C10 C11)) := by
  refine F.ok scKind (fun vs H Q E h => ?_) (fun cdv A outer s H vs Q E hr h => ?_)
  · obtain ⟨a, D, b1, b2, b3, t, rfl, _⟩ := h
    rfl
  · obtain ⟨a, D, b1, b2, b3, t, rfl, ha, hk, ho, q⟩ := h
    have hu := hu_of hr
    refine ⟨_, (pss_cons (ps_set (i := 1) scKind.nd rfl (.inl rfl) (pe_lst (pa_cons (pe_callB HkE.call_isC (by rfl) m_isinstance boot_isinstance (pa_cons (pv 0) (pa_cons (pe_glob (v := .ref C1) (by rfl) c1 rfl) pa_nil))) (pa_cons (pe_callB HkE.call_isC (by rfl) m_isinstance boot_isinstance (pa_cons (pv 0) (pa_cons (pe_glob (v := .ref C2) (by rfl) c2 rfl) pa_nil))) (pa_cons (pe_callB HkE.call_isC (by rfl) m_isinstance boot_isinstance (pa_cons (pv 0) (pa_cons (pe_glob (v := .ref C3) (by rfl) c3 rfl) pa_nil))) pa_nil)))))
      (pss_cons (ps_set (i := 2) scKind.nd rfl (.inl rfl) (pe_lst (pa_cons (pe_callB HkE.call_isC (by rfl) m_isinstance boot_isinstance (pa_cons (pv 0) (pa_cons (pe_glob (v := .ref C4) (by rfl) c4 rfl) pa_nil))) (pa_cons (pe_callB HkE.call_isC (by rfl) m_isinstance boot_isinstance (pa_cons (pv 0) (pa_cons (pe_glob (v := .ref C5) (by rfl) c5 rfl) pa_nil))) (pa_cons (pe_callB HkE.call_isC (by rfl) m_isinstance boot_isinstance (pa_cons (pv 0) (pa_cons (pe_glob (v := .ref C6) (by rfl) c6 rfl) pa_nil))) pa_nil)))))
      (pss_cons (ps_set (i := 2) scKind.nd rfl (.inl rfl) (pe_op op_cat (pv 2) (pe_lst (pa_cons (pe_callB HkE.call_isC (by rfl) m_isinstance boot_isinstance (pa_cons (pv 0) (pa_cons (pe_glob (v := .ref C7) (by rfl) c7 rfl) pa_nil))) (pa_cons (pe_callB HkE.call_isC (by rfl) m_isinstance boot_isinstance (pa_cons (pv 0) (pa_cons (pe_glob (v := .ref C8) (by rfl) c8 rfl) pa_nil))) (pa_cons (pe_callB HkE.call_isC (by rfl) m_isinstance boot_isinstance (pa_cons (pv 0) (pa_cons (pe_glob (v := .ref C9) (by rfl) c9 rfl) pa_nil))) (pa_cons (pe_callB HkE.call_isC (by rfl) m_isinstance boot_isinstance (pa_cons (pv 0) (pa_cons (pe_glob (v := .ref C10) (by rfl) c10 rfl) pa_nil))) pa_nil)))))))
      (pss_cons (ps_if (PW.pt (pw_or (pt_val (pe_callB (cr_any rfl) (by rfl) m_any boot_any (pa_cons (pv 2) pa_nil))) (pw_or (pt_val (pe_callB HkE.call_isC (by rfl) m_isinstance boot_isinstance (pa_cons (pv 0) (pa_cons (pe_glob (v := .ref C11) (by rfl) c11 rfl) pa_nil)))) (pw_or (pt_cmpR op_ne (pe_bm PySem.F.plainAttrs_list PySem.F.slot_list_count PySem.F.type_list_count HkE.mt_countB (pv 1) (pa_cons pe_bl pa_nil)) pe_int (nomark _)) (pw_or1 (pt_not (pt_val (pe_callB HkE.call_isC (by rfl) m_isinstance boot_isinstance (pa_cons (pv 0) (pa_cons (pe_bltn (v := .ty "ValueError") (by rfl) m_ValueError (by decide +kernel) rfl) pa_nil)))))))))) (pss_one (ps_ret pe_str)) pss_nil)
      (pss_one (ps_ret (pe_ix ix_list (pe_lst (pa_cons pe_str (pa_cons pe_str (pa_cons pe_str pa_nil)))) (pe_bm PySem.F.plainAttrs_list PySem.F.slot_list_index PySem.F.type_list_index mt_index (pv 1) (pa_cons pe_bl pa_nil)) (fun _ _ => rfl)))))))), ?_⟩
    have e : ∀ {p : Addr} {o : HO} {H' : Hp}, H' p = none → H' a = some (Caught (.ref D) a) → upd H' p o a = some (Caught (.ref D) a) := fun np h => (K0.new np).oth a _ h (fun _ z => by cases z)
    refine ⟨_, rfl, a, D, .ref C1, .ref C1, b1, rfl, ha, hk.ec, fun _ z => z, hk.ki (C1, b1) (by simp [kCls]), ?_⟩
    refine ⟨_, rfl, a, D, .ref C2, .ref C2, b2, rfl, ha, hk.ec, fun _ z => z, hk.ki (C2, b2) (by simp [kCls]), ?_⟩
    refine ⟨_, rfl, a, D, .ref C3, .ref C3, b3, rfl, ha, hk.ec, fun _ z => z, hk.ki (C3, b3) (by simp [kCls]), ?_⟩
    refine ⟨few_size (show 3 ≤ 1000 by decide), fun p np => ?_⟩
    have ha1 := e (o := .lst [.bl b1, .bl b2, .bl b3]) np ha
    refine ⟨_, rfl, a, D, .ref C4, .ref C4, false, rfl, ha1, hk.ec, fun _ z => z, hk.ki (C4, false) (by simp [kCls]), ?_⟩
    refine ⟨_, rfl, a, D, .ref C5, .ref C5, false, rfl, ha1, hk.ec, fun _ z => z, hk.ki (C5, false) (by simp [kCls]), ?_⟩
    refine ⟨_, rfl, a, D, .ref C6, .ref C6, false, rfl, ha1, hk.ec, fun _ z => z, hk.ki (C6, false) (by simp [kCls]), ?_⟩
    refine ⟨few_size (by decide), fun p2 np2 => ?_⟩
    have ha2 := e (o := .lst [.bl false, .bl false, .bl false]) np2 ha1
    refine ⟨_, rfl, ?_⟩
    refine ⟨_, rfl, a, D, .ref C7, .ref C7, false, rfl, ha2, hk.ec, fun _ z => z, hk.ki (C7, false) (by simp [kCls]), ?_⟩
    refine ⟨_, rfl, a, D, .ref C8, .ref C8, false, rfl, ha2, hk.ec, fun _ z => z, hk.ki (C8, false) (by simp [kCls]), ?_⟩
    refine ⟨_, rfl, a, D, .ref C9, .ref C9, false, rfl, ha2, hk.ec, fun _ z => z, hk.ki (C9, false) (by simp [kCls]), ?_⟩
    refine ⟨_, rfl, a, D, .ref C10, .ref C10, false, rfl, ha2, hk.ec, fun _ z => z, hk.ki (C10, false) (by simp [kCls]), ?_⟩
    refine ⟨few_size (by decide), fun p3 np3 => ?_⟩
    have ha3 := e (o := .lst [.bl false, .bl false, .bl false, .bl false]) np3 ha2
    have n2 : p2 ≠ p := fun z => by rw [z, upd_same] at np2; cases np2
    have n3 : p3 ≠ p2 := fun z => by rw [z, upd_same] at np3; cases np3
    have n31 : p3 ≠ p := fun z => by rw [z, upd_ne (fun w => n2 w.symm), upd_same] at np3; cases np3
    refine ⟨p2, p3, _, _, rfl, rfl, (upd_ne (fun w => n3 w.symm)).trans upd_same, upd_same, (by rw [sizeLine_eq]; decide), fun p4 np4 => ?_⟩
    have n41 : p4 ≠ p := fun z => by rw [z, upd_ne (fun w => n31 w.symm), upd_ne (fun w => n2 w.symm), upd_same] at np4; cases np4
    have ha4 := e (o := .lst ([.bl false, .bl false, .bl false] ++ [.bl false, .bl false, .bl false, .bl false])) np4 ha3
    have k4 := (((K0.new np (o := .lst [.bl b1, .bl b2, .bl b3])).trans (K0.new np2 (o := .lst [.bl false, .bl false, .bl false]))).trans (K0.new np3 (o := .lst [.bl false, .bl false, .bl false, .bl false]))).trans (K0.new np4 (o := .lst ([.bl false, .bl false, .bl false] ++ [.bl false, .bl false, .bl false, .bl false])))
    have hp4 : (upd (upd (upd (upd H p (.lst [.bl b1, .bl b2, .bl b3])) p2 (.lst [.bl false, .bl false, .bl false])) p3 (.lst [.bl false, .bl false, .bl false, .bl false])) p4 (.lst ([.bl false, .bl false, .bl false] ++ [.bl false, .bl false, .bl false, .bl false]))) p = some (.lst [.bl b1, .bl b2, .bl b3]) := by
      rw [upd_ne (fun w => n41 w.symm), upd_ne (fun w => n31 w.symm), upd_ne (fun w => n2 w.symm), upd_same]
    refine ⟨_, rfl, p4, [false, false, false, false, false, false, false], rfl, .inl (.inl upd_same), _, rfl, iteF ?_⟩
    refine ⟨_, rfl, a, D, .ref C11, .ref C11, false, rfl, ha4, hk.ec, fun _ z => z, hk.ki (C11, false) (by simp [kCls]), _, rfl, iteF ?_⟩
    refine ⟨_, rfl, .inl ⟨rfl, _, .inl (.inl hp4)⟩, p, [b1, b2, b3], true, rfl, rfl, .inl (.inl hp4), rfl, _, rfl, ?_⟩
    cases ho
    · refine iteF ⟨_, rfl, a, D, .ty "ValueError", .type "ValueError", true, rfl, ha4, hk.ec, fun _ z => z, hk.ve, _, rfl, iteF ⟨few_size (by decide), fun p5 np5 => ?_⟩⟩
      have hp5 := (K0.new np5 (o := .lst [.str "net", .str "place", .str "tree"])).oth p _ hp4 (fun _ z => by cases z)
      refine ⟨_, rfl, .inl ⟨rfl, _, .inl (.inl hp5)⟩, p, _, .bl true, 0, .bl true, rfl, rfl, .inl (.inl hp5), rfl, rfl, rfl, rfl, fun m z' hm e => ?_, p5, _, 0, _, rfl, rfl, .inl (.inl upd_same), rfl, ?_⟩
      · omega
      · exact q _ (k4.trans (K0.new np5))
    · refine iteF ⟨_, rfl, a, D, .ty "ValueError", .type "ValueError", true, rfl, ha4, hk.ec, fun _ z => z, hk.ve, _, rfl, iteF ⟨few_size (by decide), fun p5 np5 => ?_⟩⟩
      have hp5 := (K0.new np5 (o := .lst [.str "net", .str "place", .str "tree"])).oth p _ hp4 (fun _ z => by cases z)
      refine ⟨_, rfl, .inl ⟨rfl, _, .inl (.inl hp5)⟩, p, _, .bl true, 1, .bl true, rfl, rfl, .inl (.inl hp5), rfl, rfl, rfl, rfl, fun m z' hm e => ?_, p5, _, 1, _, rfl, rfl, .inl (.inl upd_same), rfl, ?_⟩
      · obtain rfl : m = 0 := by omega
        cases e
        rfl
      · exact q _ (k4.trans (K0.new np5))
    · refine iteF ⟨_, rfl, a, D, .ty "ValueError", .type "ValueError", true, rfl, ha4, hk.ec, fun _ z => z, hk.ve, _, rfl, iteF ⟨few_size (by decide), fun p5 np5 => ?_⟩⟩
      have hp5 := (K0.new np5 (o := .lst [.str "net", .str "place", .str "tree"])).oth p _ hp4 (fun _ z => by cases z)
      refine ⟨_, rfl, .inl ⟨rfl, _, .inl (.inl hp5)⟩, p, _, .bl true, 2, .bl true, rfl, rfl, .inl (.inl hp5), rfl, rfl, rfl, rfl, fun m z' hm e => ?_, p5, _, 2, _, rfl, rfl, .inl (.inl upd_same), rfl, ?_⟩
      · have hm2 : m = 0 ∨ m = 1 := by omega
        rcases hm2 with rfl | rfl
        · cases e
          rfl
        · cases e
          rfl
      · exact q _ (k4.trans (K0.new np5))
end
end HK

set_option Elab.async false
set_option linter.all false
set_option maxRecDepth 100000
set_option maxHeartbeats 4000000
namespace HK
open PySem PySem.Spec PyProof.Rows L2 GAl GxR HkE
abbrev sWord : Stmt := topS 65
abbrev N_scWord : List Str := ["way", "net", "root", "place", "ahead", "caught", "e"]
theorem scWord : FnScope N_scWord ["way", "net", "root", "place", "ahead"] (defScope sWord) := ⟨rfl, rfl, rfl, by decide +kernel, rfl, by decide +kernel, by decide +kernel⟩
abbrev sRowWord : Stmt := topS 66
abbrev N_scRowWord : List Str := ["way", "net", "root", "row", "ahead", "caught", "e"]
theorem scRowWord : FnScope N_scRowWord ["way", "net", "root", "row", "ahead"] (defScope sRowWord) := ⟨rfl, rfl, rfl, by decide +kernel, rfl, by decide +kernel, by decide +kernel⟩
/-- the word that stands for a refusal -/
def WordE (CN CP CT : Addr) (Q : VK) : XK := fun cls _ H' => (cls = .ref CN ∧ Q (.str "net") H') ∨ (cls = .ref CP ∧ Q (.str "place") H') ∨ (cls = .ref CT ∧ Q (.str "tree") H')
theorem DoorP.later {K : PySem.W.Frag} {H : Hp} {CN CP CT : Addr} {way : Int} {v0 v1 v2 v3 : V} {G : Hp → Prop} {E : XK} (h : DoorP K H CN CP CT way v0 v1 v2 v3 G E) :
    DoorP K H CN CP CT way v0 v1 v2 v3 G (fun cls d H' => ∀ H'', K0 H' H'' → E cls d H'') := by
  have e : ∀ {C : Addr}, (∀ H', K0 H H' → E (.ref C) none H') → ∀ H', K0 H H' → ∀ H'', K0 H' H'' → E (.ref C) none H'' := fun q H' k H'' k2 => q H'' (k.trans k2)
  cases h with
  | net h => exact .net ⟨h.1, e h.2⟩
  | root h =>
    obtain ⟨a, n, rs, r, h1, h2, h3, h4, h5, h6, q⟩ := h
    exact .root ⟨a, n, rs, r, h1, h2, h3, h4, h5, h6, e q⟩
  | place hw h => exact .place hw (h.imp fun _ _ _ _ ⟨x, h1, h2, q⟩ => ⟨x, h1, h2, e q⟩)
  | tree hw h q => exact .tree hw h (e q)
  | out hw h q => exact .out hw h (e q)
  | good h q => exact .good h q
/-- hearers that are none -/
def RowP (K : PySem.W.Frag) (H : Hp) (CP Pa : Addr) (v0 v1 v2 : V) (E : XK) : Prop := GoodRoot K H v0 v1 (fun _ n _ _ => BadHear K H Pa CP v2 E n)
theorem RowP.map {K : PySem.W.Frag} {H : Hp} {CP Pa : Addr} {v0 v1 v2 : V} {E E2 : XK} (h : RowP K H CP Pa v0 v1 v2 E) (f : ∀ H', K0 H H' → (∀ H'', K0 H' H'' → E (.ref CP) none H'') → E2 (.ref CP) none H') : RowP K H CP Pa v0 v1 v2 E2 :=
  GoodRoot.imp h fun _ _ _ _ ⟨p, ns, h1, h2, h3, h4, q⟩ => ⟨p, ns, h1, h2, h3, h4, fun H' k => f H' k fun H'' k2 => q H'' (k.trans k2)⟩
section
variable {P : Program} {w : World} {K : PySem.W.Frag} {mg : Str → Option Value} {base : Heap}
def spRowDoor (K : PySem.W.Frag) (CP Pn Pr Pa : Addr) : Sp := fun vs H Q E => ∃ (way : Int) (v0 v1 v2 v3 : V), vs = [.int way, v0, v1, v2, v3] ∧ TabG H Pn ∧ TabG H Pr ∧ RowP K H CP Pa v0 v1 v2 E
theorem ok_rowdoor {f CN CP CT Pn Pr Pa Pp Pg : Addr} {fd : FuncData} {f_istrim f_cut : Addr} {fd_istrim fd_cut : FuncData} (F : Fun K "_law_b_row_door" "_law_b_row_door" sRowDoor f fd)
    (k_istrim : PySem.W.keepIn K (.ref f_istrim) = true) (b_istrim : Binds K fd_istrim ["net", "root", "hearers", "ahead"] []) (g_istrim : mg "is_trim" = some (.ref f_istrim)) (J_istrim : FnOk P w K mg base (CX P w) 7 f_istrim fd_istrim ["net", "root", "hearers", "ahead"] (spX_is_trim K Pn Pr Pa CN CP))
    (k_cut : PySem.W.keepIn K (.ref f_cut) = true) (b_cut : Binds K fd_cut ["net", "root", "hearers", "ahead"] []) (g_cut : mg "cut" = some (.ref f_cut)) (J_cut : FnOk P w K mg base (CX P w) 7 f_cut fd_cut ["net", "root", "hearers", "ahead"] (spX_cut K Pn Pr Pa Pp Pg CN CP CT)) :
    FnOk P w K mg base (CX P w) 8 f fd ["way", "net", "root", "row", "ahead"] (spRowDoor K CP Pn Pr Pa) := by
  refine F.okX scRowDoor (fun vs H Q E h => ?_) (fun cdv A outer s H vs Q E hr h => ?_)
  · obtain ⟨way, v0, v1, v2, v3, rfl, _⟩ := h
    rfl
  · obtain ⟨way, v0, v1, v2, v3, rfl, tn, tr, h⟩ := h
    have hu := hu_of hr
    refine ⟨_, (pss_cons (ps_if (pt_cmpR op_eq (pv 0) pe_int (nomark _)) (pss_one (ps_ret (pe_call J_istrim (hr.mono (by decide)) (by rfl) g_istrim k_istrim b_istrim .nil (passes_call (takes_of rfl rfl rfl rfl) fun _ _ _ _ h => h) (pa_cons (pv 1) (pa_cons (pv 2) (pa_cons (pv 3) (pa_cons (pv 4) pa_nil))))))) pss_nil)
      (pss_one (ps_ret (pe_call J_cut (hr.mono (by decide)) (by rfl) g_cut k_cut b_cut .nil (passes_call (takes_of rfl rfl rfl rfl) fun _ _ _ _ h => h) (pa_cons (pv 1) (pa_cons (pv 2) (pa_cons (pv 3) (pa_cons (pv 4) pa_nil)))))))), ?_⟩
    refine ⟨_, rfl, rfl, _, rfl, ?_⟩
    by_cases hw : way = 0
    · subst hw
      exact iteT ⟨_, rfl, _, rfl, _, rfl, _, rfl, _, _, _, _, rfl, tn, tr, .inr (.inr h)⟩
    · rw [decide_eq_false (show ¬ V.int way = V.int 0 from fun z => hw (V.int.inj z))]
      exact iteF ⟨_, rfl, _, rfl, _, rfl, _, rfl, _, _, _, _, rfl, tn, tr, .inr (.inr (.inl h))⟩
/-- what the except clause says to a class -/
structure HearC (K : PySem.W.Frag) (C CH : Addr) (Cs : List (Addr × Bool)) : Prop where
  kc : KindC K C Cs
  ex : PySem.W.exmOne K (.ref C) (.ref CH) = some true
theorem word_of {C CH CN CP CT : Addr} {H' : Hp} {Q : VK} {Cs : Bool → Bool → Bool → List (Addr × Bool)} (hne : CN ≠ CP ∧ CN ≠ CT ∧ CP ≠ CT) (hN : HearC K CN CH (Cs true false false)) (hP : HearC K CP CH (Cs false true false)) (hT : HearC K CT CH (Cs false false true))
    (q : ∀ H'', K0 H' H'' → WordE CN CP CT Q (.ref C) none H'') : ∃ b1 b2 b3 t, HearC K C CH (Cs b1 b2 b3) ∧ KOut b1 b2 b3 t ∧ ∀ H'', K0 H' H'' → Q (.str t) H'' := by
  rcases q H' (K0.refl _) with ⟨e, _⟩ | ⟨e, _⟩ | ⟨e, _⟩
  · cases e
    refine ⟨true, false, false, _, hN, .net, fun H'' k => ?_⟩
    rcases q H'' k with ⟨_, z⟩ | ⟨e, _⟩ | ⟨e, _⟩
    · exact z
    · cases e; exact absurd rfl hne.1
    · cases e; exact absurd rfl hne.2.1
  · cases e
    refine ⟨false, true, false, _, hP, .place, fun H'' k => ?_⟩
    rcases q H'' k with ⟨e, _⟩ | ⟨_, z⟩ | ⟨e, _⟩
    · cases e; exact absurd rfl hne.1
    · exact z
    · cases e; exact absurd rfl hne.2.2
  · cases e
    refine ⟨false, false, true, _, hT, .tree, fun H'' k => ?_⟩
    rcases q H'' k with ⟨e, _⟩ | ⟨e, _⟩ | ⟨_, z⟩
    · cases e; exact absurd rfl hne.2.1
    · cases e; exact absurd rfl hne.2.2
    · exact z
def spWord (K : PySem.W.Frag) (CN CP CT Pn Pr Pp Pg Pa Ps Pt Pc Pq Pz Pi Pe : Addr) : Sp := fun vs H Q _ => ∃ (way : Int) (v0 v1 v2 v3 : V), vs = [.int way, v0, v1, v2, v3] ∧ 0 ≤ way ∧ way ≤ 10 ∧ Tbs H Pn Pr Pp Pg Pa Ps Pt Pc Pq Pz Pi Pe ∧
  DoorP K H CN CP CT way v0 v1 v2 v3 (fun H' => Q (.str "") H') (WordE CN CP CT Q)
theorem ok_word {f fD fK CH CN CP CT Pn Pr Pp Pg Pa Ps Pt Pc Pq Pz Pi Pe : Addr} {fd fdD fdK : FuncData} {Cs : Bool → Bool → Bool → List (Addr × Bool)} (F : Fun K "_law_b_word" "_law_b_word" sWord f fd)
    (hne : CN ≠ CP ∧ CN ≠ CT ∧ CP ≠ CT) (cH : mg "HearError" = some (.ref CH)) (hN : HearC K CN CH (Cs true false false)) (hP : HearC K CP CH (Cs false true false)) (hT : HearC K CT CH (Cs false false true))
    (kD : PySem.W.keepIn K (.ref fD) = true) (bD : Binds K fdD ["way", "net", "root", "place", "ahead"] []) (gD : mg "_law_b_door" = some (.ref fD)) (GD : FnOk P w K mg base (CX P w) 9 fD fdD ["way", "net", "root", "place", "ahead"] (spDoor K CN CP CT Pn Pr Pp Pg Pa Ps Pt Pc Pq Pz Pi Pe))
    (kK : PySem.W.keepIn K (.ref fK) = true) (bK : Binds K fdK ["e"] []) (gK : mg "_law_b_kind" = some (.ref fK)) (GK : FnOk P w K mg base CX0 1 fK fdK ["e"] (spKind K Cs)) :
    FnOk P w K mg base CX0 10 f fd ["way", "net", "root", "place", "ahead"] (spWord K CN CP CT Pn Pr Pp Pg Pa Ps Pt Pc Pq Pz Pi Pe) := by
  refine F.ok scWord (fun vs H Q E h => ?_) (fun cdv A outer s H vs Q E hr h => ?_)
  · obtain ⟨way, v0, v1, v2, v3, rfl, _⟩ := h
    rfl
  · obtain ⟨way, v0, v1, v2, v3, rfl, h0, h10, tb, h⟩ := h
    have hu := hu_of hr
    refine ⟨_, (pss_cons (ps_set (i := 5) scWord.nd rfl (.inl rfl) pe_non)
      (pss_cons (ps_try_hold (i := 6) (c := .ref CH) rfl rfl rfl scWord.nd rfl (by rfl) ⟨by rfl, rfl, .inl cH⟩
        (fun W pn xe tk => pss_one (ps_expr (pe_callS GD (hr.mono (by decide)) (by rfl) gD kD bD (fun σ => passAt tk σ) (pa_cons (pv 0) (pa_cons (pv 1) (pa_cons (pv 2) (pa_cons (pv 3) (pa_cons (pv 4) pa_nil))))))))
        (fun a cls oe pn => pss_one (ps_set (i := 5) scWord.nd rfl (.inl rfl) (pv 6))))
      (pss_cons (ps_if (pt_cmp (pc_isN (pv 5))) (pss_one (ps_ret pe_str)) pss_nil)
      (pss_one (ps_ret (pe_call GK (hr.mono (by decide)) (by rfl) gK kK bK .nil pass0 (pa_cons (pv 5) pa_nil))))))), ?_⟩
    refine ⟨_, rfl, _, rfl, _, rfl, _, rfl, _, rfl, way, v0, v1, v2, v3, rfl, h0, h10, tb, h.later.map ?_ ?_⟩
    · intro H' k q v
      exact ⟨_, rfl, _, rfl, iteT q⟩
    · intro C H' k q
      obtain ⟨b1, b2, b3, t, hc, ho, hq⟩ : ∃ b1 b2 b3 t, HearC K C CH (Cs b1 b2 b3) ∧ KOut b1 b2 b3 t ∧ ∀ H'', K0 H' H'' → Q (.str t) H'' := word_of hne hN hP hT q
      refine ⟨hc.ex, rfl, fun a na => ?_⟩
      exact ⟨_, rfl, _, rfl, _, rfl, iteF ⟨_, rfl, a, C, b1, b2, b3, t, rfl, upd_same, hc.kc, ho, fun H3 k3 => hq H3 ((K0.new na).trans k3)⟩⟩
def spRowWord (K : PySem.W.Frag) (CP Pn Pr Pa : Addr) : Sp := fun vs H Q _ => ∃ (way : Int) (v0 v1 v2 v3 : V), vs = [.int way, v0, v1, v2, v3] ∧ TabG H Pn ∧ TabG H Pr ∧ RowP K H CP Pa v0 v1 v2 (fun _ _ H' => Q (.str "place") H')
theorem ok_rowword {f fD fK CH CP Pn Pr Pa : Addr} {fd fdD fdK : FuncData} {Cs : Bool → Bool → Bool → List (Addr × Bool)} (F : Fun K "_law_b_row_word" "_law_b_row_word" sRowWord f fd)
    (cH : mg "HearError" = some (.ref CH)) (hP : HearC K CP CH (Cs false true false))
    (kD : PySem.W.keepIn K (.ref fD) = true) (bD : Binds K fdD ["way", "net", "root", "row", "ahead"] []) (gD : mg "_law_b_row_door" = some (.ref fD)) (GD : FnOk P w K mg base (CX P w) 8 fD fdD ["way", "net", "root", "row", "ahead"] (spRowDoor K CP Pn Pr Pa))
    (kK : PySem.W.keepIn K (.ref fK) = true) (bK : Binds K fdK ["e"] []) (gK : mg "_law_b_kind" = some (.ref fK)) (GK : FnOk P w K mg base CX0 1 fK fdK ["e"] (spKind K Cs)) :
    FnOk P w K mg base CX0 9 f fd ["way", "net", "root", "row", "ahead"] (spRowWord K CP Pn Pr Pa) := by
  refine F.ok scRowWord (fun vs H Q E h => ?_) (fun cdv A outer s H vs Q E hr h => ?_)
  · obtain ⟨way, v0, v1, v2, v3, rfl, _⟩ := h
    rfl
  · obtain ⟨way, v0, v1, v2, v3, rfl, tn, tr, h⟩ := h
    have hu := hu_of hr
    refine ⟨_, (pss_cons (ps_set (i := 5) scRowWord.nd rfl (.inl rfl) pe_non)
      (pss_cons (ps_try_hold (i := 6) (c := .ref CH) rfl rfl rfl scRowWord.nd rfl (by rfl) ⟨by rfl, rfl, .inl cH⟩
        (fun W pn xe tk => pss_one (ps_expr (pe_callS GD (hr.mono (by decide)) (by rfl) gD kD bD (fun σ => passAt tk σ) (pa_cons (pv 0) (pa_cons (pv 1) (pa_cons (pv 2) (pa_cons (pv 3) (pa_cons (pv 4) pa_nil))))))))
        (fun a cls oe pn => pss_one (ps_set (i := 5) scRowWord.nd rfl (.inl rfl) (pv 6))))
      (pss_cons (ps_if (pt_cmp (pc_isN (pv 5))) (pss_one (ps_ret pe_str)) pss_nil)
      (pss_one (ps_ret (pe_call GK (hr.mono (by decide)) (by rfl) gK kK bK .nil pass0 (pa_cons (pv 5) pa_nil))))))), ?_⟩
    refine ⟨_, rfl, _, rfl, _, rfl, _, rfl, _, rfl, way, v0, v1, v2, v3, rfl, tn, tr, RowP.map h ?_⟩
    intro H' k q
    refine ⟨hP.ex, rfl, fun a na => ?_⟩
    exact ⟨_, rfl, _, rfl, _, rfl, iteF ⟨_, rfl, a, CP, false, true, false, "place", rfl, upd_same, hP.kc, .place, fun H3 k3 => q H3 ((K0.new na).trans k3)⟩⟩
end
end HK

set_option Elab.async false
set_option linter.all false
set_option maxRecDepth 100000
set_option maxHeartbeats 4000000
namespace HK
open PySem PySem.Spec PyProof.Rows L2 GAl GxR
open Evl (pss_cut)
abbrev sRoadL : Stmt := topS 59
theorem scRoadL : FnScope ["net", "i", "j", "road"] ["net", "i", "j"] (defScope sRoadL) := ⟨rfl, rfl, rfl, by decide +kernel, rfl, by decide +kernel, by decide +kernel⟩
theorem call_lenR' {X : Cx} : CallR X (.builtin "len") (fun xs H Q => ∃ a kvs, xs = [V.ref a] ∧ Rd H a (.dK kvs) ∧ Q (.int kvs.length) H) := by
  intro pins s σ H xs us Q I r ⟨a, kvs, e, ha, q⟩
  subst e
  obtain ⟨u, rfl, ru⟩ := vals1 r
  cases ru
  exact d_len I ha fun t s' I' => ⟨.int kvs.length, H, I', ⟨t, rfl⟩, q⟩
theorem shaped2 (a b : Int) : SeqAt.shaped (.tuple [.int a, .int b]) = true := by
  show (PyData.canLay0 (.tuple [.int a, .int b]) && decide (PyData.depth (.tuple [.int a, .int b]) ≤ 64)) = true
  simp [PyData.canLay0, PyData.canLayAll0, PyData.depth, PyData.depthAll]
theorem eqv2 (a b c d : Int) : PyData.eqv (.tuple [.int a, .int b]) (.tuple [.int c, .int d]) = decide (a = c ∧ b = d) := by
  show (a == c && (b == d && true)) = _
  rw [Bool.and_true, Bool.eq_iff_iff, Bool.and_eq_true, beq_iff_eq, beq_iff_eq, decide_eq_true_iff]
section
variable {P : Program} {w : World} {K : PySem.W.Frag} {mg : Str → Option Value} {base : Heap}
theorem dp2 {H : Hp} {q : Addr} {a b : Int} (h : H q = some (.tup [.int a, .int b])) : Dp K H (.ref q) (.tuple [.int a, .int b]) := .tup (.inl (.inl h)) (.cons (.int _) (.cons (.int _) .nil))
/-- the road of a pair, or None -/
def spRoadL (K : PySem.W.Frag) : Sp := fun vs H Q _ => ∃ (a : Addr) (n : Int) (rs : List R4) (i j : Int), vs = [.ref a, .int i, .int j] ∧ NetAt K H a n rs ∧
  ∀ H', K0 H H' → (road rs i j = none → Q .non H') ∧ (∀ r q, road rs i j = some r → SqT K H' q r.vs → Q (.ref q) H')
theorem ok_roadL {f : Addr} {fd : FuncData} (F : Fun K "_law_b_road" "_law_b_road" sRoadL f fd) : FnOk P w K mg base CX0 1 f fd ["net", "i", "j"] (spRoadL K) := by
  refine F.ok scRoadL (fun vs H Q E h => ?_) (fun cdv A outer s H vs Q E hr h => ?_)
  · obtain ⟨a, n, rs, i, j, rfl, _⟩ := h
    rfl
  · obtain ⟨a, n, rs, i, j, rfl, hN, q⟩ := h
    refine ⟨_, pss_cons (ps_for PassesOwn.never rfl (pi_tup (pe_ix ix_tup (pv 0) pe_int (fun _ _ => rfl))) (pg_name (i := 3) scRoadL.nd rfl (.inl rfl))
        (pss_one (ps_if (pt_cmpR (op_eqD hr.units) (pe_slice sl_tup (pv 3) po_none (po_some pe_int)) (pe_tup (pa_cons (pv 1) (pa_cons (pv 2) pa_nil))) (nomark _)) (pss_one (ps_ret (pv 3))) pss_nil)))
      (pss_one (ps_ret pe_non)), ?_⟩
    obtain ⟨r, xs, o, h1, h2, hc, hd, h3⟩ := hN
    have hxs : SqT K H r xs := h2
    have hrl : xs.length = rs.length := h3.len
    refine ⟨_, rfl, a, _, 1, .ref r, rfl, rfl, h1, atI_nat (j := 1) rfl, r, rfl, ⟨xs, hxs⟩, for_tup (xs := xs) (fun k σ' H' => ∃ y, σ' = [some (.ref a), some (.int i), some (.int j), y] ∧ K0 H H' ∧ road (rs.take k) i j = none)
      ⟨none, rfl, K0.refl _, by rw [List.take_zero]; rfl⟩ (fun k σ' H' hk h => ?_) (fun k x σ' H' hx h => ?_) (fun σ' H' h => ?_)⟩
    · obtain ⟨_, _, k', _⟩ := h
      exact k'.sqT hxs
    · obtain ⟨y, rfl, k', hno⟩ := h
      obtain ⟨t, q1, hrd, rfl, hs⟩ := road_at h3 hx
      have htk : rs.take (k + 1) = rs.take k ++ [t] := by rw [List.take_add_one, hrd]; rfl
      refine ⟨_, rfl, 2, rfl, q1, t.vs, rfl, k'.sqT hs, fun z => absurd z.2 (by show ¬ (HT.sIx 4 4 (some 2) = 4); decide), fun p np => ?_⟩
      · have kp : K0 H' (upd H' p (.tup [.int t.s, .int t.e])) := K0.new np
        refine ⟨_, rfl, _, rfl, by show 2 ≤ sizeLine; decide, fun p2 np2 => ?_⟩
        have kp2 := kp.mut (p := p2) (o := .tup [.int i, .int j]) (kp.dom p2 np2)
        have hpp : p ≠ p2 := fun z => by rw [z] at np2; rw [← z] at np2; rw [upd_same] at np2; cases np2
        refine ⟨.tuple [.int t.s, .int t.e], .tuple [.int i, .int j], dp2 (by rw [upd_ne hpp]; exact upd_same), dp2 upd_same, shaped2 _ _, shaped2 _ _, _, rfl, ?_⟩
        rw [eqv2]
        have k2 := k'.trans kp2
        by_cases e : t.s = i ∧ t.e = j
        · rw [decide_eq_true e]
          refine iteT ⟨_, rfl, (q _ k2).2 t q1 ?_ (kp2.sqT (k'.sqT hs))⟩
          have e1 : road (rs.take (k + 1)) i j = some t := by rw [htk, road_snoc, hno, if_pos e]; rfl
          have e2 : rs = rs.take (k + 1) ++ rs.drop (k + 1) := (List.take_append_drop _ _).symm
          unfold road at e1 ⊢
          rw [e2, List.find?_append, e1]
          rfl
        · rw [decide_eq_false e]
          exact iteF ⟨_, rfl, k2, by rw [htk, road_snoc, hno, if_neg e]; rfl⟩
    · obtain ⟨y, rfl, k', hno⟩ := h
      rw [List.take_of_length_le (by omega)] at hno
      exact (q _ k').1 hno
end
end HK

set_option Elab.async false
set_option linter.all false
set_option maxRecDepth 100000
set_option maxHeartbeats 4000000
namespace HK
open PySem PySem.Spec PyProof.Rows L2 GAl GxR
theorem shapedR (ts : List R4) : SeqAt.shaped (.list (ts.map R4.d)) = true := by
  have h1 : ∀ ts : List R4, PyData.canLayAll0 (ts.map R4.d) = true := fun ts => by
    induction ts with
    | nil => rfl
    | cons t r ih => rw [List.map_cons]; simp only [PyData.canLayAll0, ih, R4.d, PyData.canLay0, Bool.and_true]
  have h2 : ∀ ts : List R4, PyData.depthAll (ts.map R4.d) ≤ 2 := fun ts => by
    induction ts with
    | nil => decide
    | cons t r ih =>
      rw [List.map_cons]
      simp only [PyData.depthAll, R4.d, PyData.depth]
      omega
  show (PyData.canLay0 (.list (ts.map R4.d)) && decide (PyData.depth (.list (ts.map R4.d)) ≤ 64)) = true
  rw [Bool.and_eq_true, decide_eq_true_iff]
  refine ⟨by simp only [PyData.canLay0]; exact h1 ts, ?_⟩
  have := h2 ts
  simp only [PyData.depth]
  omega
theorem eqv_nilR (ts : List R4) : PyData.eqv (.list (ts.map R4.d)) (.list []) = ts.isEmpty := by
  cases ts <;> simp [PyData.eqv, PyData.eqvAll]
theorem flat_ints (L : List Int) : (L.map V.int).all flatV = true := by
  rw [List.all_map, List.all_eq_true]
  exact fun _ _ => rfl
theorem inV_iff (i : Int) (L : List Int) : inV (.int i) (L.map V.int) = decide (i ∈ L) := by
  rw [Bool.eq_iff_iff, decide_eq_true_iff]
  constructor
  · intro h
    unfold inV at h
    rw [List.any_map, List.any_eq_true] at h
    obtain ⟨j, hj, e⟩ := h
    have : j = i := by simpa [eqV] using e
    rw [← this]; exact hj
  · exact fun h => inV_mem h
section
variable {P : Program} {w : World} {K : PySem.W.Frag} {mg : Str → Option Value} {base : Heap}
theorem roads_snoc {H : Hp} {q : Addr} {t : R4} (hq : SqT K H q t.vs) : ∀ {xs : List V} {ts : List R4}, Roads K H xs ts → Roads K H (xs ++ [.ref q]) (ts ++ [t])
  | _, [], .nil => .cons (r4_dp hq) .nil
  | _, r :: ts, .cons a b => .cons a (roads_snoc hq (ts := ts) b)
end
end HK

set_option Elab.async false
set_option linter.all false
set_option maxRecDepth 100000
set_option maxHeartbeats 4000000
namespace HK
open PySem PySem.Spec PyProof.Rows L2 GAl GxR
open Evl (pss_cut)
abbrev sGrown : Stmt := topS 60
abbrev Ngrown : List Str := ["tape", "net", "root", "there", "ahead", "turn", "some", "road"]
theorem scGrown : FnScope Ngrown ["tape", "net", "root"] (defScope sGrown) := ⟨rfl, rfl, rfl, by decide +kernel, rfl, by decide +kernel, by decide +kernel⟩
/-! ### growing by roads -/
theorem clm_shift (g : IF) (v : Int) : ∀ m, clm g (m + 1) v = clm g m (stp g v)
  | 0 => rfl
  | m + 1 => by
    show stp g (clm g (m + 1) v) = stp g (clm g m (stp g v))
    rw [clm_shift g v m]
structure Grow (n : Int) (rs : List R4) (root : Int) (g : IF) (L : List Int) : Prop where
  nr : g root = none
  mem : ∀ v, v ∈ L ↔ (v = root ∨ (g v).isSome = true)
  rd : ∀ v x, g v = some x → (road rs x v).isSome = true ∧ 0 ≤ v ∧ v < n ∧ x ∈ L
  up : ∀ v ∈ L, ∃ m, clm g m v = root
theorem Grow.ini {n : Int} {rs : List R4} {root : Int} : Grow n rs root (fun _ => none) [root] := by
  refine ⟨rfl, fun v => ?_, fun v x e => (by cases e), fun v hv => ⟨0, List.mem_singleton.mp hv⟩⟩
  constructor
  · exact fun h => .inl (List.mem_singleton.mp h)
  · rintro (h | h)
    · exact List.mem_singleton.mpr h
    · cases h
theorem Grow.put {n : Int} {rs : List R4} {root : Int} {g : IF} {L : List Int} {r : R4} (h : Grow n rs root g L) (up : rs.Pairwise R4.lt) (hr : r ∈ rs) (ok : RoadOk n r) (hs : r.s ∈ L) (he : ¬ r.e ∈ L) : Grow n rs root (HK.put g r.e r.s) (L ++ [r.e]) := by
  have hne : r.e ≠ root := fun z => he ((h.mem _).mpr (.inl z))
  have hin : ∀ v, v ∈ L → HK.put g r.e r.s v = g v := fun v hv => by
    unfold HK.put
    rw [if_neg (fun z => he (by rw [← z]; exact hv))]
  have hst : ∀ v, v ∈ L → stp g v ∈ L := fun v hv => by
    cases e : g v with
    | none => rw [stp_none e]; exact hv
    | some x => rw [stp_some e]; exact (h.rd v x e).2.2.2
  have hcl : ∀ m v, v ∈ L → clm g m v ∈ L ∧ clm (HK.put g r.e r.s) m v = clm g m v := fun m => by
    induction m with
    | zero => exact fun v hv => ⟨hv, rfl⟩
    | succ m ih =>
      intro v hv
      obtain ⟨h1, h2⟩ := ih v hv
      refine ⟨hst _ h1, ?_⟩
      show stp (HK.put g r.e r.s) (clm (HK.put g r.e r.s) m v) = stp g (clm g m v)
      rw [h2]
      unfold stp
      rw [hin _ h1]
  have hpe : HK.put g r.e r.s r.e = some r.s := by unfold HK.put; rw [if_pos rfl]
  refine ⟨?_, fun v => ?_, fun v x e => ?_, fun v hv => ?_⟩
  · unfold HK.put
    rw [if_neg (fun z => hne z.symm)]
    exact h.nr
  · rw [List.mem_append, List.mem_singleton]
    by_cases e : v = r.e
    · rw [e, hpe]
      exact ⟨fun _ => .inr rfl, fun _ => .inr rfl⟩
    · have : HK.put g r.e r.s v = g v := by unfold HK.put; rw [if_neg e]
      rw [this, ← h.mem]
      exact ⟨fun z => z.elim id (fun z => absurd z e), fun z => .inl z⟩
  · by_cases ev : v = r.e
    · subst ev
      rw [hpe] at e
      cases e
      exact ⟨by rw [road_of up hr]; rfl, ok.e0, ok.e1, List.mem_append_left _ hs⟩
    · have e2 : HK.put g r.e r.s v = g v := by unfold HK.put; rw [if_neg ev]
      rw [e2] at e
      obtain ⟨a, b, c, d⟩ := h.rd v x e
      exact ⟨a, b, c, List.mem_append_left _ d⟩
  · rcases List.mem_append.mp hv with hv | hv
    · obtain ⟨m, e⟩ := h.up v hv
      exact ⟨m, by rw [(hcl m v hv).2]; exact e⟩
    · have := List.mem_singleton.mp hv
      subst this
      obtain ⟨m, e⟩ := h.up _ hs
      refine ⟨m + 1, ?_⟩
      rw [clm_shift, stp_some hpe, (hcl m _ hs).2]
      exact e
theorem Grow.tree {n : Int} {rs : List R4} {root : Int} {g : IF} {L : List Int} {kvs : List (Key × V)} (h : Grow n rs root g L) (hD : DI kvs g) : TreeP rs root g kvs.length :=
  ⟨h.nr, fun v x e => (h.rd v x e).1, fun v x e => by
    obtain ⟨m, em⟩ := h.up v ((h.mem v).mpr (.inr (by rw [e]; rfl)))
    exact clm_len hD h.nr em⟩
section
variable {P : Program} {w : World} {K : PySem.W.Frag} {mg : Str → Option Value} {base : Heap}
def spGrown (K : PySem.W.Frag) : Sp := fun vs H Q _ => ∃ (t sc a : Addr) (n : Int) (rs : List R4) (root : Int) (ns : List Int), vs = [.ref t, .ref a, .int root] ∧ Tape K H t sc ns ∧ NetAt K H a n rs ∧ Good n rs ∧ rs.length ≤ 156 ∧ 
  ∀ (p : Addr) (kvs : List (Key × V)) (g : IF) (L : List Int) (H' : Hp), Sf K H t sc ns H' → H p = none → H' p = some (.dK kvs) → DI kvs g → kvs.length ≤ 12 → Grow n rs root g L → Q (.ref p) H'
theorem ok_grown {f fD fS : Addr} {fd fdD fdS : FuncData} (F : Fun K "_law_b_grown" "_law_b_grown" sGrown f fd) (kD : PySem.W.keepIn K (.ref fD) = true) (bD : Binds K fdD ["tape", "many"] []) (gD : mg "_law_b_digit" = some (.ref fD))
    (GD : FnOk P w K mg base CX0 2 fD fdD ["tape", "many"] (spDigit K)) (kS : PySem.W.keepIn K (.ref fS) = true) (bS : Binds K fdS ["tape", "row"] []) (gS : mg "_law_b_some" = some (.ref fS))
    (GS : FnOk P w K mg base CX0 3 fS fdS ["tape", "row"] (spSome K)) (mr : mg "range" = none) : FnOk P w K mg base CX0 4 f fd ["tape", "net", "root"] (spGrown K) := by
  refine F.ok scGrown (fun vs H Q E h => ?_) (fun cdv A outer s H vs Q E hr h => ?_)
  · obtain ⟨t, sc, a, n, rs, root, ns, rfl, _⟩ := h
    rfl
  · obtain ⟨t, sc, a, n, rs, root, ns, rfl, htp, hN, G, hrl, q⟩ := h
    have hu := hu_of hr
    have hr2 := hr.mono (show 2 ≤ 3 by decide)
    refine ⟨_, pss_cons (ps_set (i := 3) scGrown.nd rfl (.inr rfl) (pe_lst (pa_cons (pv 2) pa_nil)))
      (pss_cons (ps_set (i := 4) scGrown.nd rfl (.inl rfl) pe_dnewK)
      (pss_cons (ps_for PassesOwn.never rfl (pi_range1 (by rfl) mr (pa_cons (pe_call GD hr2 (by rfl) gD kD bD .nil pass0 (pa_cons (pv 0) (pa_cons (pe_ix ix_tup (pv 1) pe_int (fun _ _ => rfl)) pa_nil))) pa_nil)) (pg_name (i := 5) scGrown.nd rfl (.inl rfl))
        (pss_cut (ps_setLc (i := 6) (own := [("road", 7)]) (g := gName 7) (tt := tAnd (tTest (tOp (rIn K false) (tOp (rIxT K) (tVar 7) (tC (.int 0))) (tVar 3))) (tTest (tOp (rIn K true) (tOp (rIxT K) (tVar 7) (tC (.int 1))) (tVar 3)))) (te := tVar 7) rfl scGrown.nd rfl rfl (sw_true rfl rfl rfl rfl) (pi_tup (pe_ix ix_tup (pv 1) pe_int (fun _ _ => rfl)))
            (blkOk_by (N := Ngrown) (sc := defScope sGrown) (by decide +kernel)) (fun _ _ _ _ _ => pg_name (i := 7) scGrown.nd rfl (Or.inl rfl))
            (fun _ _ _ _ _ => pts_one (PW.pt (pw_and (pt_cmpR op_in_seq (pe_ix ix_tup (pv 7) pe_int (fun _ _ => rfl)) (pv 3) rfl) (pw_and1 (pt_cmpR op_notIn_seq (pe_ix ix_tup (pv 7) pe_int (fun _ _ => rfl)) (pv 3) rfl)))))
            (fun _ _ _ _ _ => pv 7))
        (pss_one (ps_if (pt_cmpR (op_neD hr.units) (pv 6) (pe_lst pa_nil) (nomark _))
          (pss_cons (ps_set (i := 7) scGrown.nd rfl (.inl rfl) (pe_call GS hr (by rfl) gS kS bS .nil pass0 (pa_cons (pv 0) (pa_cons (pv 6) pa_nil))))
          (pss_cons (ps_dput hu (pv 4) (pe_ix ix_tup (pv 7) pe_int (fun _ _ => rfl)) (pe_ix ix_tup (pv 7) pe_int (fun _ _ => rfl)) rfl)
          (pss_one (ps_expr (pe_bm PySem.F.plainAttrs_list PySem.F.slot_list_append PySem.F.type_list_append mt_append (pv 3) (pa_cons (pe_ix ix_tup (pv 7) pe_int (fun _ _ => rfl)) pa_nil)))))) pss_nil))))
      (pss_one (ps_ret (pv 4))))), ?_⟩
    refine ⟨_, rfl, by show 1 ≤ sizeLine; decide, fun lt nlt => fun pd npd => ?_⟩
    have n1 := G.n1
    have n2 := G.n2
    have ka : K0 H (upd H lt (.lst [.int root])) := K0.new nlt
    have kb : K0 (upd H lt (.lst [.int root])) (upd (upd H lt (.lst [.int root])) pd (.dK [])) := K0.new npd
    have nHpd : H pd = none := upd_none npd
    have hlt1 := kb.oth lt _ upd_same (fun _ z => by cases z)
    have hpd1 : upd (upd H lt (.lst [.int root])) pd (.dK []) pd = some (.dK []) := upd_same
    have k1 := ka.trans kb
    generalize hH1 : upd (upd H lt (.lst [.int root])) pd (.dK []) = H1 at k1 hlt1 hpd1
    have hltt : lt ≠ t := htp.ne nlt
    have hpdt : pd ≠ t := htp.ne nHpd
    have d0 : DI [] (fun _ => none) := ⟨List.nodup_nil, fun p hp => (by cases hp), fun i => rfl⟩
    have hN1 := hN.k0 k1
    have hN1' := hN1
    obtain ⟨r1, xs1, o1, h11, _⟩ := hN1'
    refine ⟨_, rfl, _, rfl, a, _, 0, .int n, rfl, rfl, h11, atI_nat (j := 0) rfl, t, sc, n, ns, rfl, htp.k0 k1, by omega, by omega, fun dd H2 dd0 dd1 k2 tp2 => ?_⟩
    obtain ⟨m, rfl⟩ := Int.eq_ofNat_of_zero_le dd0
    have s2 : Sf K H t sc ns H2 := ⟨k1.kt.trans k2, tp2⟩
    refine ⟨_, rfl, by omega, by omega, for_range (lo := 0) (n := m) (fun i σ' H' => ∃ y5 y6 y7, σ' = [some (.ref t), some (.ref a), some (.int root), some (.ref lt), some (.ref pd), y5, y6, y7] ∧ Sf K H t sc ns H' ∧ ∃ L kvs g, H' lt = some (.lst (L.map V.int)) ∧ L.length ≤ 1 + i ∧ H' pd = some (.dK kvs) ∧ DI kvs g ∧ Grow n rs root g L)
      ⟨none, none, none, rfl, s2, [root], [], _, k2.oth lt _ hlt1 hltt (fun _ z => by cases z), Nat.le_refl _, k2.oth pd _ hpd1 hpdt (fun _ z => by cases z), d0, Grow.ini⟩ (fun i σ' H' hi h => ?_) (fun σ' H' h => ?_)⟩
    · obtain ⟨y5, y6, y7, rfl, s', L, kvs, g, hlt, hLl, hpd, hD, hg⟩ := h
      have hkl : kvs.length ≤ 12 := hD.small fun v x e => by
        have := hg.rd v x e
        omega
      refine ⟨fun σ' H2 => ∃ D acc ts, σ' = [some (.ref t), some (.ref a), some (.int root), some (.ref lt), some (.ref pd), some (.int (0 + (i : Int))), some (.ref D), y7] ∧ K0 H' H2 ∧ H' D = none ∧ H2 D = some (.lst acc) ∧ Roads K H2 acc ts ∧ acc.length ≤ rs.length ∧ (∀ r ∈ ts, r ∈ rs ∧ r.s ∈ L ∧ ¬ r.e ∈ L), ?_, ?_⟩
      · have hN' := hN.kt s'.kt
        obtain ⟨r, xs, o, h1, h2, hc, hd, h3⟩ := hN'
        have hxs : SqT K H' r xs := h2
        have hrl' : xs.length = rs.length := h3.len
        refine ⟨_, rfl, a, _, 1, .ref r, rfl, rfl, h1, atI_nat (j := 1) rfl, r, rfl, ⟨xs, hxs⟩, fun D nD => ?_⟩
        refine lc_tup (K := K) (a := r) (xs := xs) (fun j H2 => K0 H' H2 ∧ ∃ acc ts, H2 D = some (.lst acc) ∧ Roads K H2 acc ts ∧ acc.length ≤ j ∧ (∀ r ∈ ts, r ∈ rs ∧ r.s ∈ L ∧ ¬ r.e ∈ L)) ⟨K0.new nD, [], [], upd_same, .nil, Nat.le_refl _, fun _ z => by cases z⟩ (fun j H2 _ h => h.1.sqT hxs) (fun j x H2 hx h => ?_) (fun H2 h => ?_)
        · obtain ⟨k3, acc, ts, hacc, hR, hal, hall⟩ := h
          obtain ⟨rd, q1, hrd, rfl, hs⟩ := road_at h3 hx
          have hs2 := k3.sqT hs
          have hlt3 := k3.oth lt _ hlt (fun _ z => by cases z)
          have hjl : j < rs.length := (List.getElem?_eq_some_iff.mp hrd).1
          refine ⟨rfl, _, rfl, q1, _, 0, .int rd.s, rfl, rfl, hs2, atI_nat (j := 0) rfl, _, rfl, lt, L.map V.int, rfl, .inl (.inl (.inl hlt3)), rfl, flat_ints L, decide (rd.s ∈ L), by rw [← inV_iff]; rfl, ?_⟩
          by_cases hsL : rd.s ∈ L
          · rw [decide_eq_true hsL]
            refine iteT ⟨_, rfl, q1, _, 1, .int rd.e, rfl, rfl, hs2, atI_nat (j := 1) rfl, _, rfl, lt, L.map V.int, rfl, .inl (.inl (.inl hlt3)), rfl, flat_ints L, !decide (rd.e ∈ L), by rw [← inV_iff]; rfl, ?_⟩
            by_cases heL : rd.e ∈ L
            · rw [decide_eq_true heL]
              exact iteF ⟨k3, acc, ts, hacc, hR, by omega, hall⟩
            · rw [decide_eq_false heL]
              refine iteT ⟨_, rfl, acc, hacc, Nat.lt_of_le_of_lt (m := 5000) (by omega) (by decide), k3.mut nD, acc ++ [.ref q1], ts ++ [rd], upd_same, ?_, by rw [List.length_append, List.length_singleton]; omega, fun r hr => ?_⟩
              · have kk : Kt D H2 (upd H2 D (.lst (acc ++ [.ref q1]))) := Kt.set hacc
                exact kk.roads (roads_snoc hs2 hR)
              · rcases List.mem_append.mp hr with hr | hr
                · exact hall r hr
                · have := List.mem_singleton.mp hr
                  subst this
                  exact ⟨List.mem_of_getElem? hrd, hsL, heL⟩
          · rw [decide_eq_false hsL]
            exact iteF (iteF ⟨k3, acc, ts, hacc, hR, by omega, hall⟩)
        · obtain ⟨k3, acc, ts, hacc, hR, hal, hall⟩ := h
          exact ⟨D, acc, ts, rfl, k3, nD, hacc, hR, by omega, hall⟩
      · rintro σ' H3 ⟨D, acc, ts, rfl, k3, nD, hacc, hR, hal, hall⟩
        have s3 := s'.k0 k3
        have hDt : D ≠ t := s'.tp.ne nD
        refine ⟨_, rfl, Nat.zero_le _, fun pe npe => ?_⟩
        have ke : K0 H3 (upd H3 pe (.lst [])) := K0.new npe
        have s4 := s3.k0 ke
        have hacc4 := ke.oth D _ hacc (fun _ z => by cases z)
        have hlt4 := ke.oth lt _ (k3.oth lt _ hlt (fun _ z => by cases z)) (fun _ z => by cases z)
        have hpd4 := ke.oth pd _ (k3.oth pd _ hpd (fun _ z => by cases z)) (fun _ z => by cases z)
        have hR4 := (ke.kt (t := 0)).roads hR
        refine ⟨_, _, .lst (.inl (.inl hacc4)) hR4, .lst (.inl (.inl upd_same)) .nil, shapedR ts, shapedR [], _, rfl, ?_⟩
        rw [show PyData.eqv (.list (ts.map R4.d)) (.list ([] : List PyData)) = ts.isEmpty from eqv_nilR ts]
        refine ite2 (fun e3 => ?_) (fun e3 => ⟨_, _, _, rfl, s4, L, kvs, g, hlt4, by omega, hpd4, hD, hg⟩)
        have hl : 0 < acc.length := by
          rw [hR4.len]
          cases ts with
          | nil => cases e3
          | cons n0 nr => rw [List.length_cons]; omega
        refine ⟨_, rfl, _, rfl, t, sc, D, ns, acc, rfl, s4.tp, .inr ⟨hacc4, hDt⟩, hl, by omega, fun j x H5 hx k5 => ?_⟩
        obtain ⟨rd, q1, hrd, rfl, hs⟩ := road_at hR4 hx
        obtain ⟨hm, hsL, heL⟩ := hall rd (List.mem_of_getElem? hrd)
        have s5 := s4.go k5.kt (k5.tp s4.tp)
        have hs5 := k5.kt.sqT hs
        have hlt5 := k5.kt.oth lt _ hlt4 hltt (fun _ z => by cases z)
        have hpd5 := k5.kt.oth pd _ hpd4 hpdt (fun _ z => by cases z)
        refine ⟨_, rfl, q1, _, 0, .int rd.s, rfl, rfl, hs5, atI_nat (j := 0) rfl, _, rfl, _, rfl, q1, _, 1, .int rd.e, rfl, rfl, hs5, atI_nat (j := 1) rfl, pd, _, rfl, DPut.k (k := Sum.inl rd.e) hpd5 (Nat.lt_of_le_of_lt hkl (by decide)), ?_⟩
        have kd : Kt pd H5 (upd H5 pd (.dK (putK kvs (Sum.inl rd.e) (.int rd.s)))) := (Kt.refl pd H5).setD hpd5
        have hlp : lt ≠ pd := fun z => by rw [z, hpd5] at hlt5; cases hlt5
        have hlt6 : upd H5 pd (.dK (putK kvs (Sum.inl rd.e) (.int rd.s))) lt = some (.lst (L.map V.int)) := by rw [upd_ne hlp]; exact hlt5
        refine ⟨_, rfl, .inl ⟨rfl, _, .inl (.inl hlt6)⟩, _, rfl, q1, _, 1, .int rd.e, rfl, rfl, kd.sqT hs5, atI_nat (j := 1) rfl, lt, _, _, rfl, rfl, hlt6, Nat.lt_of_le_of_lt (m := 5000) (by rw [List.length_map]; omega) (by decide), ?_⟩
        refine ⟨_, _, _, rfl, (s5.put htp nHpd hpd5).lst htp nlt, L ++ [rd.e], _, _, by rw [List.map_append]; exact upd_same, by rw [List.length_append, List.length_singleton]; omega, by rw [upd_ne hlp.symm]; exact upd_same, hD.put _ _, hg.put G.up hm (G.ok rd hm) hsL heL⟩
    · obtain ⟨y5, y6, y7, rfl, s', L, kvs, g, hlt, hLl, hpd, hD, hg⟩ := h
      refine ⟨_, rfl, q pd kvs g L H' s' nHpd hpd hD (hD.small fun v x e => ?_) hg⟩
      have := hg.rd v x e
      omega
end
end HK

set_option Elab.async false
set_option linter.all false
set_option maxRecDepth 100000
set_option maxHeartbeats 4000000
namespace HK
open PySem PySem.Spec PyProof.Rows L2 GAl GxR HkE
abbrev sNoTrees : Stmt := topS 68
abbrev N_scNoTrees : List Str := ["net", "root", "ahead", "far", "n", "roads", "found", "key", "value", "bent", "place", "other"]
theorem scNoTrees : FnScope N_scNoTrees ["net", "root", "ahead", "far"] (defScope sNoTrees) := ⟨rfl, rfl, rfl, by decide +kernel, rfl, by decide +kernel, by decide +kernel⟩
/-! ### dicts that are no trees -/
theorem noTree_key {rs : List R4} {root x : Int} {g : IF} {m : Nat} (h : g root = some x) : ¬ TreeP rs root g m := fun t => by
  rw [t.1] at h
  cases h
theorem noTree_road {rs : List R4} {root v x : Int} {g : IF} {m : Nat} (h : g v = some x) (hr : road rs x v = none) : ¬ TreeP rs root g m := fun t => by
  have := t.2.1 v x h
  rw [hr] at this
  cases this
theorem noTree_off {n root v x : Int} {rs : List R4} {g : IF} {m : Nat} (hG : Good n rs) (h : g v = some x) (ho : x = v ∨ x < 0 ∨ n ≤ x ∨ v < 0 ∨ n ≤ v) : ¬ TreeP rs root g m := by
  refine noTree_road h ?_
  cases e : road rs x v with
  | none => rfl
  | some r =>
    obtain ⟨hm, h1, h2⟩ := road_some e
    have := hG.ok r hm
    have a1 := this.s0
    have a2 := this.s1
    have a3 := this.e0
    have a4 := this.e1
    have a5 := this.ne
    omega
theorem noTree_ring {rs : List R4} {root a b : Int} {g : IF} {m : Nat} (h1 : g a = some b) (h2 : g b = some a) (na : a ≠ root) (nb : b ≠ root) : ¬ TreeP rs root g m := fun t => by
  have key : ∀ (m : Nat) (v : Int), v = a ∨ v = b → clm g m v = a ∨ clm g m v = b := by
    intro m
    induction m with
    | zero => exact fun v hv => hv
    | succ m ih =>
      intro v hv
      rcases hv with rfl | rfl
      · rw [clm_shift]; exact ih (stp g _) (.inr (by unfold stp; rw [h1]; rfl))
      · rw [clm_shift]; exact ih (stp g _) (.inl (by unfold stp; rw [h2]; rfl))
  have e := t.2.2 a b h1
  rcases key m a (.inl rfl) with z | z
  · exact na (z.symm.trans e)
  · exact nb (z.symm.trans e)
theorem put_at (g : IF) (i x : Int) : HK.put g i x i = some x := by
  unfold HK.put
  simp
theorem put_off (g : IF) {i x j y : Int} (h : j ≠ i) (e : g j = some y) : HK.put g i x j = some y := by
  unfold HK.put
  simp [h, e]
def BadD (rs : List R4) (root : Int) (H : Hp) (x : V) : Prop := ∃ (p : Addr) (kvs : List (Key × V)) (g : IF), x = .ref p ∧ H p = some (.dK kvs) ∧ DI kvs g ∧ kvs.length ≤ 100 ∧ ¬ TreeP rs root g kvs.length
theorem BadD.k0 {rs : List R4} {root : Int} {H H' : Hp} {x : V} (h : BadD rs root H x) (k : K0 H H') : BadD rs root H' x := by
  obtain ⟨p, kvs, g, h1, h2, h3⟩ := h
  exact ⟨p, kvs, g, h1, k.oth p _ h2 (fun _ z => by cases z), h3⟩
theorem BadD.set {rs : List R4} {root : Int} {H : Hp} {x : V} {F : Addr} {ys zs : List V} (h : BadD rs root H x) (hF : H F = some (.lst ys)) : BadD rs root (upd H F (.lst zs)) x := by
  obtain ⟨p, kvs, g, h1, h2, h3⟩ := h
  exact ⟨p, kvs, g, h1, by rw [upd_ne (fun z => by rw [z, hF] at h2; cases h2)]; exact h2, h3⟩
/-- the list of such dicts as it grows -/
def NB (rs : List R4) (root : Int) (H0 : Hp) (F : Addr) (m : Nat) (H : Hp) : Prop := K0 H0 H ∧ ∃ xs, H F = some (.lst xs) ∧ (∀ x ∈ xs, BadD rs root H x) ∧ xs.length ≤ m
theorem NB.push {rs : List R4} {root : Int} {H0 H H' : Hp} {F q : Addr} {m : Nat} {xs : List V} (nF : H0 F = none) (k : K0 H0 H) (hF : H F = some (.lst xs)) (hB : ∀ x ∈ xs, BadD rs root H x) (hl : xs.length ≤ m) (k2 : K0 H H') (hq : BadD rs root H' (.ref q)) :
    NB rs root H0 F (m + 1) (upd H' F (.lst (xs ++ [.ref q]))) := by
  have hF' := k2.oth F _ hF (fun _ z => by cases z)
  refine ⟨(k.trans k2).mut nF, _, upd_same, fun x hx => ?_, by rw [List.length_append]; exact Nat.add_le_add_right hl 1⟩
  rcases List.mem_append.mp hx with hx | hx
  · exact ((hB x hx).k0 k2).set hF'
  · rcases List.mem_cons.mp hx with rfl | z
    · exact hq.set hF'
    · cases z
theorem NB.le {rs : List R4} {root : Int} {H0 H : Hp} {F : Addr} {m m' : Nat} (h : NB rs root H0 F m H) (l : m ≤ m') : NB rs root H0 F m' H := by
  obtain ⟨k, xs, h1, h2, h3⟩ := h
  exact ⟨k, xs, h1, h2, Nat.le_trans h3 l⟩
theorem NB.k0 {rs : List R4} {root : Int} {H0 H H' : Hp} {F : Addr} {m : Nat} (h : NB rs root H0 F m H) (k : K0 H H') : NB rs root H0 F m H' := by
  obtain ⟨k0, xs, h1, h2, h3⟩ := h
  exact ⟨k0.trans k, xs, k.oth F _ h1 (fun _ z => by cases z), fun x hx => (h2 x hx).k0 k, h3⟩
section
variable {P : Program} {w : World} {K : PySem.W.Frag} {mg : Str → Option Value} {base : Heap}
def spNoTrees (K : PySem.W.Frag) : Sp := fun vs H Q _ => ∃ (a : Addr) (n : Int) (rs : List R4) (root : Int) (d : Addr) (kvs : List (Key × V)) (g : IF) (far : Int), vs = [.ref a, .int root, .ref d, .int far] ∧ NetAt K H a n rs ∧ Good n rs ∧ rs.length ≤ 156 ∧ 0 ≤ root ∧ root < n ∧
  H d = some (.dK kvs) ∧ DI kvs g ∧ kvs.length ≤ 50 ∧ 0 ≤ far ∧ ∀ (q : Addr) (xs : List V) (H' : Hp), K0 H H' → H' q = some (.lst xs) → (∀ x ∈ xs, BadD rs root H' x) → xs.length ≤ 1000 → Q (.ref q) H'
set_option maxHeartbeats 16000000 in
theorem ok_notrees {f : Addr} {fd : FuncData} {f_road : Addr} {fd_road : FuncData} (F : Fun K "_law_b_no_trees" "_law_b_no_trees" sNoTrees f fd) (k_road : PySem.W.keepIn K (.ref f_road) = true) (b_road : Binds K fd_road ["net", "i", "j"] []) (g_road : mg "_law_b_road" = some (.ref f_road)) (G_road : FnOk P w K mg base CX0 1 f_road fd_road ["net", "i", "j"] (spRoadL K)) (m_dict : mg "dict" = none) (m_range : mg "range" = none) :
    FnOk P w K mg base CX0 2 f fd ["net", "root", "ahead", "far"] (spNoTrees K) := by
  refine F.ok scNoTrees (fun vs H Q E h => ?_) (fun cdv A outer s H vs Q E hr h => ?_)
  · obtain ⟨a, n, rs, root, d, kvs, g, far, rfl, _⟩ := h
    rfl
  · obtain ⟨a, n, rs, root, d, kvs, g, far, rfl, hN, hG, hl, r0, r1, hd, hD, hkl, hf, q⟩ := h
    have hu := hu_of hr
    have n1 := hG.n1
    have n2 := hG.n2
    have d0 : DI [] (fun _ => none) := ⟨List.nodup_nil, fun p hp => (by cases hp), fun i => rfl⟩
    refine ⟨_, (pss_cons (ps_asg (pv 0) (pg_tup rfl (pgs_cons (pg_name (i := 4) scNoTrees.nd rfl (.inl rfl)) (pgs_cons (pg_name (i := 5) scNoTrees.nd rfl (.inl rfl)) pgs_nil))))
      (pss_cons (ps_set (i := 6) scNoTrees.nd rfl (.inl rfl) (pe_lst (pa_cons (pe_disp (pps_cons (pv 1) (pv 1) pps_nil) rfl rfl (fun z => by cases z) (by decide)) (pa_cons (pe_disp (pps_cons (pv 4) (pv 1) pps_nil) rfl rfl (fun z => by cases z) (by decide)) (pa_cons (pe_disp (pps_cons (pe_un un_neg pe_int) (pv 1) pps_nil) rfl rfl (fun z => by cases z) (by decide)) (pa_cons (pe_disp (pps_cons (pe_op op_add (pv 4) (pv 3)) (pv 1) (pps_cons (pe_op op_sub (pe_un un_neg pe_int) (pv 3)) (pv 1) pps_nil)) rfl rfl (fun z => by cases z) (by decide)) pa_nil))))))
      (pss_cons (ps_for PassesOwn.never rfl (pi_list (pe_lst (pa_cons (pe_tup (pa_cons (pv 4) (pa_cons (pv 1) pa_nil))) (pa_cons (pe_tup (pa_cons (pe_op op_sub (pe_un un_neg pe_int) (pv 3)) (pa_cons (pv 1) pa_nil))) (pa_cons (pe_tup (pa_cons (pv 1) (pa_cons (pv 1) pa_nil))) pa_nil))))) (pg_tup rfl (pgs_cons (pg_name (i := 7) scNoTrees.nd rfl (.inl rfl)) (pgs_cons (pg_name (i := 8) scNoTrees.nd rfl (.inl rfl)) pgs_nil)))
      (pss_cons (ps_set (i := 9) scNoTrees.nd rfl (.inl rfl) (pe_callTy call_dictD (by rfl) m_dict (by decide +kernel) (pa_cons (pv 2) pa_nil)))
      (pss_cons (ps_dput hu (pv 9) (pv 7) (pv 8) rfl)
      (pss_one (ps_expr (pe_bm PySem.F.plainAttrs_list PySem.F.slot_list_append PySem.F.type_list_append mt_append (pv 6) (pa_cons (pv 9) pa_nil)))))))
      (pss_cons (ps_for PassesOwn.never rfl (pi_range1 (by rfl) m_range (pa_cons (pv 4) pa_nil)) (pg_name (i := 10) scNoTrees.nd rfl (.inl rfl))
      (pss_cons (ps_for PassesOwn.never rfl (pi_list (pe_lst (pa_cons (pv 10) (pa_cons (pe_un un_neg pe_int) (pa_cons (pv 4) (pa_cons (pe_op op_add (pv 4) (pv 3)) pa_nil)))))) (pg_name (i := 8) scNoTrees.nd rfl (.inl rfl))
      (pss_cons (ps_set (i := 9) scNoTrees.nd rfl (.inl rfl) (pe_callTy call_dictD (by rfl) m_dict (by decide +kernel) (pa_cons (pv 2) pa_nil)))
      (pss_cons (ps_dput hu (pv 9) (pv 10) (pv 8) rfl)
      (pss_one (ps_expr (pe_bm PySem.F.plainAttrs_list PySem.F.slot_list_append PySem.F.type_list_append mt_append (pv 6) (pa_cons (pv 9) pa_nil)))))))
      (pss_cons (ps_set (i := 9) scNoTrees.nd rfl (.inl rfl) (pe_callTy call_dictD (by rfl) m_dict (by decide +kernel) (pa_cons (pv 2) pa_nil)))
      (pss_cons (ps_dput hu (pv 9) (pv 1) (pv 10) rfl)
      (pss_cons (ps_expr (pe_bm PySem.F.plainAttrs_list PySem.F.slot_list_append PySem.F.type_list_append mt_append (pv 6) (pa_cons (pv 9) pa_nil)))
      (pss_one (ps_for PassesOwn.never rfl (pi_range1 (by rfl) m_range (pa_cons (pv 10) pa_nil)) (pg_name (i := 11) scNoTrees.nd rfl (.inl rfl))
      (pss_cons (ps_if (PW.pt (pw_or (pt_cmp (pc_isN (pe_call G_road (hr.mono (by decide)) (by rfl) g_road k_road b_road .nil pass0 (pa_cons (pv 0) (pa_cons (pv 10) (pa_cons (pv 11) pa_nil)))))) (pw_or1 (pt_cmpR op_eq (pv 11) (pv 1) (nomark _))))) (pss_one (ps_expr (pe_bm PySem.F.plainAttrs_list PySem.F.slot_list_append PySem.F.type_list_append mt_append (pv 6) (pa_cons (pe_disp (pps_cons (pv 11) (pv 10) pps_nil) rfl rfl (fun z => by cases z) (by decide)) pa_nil)))) pss_nil)
      (pss_one (ps_if (PW.pt (pw_and (pt_cmpR op_ne (pv 10) (pv 1) (nomark _)) (pw_and1 (pt_cmpR op_ne (pv 11) (pv 1) (nomark _))))) (pss_one (ps_expr (pe_bm PySem.F.plainAttrs_list PySem.F.slot_list_append PySem.F.type_list_append mt_append (pv 6) (pa_cons (pe_disp (pps_cons (pv 10) (pv 11) (pps_cons (pv 11) (pv 10) pps_nil)) rfl rfl (fun z => by cases z) (by decide)) pa_nil)))) pss_nil))))))))))
      (pss_one (ps_ret (pv 6))))))), ?_⟩
    obtain ⟨r, xs, o, h1, h2, hc, hdt, h3⟩ := id hN
    refine ⟨_, rfl, a, _, rfl, h1, rfl, _, _, rfl, _, _, rfl, rfl, ?_⟩
    refine fun p np => ⟨_, rfl, _, rfl, ⟨upd_same, [(Sum.inl root, .int root)], rfl, (by show 1 ≤ 15; decide), ?_⟩⟩
    rw [upd_upd]
    have k1 := K0.new np (o := .dK (mergeK [] [(Sum.inl root, V.int root)]))
    have B1 : BadD rs root (upd H p (.dK (mergeK [] [(Sum.inl root, V.int root)]))) (.ref p) := ⟨p, _, _, rfl, upd_same, d0.put root root, (show 1 ≤ 100 by decide), noTree_key (x := root) (put_at _ _ _)⟩
    generalize upd H p (.dK (mergeK [] [(Sum.inl root, V.int root)])) = H1 at k1 B1 ⊢
    refine fun p2 np2 => ⟨_, rfl, _, rfl, ⟨upd_same, [(Sum.inl n, .int root)], rfl, (by show 1 ≤ 15; decide), ?_⟩⟩
    rw [upd_upd]
    have k2 := K0.new np2 (o := .dK (mergeK [] [(Sum.inl n, V.int root)]))
    have B2 : BadD rs root (upd H1 p2 (.dK (mergeK [] [(Sum.inl n, V.int root)]))) (.ref p2) := ⟨p2, _, _, rfl, upd_same, d0.put n root, (show 1 ≤ 100 by decide), noTree_off hG (put_at _ _ _) (by omega)⟩
    generalize upd H1 p2 (.dK (mergeK [] [(Sum.inl n, V.int root)])) = H2 at k2 B2 ⊢
    refine fun p3 np3 => ⟨1, rfl, _, rfl, ⟨upd_same, [(Sum.inl (-1), .int root)], rfl, (by show 1 ≤ 15; decide), ?_⟩⟩
    rw [upd_upd]
    have k3 := K0.new np3 (o := .dK (mergeK [] [(Sum.inl (-1), V.int root)]))
    have B3 : BadD rs root (upd H2 p3 (.dK (mergeK [] [(Sum.inl (-1), V.int root)]))) (.ref p3) := ⟨p3, _, _, rfl, upd_same, d0.put (-1) root, (show 1 ≤ 100 by decide), noTree_off hG (put_at _ _ _) (by omega)⟩
    generalize upd H2 p3 (.dK (mergeK [] [(Sum.inl (-1), V.int root)])) = H3 at k3 B3 ⊢
    refine fun p4 np4 => ⟨_, rfl, _, rfl, n, far, rfl, rfl, _, rfl, 1, rfl, _, rfl, -1, far, rfl, rfl, _, rfl, ⟨upd_same, [(Sum.inl (n + far), .int root), (Sum.inl (-1 - far), .int root)], rfl, (by show 2 ≤ 15; decide), ?_⟩⟩
    rw [upd_upd]
    have k4 := K0.new np4 (o := .dK (mergeK [] [(Sum.inl (n + far), V.int root), (Sum.inl (-1 - far), V.int root)]))
    have B4 : BadD rs root (upd H3 p4 (.dK (mergeK [] [(Sum.inl (n + far), V.int root), (Sum.inl (-1 - far), V.int root)]))) (.ref p4) :=
      ⟨p4, _, _, rfl, upd_same, (d0.put (n + far) root).put (-1 - far) root, Nat.le_trans (length_putK _ _ _) (Nat.le_trans (Nat.add_le_add_right (length_putK _ _ _) 1) (by decide)), noTree_off hG (put_at _ _ _) (by omega)⟩
    generalize upd H3 p4 (.dK (mergeK [] [(Sum.inl (n + far), V.int root), (Sum.inl (-1 - far), V.int root)])) = H4 at k4 B4 ⊢
    refine ⟨few_size (show 4 ≤ 1000 by decide), fun F nF => ?_⟩
    have k14 := ((k1.trans k2).trans k3).trans k4
    have nF0 := k14.dom F nF
    have kF := K0.new nF (o := .lst [.ref p, .ref p2, .ref p3, .ref p4])
    have N5 : NB rs root H F 4 (upd H4 F (.lst [.ref p, .ref p2, .ref p3, .ref p4])) := by
      refine ⟨k14.trans kF, _, upd_same, fun x hx => ?_, Nat.le_refl 4⟩
      simp only [List.mem_cons, List.not_mem_nil, or_false] at hx
      rcases hx with rfl | rfl | rfl | rfl
      · exact B1.k0 (((k2.trans k3).trans k4).trans kF)
      · exact B2.k0 ((k3.trans k4).trans kF)
      · exact B3.k0 (k4.trans kF)
      · exact B4.k0 kF
    generalize upd H4 F (.lst [.ref p, .ref p2, .ref p3, .ref p4]) = H5 at N5 ⊢
    have hsz : kvs.length < sizeLine := Nat.lt_of_le_of_lt hkl (by decide)
    have hd' : ∀ {m : Nat} {H' : Hp}, NB rs root H F m H' → H' d = some (.dK kvs) := fun h => h.1.oth d _ hd (fun _ z => by cases z)
    have hB : ∀ {H' : Hp} {b : Addr} {ky vl : Int}, (ky = root ∨ vl = ky ∨ vl < 0 ∨ n ≤ vl ∨ ky < 0 ∨ n ≤ ky) → BadD rs root (upd H' b (.dK (putK kvs (Sum.inl ky) (.int vl)))) (.ref b) := fun {H' b ky vl} h => by
      refine ⟨b, _, _, rfl, upd_same, hD.put ky vl, Nat.le_trans (length_putK _ _ _) (by omega), ?_⟩
      rcases h with rfl | h
      · exact noTree_key (put_at _ _ _)
      · exact noTree_off hG (put_at _ _ _) h
    refine ⟨_, rfl, _, rfl, few_size (show 2 ≤ 1000 by decide), fun t1 nt1 => ?_⟩
    have kt1 := K0.new nt1 (o := .tup [.int n, .int root])
    have s1 : SqT K (upd H5 t1 (.tup [.int n, .int root])) t1 [.int n, .int root] := .inl (.inl upd_same)
    generalize upd H5 t1 (.tup [.int n, .int root]) = H6 at kt1 s1 ⊢
    refine ⟨1, rfl, _, rfl, -1, far, rfl, rfl, _, rfl, few_size (show 2 ≤ 1000 by decide), fun t2 nt2 => ?_⟩
    have kt2 := K0.new nt2 (o := .tup [.int (-1 - far), .int root])
    have s2 : SqT K (upd H6 t2 (.tup [.int (-1 - far), .int root])) t2 [.int (-1 - far), .int root] := .inl (.inl upd_same)
    generalize upd H6 t2 (.tup [.int (-1 - far), .int root]) = H7 at kt2 s2 ⊢
    refine ⟨_, rfl, _, rfl, few_size (show 2 ≤ 1000 by decide), fun t3 nt3 => ?_⟩
    have kt3 := K0.new nt3 (o := .tup [.int root, .int root])
    have s3 : SqT K (upd H7 t3 (.tup [.int root, .int root])) t3 [.int root, .int root] := .inl (.inl upd_same)
    generalize upd H7 t3 (.tup [.int root, .int root]) = H8 at kt3 s3 ⊢
    refine ⟨few_size (show 3 ≤ 1000 by decide), fun L nL => ?_⟩
    have kL := K0.new nL (o := .lst [.ref t1, .ref t2, .ref t3])
    have hL : (upd H8 L (.lst [.ref t1, .ref t2, .ref t3])) L = some (.lst [.ref t1, .ref t2, .ref t3]) := upd_same
    have s1' := (((kt2.trans kt3).trans kL)).sqT s1
    have s2' := (kt3.trans kL).sqT s2
    have s3' := kL.sqT s3
    have k59 := ((kt1.trans kt2).trans kt3).trans kL
    have N9 : NB rs root H F 4 (upd H8 L (.lst [.ref t1, .ref t2, .ref t3])) := by
      obtain ⟨k, xs, h1, h2, h3⟩ := N5
      exact ⟨k.trans k59, xs, k59.oth F _ h1 (fun _ z => by cases z), fun x hx => (h2 x hx).k0 k59, h3⟩
    have hLF : L ≠ F := fun z => by
      obtain ⟨_, xs, h1, _⟩ := N5
      have := ((kt1.trans kt2).trans kt3).oth F _ h1 (fun _ z => by cases z)
      rw [← z, nL] at this
      cases this
    generalize upd H8 L (.lst [.ref t1, .ref t2, .ref t3]) = H9 at kL hL s1' s2' s3' k59 N9 ⊢
    refine ⟨L, rfl, ⟨_, .inl (.inl hL)⟩, for_list (K := K) (a := L) (xs := [.ref t1, .ref t2, .ref t3]) (fun i σ' H' => ∃ y7 y8 y9, σ' = [some (.ref a), some (.int root), some (.ref d), some (.int far), some (.int n), some (.ref r), some (.ref F), y7, y8, y9, none, none] ∧ Kt F H9 H' ∧ NB rs root H F (4 + i) H')
      ⟨none, none, none, rfl, Kt.refl _ _, N9⟩ (fun i σ' H' _ h => ?_) (fun i x σ' H' hx h => ?_) (fun σ' H' h => ?_)⟩
    · obtain ⟨_, _, _, _, k, _⟩ := h
      exact k.sqL hLF (.inl (.inl hL))
    · obtain ⟨y7, y8, y9, rfl, k, hNB⟩ := h
      obtain ⟨t, ky, vl, rfl, hst, hbad⟩ : ∃ (t : Addr) (ky vl : Int), x = .ref t ∧ SqT K H' t [.int ky, .int vl] ∧ (ky = root ∨ vl = ky ∨ vl < 0 ∨ n ≤ vl ∨ ky < 0 ∨ n ≤ ky) := by
        rcases i with _ | _ | _ | i
        · cases hx; exact ⟨t1, n, root, rfl, k.sqT s1', by omega⟩
        · cases hx; exact ⟨t2, -1 - far, root, rfl, k.sqT s2', by omega⟩
        · cases hx; exact ⟨t3, root, root, rfl, k.sqT s3', by omega⟩
        · cases hx
      refine ⟨t, _, rfl, hst, rfl, _, _, rfl, _, _, rfl, rfl, ?_⟩
      refine ⟨_, rfl, d, kvs, rfl, .inl (hd' hNB), fun b nb => ?_⟩
      obtain ⟨k0, xs, hF, hBs, hlen⟩ := hNB
      refine ⟨_, rfl, _, rfl, _, rfl, b, _, rfl, DPut.k (k := Sum.inl ky) upd_same hsz, ?_⟩
      rw [upd_upd]
      have kb := K0.new nb (o := .dK (putK kvs (Sum.inl ky) (.int vl)))
      have hF2 := kb.oth F _ hF (fun _ z => by cases z)
      have nw := NB.push nF0 k0 hF hBs hlen kb (hB hbad)
      refine ⟨_, rfl, .inl ⟨rfl, _, .inl (.inl hF2)⟩, _, rfl, F, xs, .ref b, rfl, rfl, hF2, Nat.lt_of_le_of_lt (m := 1000) (by have := hlen; have : i < 3 := (List.getElem?_eq_some_iff.mp hx).1; omega) (by decide), ?_⟩
      exact ⟨_, _, _, rfl, k.trans (kb.kt.trans (Kt.set hF2)), nw⟩
    · obtain ⟨y7, y8, y9, rfl, k, hNB⟩ := h
      have pushI : ∀ {H' H'' : Hp} {b : Addr} {m : Nat} {xs : List V}, K0 H H' → H' F = some (.lst xs) → (∀ x ∈ xs, BadD rs root H' x) → xs.length ≤ m → K0 H' H'' → BadD rs root H'' (.ref b) → NB rs root H F (m + 1) (upd H'' F (.lst (xs ++ [.ref b]))) := fun k0 hF hB hl k2 hq => NB.push nF0 k0 hF hB hl k2 hq
      refine ⟨_, rfl, n, rfl, by omega, by omega, for_range (lo := 0) (n := n.toNat) (fun i σ' H' => ∃ y7 y8 y9 y10 y11, σ' = [some (.ref a), some (.int root), some (.ref d), some (.int far), some (.int n), some (.ref r), some (.ref F), y7, y8, y9, y10, y11] ∧ NB rs root H F (7 + 27 * i) H')
        ⟨_, _, _, _, _, rfl, hNB⟩ (fun i σ' H' hi h => ?_) (fun σ' H' h => ?_)⟩
      · obtain ⟨y7, y8, y9, y10, y11, rfl, hNB⟩ := h
        have hi' : i < 12 := by omega
        obtain ⟨pl, epl, p0, p1, hpl⟩ : ∃ pl : Int, 0 + (i : Int) = pl ∧ 0 ≤ pl ∧ pl < n ∧ pl.toNat ≤ 11 := ⟨_, rfl, by omega, by omega, by omega⟩
        rw [epl]
        refine ⟨_, rfl, 1, rfl, _, rfl, _, rfl, _, rfl, n, far, rfl, rfl, few_size (show 4 ≤ 1000 by decide), fun L2 nL2 => ?_⟩
        have kL2 := K0.new nL2 (o := .lst [.int pl, .int (-1), .int n, .int (n + far)])
        have hL2 : (upd H' L2 (.lst [.int pl, .int (-1), .int n, .int (n + far)])) L2 = some (.lst [.int pl, .int (-1), .int n, .int (n + far)]) := upd_same
        have hLF2 : L2 ≠ F := fun z => by
          obtain ⟨_, xs, h1, _⟩ := hNB
          rw [← z, nL2] at h1
          cases h1
        have NL : NB rs root H F (7 + 27 * i + 0) (upd H' L2 (.lst [.int pl, .int (-1), .int n, .int (n + far)])) := by
          obtain ⟨k, xs, h1, h2, h3⟩ := hNB
          exact ⟨k.trans kL2, xs, kL2.oth F _ h1 (fun _ z => by cases z), fun x hx => (h2 x hx).k0 kL2, h3⟩
        generalize upd H' L2 (.lst [.int pl, .int (-1), .int n, .int (n + far)]) = H10 at kL2 hL2 NL ⊢
        refine ⟨L2, rfl, ⟨_, .inl (.inl hL2)⟩, for_list (K := K) (a := L2) (xs := [.int pl, .int (-1), .int n, .int (n + far)]) (fun j σ' H' => ∃ y7 y8 y9, σ' = [some (.ref a), some (.int root), some (.ref d), some (.int far), some (.int n), some (.ref r), some (.ref F), y7, y8, y9, some (.int pl), y11] ∧ Kt F H10 H' ∧ NB rs root H F (7 + 27 * i + j) H')
          ⟨_, _, _, rfl, Kt.refl _ _, NL⟩ (fun i σ' H' _ h => ?_) (fun j x σ' H' hx h => ?_) (fun σ' H' h => ?_)⟩
        · obtain ⟨_, _, _, _, k, _⟩ := h
          exact k.sqL hLF2 (.inl (.inl hL2))
        · obtain ⟨y7, y8, y9, rfl, k, hNB⟩ := h
          obtain ⟨vl, rfl, hbad⟩ : ∃ vl : Int, x = .int vl ∧ (pl = root ∨ vl = pl ∨ vl < 0 ∨ n ≤ vl ∨ pl < 0 ∨ n ≤ pl) := by
            rcases j with _ | _ | _ | _ | j
            · cases hx; exact ⟨pl, rfl, by omega⟩
            · cases hx; exact ⟨-1, rfl, by omega⟩
            · cases hx; exact ⟨n, rfl, by omega⟩
            · cases hx; exact ⟨n + far, rfl, by omega⟩
            · cases hx
          refine ⟨_, rfl, d, kvs, rfl, .inl (hd' hNB), fun b nb => ?_⟩
          obtain ⟨k0, xs, hF, hBs, hlen⟩ := hNB
          refine ⟨_, rfl, _, rfl, _, rfl, b, _, rfl, DPut.k (k := Sum.inl pl) upd_same hsz, ?_⟩
          rw [upd_upd]
          have kb := K0.new nb (o := .dK (putK kvs (Sum.inl pl) (.int vl)))
          have hF2 := kb.oth F _ hF (fun _ z => by cases z)
          have nw := pushI k0 hF hBs hlen kb (hB hbad)
          refine ⟨_, rfl, .inl ⟨rfl, _, .inl (.inl hF2)⟩, _, rfl, F, xs, .ref b, rfl, rfl, hF2, Nat.lt_of_le_of_lt (m := 1000) (by have := hlen; have : j < 4 := (List.getElem?_eq_some_iff.mp hx).1; omega) (by decide), ?_⟩
          exact ⟨_, _, _, rfl, k.trans (kb.kt.trans (Kt.set hF2)), nw⟩
        · obtain ⟨y7, y8, y9, rfl, k, hNB⟩ := h
          refine ⟨_, rfl, d, kvs, rfl, .inl (hd' hNB), fun b nb => ?_⟩
          obtain ⟨k0, xs, hF, hBs, hlen⟩ := hNB
          refine ⟨_, rfl, _, rfl, _, rfl, b, _, rfl, DPut.k (k := Sum.inl root) upd_same hsz, ?_⟩
          rw [upd_upd]
          have kb := K0.new nb (o := .dK (putK kvs (Sum.inl root) (.int pl)))
          have hF2 := kb.oth F _ hF (fun _ z => by cases z)
          have nw := pushI k0 hF hBs hlen kb (hB (.inl rfl))
          refine ⟨_, rfl, .inl ⟨rfl, _, .inl (.inl hF2)⟩, _, rfl, F, xs, .ref b, rfl, rfl, hF2, Nat.lt_of_le_of_lt (m := 1000) (Nat.le_trans hlen (by show 7 + 27 * i + 4 ≤ 1000; omega)) (by decide), ?_⟩
          refine ⟨_, rfl, pl, rfl, by omega, by omega, for_range (lo := 0) (n := pl.toNat) (fun j σ' H' => ∃ y7 y8 y9 y11, σ' = [some (.ref a), some (.int root), some (.ref d), some (.int far), some (.int n), some (.ref r), some (.ref F), y7, y8, y9, some (.int pl), y11] ∧ NB rs root H F (7 + 27 * i + 5 + 2 * j) H')
            ⟨_, _, _, _, rfl, nw.le (by show 7 + 27 * i + 4 + 1 ≤ _; omega)⟩ (fun j σ' H' hj h => ?_) (fun σ' H' h => ?_)⟩
          · obtain ⟨y7, y8, y9, y11, rfl, hNB⟩ := h
            obtain ⟨ot, eot, o0, o1⟩ : ∃ ot : Int, 0 + (j : Int) = ot ∧ 0 ≤ ot ∧ ot < pl := ⟨_, rfl, by omega, by omega⟩
            rw [eot]
            have h0 := hNB.1
            refine ⟨_, rfl, _, rfl, _, rfl, a, n, rs, pl, ot, rfl, hN.k0 h0, fun H2 k2 => ⟨fun e => ?_, fun rd qd e hs => ?_⟩⟩
            · have hNB2 : NB rs root H F (7 + 27 * i + 5 + 2 * j) H2 := hNB.k0 k2
              obtain ⟨k0, xs, hF, hBs, hlen⟩ := hNB2
              refine (⟨_, rfl, iteT (iteT ⟨_, rfl, .inl ⟨rfl, _, .inl (.inl hF)⟩, fun b nb => ⟨_, rfl, _, rfl, ⟨upd_same, [(Sum.inl ot, .int pl)], rfl, (by show 1 ≤ 15; decide), ?_⟩⟩⟩)⟩)
              rw [upd_upd]
              have kb := K0.new nb (o := .dK (mergeK [] [(Sum.inl ot, V.int pl)]))
              have hF2 := kb.oth F _ hF (fun _ z => by cases z)
              have nw := pushI k0 hF hBs hlen kb ⟨b, _, _, rfl, upd_same, d0.put ot pl, (show 1 ≤ 100 by decide), noTree_road (put_at _ _ _) e⟩
              refine ⟨F, xs, .ref b, rfl, rfl, hF2, Nat.lt_of_le_of_lt (m := 1000) (Nat.le_trans hlen (by omega)) (by decide), ?_⟩
              generalize upd (upd _ b _) F _ = H11 at nw ⊢
              refine ⟨_, rfl, _, rfl, rfl, _, rfl, ?_⟩
              by_cases h1r : pl = root
              · rw [decide_eq_true (show V.int pl = V.int root by rw [h1r])]
                exact iteF (iteF ⟨_, _, _, _, rfl, nw.le (by omega)⟩)
              · rw [decide_eq_false (show ¬ V.int pl = V.int root from fun z => h1r (V.int.inj z))]
                refine iteT ⟨_, rfl, _, rfl, rfl, _, rfl, ?_⟩
                by_cases h2r : ot = root
                · rw [decide_eq_true (show V.int ot = V.int root by rw [h2r])]
                  exact iteF ⟨_, _, _, _, rfl, nw.le (by omega)⟩
                · rw [decide_eq_false (show ¬ V.int ot = V.int root from fun z => h2r (V.int.inj z))]
                  obtain ⟨k0, xs, hF, hBs, hlen⟩ := nw
                  refine iteT ⟨_, rfl, .inl ⟨rfl, _, .inl (.inl hF)⟩, fun b nb => ⟨_, rfl, _, rfl, _, rfl, _, rfl, ⟨upd_same, [(Sum.inl pl, .int ot), (Sum.inl ot, .int pl)], rfl, (by show 2 ≤ 15; decide), ?_⟩⟩⟩
                  rw [upd_upd]
                  have kb := K0.new nb (o := .dK (mergeK [] [(Sum.inl pl, V.int ot), (Sum.inl ot, V.int pl)]))
                  have hF2 := kb.oth F _ hF (fun _ z => by cases z)
                  have nw := pushI k0 hF hBs hlen kb ⟨b, _, _, rfl, upd_same, (d0.put pl ot).put ot pl, Nat.le_trans (length_putK _ _ _) (Nat.le_trans (Nat.add_le_add_right (length_putK _ _ _) 1) (by decide)),
                    noTree_ring (a := pl) (b := ot) (put_off _ (by omega) (put_at _ _ _)) (put_at _ _ _) h1r h2r⟩
                  exact ⟨F, xs, .ref b, rfl, rfl, hF2, Nat.lt_of_le_of_lt (m := 1000) (Nat.le_trans hlen (by omega)) (by decide), _, _, _, _, rfl, nw.le (by omega)⟩
            · have hNB2 : NB rs root H F (7 + 27 * i + 5 + 2 * j) H2 := hNB.k0 k2
              refine ⟨_, rfl, iteF ⟨_, rfl, _, rfl, rfl, _, rfl, ?_⟩⟩
              by_cases hor : ot = root
              · rw [decide_eq_true (show V.int ot = V.int root by rw [hor])]
                obtain ⟨k0, xs, hF, hBs, hlen⟩ := hNB2
                refine (iteT ⟨_, rfl, .inl ⟨rfl, _, .inl (.inl hF)⟩, fun b nb => ⟨_, rfl, _, rfl, ⟨upd_same, [(Sum.inl ot, .int pl)], rfl, (by show 1 ≤ 15; decide), ?_⟩⟩⟩)
                rw [upd_upd]
                have kb := K0.new nb (o := .dK (mergeK [] [(Sum.inl ot, V.int pl)]))
                have hF2 := kb.oth F _ hF (fun _ z => by cases z)
                have nw := pushI k0 hF hBs hlen kb ⟨b, _, _, rfl, upd_same, d0.put ot pl, (show 1 ≤ 100 by decide), noTree_key (x := pl) (hor ▸ put_at _ _ _)⟩
                refine ⟨F, xs, .ref b, rfl, rfl, hF2, Nat.lt_of_le_of_lt (m := 1000) (Nat.le_trans hlen (by omega)) (by decide), ?_⟩
                generalize upd (upd _ b _) F _ = H11 at nw ⊢
                refine ⟨_, rfl, _, rfl, rfl, _, rfl, ?_⟩
                by_cases h1r : pl = root
                · rw [decide_eq_true (show V.int pl = V.int root by rw [h1r])]
                  exact iteF (iteF ⟨_, _, _, _, rfl, nw.le (by omega)⟩)
                · rw [decide_eq_false (show ¬ V.int pl = V.int root from fun z => h1r (V.int.inj z))]
                  refine iteT ⟨_, rfl, _, rfl, rfl, _, rfl, ?_⟩
                  by_cases h2r : ot = root
                  · rw [decide_eq_true (show V.int ot = V.int root by rw [h2r])]
                    exact iteF ⟨_, _, _, _, rfl, nw.le (by omega)⟩
                  · rw [decide_eq_false (show ¬ V.int ot = V.int root from fun z => h2r (V.int.inj z))]
                    obtain ⟨k0, xs, hF, hBs, hlen⟩ := nw
                    refine iteT ⟨_, rfl, .inl ⟨rfl, _, .inl (.inl hF)⟩, fun b nb => ⟨_, rfl, _, rfl, _, rfl, _, rfl, ⟨upd_same, [(Sum.inl pl, .int ot), (Sum.inl ot, .int pl)], rfl, (by show 2 ≤ 15; decide), ?_⟩⟩⟩
                    rw [upd_upd]
                    have kb := K0.new nb (o := .dK (mergeK [] [(Sum.inl pl, V.int ot), (Sum.inl ot, V.int pl)]))
                    have hF2 := kb.oth F _ hF (fun _ z => by cases z)
                    have nw := pushI k0 hF hBs hlen kb ⟨b, _, _, rfl, upd_same, (d0.put pl ot).put ot pl, Nat.le_trans (length_putK _ _ _) (Nat.le_trans (Nat.add_le_add_right (length_putK _ _ _) 1) (by decide)),
                      noTree_ring (a := pl) (b := ot) (put_off _ (by omega) (put_at _ _ _)) (put_at _ _ _) h1r h2r⟩
                    exact ⟨F, xs, .ref b, rfl, rfl, hF2, Nat.lt_of_le_of_lt (m := 1000) (Nat.le_trans hlen (by omega)) (by decide), _, _, _, _, rfl, nw.le (by omega)⟩
              · rw [decide_eq_false (show ¬ V.int ot = V.int root from fun z => hor (V.int.inj z))]
                refine iteF ?_
                have nw := hNB2.le (Nat.le_succ _)
                refine ⟨_, rfl, _, rfl, rfl, _, rfl, ?_⟩
                by_cases h1r : pl = root
                · rw [decide_eq_true (show V.int pl = V.int root by rw [h1r])]
                  exact iteF (iteF ⟨_, _, _, _, rfl, nw.le (by omega)⟩)
                · rw [decide_eq_false (show ¬ V.int pl = V.int root from fun z => h1r (V.int.inj z))]
                  refine iteT ⟨_, rfl, _, rfl, rfl, _, rfl, ?_⟩
                  by_cases h2r : ot = root
                  · rw [decide_eq_true (show V.int ot = V.int root by rw [h2r])]
                    exact iteF ⟨_, _, _, _, rfl, nw.le (by omega)⟩
                  · rw [decide_eq_false (show ¬ V.int ot = V.int root from fun z => h2r (V.int.inj z))]
                    obtain ⟨k0, xs, hF, hBs, hlen⟩ := nw
                    refine iteT ⟨_, rfl, .inl ⟨rfl, _, .inl (.inl hF)⟩, fun b nb => ⟨_, rfl, _, rfl, _, rfl, _, rfl, ⟨upd_same, [(Sum.inl pl, .int ot), (Sum.inl ot, .int pl)], rfl, (by show 2 ≤ 15; decide), ?_⟩⟩⟩
                    rw [upd_upd]
                    have kb := K0.new nb (o := .dK (mergeK [] [(Sum.inl pl, V.int ot), (Sum.inl ot, V.int pl)]))
                    have hF2 := kb.oth F _ hF (fun _ z => by cases z)
                    have nw := pushI k0 hF hBs hlen kb ⟨b, _, _, rfl, upd_same, (d0.put pl ot).put ot pl, Nat.le_trans (length_putK _ _ _) (Nat.le_trans (Nat.add_le_add_right (length_putK _ _ _) 1) (by decide)),
                      noTree_ring (a := pl) (b := ot) (put_off _ (by omega) (put_at _ _ _)) (put_at _ _ _) h1r h2r⟩
                    exact ⟨F, xs, .ref b, rfl, rfl, hF2, Nat.lt_of_le_of_lt (m := 1000) (Nat.le_trans hlen (by omega)) (by decide), _, _, _, _, rfl, nw.le (by omega)⟩
          · obtain ⟨y7, y8, y9, y11, rfl, hNB⟩ := h
            exact ⟨_, _, _, _, _, rfl, hNB.le (by omega)⟩
      · obtain ⟨y7, y8, y9, y10, y11, rfl, k0, xs, hF, hBs, hlen⟩ := h
        exact ⟨_, rfl, q F xs H' k0 hF hBs (Nat.le_trans hlen (by omega))⟩
end
end HK

set_option Elab.async false
set_option linter.all false
set_option maxRecDepth 100000
set_option maxHeartbeats 4000000
namespace HK
open PySem PySem.Spec PyProof.Rows L2 GAl GxR HkE
abbrev sRows : Stmt := topS 67
abbrev N_scRows : List Str := ["net", "root", "ahead", "far", "n", "row", "way"]
theorem scRows : FnScope N_scRows ["net", "root", "ahead", "far"] (defScope sRows) := ⟨rfl, rfl, rfl, by decide +kernel, rfl, by decide +kernel, by decide +kernel⟩
/-- a row of numbers that are no rising places -/
def BadR (K : PySem.W.Frag) (n : Int) (H : Hp) (x : V) : Prop := ∃ (p : Addr) (ns : List Int), x = .ref p ∧ SqT K H p (ns.map V.int) ∧ ¬ AreP n ns
theorem BadR.k0 {K : PySem.W.Frag} {n : Int} {H H' : Hp} {x : V} (h : BadR K n H x) (k : K0 H H') : BadR K n H' x := by
  obtain ⟨p, ns, h1, h2, h3⟩ := h
  exact ⟨p, ns, h1, k.sqT h2, h3⟩
theorem BadR.new {K : PySem.W.Frag} {n : Int} {H : Hp} {p : Addr} (ns : List Int) (h : ¬ AreP n ns) : BadR K n (upd H p (.tup (ns.map V.int))) (.ref p) := ⟨p, ns, rfl, .inl (.inl upd_same), h⟩
theorem noP {n v : Int} {ns : List Int} (h : v ∈ ns) (o : ¬ (0 ≤ v ∧ v < n)) : ¬ AreP n ns := fun z => o (z.1 v h)
section
variable {P : Program} {w : World} {K : PySem.W.Frag} {mg : Str → Option Value} {base : Heap}
theorem BadR.row {n : Int} {H : Hp} {x : V} {CP Pa a : Addr} {rs : List R4} {r : Int} {E : XK} (h : BadR K n H x) (hN : NetAt K H a n rs) (hG : Good n rs) (hl : rs.length ≤ 156) (r0 : 0 ≤ r) (r1 : r < n) (ta : TabG H Pa) (q : ∀ H', K0 H H' → E (.ref CP) none H') : RowP K H CP Pa (.ref a) (.int r) x E := by
  obtain ⟨p, ns, rfl, h2, h3⟩ := h
  exact ⟨a, n, rs, r, rfl, rfl, hN, hG, hl, r0, r1, p, ns, rfl, h2, ta, h3, q⟩
def spRows (K : PySem.W.Frag) (CP Pn Pr Pa : Addr) : Sp := fun vs H Q _ => ∃ (a : Addr) (n : Int) (rs : List R4) (root : Int) (v3 : V) (far : Int), vs = [.ref a, .int root, v3, .int far] ∧ NetAt K H a n rs ∧ Good n rs ∧ rs.length ≤ 156 ∧ 0 ≤ root ∧ root < n ∧ 0 ≤ far ∧
  TabG H Pn ∧ TabG H Pr ∧ TabG H Pa ∧ ∀ H', K0 H H' → Q (.bl true) H'
set_option maxHeartbeats 16000000 in
theorem ok_rows {f CP Pn Pr Pa : Addr} {fd : FuncData} {f_rword : Addr} {fd_rword : FuncData} (F : Fun K "_law_b_rows_refused" "_law_b_rows_refused" sRows f fd) (k_rword : PySem.W.keepIn K (.ref f_rword) = true) (b_rword : Binds K fd_rword ["way", "net", "root", "row", "ahead"] []) (g_rword : mg "_law_b_row_word" = some (.ref f_rword)) (G_rword : FnOk P w K mg base CX0 9 f_rword fd_rword ["way", "net", "root", "row", "ahead"] (spRowWord K CP Pn Pr Pa)) (m_range : mg "range" = none) :
    FnOk P w K mg base CX0 10 f fd ["net", "root", "ahead", "far"] (spRows K CP Pn Pr Pa) := by
  refine F.ok scRows (fun vs H Q E h => ?_) (fun cdv A outer s H vs Q E hr h => ?_)
  · obtain ⟨a, n, rs, root, v3, far, rfl, _⟩ := h
    rfl
  · obtain ⟨a, n, rs, root, v3, far, rfl, hN, hG, hl, r0, r1, hf, tn, tr, ta, q⟩ := h
    have hu := hu_of hr
    have n1 := hG.n1
    have n2 := hG.n2
    refine ⟨_, (pss_cons (ps_set (i := 4) scRows.nd rfl (.inl rfl) (pe_ix ix_tup (pv 0) pe_int (fun _ _ => rfl)))
      (pss_cons (ps_for PassesOwn.never rfl (pi_list (pe_lst (pa_cons (pe_tup (pa_cons pe_int (pa_cons pe_int pa_nil))) (pa_cons (pe_tup (pa_cons (pe_op op_sub (pv 4) pe_int) (pa_cons pe_int (pa_cons (pv 4) pa_nil)))) (pa_cons (pe_tup (pa_cons (pv 4) pa_nil)) (pa_cons (pe_tup (pa_cons (pe_un un_neg pe_int) pa_nil)) (pa_cons (pe_tup (pa_cons pe_int (pa_cons (pe_op op_add (pv 4) (pv 3)) pa_nil))) (pa_cons (pe_tup (pa_cons (pe_op op_sub (pe_un un_neg pe_int) (pv 3)) (pa_cons pe_int pa_nil))) pa_nil)))))))) (pg_name (i := 5) scRows.nd rfl (.inl rfl))
      (pss_one (ps_for PassesOwn.never rfl (pi_range1 (by rfl) m_range (pa_cons pe_int pa_nil)) (pg_name (i := 6) scRows.nd rfl (.inl rfl))
      (pss_cons (ps_if (pt_cmpR op_ne (pe_call G_rword (hr.mono (by decide)) (by rfl) g_rword k_rword b_rword .nil pass0 (pa_cons (pv 6) (pa_cons (pv 0) (pa_cons (pv 1) (pa_cons (pv 5) (pa_cons (pv 2) pa_nil)))))) pe_str (nomark _)) (pss_one (ps_ret pe_bl)) pss_nil)
      (pss_one (ps_if (pt_cmpR op_ne (pe_call G_rword (hr.mono (by decide)) (by rfl) g_rword k_rword b_rword .nil pass0 (pa_cons (pv 6) (pa_cons (pv 0) (pa_cons (pv 1) (pa_cons (pv 5) (pa_cons (pe_disp (pps_cons (pv 1) (pv 1) pps_nil) rfl rfl (fun z => by cases z) (by decide)) pa_nil)))))) pe_str (nomark _)) (pss_one (ps_ret pe_bl)) pss_nil))))))
      (pss_one (ps_ret (pe_or (pe_cmpR op_eq (pv 4) pe_int (nomark _)) (pe_one (pe_cmpR op_eq (pe_call G_rword (hr.mono (by decide)) (by rfl) g_rword k_rword b_rword .nil pass0 (pa_cons pe_int (pa_cons (pv 0) (pa_cons (pv 1) (pa_cons (pe_tup (pa_cons pe_int (pa_cons pe_int pa_nil))) (pa_cons (pv 2) pa_nil)))))) pe_str (nomark _)))))))), ?_⟩
    obtain ⟨r, xs, o, h1, h2, hc, hdt, h3⟩ := id hN
    refine ⟨_, rfl, a, _, 0, .int n, rfl, rfl, h1, atI_nat (j := 0) rfl, ?_⟩
    refine ⟨few_size (show 2 ≤ 1000 by decide), fun p1 np1 => ?_⟩
    have k1 := K0.new np1 (o := .tup [.int 0, .int 0])
    have B1 : BadR K n (upd H p1 (.tup [.int 0, .int 0])) (.ref p1) := BadR.new [0, 0] fun z => absurd (List.rel_of_pairwise_cons z.2 (List.mem_cons_self ..)) (by decide)
    generalize upd H p1 (.tup [.int 0, .int 0]) = H1 at k1 B1 ⊢
    refine ⟨_, rfl, n, 1, rfl, rfl, _, rfl, few_size (show 3 ≤ 1000 by decide), fun p2 np2 => ?_⟩
    have k2 := K0.new np2 (o := .tup [.int (n - 1), .int 0, .int n])
    have B2 : BadR K n (upd H1 p2 (.tup [.int (n - 1), .int 0, .int n])) (.ref p2) := BadR.new [n - 1, 0, n] (noP (v := n) (by simp) (by omega))
    generalize upd H1 p2 (.tup [.int (n - 1), .int 0, .int n]) = H2 at k2 B2 ⊢
    refine ⟨_, rfl, few_size (show 1 ≤ 1000 by decide), fun p3 np3 => ?_⟩
    have k3 := K0.new np3 (o := .tup [.int n])
    have B3 : BadR K n (upd H2 p3 (.tup [.int n])) (.ref p3) := BadR.new [n] (noP (v := n) (by simp) (by omega))
    generalize upd H2 p3 (.tup [.int n]) = H3 at k3 B3 ⊢
    refine ⟨1, rfl, few_size (show 1 ≤ 1000 by decide), fun p4 np4 => ?_⟩
    have k4 := K0.new np4 (o := .tup [.int (-1)])
    have B4 : BadR K n (upd H3 p4 (.tup [.int (-1)])) (.ref p4) := BadR.new [-1] (noP (v := -1) (by simp) (by omega))
    generalize upd H3 p4 (.tup [.int (-1)]) = H4 at k4 B4 ⊢
    refine ⟨_, rfl, _, rfl, n, far, rfl, rfl, few_size (show 2 ≤ 1000 by decide), fun p5 np5 => ?_⟩
    have k5 := K0.new np5 (o := .tup [.int 0, .int (n + far)])
    have B5 : BadR K n (upd H4 p5 (.tup [.int 0, .int (n + far)])) (.ref p5) := BadR.new [0, n + far] (noP (v := n + far) (by simp) (by omega))
    generalize upd H4 p5 (.tup [.int 0, .int (n + far)]) = H5 at k5 B5 ⊢
    refine ⟨1, rfl, _, rfl, -1, far, rfl, rfl, few_size (show 2 ≤ 1000 by decide), fun p6 np6 => ?_⟩
    have k6 := K0.new np6 (o := .tup [.int (-1 - far), .int 0])
    have B6 : BadR K n (upd H5 p6 (.tup [.int (-1 - far), .int 0])) (.ref p6) := BadR.new [-1 - far, 0] (noP (v := -1 - far) (by simp) (by omega))
    generalize upd H5 p6 (.tup [.int (-1 - far), .int 0]) = H6 at k6 B6 ⊢
    refine ⟨few_size (show 6 ≤ 1000 by decide), fun L nL => ?_⟩
    have kL := K0.new nL (o := .lst [.ref p1, .ref p2, .ref p3, .ref p4, .ref p5, .ref p6])
    have hL : (upd H6 L (.lst [.ref p1, .ref p2, .ref p3, .ref p4, .ref p5, .ref p6])) L = some (.lst [.ref p1, .ref p2, .ref p3, .ref p4, .ref p5, .ref p6]) := upd_same
    have kH := (((((k1.trans k2).trans k3).trans k4).trans k5).trans k6).trans kL
    have hB : ∀ x ∈ [V.ref p1, .ref p2, .ref p3, .ref p4, .ref p5, .ref p6], BadR K n (upd H6 L (.lst [.ref p1, .ref p2, .ref p3, .ref p4, .ref p5, .ref p6])) x := fun x hx => by
      simp only [List.mem_cons, List.not_mem_nil, or_false] at hx
      rcases hx with rfl | rfl | rfl | rfl | rfl | rfl
      · exact B1.k0 (((((k2.trans k3).trans k4).trans k5).trans k6).trans kL)
      · exact B2.k0 ((((k3.trans k4).trans k5).trans k6).trans kL)
      · exact B3.k0 (((k4.trans k5).trans k6).trans kL)
      · exact B4.k0 ((k5.trans k6).trans kL)
      · exact B5.k0 (k6.trans kL)
      · exact B6.k0 kL
    generalize upd H6 L (.lst [.ref p1, .ref p2, .ref p3, .ref p4, .ref p5, .ref p6]) = H7 at kL hL kH hB ⊢
    refine ⟨L, rfl, ⟨_, .inl (.inl hL)⟩, for_list (K := K) (a := L) (xs := [.ref p1, .ref p2, .ref p3, .ref p4, .ref p5, .ref p6]) (fun i σ' H' => ∃ y5 y6, σ' = [some (.ref a), some (.int root), some v3, some (.int far), some (.int n), y5, y6] ∧ K0 H7 H')
      ⟨none, none, rfl, K0.refl _⟩ (fun i σ' H' _ h => ?_) (fun i x σ' H' hx h => ?_) (fun σ' H' h => ?_)⟩
    · obtain ⟨_, _, _, k⟩ := h
      exact k.sqL (.inl (.inl hL))
    · obtain ⟨y5, y6, rfl, k⟩ := h
      have hbx := hB x (List.mem_of_getElem? hx)
      refine ⟨2, rfl, by decide, by decide, for_range (lo := 0) (n := 2) (fun j σ' H' => ∃ y6, σ' = [some (.ref a), some (.int root), some v3, some (.int far), some (.int n), some x, y6] ∧ K0 H7 H')
        ⟨_, rfl, k⟩ (fun j σ' H' hj h => ?_) (fun σ' H' h => ?_)⟩
      · obtain ⟨y6, rfl, k⟩ := h
        have kk := kH.trans k
        refine ⟨_, rfl, _, rfl, _, rfl, _, rfl, _, rfl, _, _, _, _, _, rfl, kk.tab _ tn, kk.tab _ tr, (hbx.k0 k).row (hN.k0 kk) hG hl r0 r1 (kk.tab _ ta) fun H8 k8 => ⟨rfl, _, rfl, iteF ?_⟩⟩
        refine ⟨_, rfl, _, rfl, _, rfl, _, rfl, fun d nd => ⟨_, rfl, _, rfl, ⟨upd_same, [(Sum.inl root, .int root)], rfl, (by show 1 ≤ 15; decide), ?_⟩⟩⟩
        rw [upd_upd]
        have kd := K0.new nd (o := .dK (mergeK [] [(Sum.inl root, V.int root)]))
        have k9 := k8.trans kd
        have kk9 := kk.trans k9
        refine ⟨_, _, _, _, _, rfl, kk9.tab _ tn, kk9.tab _ tr, (hbx.k0 (k.trans k9)).row (hN.k0 kk9) hG hl r0 r1 (kk9.tab _ ta) fun H10 k10 => ⟨rfl, _, rfl, iteF ?_⟩⟩
        exact ⟨_, rfl, (k.trans k9).trans k10⟩
      · obtain ⟨y6, rfl, k⟩ := h
        exact ⟨_, _, rfl, k⟩
    · obtain ⟨y5, y6, rfl, k⟩ := h
      have kk := kH.trans k
      refine ⟨_, rfl, rfl, _, rfl, ?_⟩
      by_cases hn : n = 1
      · rw [decide_eq_true (show V.int n = V.int 1 by rw [hn])]
        exact iteT (q H' kk)
      · rw [decide_eq_false (show ¬ V.int n = V.int 1 from fun z => hn (V.int.inj z))]
        refine iteF ⟨_, rfl, _, rfl, few_size (show 2 ≤ 1000 by decide), fun p np => ?_⟩
        have kp := K0.new np (o := .tup [.int 1, .int 0])
        have B : BadR K n (upd H' p (.tup [.int 1, .int 0])) (.ref p) := BadR.new [1, 0] fun z => absurd (List.rel_of_pairwise_cons z.2 (List.mem_cons_self ..)) (by decide)
        have kk9 := kk.trans kp
        exact ⟨_, rfl, _, _, _, _, _, rfl, kk9.tab _ tn, kk9.tab _ tr, B.row (hN.k0 kk9) hG hl r0 r1 (kk9.tab _ ta) fun H10 k10 => ⟨rfl, q H10 (kk9.trans k10)⟩⟩
end
end HK

set_option Elab.async false
set_option linter.all false
set_option maxRecDepth 100000
set_option maxHeartbeats 4000000
namespace HK
open PySem PySem.Spec PyProof.Rows L2 GAl GxR HkE
open Evl (pss_cut)
abbrev sLaw : Stmt := topS 69
abbrev N_scLaw : List Str := ["script", "tape", "k", "net", "n", "roads", "root", "ahead", "far", "no_places", "strange", "odd", "way", "bad", "other", "place", "due"]
theorem scLaw : FnScope N_scLaw ["script"] (defScope sLaw) := ⟨rfl, rfl, rfl, by decide +kernel, rfl, by decide +kernel, by decide +kernel⟩
/-- all the answers at once -/
def kitB (K : PySem.W.Frag) (D : Addr) (l : List (Addr × Bool)) : Bool := l.all fun p => PySem.W.kitOne K (.ref D) (.ref p.1) == some p.2
theorem kitB_all {K : PySem.W.Frag} {D : Addr} {l : List (Addr × Bool)} (h : kitB K D l = true) : ∀ p ∈ l, PySem.W.kitOne K (.ref D) (.ref p.1) = some p.2 := fun p hp => beq_iff_eq.mp (List.all_eq_true.mp h p hp)
/-- things that are no nets, by plain data -/
def BadN (K : PySem.W.Frag) (H : Hp) (x : V) : Prop := ∃ d, Dp K H x d ∧ (∀ m rs, d = .tuple [m, .tuple rs] → rs.length ≤ 1000) ∧ isNetD d = false
theorem BadN.k0 {K : PySem.W.Frag} {H H' : Hp} {x : V} (h : BadN K H x) (k : K0 H H') : BadN K H' x := by
  obtain ⟨d, h1, h2, h3⟩ := h
  exact ⟨d, k.dp d x h1, h2, h3⟩
theorem notNet_roads {n : Int} {rs : List R4} {ds : List PyData} (h : (PyData.tuple [.int 0, .int 0, .int 1, .int 1]) ∈ ds) : isNetD (.tuple [.int n, .tuple ds]) = false := by
  have : ds.all (isRoadD n) = false := by
    rw [List.all_eq_false]
    refine ⟨_, h, ?_⟩
    intro z
    obtain ⟨s, e, c, l, q, _, _, _, _, ne, _⟩ := road_ints z
    cases q
    exact ne rfl
  show ((decide (1 ≤ n) && decide (n ≤ 12)) && (ds.all (isRoadD n) && risesB (ds.map pairD))) = false
  rw [this]
  simp
theorem catG {K : PySem.W.Frag} {H : Hp} {p q : Addr} {l m : List V} {Q : VK} (h : SqT K H p l) (g : SqT K H q m) (hz : l.length + m.length ≤ 1000) (hq : ∀ (b : Addr) (H' : Hp), K0 H H' → SqT K H' b (l ++ m) → Q (.ref b) H') : rCatA K (.ref p) (.ref q) H Q := by
  refine ⟨p, q, l, m, rfl, rfl, h, g, by rw [sizeLine_eq]; omega, fun e => ?_, fun _ e => ?_, fun _ _ b nb => ?_⟩
  · subst e
    exact hq q H (K0.refl _) g
  · subst e
    exact hq p H (K0.refl _) (by rw [List.append_nil]; exact h)
  · exact hq b _ (K0.new nb) (.inl (.inl upd_same))
theorem lt_of {a b : Int} (e : decide (a < b) = true) : a < b := of_decide_eq_true e
theorem iteC {A B : Prop} {c : Bool} (e : c = true) (h : A) : if c = true then A else B := by
  rw [if_pos e]
  exact h
theorem iteN {A B : Prop} {c : Bool} (e : c = false) (h : B) : if c = true then A else B := by
  rw [e]
  exact iteF h
section
variable {P : Program} {w : World} {K : PySem.W.Frag} {mg : Str → Option Value} {base : Heap}
def spLaw (K : PySem.W.Frag) (Pn Pr Pp Pg Pa Ps Pt Pc Pq Pz Pi Pe : Addr) : Sp := fun vs H Q _ => ∃ (a : Addr) (ns : List Int), vs = [.ref a] ∧ SqL K H a (ns.map V.int) ∧ TabG H Pn ∧ TabG H Pr ∧ TabG H Pp ∧ TabG H Pg ∧ TabG H Pa ∧ TabG H Ps ∧ TabG H Pt ∧ TabG H Pc ∧ TabG H Pq ∧ TabG H Pz ∧ TabG H Pi ∧ TabG H Pe ∧ ∀ H', Q (.bl true) H'
set_option maxHeartbeats 32000000 in
theorem ok_law {f CN CP CT : Addr} {fd : FuncData} {f_net f_digit f_grown f_word f_notrees f_rows : Addr} {fd_net fd_digit fd_grown fd_word fd_notrees fd_rows : FuncData} {Pn Pr Pp Pg Pa Ps Pt Pc Pq Pz Pi Pe : Addr} (F : Fun K "law" "law" sLaw f fd)
    (k_net : PySem.W.keepIn K (.ref f_net) = true) (b_net : Binds K fd_net ["tape", "most"] []) (g_net : mg "_law_b_net" = some (.ref f_net)) (G_net : FnOk P w K mg base CX0 3 f_net fd_net ["tape", "most"] (spNet K))
    (k_digit : PySem.W.keepIn K (.ref f_digit) = true) (b_digit : Binds K fd_digit ["tape", "many"] []) (g_digit : mg "_law_b_digit" = some (.ref f_digit)) (G_digit : FnOk P w K mg base CX0 2 f_digit fd_digit ["tape", "many"] (spDigit K))
    (k_grown : PySem.W.keepIn K (.ref f_grown) = true) (b_grown : Binds K fd_grown ["tape", "net", "root"] []) (g_grown : mg "_law_b_grown" = some (.ref f_grown)) (G_grown : FnOk P w K mg base CX0 4 f_grown fd_grown ["tape", "net", "root"] (spGrown K))
    (k_word : PySem.W.keepIn K (.ref f_word) = true) (b_word : Binds K fd_word ["way", "net", "root", "place", "ahead"] []) (g_word : mg "_law_b_word" = some (.ref f_word)) (G_word : FnOk P w K mg base CX0 10 f_word fd_word ["way", "net", "root", "place", "ahead"] (spWord K CN CP CT Pn Pr Pp Pg Pa Ps Pt Pc Pq Pz Pi Pe))
    (k_notrees : PySem.W.keepIn K (.ref f_notrees) = true) (b_notrees : Binds K fd_notrees ["net", "root", "ahead", "far"] []) (g_notrees : mg "_law_b_no_trees" = some (.ref f_notrees)) (G_notrees : FnOk P w K mg base CX0 2 f_notrees fd_notrees ["net", "root", "ahead", "far"] (spNoTrees K))
    (k_rows : PySem.W.keepIn K (.ref f_rows) = true) (b_rows : Binds K fd_rows ["net", "root", "ahead", "far"] []) (g_rows : mg "_law_b_rows_refused" = some (.ref f_rows)) (G_rows : FnOk P w K mg base CX0 10 f_rows fd_rows ["net", "root", "ahead", "far"] (spRows K CP Pn Pr Pa))
    (m_len : mg "len" = none) (m_range : mg "range" = none) : FnOk P w K mg base CX0 11 f fd ["script"] (spLaw K Pn Pr Pp Pg Pa Ps Pt Pc Pq Pz Pi Pe) := by
  refine F.ok scLaw (fun vs H Q E h => ?_) (fun cdv A outer s H vs Q E hr h => ?_)
  · obtain ⟨a, ns, rfl, _⟩ := h
    rfl
  · obtain ⟨a, ns, rfl, hS, t1, t2, t3, t4, t5, t6, t7, t8, t9, t10, t11, t12, q⟩ := h
    have hu := hu_of hr
    refine ⟨_, (pss_cons (ps_set (i := 1) scLaw.nd rfl (.inl rfl) (pe_lst (pa_cons (pv 0) (pa_cons pe_int (pa_cons pe_int pa_nil)))))
      (pss_cons (ps_for PassesOwn.never rfl (pi_range1 (by rfl) m_range (pa_cons pe_int pa_nil)) (pg_name (i := 2) scLaw.nd rfl (.inl rfl))
      (pss_cut (ps_if (PW.pt (pw_and (pt_cmpR op_gt (pv 2) pe_int (nomark _)) (pw_and1 (pt_cmpR op_ge (pe_ix ix_list (pv 1) pe_int (fun _ _ => rfl)) (pe_callB call_len_seq (by rfl) m_len PySem.boot_len (pa_cons (pv 0) pa_nil)) (nomark _))))) (pss_one ps_break) pss_nil)
      (pss_cons (ps_set (i := 3) scLaw.nd rfl (.inl rfl) (pe_call G_net (hr.mono (by decide)) (by rfl) g_net k_net b_net .nil pass0 (pa_cons (pv 1) (pa_cons pe_int pa_nil))))
      (pss_cons (ps_asg (pv 3) (pg_tup rfl (pgs_cons (pg_name (i := 4) scLaw.nd rfl (.inl rfl)) (pgs_cons (pg_name (i := 5) scLaw.nd rfl (.inl rfl)) pgs_nil))))
      (pss_cons (ps_set (i := 6) scLaw.nd rfl (.inl rfl) (pe_call G_digit (hr.mono (by decide)) (by rfl) g_digit k_digit b_digit .nil pass0 (pa_cons (pv 1) (pa_cons (pv 4) pa_nil))))
      (pss_cons (ps_set (i := 7) scLaw.nd rfl (.inl rfl) (pe_call G_grown (hr.mono (by decide)) (by rfl) g_grown k_grown b_grown .nil pass0 (pa_cons (pv 1) (pa_cons (pv 3) (pa_cons (pv 6) pa_nil)))))
      (pss_cons (ps_set (i := 8) scLaw.nd rfl (.inl rfl) (pe_call G_digit (hr.mono (by decide)) (by rfl) g_digit k_digit b_digit .nil pass0 (pa_cons (pv 1) (pa_cons (pe_op op_pow pe_int pe_int) pa_nil))))
      (pss_cons (ps_set (i := 9) scLaw.nd rfl (.inl rfl) (pe_lst (pa_cons (pe_un un_neg pe_int) (pa_cons (pv 4) (pa_cons (pe_op op_add (pv 4) (pv 8)) (pa_cons (pe_op op_sub (pe_un un_neg pe_int) (pv 8)) pa_nil))))))
      (pss_cons (ps_set (i := 10) scLaw.nd rfl (.inl rfl) (pe_disp (pps_cons (pv 6) (pv 6) pps_nil) rfl rfl (fun z => by cases z) (by decide)))
      (pss_cons (ps_set (i := 11) scLaw.nd rfl (.inl rfl) (pe_call G_digit (hr.mono (by decide)) (by rfl) g_digit k_digit b_digit .nil pass0 (pa_cons (pv 1) (pa_cons pe_int pa_nil))))
      (pss_cons (ps_for PassesOwn.never rfl (pi_range1 (by rfl) m_range (pa_cons pe_int pa_nil)) (pg_name (i := 12) scLaw.nd rfl (.inl rfl))
      (pss_cons (ps_for PassesOwn.never rfl (pi_list (pe_lst (pa_cons pe_non (pa_cons (pe_tup pa_nil) (pa_cons (pe_tup (pa_cons pe_int (pa_cons (pe_tup pa_nil) pa_nil))) (pa_cons (pe_tup (pa_cons pe_int (pa_cons (pe_tup pa_nil) pa_nil))) (pa_cons (pe_lst (pa_cons (pv 4) (pa_cons (pv 5) pa_nil))) (pa_cons (pe_tup (pa_cons (pv 4) (pa_cons (pe_op op_catA (pv 5) (pe_tup (pa_cons (pe_tup (pa_cons pe_int (pa_cons pe_int (pa_cons pe_int (pa_cons pe_int pa_nil))))) pa_nil))) pa_nil))) (pa_cons (pe_tup (pa_cons (pv 4) pa_nil)) (pa_cons (pe_tup (pa_cons (pv 5) (pa_cons (pv 4) pa_nil))) pa_nil)))))))))) (pg_name (i := 13) scLaw.nd rfl (.inl rfl))
      (pss_one (ps_if (pt_cmpR op_ne (pe_call G_word (hr.mono (by decide)) (by rfl) g_word k_word b_word .nil pass0 (pa_cons (pv 12) (pa_cons (pv 13) (pa_cons (pe_un un_neg pe_int) (pa_cons pe_int (pa_cons (pv 10) pa_nil)))))) pe_str (nomark _)) (pss_one (ps_ret pe_bl)) pss_nil)))
      (pss_cons (ps_for PassesOwn.never rfl (pi_list (pv 9)) (pg_name (i := 14) scLaw.nd rfl (.inl rfl))
      (pss_cons (ps_if (pt_cmpR op_ne (pe_call G_word (hr.mono (by decide)) (by rfl) g_word k_word b_word .nil pass0 (pa_cons (pv 12) (pa_cons (pv 3) (pa_cons (pv 14) (pa_cons (pv 6) (pa_cons (pv 10) pa_nil)))))) pe_str (nomark _)) (pss_one (ps_ret pe_bl)) pss_nil)
      (pss_one (ps_if (PW.pt (pw_and (pt_cmpR op_in_seq (pv 12) (pe_tup (pa_cons pe_int (pa_cons pe_int (pa_cons pe_int pa_nil)))) rfl) (pw_and1 (pt_cmpR op_ne (pe_call G_word (hr.mono (by decide)) (by rfl) g_word k_word b_word .nil pass0 (pa_cons (pv 12) (pa_cons (pv 3) (pa_cons (pv 6) (pa_cons (pv 14) (pa_cons (pv 10) pa_nil)))))) pe_str (nomark _))))) (pss_one (ps_ret pe_bl)) pss_nil))))
      (pss_cut (ps_if (PW.pt (pw_and (pt_cmpR op_gt (pv 12) pe_int (nomark _)) (pw_and1 (pt_cmpR op_ne (pe_call G_word (hr.mono (by decide)) (by rfl) g_word k_word b_word .nil pass0 (pa_cons (pv 12) (pa_cons (pv 3) (pa_cons (pv 6) (pa_cons (pv 6) (pa_cons (pv 10) pa_nil)))))) pe_str (nomark _))))) (pss_one (ps_ret pe_bl)) pss_nil)
      (pss_cut (ps_if (PW.pt (pw_and (pt_cmpR op_gt (pv 12) pe_int (nomark _)) (pw_and1 (pt_cmpR op_eq (pe_op op_mod (pv 12) pe_int) (pv 11) (nomark _))))) (pss_one (ps_for PassesOwn.never rfl (pi_list (pe_call G_notrees (hr.mono (by decide)) (by rfl) g_notrees k_notrees b_notrees .nil pass0 (pa_cons (pv 3) (pa_cons (pv 6) (pa_cons (pv 7) (pa_cons (pv 8) pa_nil)))))) (pg_name (i := 13) scLaw.nd rfl (.inl rfl))
      (pss_one (ps_if (pt_cmpR op_ne (pe_call G_word (hr.mono (by decide)) (by rfl) g_word k_word b_word .nil pass0 (pa_cons (pv 12) (pa_cons (pv 3) (pa_cons (pv 6) (pa_cons (pv 6) (pa_cons (pv 13) pa_nil)))))) pe_str (nomark _)) (pss_one (ps_ret pe_bl)) pss_nil)))) pss_nil)
      (pss_one (ps_if (pt_cmpR op_ne (pe_call G_word (hr.mono (by decide)) (by rfl) g_word k_word b_word .nil pass0 (pa_cons (pv 12) (pa_cons (pv 3) (pa_cons (pv 6) (pa_cons (pv 6) (pa_cons (pv 7) pa_nil)))))) pe_str (nomark _)) (pss_one (ps_ret pe_bl)) pss_nil)))))))
      (pss_cons (ps_if (pt_not (pt_val (pe_call G_rows (hr.mono (by decide)) (by rfl) g_rows k_rows b_rows .nil pass0 (pa_cons (pv 3) (pa_cons (pv 6) (pa_cons (pv 7) (pa_cons (pv 8) pa_nil))))))) (pss_one (ps_ret pe_bl)) pss_nil)
      (pss_one (ps_for PassesOwn.never rfl (pi_range1 (by rfl) m_range (pa_cons (pv 4) pa_nil)) (pg_name (i := 15) scLaw.nd rfl (.inl rfl))
      (pss_cons (ps_set (i := 16) scLaw.nd rfl (.inl rfl) (pe_ifExp (PW.pt (pw_or (pt_cmpR op_eq (pv 15) (pv 6) (nomark _)) (pw_or1 (pt_cmp (pc_din hu (pv 15) (pv 7)))))) pe_str pe_str))
      (pss_one (ps_if (pt_cmpR op_ne (pe_call G_word (hr.mono (by decide)) (by rfl) g_word k_word b_word .nil pass0 (pa_cons pe_int (pa_cons (pv 3) (pa_cons (pv 6) (pa_cons (pv 15) (pa_cons (pv 7) pa_nil)))))) (pv 16) (nomark _)) (pss_one (ps_ret pe_bl)) pss_nil)))))))))))))))))
      (pss_one (ps_ret pe_bl)))), ?_⟩
    -- tape
    refine ⟨.ref a, rfl, few_size (show 3 ≤ 1000 by decide), fun t hnt => ?_⟩
    have k1 : K0 H (upd H t (.lst [.ref a, .int 0, .int 0])) := K0.new hnt
    have tb1 : Tbs (upd H t (.lst [.ref a, .int 0, .int 0])) Pn Pr Pp Pg Pa Ps Pt Pc Pq Pz Pi Pe := Tbs.k0 ⟨t1, t2, t3, t4, t5, t6, t7, t8, t9, t10, t11, t12⟩ k1
    generalize hH1 : upd H t (.lst [.ref a, .int 0, .int 0]) = H1 at k1 tb1
    have htp : Tape K H1 t a ns := by
      rw [← hH1]
      exact ⟨⟨0, 0, upd_same, by omega, by omega⟩, Scr.of hS hnt⟩
    refine ⟨3, rfl, by decide, by decide, for_range (lo := 0) (n := 3) (fun i σ' H' => ∃ y2 y3 y4 y5 y6 y7 y8 y9 y10 y11 y12 y13 y14 y15 y16, σ' = [some (.ref a), some (.ref t), y2, y3, y4, y5, y6, y7, y8, y9, y10, y11, y12, y13, y14, y15, y16] ∧ Kt t H1 H' ∧ Tape K H' t a ns)
        ⟨none, none, none, none, none, none, none, none, none, none, none, none, none, none, none, rfl, Kt.refl _ _, htp⟩ (fun i σ' H' hi h => ?_) (fun σ' H' h => q _)⟩
    obtain ⟨y2, y3, y4, y5, y6, y7, y8, y9, y10, y11, y12, y13, y14, y15, y16, rfl, k, htp'⟩ := h
    refine ⟨fun σ' H' => σ' = [some (.ref a), some (.ref t), some (.int (0 + (i : Int))), y3, y4, y5, y6, y7, y8, y9, y10, y11, y12, y13, y14, y15, y16] ∧ Kt t H1 H' ∧ Tape K H' t a ns, ?_, ?_⟩
    · refine ⟨_, rfl, _, 1, rfl, rfl, _, rfl, ite2 (fun e => ?_) (fun e => iteF ⟨rfl, k, htp'⟩)⟩
      have htp'' := htp'
      obtain ⟨⟨p, v, et, _⟩, hscr⟩ := htp'
      refine ⟨.ref t, rfl, t, _, 1, .int p, rfl, rfl, .inl (.inl et), atI_nat (j := 1) rfl, .ref a, rfl, a, _, rfl, .inl hscr.sq, p, _, rfl, rfl, _, rfl, ite2 (fun e2 => ?_) (fun e2 => ⟨rfl, k, htp''⟩)⟩
      exact q _
    rintro σ' H2 ⟨rfl, k2, tp2⟩
    -- net
    refine ⟨.ref t, rfl, t, a, 6, ns, rfl, tp2, by omega, by omega, fun na n rs H3 kt3 tp3 hN hle G hlen => ?_⟩
    have n1 := G.n1
    have n2 := G.n2
    obtain ⟨r, xs, o, h1, h2, hc, hd, h3⟩ := id hN
    refine ⟨_, rfl, na, _, rfl, h1, rfl, _, _, rfl, _, _, rfl, rfl, ?_⟩
    -- root
    refine ⟨.ref t, rfl, _, rfl, t, a, n, ns, rfl, tp3, by omega, by omega, fun root H4 r0 r1 k4 tp4 => ?_⟩
    have hN4 := hN.kt k4
    -- ahead
    refine ⟨_, rfl, _, rfl, _, rfl, t, a, na, n, rs, root, ns, rfl, tp4, hN4, G, hlen, fun pd ds g L H5 s5 npd hpd hds hdl hgr => ?_⟩
    have k15 : Kt t H1 H5 := (k2.trans (kt3.trans k4)).trans s5.kt
    have tp5 := s5.tp
    have hN5 := hN4.kt s5.kt
    have hT : TreeP rs root g ds.length := hgr.tree hds
    have hpt : pd ≠ t := fun z => by
      obtain ⟨_, _, e, _⟩ := tp5.v
      rw [← z, hpd] at e
      cases e
    -- far
    refine ⟨_, rfl, 10, 20, rfl, rfl, ⟨by decide, by decide, by decide⟩, t, a, _, ns, rfl, tp5, by decide, by decide, fun far H6 f0 f1 k6 tp6 => ?_⟩
    have hpd6 := k6.oth pd _ hpd hpt (fun _ z => by cases z)
    have hN6 := hN5.kt k6
    refine ⟨1, rfl, _, rfl, _, rfl, _, rfl, n, far, rfl, rfl, 1, rfl, _, rfl, -1, far, rfl, rfl, few_size (show 4 ≤ 1000 by decide), fun pl npl => ?_⟩
    have kpl := K0.new npl (o := .lst [.int (-1), .int n, .int (n + far), .int (-1 - far)])
    have hpl7 : (upd H6 pl (.lst [.int (-1), .int n, .int (n + far), .int (-1 - far)])) pl = some (.lst [.int (-1), .int n, .int (n + far), .int (-1 - far)]) := upd_same
    have nplt := tp6.ne npl
    have tp7 := tp6.k0 kpl
    generalize upd H6 pl (.lst [.int (-1), .int n, .int (n + far), .int (-1 - far)]) = H7 at kpl hpl7 tp7 ⊢
    refine fun ps nps => ⟨_, rfl, _, rfl, ⟨upd_same, [(Sum.inl root, .int root)], rfl, (by show 1 ≤ 15; decide), ?_⟩⟩
    rw [upd_upd]
    have d0 : DI [] (fun _ => none) := ⟨List.nodup_nil, fun p hp => (by cases hp), fun i => rfl⟩
    have dS := d0.put root root
    have kps := K0.new nps (o := .dK (mergeK [] [(Sum.inl root, V.int root)]))
    have hps8 : (upd H7 ps (.dK (mergeK [] [(Sum.inl root, V.int root)]))) ps = some (.dK (mergeK [] [(Sum.inl root, V.int root)])) := upd_same
    have npst := tp7.ne nps
    have tp8 := tp7.k0 kps
    generalize upd H7 ps (.dK (mergeK [] [(Sum.inl root, V.int root)])) = H8 at kps hps8 tp8 ⊢
    refine ⟨_, rfl, t, a, 5, ns, rfl, tp8, by decide, by decide, fun odd H9 o0 o1 k9 tp9 => ?_⟩
    have k78 := kpl.trans kps
    have kt19 : Kt t H1 H9 := ((k15.trans k6).trans k78.kt).trans k9
    have tb9 := tb1.kt kt19
    have kt39 : Kt t H3 H9 := (((k4.trans s5.kt).trans k6).trans k78.kt).trans k9
    have hN9 : NetAt K H9 na n rs := hN.kt kt39
    have h19 := kt39.sqT h1
    have hxs9 : SqT K H9 r xs := kt39.sqT h2
    have hR9 : Roads K H9 xs rs := kt39.roads h3
    have hpd9 := k9.oth pd _ (k78.oth pd _ hpd6 (fun _ z => by cases z)) hpt (fun _ z => by cases z)
    have hpl9 := k9.oth pl _ (kps.oth pl _ hpl7 (fun _ z => by cases z)) nplt (fun _ z => by cases z)
    have hps9 := k9.oth ps _ hps8 npst (fun _ z => by cases z)
    -- the ways
    have netOk : ∀ {H'}, K0 H9 H' → NetAt K H' na n rs := fun k => hN9.k0 k
    have hxl : xs.length ≤ 156 := by rw [show xs.length = rs.length from hR9.len]; exact hlen
    refine ⟨11, rfl, by decide, by decide, for_range (lo := 0) (n := 11) (fun wy σ' H' => ∃ y12 y13 y14 y15 y16, σ' = [some (.ref a), some (.ref t), some (.int (0 + (i : Int))), some (.ref na), some (.int n), some (.ref r), some (.int root), some (.ref pd), some (.int far), some (.ref pl), some (.ref ps), some (.int odd), y12, y13, y14, y15, y16] ∧ K0 H9 H')
      ⟨_, _, _, _, _, rfl, K0.refl _⟩ (fun wy σ' H' hwy h => ?_) (fun σ' H' h => ?_)⟩
    · obtain ⟨y12, y13, y14, y15, y16, rfl, k⟩ := h
      obtain ⟨way, ew, w0, w10⟩ : ∃ way : Int, 0 + (wy : Int) = way ∧ 0 ≤ way ∧ way ≤ 10 := ⟨_, rfl, by omega, by omega⟩
      rw [ew]
      have hxs' := k.sqT hxs9
      have hR' : Roads K H' xs rs := k.dpAll _ _ hR9
      have dn : DpAll K H' xs (rs.map R4.d) := hR'
      refine ⟨few_size (Nat.zero_le _), fun a1 nn1 => ?_⟩
      have q1 := K0.new nn1 (o := .tup [])
      have N1 : BadN K (upd H' a1 (.tup [])) (.ref a1) := ⟨.tuple [], .tup (.inl (.inl upd_same)) .nil, (by intro _ _ z; cases z), rfl⟩
      generalize upd H' a1 (.tup []) = G1 at q1 N1 ⊢
      -- (0, ())
      refine ⟨few_size (Nat.zero_le _), fun a2 nn2 => ?_⟩
      have q2 := K0.new nn2 (o := .tup [])
      have D2 : Dp K (upd G1 a2 (.tup [])) (.ref a2) (.tuple []) := .tup (.inl (.inl upd_same)) .nil
      generalize upd G1 a2 (.tup []) = G2 at q2 D2 ⊢
      refine ⟨few_size (show 2 ≤ 1000 by decide), fun a3 nn3 => ?_⟩
      have q3 := K0.new nn3 (o := .tup [.int 0, .ref a2])
      have N3 : BadN K (upd G2 a3 (.tup [.int 0, .ref a2])) (.ref a3) := ⟨.tuple [.int 0, .tuple []], .tup (.inl (.inl upd_same)) (.cons (.int 0) (.cons (q3.dp _ _ D2) .nil)), (by intro _ _ z; cases z; decide), rfl⟩
      generalize upd G2 a3 (.tup [.int 0, .ref a2]) = G3 at q3 N3 ⊢
      -- (13, ())
      refine ⟨few_size (Nat.zero_le _), fun a4 nn4 => ?_⟩
      have q4 := K0.new nn4 (o := .tup [])
      have D4 : Dp K (upd G3 a4 (.tup [])) (.ref a4) (.tuple []) := .tup (.inl (.inl upd_same)) .nil
      generalize upd G3 a4 (.tup []) = G4 at q4 D4 ⊢
      refine ⟨few_size (show 2 ≤ 1000 by decide), fun a5 nn5 => ?_⟩
      have q5 := K0.new nn5 (o := .tup [.int 13, .ref a4])
      have N5 : BadN K (upd G4 a5 (.tup [.int 13, .ref a4])) (.ref a5) := ⟨.tuple [.int 13, .tuple []], .tup (.inl (.inl upd_same)) (.cons (.int 13) (.cons (q5.dp _ _ D4) .nil)), (by intro _ _ z; cases z; decide), rfl⟩
      generalize upd G4 a5 (.tup [.int 13, .ref a4]) = G5 at q5 N5 ⊢
      have q15 := (((q1.trans q2).trans q3).trans q4).trans q5
      -- [n, roads]
      refine ⟨_, rfl, _, rfl, few_size (show 2 ≤ 1000 by decide), fun a6 nn6 => ?_⟩
      have q6 := K0.new nn6 (o := .lst [.int n, .ref r])
      have N6 : BadN K (upd G5 a6 (.lst [.int n, .ref r])) (.ref a6) :=
        ⟨.list [.int n, .tuple (rs.map R4.d)], .lst (.inl (.inl upd_same)) (.cons (.int n) (.cons (.tup ((q15.trans q6).sqT hxs') ((q15.trans q6).dpAll _ _ dn)) .nil)), (by intro _ _ z; cases z), rfl⟩
      generalize upd G5 a6 (.lst [.int n, .ref r]) = G6 at q6 N6 ⊢
      have q16 := q15.trans q6
      -- (n, roads + ((0, 0, 1, 1),))
      refine ⟨_, rfl, _, rfl, few_size (show 4 ≤ 1000 by decide), fun a7 nn7 => ?_⟩
      have q7 := K0.new nn7 (o := .tup [.int 0, .int 0, .int 1, .int 1])
      have D7 : Dp K (upd G6 a7 (.tup [.int 0, .int 0, .int 1, .int 1])) (.ref a7) (.tuple [.int 0, .int 0, .int 1, .int 1]) := .tup (.inl (.inl upd_same)) (.cons (.int 0) (.cons (.int 0) (.cons (.int 1) (.cons (.int 1) .nil))))
      generalize upd G6 a7 (.tup [.int 0, .int 0, .int 1, .int 1]) = G7 at q7 D7 ⊢
      refine ⟨few_size (show 1 ≤ 1000 by decide), fun a8 nn8 => ?_⟩
      have q8 := K0.new nn8 (o := .tup [.ref a7])
      have S8 : SqT K (upd G7 a8 (.tup [.ref a7])) a8 [.ref a7] := .inl (.inl upd_same)
      have D8 := q8.dp _ _ D7
      generalize upd G7 a8 (.tup [.ref a7]) = G8 at q8 S8 D8 ⊢
      have q18 := (q16.trans q7).trans q8
      refine catG (q18.sqT hxs') S8 (by show xs.length + 1 ≤ 1000; omega) fun a9 G9 q9 S9 => ?_
      have q19 := q18.trans q9
      refine ⟨few_size (show 2 ≤ 1000 by decide), fun a10 nn10 => ?_⟩
      have q10 := K0.new nn10 (o := .tup [.int n, .ref a9])
      have N10 : BadN K (upd G9 a10 (.tup [.int n, .ref a9])) (.ref a10) :=
        ⟨.tuple [.int n, .tuple (rs.map R4.d ++ [.tuple [.int 0, .int 0, .int 1, .int 1]])],
          .tup (.inl (.inl upd_same)) (.cons (.int n) (.cons (.tup (q10.sqT S9) (dpAll_snoc ((q19.trans q10).dpAll _ _ dn) ((q9.trans q10).dp _ _ D8))) .nil)),
          (by intro _ _ z; cases z; rw [List.length_append, List.length_map]; show rs.length + 1 ≤ 1000; omega), notNet_roads (rs := rs) (by simp)⟩
      generalize upd G9 a10 (.tup [.int n, .ref a9]) = G10 at q10 N10 ⊢
      have q110 := q19.trans q10
      -- (n,)
      refine ⟨_, rfl, few_size (show 1 ≤ 1000 by decide), fun a11 nn11 => ?_⟩
      have q11 := K0.new nn11 (o := .tup [.int n])
      have N11 : BadN K (upd G10 a11 (.tup [.int n])) (.ref a11) := ⟨.tuple [.int n], .tup (.inl (.inl upd_same)) (.cons (.int n) .nil), (by intro _ _ z; cases z), rfl⟩
      generalize upd G10 a11 (.tup [.int n]) = G11 at q11 N11 ⊢
      have q111 := q110.trans q11
      -- (roads, n)
      refine ⟨_, rfl, _, rfl, few_size (show 2 ≤ 1000 by decide), fun a12 nn12 => ?_⟩
      have q12 := K0.new nn12 (o := .tup [.ref r, .int n])
      have N12 : BadN K (upd G11 a12 (.tup [.ref r, .int n])) (.ref a12) :=
        ⟨.tuple [.tuple (rs.map R4.d), .int n], .tup (.inl (.inl upd_same)) (.cons (.tup ((q111.trans q12).sqT hxs') ((q111.trans q12).dpAll _ _ dn)) (.cons (.int n) .nil)), (by intro _ _ z; cases z), rfl⟩
      generalize upd G11 a12 (.tup [.ref r, .int n]) = G12 at q12 N12 ⊢
      have q112 := q111.trans q12
      refine ⟨few_size (show 8 ≤ 1000 by decide), fun L nL => ?_⟩
      have qL := K0.new nL (o := .lst [.non, .ref a1, .ref a3, .ref a5, .ref a6, .ref a10, .ref a11, .ref a12])
      have hL : (upd G12 L (.lst [.non, .ref a1, .ref a3, .ref a5, .ref a6, .ref a10, .ref a11, .ref a12])) L = some (.lst [.non, .ref a1, .ref a3, .ref a5, .ref a6, .ref a10, .ref a11, .ref a12]) := upd_same
      have kG := q112.trans qL
      have hB : ∀ x ∈ [V.non, .ref a1, .ref a3, .ref a5, .ref a6, .ref a10, .ref a11, .ref a12], BadN K (upd G12 L (.lst [.non, .ref a1, .ref a3, .ref a5, .ref a6, .ref a10, .ref a11, .ref a12])) x := fun x hx => by
        have q512 := (((((q6.trans q7).trans q8).trans q9).trans q10).trans q11).trans q12
        simp only [List.mem_cons, List.not_mem_nil, or_false] at hx
        rcases hx with rfl | rfl | rfl | rfl | rfl | rfl | rfl | rfl
        · exact ⟨.none, .non, (by intro _ _ z; cases z), rfl⟩
        · exact N1.k0 (((((q2.trans q3).trans q4).trans q5).trans q512).trans qL)
        · exact N3.k0 (((q4.trans q5).trans q512).trans qL)
        · exact N5.k0 (q512.trans qL)
        · exact N6.k0 ((((((q7.trans q8).trans q9).trans q10).trans q11).trans q12).trans qL)
        · exact N10.k0 ((q11.trans q12).trans qL)
        · exact N11.k0 (q12.trans qL)
        · exact N12.k0 qL
      generalize upd G12 L (.lst [.non, .ref a1, .ref a3, .ref a5, .ref a6, .ref a10, .ref a11, .ref a12]) = G13 at qL hL kG hB ⊢
      have k2G := k.trans kG
      refine ⟨L, rfl, ⟨_, .inl (.inl hL)⟩, for_list (K := K) (a := L) (xs := [.non, .ref a1, .ref a3, .ref a5, .ref a6, .ref a10, .ref a11, .ref a12]) (fun j σ' H' => ∃ y13, σ' = [some (.ref a), some (.ref t), some (.int (0 + (i : Int))), some (.ref na), some (.int n), some (.ref r), some (.int root), some (.ref pd), some (.int far), some (.ref pl), some (.ref ps), some (.int odd), some (.int way), y13, y14, y15, y16] ∧ K0 G13 H')
        ⟨_, rfl, K0.refl _⟩ (fun j σ' H' _ h => ?_) (fun j x σ' H' hx h => ?_) (fun σ' H' h => ?_)⟩
      · obtain ⟨_, _, kj⟩ := h
        exact kj.sqL (.inl (.inl hL))
      · obtain ⟨y13, rfl, kj⟩ := h
        have hbx := (hB x (List.mem_of_getElem? hx)).k0 kj
        refine ⟨_, rfl, _, rfl, 1, rfl, _, rfl, way, x, .int (-1), .int 99, .ref ps, rfl, w0, w10, tb9.k0 (k2G.trans kj), .net ⟨hbx, fun H8 k8 => Or.inl ⟨rfl, rfl, _, rfl, iteF ?_⟩⟩⟩
        exact ⟨_, rfl, kj.trans k8⟩
      obtain ⟨y13, rfl, kj⟩ := h
      have kA := k2G.trans kj
      -- numbers that are no places
      refine ⟨_, rfl, pl, rfl, ⟨_, .inl (.inl (kA.oth pl _ hpl9 (fun _ z => by cases z)))⟩, for_list (K := K) (a := pl) (xs := [.int (-1), .int n, .int (n + far), .int (-1 - far)]) (fun j σ' H' => ∃ y14, σ' = [some (.ref a), some (.ref t), some (.int (0 + (i : Int))), some (.ref na), some (.int n), some (.ref r), some (.int root), some (.ref pd), some (.int far), some (.ref pl), some (.ref ps), some (.int odd), some (.int way), y13, y14, y15, y16] ∧ K0 H9 H')
        ⟨_, rfl, kA⟩ (fun j σ' H' _ h => ?_) (fun j x σ' H' hx h => ?_) (fun σ' H' h => ?_)⟩
      · obtain ⟨_, _, kj⟩ := h
        exact .inl (.inl (kj.oth pl _ hpl9 (fun _ z => by cases z)))
      · obtain ⟨y14, rfl, kj⟩ := h
        obtain ⟨ot, rfl, ho⟩ : ∃ ot : Int, x = .int ot ∧ ¬ (0 ≤ ot ∧ ot < n) := by
          rcases j with _ | _ | _ | _ | j
          · cases hx; exact ⟨_, rfl, by omega⟩
          · cases hx; exact ⟨_, rfl, by omega⟩
          · cases hx; exact ⟨_, rfl, by omega⟩
          · cases hx; exact ⟨_, rfl, by omega⟩
          · cases hx
        refine ⟨_, rfl, _, rfl, _, rfl, _, rfl, _, rfl, way, .ref na, .int ot, .int root, .ref ps, rfl, w0, w10, tb9.k0 kj, .root ⟨na, n, rs, ot, rfl, rfl, hN9.k0 kj, G, hlen, ho, fun H8 k8 => Or.inr (Or.inl ⟨rfl, rfl, _, rfl, iteF ?_⟩)⟩⟩
        have k9' := kj.trans k8
        refine ⟨_, rfl, few_size (show 3 ≤ 1000 by decide), fun tp ntp => ⟨tp, [.int 5, .int 8, .int 10], rfl, .inr (.inl (.inl upd_same)), rfl, rfl, _, rfl, ?_⟩⟩
        have k10 := k9'.trans (K0.new ntp (o := .tup [.int 5, .int 8, .int 10]))
        by_cases hw : way = 5 ∨ way = 8 ∨ way = 10
        · have e : inV (.int way) ([5, 8, 10].map V.int) = true := inI_iff.mpr (by simpa using hw)
          refine iteC e ⟨_, rfl, _, rfl, _, rfl, _, rfl, _, rfl, way, .ref na, .int root, .int ot, .ref ps, rfl, w0, w10, tb9.k0 k10, .place hw ⟨na, n, rs, root, rfl, rfl, hN9.k0 k10, G, hlen, r0, r1, ot, rfl, ho, fun H12 k12 => Or.inr (Or.inl ⟨rfl, rfl, _, rfl, iteF ?_⟩)⟩⟩
          exact ⟨_, rfl, k10.trans k12⟩
        · have e : inV (.int way) ([5, 8, 10].map V.int) = false := by
            rw [Bool.eq_false_iff]
            exact fun z => hw (by simpa using inI_iff.mp z)
          exact iteN e (iteF ⟨_, rfl, k10⟩)
      obtain ⟨y14, rfl, kj⟩ := h
      -- a dict that is no tree
      refine ⟨fun σ' H' => σ' = [some (.ref a), some (.ref t), some (.int (0 + (i : Int))), some (.ref na), some (.int n), some (.ref r), some (.int root), some (.ref pd), some (.int far), some (.ref pl), some (.ref ps), some (.int odd), some (.int way), y13, y14, y15, y16] ∧ K0 H9 H', ?_, ?_⟩
      · refine ⟨_, rfl, way, 5, rfl, rfl, _, rfl, ite2 (fun e => ?_) (fun e => iteF ⟨rfl, kj⟩)⟩
        refine ⟨_, rfl, _, rfl, _, rfl, _, rfl, _, rfl, way, .ref na, .int root, .int root, .ref ps, rfl, w0, w10, tb9.k0 kj, .tree (lt_of e) ⟨na, n, rs, root, rfl, rfl, hN9.k0 kj, G, hlen, r0, r1, root, ps, _, _, rfl, r0, r1, rfl, kj.oth ps _ hps9 (fun _ z => by cases z), dS, (show 1 ≤ 5000 by decide), noTree_key (put_at _ _ _)⟩ fun H8 k8 => Or.inr (Or.inr ⟨rfl, rfl, _, rfl, iteF ?_⟩)⟩
        exact ⟨rfl, kj.trans k8⟩
      rintro σ' H10 ⟨rfl, k10⟩
      -- all of them
      refine ⟨fun σ' H' => ∃ y13, σ' = [some (.ref a), some (.ref t), some (.int (0 + (i : Int))), some (.ref na), some (.int n), some (.ref r), some (.int root), some (.ref pd), some (.int far), some (.ref pl), some (.ref ps), some (.int odd), some (.int way), y13, y14, y15, y16] ∧ K0 H9 H', ?_, ?_⟩
      · refine ⟨_, rfl, way, 5, rfl, rfl, _, rfl, ite2 (fun e => ?_) (fun e => iteF ⟨_, rfl, k10⟩)⟩
        refine ⟨_, rfl, way, 5, rfl, rfl, (show (0 : Int) < 5 by decide), _, rfl, rfl, _, rfl, ?_⟩
        cases hb : decide (V.int (way % 5) = V.int odd) with
        | false => exact iteF ⟨_, rfl, k10⟩
        | true =>
          refine iteT ⟨_, rfl, _, rfl, _, rfl, _, rfl, na, n, rs, root, pd, ds, g, far, rfl, hN9.k0 k10, G, hlen, r0, r1, k10.oth pd _ hpd9 (fun _ z => by cases z), hds, by omega, f0, fun F fx H11 k11 hF hBad hlF => ?_⟩
          refine ⟨F, rfl, ⟨_, .inl (.inl hF)⟩, for_list (K := K) (a := F) (xs := fx) (fun j σ' H' => ∃ y13, σ' = [some (.ref a), some (.ref t), some (.int (0 + (i : Int))), some (.ref na), some (.int n), some (.ref r), some (.int root), some (.ref pd), some (.int far), some (.ref pl), some (.ref ps), some (.int odd), some (.int way), y13, y14, y15, y16] ∧ K0 H11 H')
            ⟨_, rfl, K0.refl _⟩ (fun j σ' H' _ h => ?_) (fun j x σ' H' hx h => ?_) (fun σ' H' h => ?_)⟩
          · obtain ⟨_, _, kj⟩ := h
            exact kj.sqL (.inl (.inl hF))
          · obtain ⟨y13', rfl, kj⟩ := h
            obtain ⟨p, kvs', g', rfl, hp, hD', hl', hnt⟩ := (hBad x (List.mem_of_getElem? hx)).k0 kj
            have kk := (k10.trans k11).trans kj
            refine ⟨_, rfl, _, rfl, _, rfl, _, rfl, _, rfl, way, .ref na, .int root, .int root, .ref p, rfl, w0, w10, tb9.k0 kk, .tree (lt_of e) ⟨na, n, rs, root, rfl, rfl, hN9.k0 kk, G, hlen, r0, r1, root, p, kvs', g', rfl, r0, r1, rfl, hp, hD', by omega, hnt⟩ fun H8 k8 => Or.inr (Or.inr ⟨rfl, rfl, _, rfl, iteF ?_⟩)⟩
            exact ⟨_, rfl, kj.trans k8⟩
          · obtain ⟨y13', rfl, kj⟩ := h
            exact ⟨_, rfl, (k10.trans k11).trans kj⟩
      rintro σ' H12 ⟨y13', rfl, k12⟩
      -- the good one
      refine ⟨_, rfl, _, rfl, _, rfl, _, rfl, _, rfl, way, .ref na, .int root, .int root, .ref pd, rfl, w0, w10, tb9.k0 k12, .good ⟨na, n, rs, root, rfl, rfl, hN9.k0 k12, G, hlen, r0, r1, root, pd, ds, g, rfl, r0, r1, rfl, k12.oth pd _ hpd9 (fun _ z => by cases z), hds, by omega, hT, .inl rfl⟩ fun H8 k8 => ⟨rfl, _, rfl, iteF ?_⟩⟩
      exact ⟨_, _, _, _, _, rfl, k12.trans k8⟩
    · obtain ⟨y12, y13, y14, y15, y16, rfl, k⟩ := h
      have tb' := tb9.k0 k
      refine ⟨_, rfl, _, rfl, _, rfl, _, rfl, na, n, rs, root, .ref pd, far, rfl, hN9.k0 k, G, hlen, r0, r1, f0, tb'.n, tb'.r, tb'.a, fun H8 k8 => ⟨_, rfl, iteF ?_⟩⟩
      have kB := k.trans k8
      refine ⟨_, rfl, n, rfl, by omega, by omega, for_range (lo := 0) (n := n.toNat) (fun j σ' H' => ∃ y15 y16, σ' = [some (.ref a), some (.ref t), some (.int (0 + (i : Int))), some (.ref na), some (.int n), some (.ref r), some (.int root), some (.ref pd), some (.int far), some (.ref pl), some (.ref ps), some (.int odd), y12, y13, y14, y15, y16] ∧ K0 H9 H')
        ⟨_, _, rfl, kB⟩ (fun j σ' H' hj h => ?_) (fun σ' H' h => ?_)⟩
      · obtain ⟨y15', y16', rfl, kj⟩ := h
        obtain ⟨plc, epl, p0, p1⟩ : ∃ plc : Int, 0 + (j : Int) = plc ∧ 0 ≤ plc ∧ plc < n := ⟨_, rfl, by omega, by omega⟩
        rw [epl]
        have hpd' := kj.oth pd _ hpd9 (fun _ z => by cases z)
        refine ⟨_, rfl, _, rfl, rfl, _, rfl, ?_⟩
        by_cases h1 : plc = root
        · rw [decide_eq_true (show V.int plc = V.int root by rw [h1])]
          exact iteT (iteT ⟨_, rfl, _, rfl, _, rfl, _, rfl, 10, .ref na, .int root, .int plc, .ref pd, rfl, by decide, by decide, tb9.k0 kj, .good ⟨na, n, rs, root, rfl, rfl, hN9.k0 kj, G, hlen, r0, r1, plc, pd, ds, g, rfl, p0, p1, rfl, hpd', hds, by omega, hT, .inl h1⟩ fun H8 k8 => ⟨_, rfl, rfl, _, rfl, iteF ⟨_, _, rfl, kj.trans k8⟩⟩⟩)
        · rw [decide_eq_false (show ¬ V.int plc = V.int root from fun z => h1 (V.int.inj z))]
          refine iteF ⟨_, rfl, _, rfl, pd, _, rfl, dgetR (.inl hpd') hds plc, _, rfl, ?_⟩
          cases eg : g plc with
          | some x => exact iteT ⟨_, rfl, _, rfl, _, rfl, _, rfl, 10, .ref na, .int root, .int plc, .ref pd, rfl, by decide, by decide, tb9.k0 kj, .good ⟨na, n, rs, root, rfl, rfl, hN9.k0 kj, G, hlen, r0, r1, plc, pd, ds, g, rfl, p0, p1, rfl, hpd', hds, by omega, hT, .inr (by rw [eg]; rfl)⟩ fun H8 k8 => ⟨_, rfl, rfl, _, rfl, iteF ⟨_, _, rfl, kj.trans k8⟩⟩⟩
          | none =>
            have hnI : ¬ InT root g plc := fun z => by
              rcases z with z | z
              · exact h1 z
              · rw [eg] at z; cases z
            exact iteF ⟨_, rfl, _, rfl, _, rfl, _, rfl, 10, .ref na, .int root, .int plc, .ref pd, rfl, by decide, by decide, tb9.k0 kj, .out rfl ⟨na, n, rs, root, rfl, rfl, hN9.k0 kj, G, hlen, r0, r1, plc, pd, ds, g, rfl, p0, p1, rfl, hpd', hds, by omega, hT, hnI⟩
              fun H8 k8 => Or.inr (Or.inr ⟨rfl, _, rfl, rfl, _, rfl, iteF ⟨_, _, rfl, kj.trans k8⟩⟩)⟩
      · obtain ⟨y15', y16', rfl, kj⟩ := h
        exact ⟨_, _, _, _, _, _, _, _, _, _, _, _, _, _, _, rfl, kt19.trans kj.kt, tp9.k0 kj⟩
end
end HK

set_option Elab.async false
set_option linter.all false
set_option maxRecDepth 100000
set_option maxHeartbeats 4000000
namespace HK
open PySem PySem.Spec PyProof.Rows L2 GAl GxR
/-- every def's table of code objects is empty at the law's entry -/
def Tabs (q : Program) (mg : Str → Option Value) (h : Heap) : Prop := ∀ nm : Str, ((recsOf q).any fun e => e.name == nm) = true → ∃ a o fd c P, mg nm = some (.ref a) ∧ h.get? a = some o ∧ o.data = .func fd ∧ fd.code = .ref c ∧ PySem.W.CodeHd h c P ∧ h.get? P = some { cls := .none, data := .fields #[] }
theorem walk_tabs {l : PySem.W.OpenLaw} {n k : Nat} {q : Program} {loose : List Str} {XP : (Str → Option Value) → Heap → Prop} {YP : World → Heap → Prop} {d : DefRec} {K : Params → PySem.W.Frag} {CX : World → CXT} {x : Str}
    (hn : l.most = some n) (hn2 : n ≤ sizeLine) (hdf : d.params.defaults = []) (hr : Room k callerA) (hY : ∀ (w : World) (h : Heap), YP w h → (K w.params).In h)
    (F : ∀ (w : World) (mg : Str → Option Value) (fa : Addr) (h : Heap), YP w h → (K w.params).In h → h.Ns mainGlobals mg → mg d.name = some (.ref fa) → Tabs q mg h → LamX.LawAtS l w (K w.params) (CX w) k n x mg fa h)
    (hCX : ∀ (w : World) (H : Hp) (s : Shared) (e : Value) (s' : Shared), CX w [] H s (fun _ _ _ => False) e s' → False) :
    PySem.W.WalkO q loose XP YP l.row.toRowW d [] (fun f vs => PySem.call f vs) := by
  refine Att.attach_callB hn hdf fun w s₀ s₁ mg mb fa o pm cd doc a vs ns G Y ho hd hcd hmg hobj hints hlen hbits hg => ?_
  have KX := hY w _ Y
  have tabs : Tabs q mg s₁.heap := fun nm h => by
    obtain ⟨e, he, hnm⟩ := List.any_eq_true.mp h
    obtain ⟨a', o', fd', c', P', h1, h2, h3, h4, h5, h6⟩ := G.T.tab e he
    exact ⟨a', o', fd', c', P', by rw [← (beq_iff_eq.mp hnm)]; exact h1, h2, h3, h4, PySem.W.CodeHd.of h5 h6, h6.2⟩
  obtain ⟨fd, cs, sp, hT, nT, C, hb, hsp, hF⟩ := F w mg fa _ Y KX G.T.g hmg tabs
  exact LamX.law_callTs KX G.T.g G.T.b G.T.builtins G.T.nolimit hg hT nT C G.T.bmain hobj hints (Nat.le_trans hlen hn2) hr hF hb (fun H hH hS => hsp H a ns hlen hbits hH hS) fun H e s' => hCX w H s₁ e s'
/-- a def's table, by its code object in the written part -/
theorem tab_of {K : PySem.W.Frag} {q : Program} {mg : Str → Option Value} {h : Heap} {nm : Str} {f c P0 : Addr} {o : Obj} {fd : FuncData} {e : Value} {dd : Option Addr} {vs : Array Value} {sl : Array (Option Value)} (X : K.In h) (T : Tabs q mg h) (hq : ((recsOf q).any fun e => e.name == nm) = true)
    (g : mg nm = some (.ref f)) (l : K.lookup f = some o) (hd : o.data = .func fd) (hc : fd.code = .ref c) (lc : K.lookup c = some ⟨e, dd, .fields vs, sl⟩) (hv : vs[11]? = some (.ref P0)) :
    PySem.W.CodeHd h c P0 ∧ h.get? P0 = some { cls := .none, data := .fields #[] } := by
  obtain ⟨a', o', fd', c', P', h1, h2, h3, h4, h5, h6⟩ := T nm hq
  rw [g] at h1; cases h1
  rw [X _ _ l] at h2; cases h2
  rw [hd] at h3; cases h3
  rw [hc] at h4; cases h4
  have h5' := h5
  obtain ⟨oc, vc, _, _, _, _, _, _, _, e1, _, e3, e4, _⟩ := h5'
  rw [X _ _ lc] at e1; cases e1
  cases e3
  rw [hv] at e4; cases e4
  exact ⟨h5, h6⟩
theorem all_mk {l : PySem.W.OpenLaw} {q : Program} {w : World} {K : PySem.W.Frag} {h : Heap} {mg : Str → Option Value} {fa f1 f2 f3 f4 f5 f6 f7 f8 f9 f10 f11 f12 f13 f14 f15 f16 f17 f18 f22 f23 f25 f27 f28 f31 f32 f34 f35 f36 f39 f40 f43 f44 f45 f47 f48 f50 f52 f53 f56 f57 f58 f59 f60 f61 f62 f63 f64 cc10 P10 cc9 P9 cc14 P14 cc17 P17 cc31 P31 cc35 P35 cc36 P36 cc40 P40 cc50 P50 cc32 P32 cc27 P27 cc28 P28 : Addr} (X : K.In h) (G : h.Ns mainGlobals mg) (hfa : mg "law" = some (.ref fa)) (T : Tabs q mg h) (hl : l.most = some 63)
    {C1 C2 C3 C4 C5 C6 C7 C8 C9 C10 C11 C12 : Addr}
    {od1 an1 od2 an2 od3 an3 od4 an4 od5 an5 od6 an6 od7 an7 od8 an8 od9 an9 od10 an10 od11 an11 od12 an12 od13 an13 od14 an14 od15 an15 od16 an16 od17 an17 od18 an18 od22 an22 od23 an23 od25 an25 od27 an27 od28 an28 od31 an31 od32 an32 od34 an34 od35 an35 od36 an36 od39 an39 od40 an40 od43 an43 od44 an44 od45 an45 od47 an47 od48 an48 od50 an50 od52 an52 od53 an53 od56 an56 od57 an57 od58 an58 od59 an59 od60 an60 od61 an61 od62 an62 od63 an63 od64 an64 dd10 dd9 dd14 dd17 dd31 dd35 dd36 dd40 dd50 dd32 dd27 dd28 : Option Addr} {sl1 sl2 sl3 sl4 sl5 sl6 sl7 sl8 sl9 sl10 sl11 sl12 sl13 sl14 sl15 sl16 sl17 sl18 sl22 sl23 sl25 sl27 sl28 sl31 sl32 sl34 sl35 sl36 sl39 sl40 sl43 sl44 sl45 sl47 sl48 sl50 sl52 sl53 sl56 sl57 sl58 sl59 sl60 sl61 sl62 sl63 sl64 sc10 sc9 sc14 sc17 sc31 sc35 sc36 sc40 sc50 sc32 sc27 sc28 : Array (Option Value)} {oc1 kV1 dc1 pm1 cd1 ct1 oc2 kV2 dc2 pm2 cd2 ct2 oc3 kV3 dc3 pm3 cd3 ct3 oc4 kV4 dc4 pm4 cd4 ct4 oc5 kV5 dc5 pm5 cd5 ct5 oc6 kV6 dc6 pm6 cd6 ct6 oc7 kV7 dc7 pm7 cd7 ct7 oc8 kV8 dc8 pm8 cd8 ct8 oc9 kV9 dc9 pm9 ct9 oc10 kV10 dc10 pm10 ct10 oc11 kV11 dc11 pm11 cd11 ct11 oc12 kV12 dc12 pm12 cd12 ct12 oc13 kV13 dc13 pm13 cd13 ct13 oc14 kV14 dc14 pm14 ct14 oc15 kV15 dc15 pm15 cd15 ct15 oc16 kV16 dc16 pm16 cd16 ct16 oc17 kV17 dc17 pm17 ct17 oc18 kV18 dc18 pm18 cd18 ct18 oc22 kV22 dc22 pm22 cd22 ct22 oc23 kV23 dc23 pm23 cd23 ct23 oc25 kV25 dc25 pm25 cd25 ct25 oc27 kV27 dc27 pm27 ct27 oc28 kV28 dc28 pm28 ct28 oc31 kV31 dc31 pm31 ct31 oc32 kV32 dc32 pm32 ct32 oc34 kV34 dc34 pm34 cd34 ct34 oc35 kV35 dc35 pm35 ct35 oc36 kV36 dc36 pm36 ct36 oc39 kV39 dc39 pm39 cd39 ct39 oc40 kV40 dc40 pm40 ct40 oc43 kV43 dc43 pm43 cd43 ct43 oc44 kV44 dc44 pm44 cd44 ct44 oc45 kV45 dc45 pm45 cd45 ct45 oc47 kV47 dc47 pm47 cd47 ct47 oc48 kV48 dc48 pm48 cd48 ct48 oc50 kV50 dc50 pm50 ct50 oc52 kV52 dc52 pm52 cd52 ct52 oc53 kV53 dc53 pm53 cd53 ct53 oc56 kV56 dc56 pm56 cd56 ct56 oc57 kV57 dc57 pm57 cd57 ct57 oc58 kV58 dc58 pm58 cd58 ct58 oc59 kV59 dc59 pm59 cd59 ct59 oc60 kV60 dc60 pm60 cd60 ct60 oc61 kV61 dc61 pm61 cd61 ct61 oc62 kV62 dc62 pm62 cd62 ct62 oc63 kV63 dc63 pm63 cd63 ct63 oc64 kV64 dc64 pm64 cd64 ct64 e10 e9 e14 e17 e31 e35 e36 e40 e50 e32 e27 e28 : Value} {t1 t2 t3 t4 : Tok} {vs10 vs9 vs14 vs17 vs31 vs35 vs36 vs40 vs50 vs32 vs27 vs28 : Array Value}
    (a1 : PySem.W.nsIn K mainGlobals "_law_b_spread" = some (some (.ref f1))) (l1 : K.lookup f1 = some ⟨oc1, od1, .func (PySem.W.fnOf "_law_b_spread" "_law_b_spread" (defArgs sSpread) (defBody sSpread) (defScope sSpread) .none kV1 dc1 pm1 an1 cd1 ct1), sl1⟩) (c1 : PySem.W.codeIn K cd1 "_law_b_spread" = true) (k1 : PySem.W.keepIn K (.ref f1) = true)
    (a2 : PySem.W.nsIn K mainGlobals "_law_b_digit" = some (some (.ref f2))) (l2 : K.lookup f2 = some ⟨oc2, od2, .func (PySem.W.fnOf "_law_b_digit" "_law_b_digit" (defArgs sDigit) (defBody sDigit) (defScope sDigit) .none kV2 dc2 pm2 an2 cd2 ct2), sl2⟩) (c2 : PySem.W.codeIn K cd2 "_law_b_digit" = true) (k2 : PySem.W.keepIn K (.ref f2) = true)
    (a3 : PySem.W.nsIn K mainGlobals "_law_b_net" = some (some (.ref f3))) (l3 : K.lookup f3 = some ⟨oc3, od3, .func (PySem.W.fnOf "_law_b_net" "_law_b_net" (defArgs sNet) (defBody sNet) (defScope sNet) .none kV3 dc3 pm3 an3 cd3 ct3), sl3⟩) (c3 : PySem.W.codeIn K cd3 "_law_b_net" = true) (k3 : PySem.W.keepIn K (.ref f3) = true)
    (a4 : PySem.W.nsIn K mainGlobals "_law_b_some" = some (some (.ref f4))) (l4 : K.lookup f4 = some ⟨oc4, od4, .func (PySem.W.fnOf "_law_b_some" "_law_b_some" (defArgs sSome) (defBody sSome) (defScope sSome) .none kV4 dc4 pm4 an4 cd4 ct4), sl4⟩) (c4 : PySem.W.codeIn K cd4 "_law_b_some" = true) (k4 : PySem.W.keepIn K (.ref f4) = true)
    (a5 : PySem.W.nsIn K mainGlobals "_law_b_grown" = some (some (.ref f5))) (l5 : K.lookup f5 = some ⟨oc5, od5, .func (PySem.W.fnOf "_law_b_grown" "_law_b_grown" (defArgs sGrown) (defBody sGrown) (defScope sGrown) .none kV5 dc5 pm5 an5 cd5 ct5), sl5⟩) (c5 : PySem.W.codeIn K cd5 "_law_b_grown" = true) (k5 : PySem.W.keepIn K (.ref f5) = true)
    (a6 : PySem.W.nsIn K mainGlobals "is_whole" = some (some (.ref f6))) (l6 : K.lookup f6 = some ⟨oc6, od6, .func (PySem.W.fnOf "is_whole" "is_whole" (defArgs sWhole) (defBody sWhole) (defScope sWhole) .none kV6 dc6 pm6 an6 cd6 ct6), sl6⟩) (c6 : PySem.W.codeIn K cd6 "is_whole" = true) (k6 : PySem.W.keepIn K (.ref f6) = true)
    (a7 : PySem.W.nsIn K mainGlobals "is_within" = some (some (.ref f7))) (l7 : K.lookup f7 = some ⟨oc7, od7, .func (PySem.W.fnOf "is_within" "is_within" (defArgs sWithin) (defBody sWithin) (defScope sWithin) .none kV7 dc7 pm7 an7 cd7 ct7), sl7⟩) (c7 : PySem.W.codeIn K cd7 "is_within" = true) (k7 : PySem.W.keepIn K (.ref f7) = true)
    (a8 : PySem.W.nsIn K mainGlobals "is_road" = some (some (.ref f8))) (l8 : K.lookup f8 = some ⟨oc8, od8, .func (PySem.W.fnOf "is_road" "is_road" (defArgs sIsRoad) (defBody sIsRoad) (defScope sIsRoad) .none kV8 dc8 pm8 an8 cd8 ct8), sl8⟩) (c8 : PySem.W.codeIn K cd8 "is_road" = true) (k8 : PySem.W.keepIn K (.ref f8) = true)
    (a9 : PySem.W.nsIn K mainGlobals "rises" = some (some (.ref f9))) (l9 : K.lookup f9 = some ⟨oc9, od9, .func (PySem.W.fnOf "rises" "rises" (defArgs sRises) (defBody sRises) (defScope sRises) .none kV9 dc9 pm9 an9 (.ref cc9) ct9), sl9⟩) (c9 : PySem.W.codeIn K (.ref cc9) "rises" = true) (k9 : PySem.W.keepIn K (.ref f9) = true)
    (a10 : PySem.W.nsIn K mainGlobals "is_net" = some (some (.ref f10))) (l10 : K.lookup f10 = some ⟨oc10, od10, .func (PySem.W.fnOf "is_net" "is_net" (defArgs sIsNet) (defBody sIsNet) (defScope sIsNet) .none kV10 dc10 pm10 an10 (.ref cc10) ct10), sl10⟩) (c10 : PySem.W.codeIn K (.ref cc10) "is_net" = true) (k10 : PySem.W.keepIn K (.ref f10) = true)
    (a11 : PySem.W.nsIn K mainGlobals "need_net" = some (some (.ref f11))) (l11 : K.lookup f11 = some ⟨oc11, od11, .func (PySem.W.fnOf "need_net" "need_net" (defArgs sNeedNet) (defBody sNeedNet) (defScope sNeedNet) .none kV11 dc11 pm11 an11 cd11 ct11), sl11⟩) (c11 : PySem.W.codeIn K cd11 "need_net" = true) (k11 : PySem.W.keepIn K (.ref f11) = true)
    (a12 : PySem.W.nsIn K mainGlobals "is_place" = some (some (.ref f12))) (l12 : K.lookup f12 = some ⟨oc12, od12, .func (PySem.W.fnOf "is_place" "is_place" (defArgs sIsPlace) (defBody sIsPlace) (defScope sIsPlace) .none kV12 dc12 pm12 an12 cd12 ct12), sl12⟩) (c12 : PySem.W.codeIn K cd12 "is_place" = true) (k12 : PySem.W.keepIn K (.ref f12) = true)
    (a13 : PySem.W.nsIn K mainGlobals "need_place" = some (some (.ref f13))) (l13 : K.lookup f13 = some ⟨oc13, od13, .func (PySem.W.fnOf "need_place" "need_place" (defArgs sNeedPlace) (defBody sNeedPlace) (defScope sNeedPlace) .none kV13 dc13 pm13 an13 cd13 ct13), sl13⟩) (c13 : PySem.W.codeIn K cd13 "need_place" = true) (k13 : PySem.W.keepIn K (.ref f13) = true)
    (a14 : PySem.W.nsIn K mainGlobals "are_whole_pairs" = some (some (.ref f14))) (l14 : K.lookup f14 = some ⟨oc14, od14, .func (PySem.W.fnOf "are_whole_pairs" "are_whole_pairs" (defArgs sPairs) (defBody sPairs) (defScope sPairs) .none kV14 dc14 pm14 an14 (.ref cc14) ct14), sl14⟩) (c14 : PySem.W.codeIn K (.ref cc14) "are_whole_pairs" = true) (k14 : PySem.W.keepIn K (.ref f14) = true)
    (a15 : PySem.W.nsIn K mainGlobals "road_prices" = some (some (.ref f15))) (l15 : K.lookup f15 = some ⟨oc15, od15, .func (PySem.W.fnOf "road_prices" "road_prices" (defArgs sPrices) (defBody sPrices) (defScope sPrices) .none kV15 dc15 pm15 an15 cd15 ct15), sl15⟩) (c15 : PySem.W.codeIn K cd15 "road_prices" = true) (k15 : PySem.W.keepIn K (.ref f15) = true)
    (a16 : PySem.W.nsIn K mainGlobals "leads_to" = some (some (.ref f16))) (l16 : K.lookup f16 = some ⟨oc16, od16, .func (PySem.W.fnOf "leads_to" "leads_to" (defArgs sLeads) (defBody sLeads) (defScope sLeads) .none kV16 dc16 pm16 an16 cd16 ct16), sl16⟩) (c16 : PySem.W.codeIn K cd16 "leads_to" = true) (k16 : PySem.W.keepIn K (.ref f16) = true)
    (a17 : PySem.W.nsIn K mainGlobals "grows" = some (some (.ref f17))) (l17 : K.lookup f17 = some ⟨oc17, od17, .func (PySem.W.fnOf "grows" "grows" (defArgs sGrows) (defBody sGrows) (defScope sGrows) .none kV17 dc17 pm17 an17 (.ref cc17) ct17), sl17⟩) (c17 : PySem.W.codeIn K (.ref cc17) "grows" = true) (k17 : PySem.W.keepIn K (.ref f17) = true)
    (a18 : PySem.W.nsIn K mainGlobals "is_tree" = some (some (.ref f18))) (l18 : K.lookup f18 = some ⟨oc18, od18, .func (PySem.W.fnOf "is_tree" "is_tree" (defArgs sIsTree) (defBody sIsTree) (defScope sIsTree) .none kV18 dc18 pm18 an18 cd18 ct18), sl18⟩) (c18 : PySem.W.codeIn K cd18 "is_tree" = true) (k18 : PySem.W.keepIn K (.ref f18) = true)
    (a22 : PySem.W.nsIn K mainGlobals "undercuts" = some (some (.ref f22))) (l22 : K.lookup f22 = some ⟨oc22, od22, .func (PySem.W.fnOf "undercuts" "undercuts" (defArgs sUnder) (defBody sUnder) (defScope sUnder) .none kV22 dc22 pm22 an22 cd22 ct22), sl22⟩) (c22 : PySem.W.codeIn K cd22 "undercuts" = true) (k22 : PySem.W.keepIn K (.ref f22) = true)
    (a23 : PySem.W.nsIn K mainGlobals "earliest" = some (some (.ref f23))) (l23 : K.lookup f23 = some ⟨oc23, od23, .func (PySem.W.fnOf "earliest" "earliest" (defArgs sEarly) (defBody sEarly) (defScope sEarly) .none kV23 dc23 pm23 an23 cd23 ct23), sl23⟩) (c23 : PySem.W.codeIn K cd23 "earliest" = true) (k23 : PySem.W.keepIn K (.ref f23) = true)
    (a25 : PySem.W.nsIn K mainGlobals "ways" = some (some (.ref f25))) (l25 : K.lookup f25 = some ⟨oc25, od25, .func (PySem.W.fnOf "ways" "ways" (defArgs sWays) (defBody sWays) (defScope sWays) .none kV25 dc25 pm25 an25 cd25 ct25), sl25⟩) (c25 : PySem.W.codeIn K cd25 "ways" = true) (k25 : PySem.W.keepIn K (.ref f25) = true)
    (a27 : PySem.W.nsIn K mainGlobals "is_attained" = some (some (.ref f27))) (l27 : K.lookup f27 = some ⟨oc27, od27, .func (PySem.W.fnOf "is_attained" "is_attained" (defArgs sAtt) (defBody sAtt) (defScope sAtt) .none kV27 dc27 pm27 an27 (.ref cc27) ct27), sl27⟩) (c27 : PySem.W.codeIn K (.ref cc27) "is_attained" = true) (k27 : PySem.W.keepIn K (.ref f27) = true)
    (a28 : PySem.W.nsIn K mainGlobals "are_earliest" = some (some (.ref f28))) (l28 : K.lookup f28 = some ⟨oc28, od28, .func (PySem.W.fnOf "are_earliest" "are_earliest" (defArgs sAreE) (defBody sAreE) (defScope sAreE) .none kV28 dc28 pm28 an28 (.ref cc28) ct28), sl28⟩) (c28 : PySem.W.codeIn K (.ref cc28) "are_earliest" = true) (k28 : PySem.W.keepIn K (.ref f28) = true)
    (a31 : PySem.W.nsIn K mainGlobals "are_places" = some (some (.ref f31))) (l31 : K.lookup f31 = some ⟨oc31, od31, .func (PySem.W.fnOf "are_places" "are_places" (defArgs sAreP) (defBody sAreP) (defScope sAreP) .none kV31 dc31 pm31 an31 (.ref cc31) ct31), sl31⟩) (c31 : PySem.W.codeIn K (.ref cc31) "are_places" = true) (k31 : PySem.W.keepIn K (.ref f31) = true)
    (a32 : PySem.W.nsIn K mainGlobals "is_closed" = some (some (.ref f32))) (l32 : K.lookup f32 = some ⟨oc32, od32, .func (PySem.W.fnOf "is_closed" "is_closed" (defArgs sIsClosed) (defBody sIsClosed) (defScope sIsClosed) .none kV32 dc32 pm32 an32 (.ref cc32) ct32), sl32⟩) (c32 : PySem.W.codeIn K (.ref cc32) "is_closed" = true) (k32 : PySem.W.keepIn K (.ref f32) = true)
    (a34 : PySem.W.nsIn K mainGlobals "need_hearers" = some (some (.ref f34))) (l34 : K.lookup f34 = some ⟨oc34, od34, .func (PySem.W.fnOf "need_hearers" "need_hearers" (defArgs sNeedH) (defBody sNeedH) (defScope sNeedH) .none kV34 dc34 pm34 an34 cd34 ct34), sl34⟩) (c34 : PySem.W.codeIn K cd34 "need_hearers" = true) (k34 : PySem.W.keepIn K (.ref f34) = true)
    (a35 : PySem.W.nsIn K mainGlobals "serves" = some (some (.ref f35))) (l35 : K.lookup f35 = some ⟨oc35, od35, .func (PySem.W.fnOf "serves" "serves" (defArgs sServes) (defBody sServes) (defScope sServes) .none kV35 dc35 pm35 an35 (.ref cc35) ct35), sl35⟩) (c35 : PySem.W.codeIn K (.ref cc35) "serves" = true) (k35 : PySem.W.keepIn K (.ref f35) = true)
    (a36 : PySem.W.nsIn K mainGlobals "is_trim" = some (some (.ref f36))) (l36 : K.lookup f36 = some ⟨oc36, od36, .func (PySem.W.fnOf "is_trim" "is_trim" (defArgs sIsTrim) (defBody sIsTrim) (defScope sIsTrim) .none kV36 dc36 pm36 an36 (.ref cc36) ct36), sl36⟩) (c36 : PySem.W.codeIn K (.ref cc36) "is_trim" = true) (k36 : PySem.W.keepIn K (.ref f36) = true)
    (a39 : PySem.W.nsIn K mainGlobals "need_tree" = some (some (.ref f39))) (l39 : K.lookup f39 = some ⟨oc39, od39, .func (PySem.W.fnOf "need_tree" "need_tree" (defArgs sNeedTree) (defBody sNeedTree) (defScope sNeedTree) .none kV39 dc39 pm39 an39 cd39 ct39), sl39⟩) (c39 : PySem.W.codeIn K cd39 "need_tree" = true) (k39 : PySem.W.keepIn K (.ref f39) = true)
    (a40 : PySem.W.nsIn K mainGlobals "price" = some (some (.ref f40))) (l40 : K.lookup f40 = some ⟨oc40, od40, .func (PySem.W.fnOf "price" "price" (defArgs sPrice) (defBody sPrice) (defScope sPrice) .none kV40 dc40 pm40 an40 (.ref cc40) ct40), sl40⟩) (c40 : PySem.W.codeIn K (.ref cc40) "price" = true) (k40 : PySem.W.keepIn K (.ref f40) = true)
    (a43 : PySem.W.nsIn K mainGlobals "road_lates" = some (some (.ref f43))) (l43 : K.lookup f43 = some ⟨oc43, od43, .func (PySem.W.fnOf "road_lates" "road_lates" (defArgs sLates) (defBody sLates) (defScope sLates) .none kV43 dc43 pm43 an43 cd43 ct43), sl43⟩) (c43 : PySem.W.codeIn K cd43 "road_lates" = true) (k43 : PySem.W.keepIn K (.ref f43) = true)
    (a44 : PySem.W.nsIn K mainGlobals "lateness_up" = some (some (.ref f44))) (l44 : K.lookup f44 = some ⟨oc44, od44, .func (PySem.W.fnOf "lateness_up" "lateness_up" (defArgs sUp) (defBody sUp) (defScope sUp) .none kV44 dc44 pm44 an44 cd44 ct44), sl44⟩) (c44 : PySem.W.codeIn K cd44 "lateness_up" = true) (k44 : PySem.W.keepIn K (.ref f44) = true)
    (a45 : PySem.W.nsIn K mainGlobals "lateness" = some (some (.ref f45))) (l45 : K.lookup f45 = some ⟨oc45, od45, .func (PySem.W.fnOf "lateness" "lateness" (defArgs sLateness) (defBody sLateness) (defScope sLateness) .none kV45 dc45 pm45 an45 cd45 ct45), sl45⟩) (c45 : PySem.W.codeIn K cd45 "lateness" = true) (k45 : PySem.W.keepIn K (.ref f45) = true)
    (a47 : PySem.W.nsIn K mainGlobals "ways_from_tree" = some (some (.ref f47))) (l47 : K.lookup f47 = some ⟨oc47, od47, .func (PySem.W.fnOf "ways_from_tree" "ways_from_tree" (defArgs sWft) (defBody sWft) (defScope sWft) .none kV47 dc47 pm47 an47 cd47 ct47), sl47⟩) (c47 : PySem.W.codeIn K cd47 "ways_from_tree" = true) (k47 : PySem.W.keepIn K (.ref f47) = true)
    (a48 : PySem.W.nsIn K mainGlobals "graft" = some (some (.ref f48))) (l48 : K.lookup f48 = some ⟨oc48, od48, .func (PySem.W.fnOf "graft" "graft" (defArgs sGraft) (defBody sGraft) (defScope sGraft) .none kV48 dc48 pm48 an48 cd48 ct48), sl48⟩) (c48 : PySem.W.codeIn K cd48 "graft" = true) (k48 : PySem.W.keepIn K (.ref f48) = true)
    (a50 : PySem.W.nsIn K mainGlobals "are_prices" = some (some (.ref f50))) (l50 : K.lookup f50 = some ⟨oc50, od50, .func (PySem.W.fnOf "are_prices" "are_prices" (defArgs sAreQ) (defBody sAreQ) (defScope sAreQ) .none kV50 dc50 pm50 an50 (.ref cc50) ct50), sl50⟩) (c50 : PySem.W.codeIn K (.ref cc50) "are_prices" = true) (k50 : PySem.W.keepIn K (.ref f50) = true)
    (a52 : PySem.W.nsIn K mainGlobals "trimmed" = some (some (.ref f52))) (l52 : K.lookup f52 = some ⟨oc52, od52, .func (PySem.W.fnOf "trimmed" "trimmed" (defArgs sTrimmed) (defBody sTrimmed) (defScope sTrimmed) .none kV52 dc52 pm52 an52 cd52 ct52), sl52⟩) (c52 : PySem.W.codeIn K cd52 "trimmed" = true) (k52 : PySem.W.keepIn K (.ref f52) = true)
    (a53 : PySem.W.nsIn K mainGlobals "cut" = some (some (.ref f53))) (l53 : K.lookup f53 = some ⟨oc53, od53, .func (PySem.W.fnOf "cut" "cut" (defArgs sCut) (defBody sCut) (defScope sCut) .none kV53 dc53 pm53 an53 cd53 ct53), sl53⟩) (c53 : PySem.W.codeIn K cd53 "cut" = true) (k53 : PySem.W.keepIn K (.ref f53) = true)
    (a56 : PySem.W.nsIn K mainGlobals "_law_b_door" = some (some (.ref f56))) (l56 : K.lookup f56 = some ⟨oc56, od56, .func (PySem.W.fnOf "_law_b_door" "_law_b_door" (defArgs sDoor) (defBody sDoor) (defScope sDoor) .none kV56 dc56 pm56 an56 cd56 ct56), sl56⟩) (c56 : PySem.W.codeIn K cd56 "_law_b_door" = true) (k56 : PySem.W.keepIn K (.ref f56) = true)
    (a57 : PySem.W.nsIn K mainGlobals "_law_b_kind" = some (some (.ref f57))) (l57 : K.lookup f57 = some ⟨oc57, od57, .func (PySem.W.fnOf "_law_b_kind" "_law_b_kind" (defArgs sKind) (defBody sKind) (defScope sKind) .none kV57 dc57 pm57 an57 cd57 ct57), sl57⟩) (c57 : PySem.W.codeIn K cd57 "_law_b_kind" = true) (k57 : PySem.W.keepIn K (.ref f57) = true)
    (a58 : PySem.W.nsIn K mainGlobals "_law_b_word" = some (some (.ref f58))) (l58 : K.lookup f58 = some ⟨oc58, od58, .func (PySem.W.fnOf "_law_b_word" "_law_b_word" (defArgs sWord) (defBody sWord) (defScope sWord) .none kV58 dc58 pm58 an58 cd58 ct58), sl58⟩) (c58 : PySem.W.codeIn K cd58 "_law_b_word" = true) (k58 : PySem.W.keepIn K (.ref f58) = true)
    (a59 : PySem.W.nsIn K mainGlobals "_law_b_road" = some (some (.ref f59))) (l59 : K.lookup f59 = some ⟨oc59, od59, .func (PySem.W.fnOf "_law_b_road" "_law_b_road" (defArgs sRoadL) (defBody sRoadL) (defScope sRoadL) .none kV59 dc59 pm59 an59 cd59 ct59), sl59⟩) (c59 : PySem.W.codeIn K cd59 "_law_b_road" = true) (k59 : PySem.W.keepIn K (.ref f59) = true)
    (a60 : PySem.W.nsIn K mainGlobals "_law_b_no_trees" = some (some (.ref f60))) (l60 : K.lookup f60 = some ⟨oc60, od60, .func (PySem.W.fnOf "_law_b_no_trees" "_law_b_no_trees" (defArgs sNoTrees) (defBody sNoTrees) (defScope sNoTrees) .none kV60 dc60 pm60 an60 cd60 ct60), sl60⟩) (c60 : PySem.W.codeIn K cd60 "_law_b_no_trees" = true) (k60 : PySem.W.keepIn K (.ref f60) = true)
    (a61 : PySem.W.nsIn K mainGlobals "_law_b_row_door" = some (some (.ref f61))) (l61 : K.lookup f61 = some ⟨oc61, od61, .func (PySem.W.fnOf "_law_b_row_door" "_law_b_row_door" (defArgs sRowDoor) (defBody sRowDoor) (defScope sRowDoor) .none kV61 dc61 pm61 an61 cd61 ct61), sl61⟩) (c61 : PySem.W.codeIn K cd61 "_law_b_row_door" = true) (k61 : PySem.W.keepIn K (.ref f61) = true)
    (a62 : PySem.W.nsIn K mainGlobals "_law_b_row_word" = some (some (.ref f62))) (l62 : K.lookup f62 = some ⟨oc62, od62, .func (PySem.W.fnOf "_law_b_row_word" "_law_b_row_word" (defArgs sRowWord) (defBody sRowWord) (defScope sRowWord) .none kV62 dc62 pm62 an62 cd62 ct62), sl62⟩) (c62 : PySem.W.codeIn K cd62 "_law_b_row_word" = true) (k62 : PySem.W.keepIn K (.ref f62) = true)
    (a63 : PySem.W.nsIn K mainGlobals "_law_b_rows_refused" = some (some (.ref f63))) (l63 : K.lookup f63 = some ⟨oc63, od63, .func (PySem.W.fnOf "_law_b_rows_refused" "_law_b_rows_refused" (defArgs sRows) (defBody sRows) (defScope sRows) .none kV63 dc63 pm63 an63 cd63 ct63), sl63⟩) (c63 : PySem.W.codeIn K cd63 "_law_b_rows_refused" = true) (k63 : PySem.W.keepIn K (.ref f63) = true)
    (a64 : PySem.W.nsIn K mainGlobals "law" = some (some (.ref f64))) (l64 : K.lookup f64 = some ⟨oc64, od64, .func (PySem.W.fnOf "law" "law" (defArgs sLaw) (defBody sLaw) (defScope sLaw) .none kV64 dc64 pm64 an64 cd64 ct64), sl64⟩) (c64 : PySem.W.codeIn K cd64 "law" = true) (k64 : PySem.W.keepIn K (.ref f64) = true)
    (z0 : PySem.W.nsIn K mainGlobals "len" = some none)
    (z1 : PySem.W.nsIn K mainGlobals "range" = some none)
    (z2 : PySem.W.nsIn K mainGlobals "tuple" = some none)
    (z3 : PySem.W.nsIn K mainGlobals "isinstance" = some none)
    (z4 : PySem.W.nsIn K mainGlobals "int" = some none)
    (z5 : PySem.W.nsIn K mainGlobals "bool" = some none)
    (z6 : PySem.W.nsIn K mainGlobals "zip" = some none)
    (z7 : PySem.W.nsIn K mainGlobals "all" = some none)
    (z8 : PySem.W.nsIn K mainGlobals "dict" = some none)
    (z9 : PySem.W.nsIn K mainGlobals "any" = some none)
    (z10 : PySem.W.nsIn K mainGlobals "list" = some none)
    (z11 : PySem.W.nsIn K mainGlobals "sum" = some none)
    (z12 : PySem.W.nsIn K mainGlobals "ValueError" = some none)
    (y0 : PySem.W.nsIn K mainGlobals "MOST_PRICE" = some (some (.int 1000 t1)))
    (y1 : PySem.W.nsIn K mainGlobals "LEAST_LATE" = some (some (.int 1 t2)))
    (y2 : PySem.W.nsIn K mainGlobals "MOST_LATE" = some (some (.int 1000 t3)))
    (y3 : PySem.W.nsIn K mainGlobals "MOST_PLACES" = some (some (.int 12 t4)))
    (xa1 : PySem.W.nsIn K mainGlobals "NoNet" = some (some (.ref C1)))
    (xa2 : PySem.W.nsIn K mainGlobals "NoPlace" = some (some (.ref C2)))
    (xa3 : PySem.W.nsIn K mainGlobals "NoTree" = some (some (.ref C3)))
    (xa4 : PySem.W.nsIn K mainGlobals "NoWays" = some (some (.ref C4)))
    (xa5 : PySem.W.nsIn K mainGlobals "NoDeed" = some (some (.ref C5)))
    (xa6 : PySem.W.nsIn K mainGlobals "NoEvents" = some (some (.ref C6)))
    (xa7 : PySem.W.nsIn K mainGlobals "NoKept" = some (some (.ref C7)))
    (xa8 : PySem.W.nsIn K mainGlobals "TooMany" = some (some (.ref C8)))
    (xa9 : PySem.W.nsIn K mainGlobals "NoText" = some (some (.ref C9)))
    (xa10 : PySem.W.nsIn K mainGlobals "NoRow" = some (some (.ref C10)))
    (xa11 : PySem.W.nsIn K mainGlobals "NoName" = some (some (.ref C11)))
    (xa12 : PySem.W.nsIn K mainGlobals "HearError" = some (some (.ref C12)))
    (xk1 : PySem.W.keepIn K (.ref C1) = true)
    (xs1 : PySem.W.subIn K (.ref C1) (.type "BaseException") = some true)
    (xt1 : PySem.W.typeIn K (.ref C1) = some (.type "type"))
    (xg1 : PySem.W.findIn K (.ref C1) "__getattribute__" = some (some (.builtin "BaseException.__getattribute__")))
    (xh1 : PySem.W.findIn K (.ref C1) "__getattr__" = some none)
    (xd1 : PySem.W.hasDictIn K C1 = true)
    (xc1 : PySem.W.findIn K (.ref C1) "__class__" = some (some (.builtin "object.__class__")))
    (xm1 : PySem.W.mroIn K C1 (.type "object") = some true)
    (xe1 : PySem.W.excIn K C1 [.type "ValueError", .type "Exception", .type "BaseException", .type "object"] "ValueError.__new__" = true)
    (xq1 : kitB K C1 (kCls C1 C2 C3 C4 C5 C6 C7 C8 C9 C10 C11 true false false) = true)
    (xv1 : PySem.W.kitOne K (.ref C1) (.type "ValueError") = some true)
    (xx1 : PySem.W.exmOne K (.ref C1) (.ref C12) = some true)
    (xk2 : PySem.W.keepIn K (.ref C2) = true)
    (xs2 : PySem.W.subIn K (.ref C2) (.type "BaseException") = some true)
    (xt2 : PySem.W.typeIn K (.ref C2) = some (.type "type"))
    (xg2 : PySem.W.findIn K (.ref C2) "__getattribute__" = some (some (.builtin "BaseException.__getattribute__")))
    (xh2 : PySem.W.findIn K (.ref C2) "__getattr__" = some none)
    (xd2 : PySem.W.hasDictIn K C2 = true)
    (xc2 : PySem.W.findIn K (.ref C2) "__class__" = some (some (.builtin "object.__class__")))
    (xm2 : PySem.W.mroIn K C2 (.type "object") = some true)
    (xe2 : PySem.W.excIn K C2 [.type "ValueError", .type "Exception", .type "BaseException", .type "object"] "ValueError.__new__" = true)
    (xq2 : kitB K C2 (kCls C1 C2 C3 C4 C5 C6 C7 C8 C9 C10 C11 false true false) = true)
    (xv2 : PySem.W.kitOne K (.ref C2) (.type "ValueError") = some true)
    (xx2 : PySem.W.exmOne K (.ref C2) (.ref C12) = some true)
    (xk3 : PySem.W.keepIn K (.ref C3) = true)
    (xs3 : PySem.W.subIn K (.ref C3) (.type "BaseException") = some true)
    (xt3 : PySem.W.typeIn K (.ref C3) = some (.type "type"))
    (xg3 : PySem.W.findIn K (.ref C3) "__getattribute__" = some (some (.builtin "BaseException.__getattribute__")))
    (xh3 : PySem.W.findIn K (.ref C3) "__getattr__" = some none)
    (xd3 : PySem.W.hasDictIn K C3 = true)
    (xc3 : PySem.W.findIn K (.ref C3) "__class__" = some (some (.builtin "object.__class__")))
    (xm3 : PySem.W.mroIn K C3 (.type "object") = some true)
    (xe3 : PySem.W.excIn K C3 [.type "ValueError", .type "Exception", .type "BaseException", .type "object"] "ValueError.__new__" = true)
    (xq3 : kitB K C3 (kCls C1 C2 C3 C4 C5 C6 C7 C8 C9 C10 C11 false false true) = true)
    (xv3 : PySem.W.kitOne K (.ref C3) (.type "ValueError") = some true)
    (xx3 : PySem.W.exmOne K (.ref C3) (.ref C12) = some true)
    (xn0 : PySem.W.specialIn K (.builtin "object.__class__") "__get__" = some (some (.builtin "getset_descriptor.__get__")))
    (xw0 : PySem.W.takesIn K (.builtin "object.__class__") = some true)
    (xy0 : C1 ≠ C2 ∧ C1 ≠ C3 ∧ C2 ≠ C3)
    (w10 : K.lookup cc10 = some ⟨e10, dd10, .fields vs10, sc10⟩) (v10 : vs10[11]? = some (.ref P10)) (n10 : K.lookup P10 = none) (q10 : ((recsOf q).any fun e => e.name == ("is_net" : Str)) = true) (w9 : K.lookup cc9 = some ⟨e9, dd9, .fields vs9, sc9⟩) (v9 : vs9[11]? = some (.ref P9)) (n9 : K.lookup P9 = none) (q9 : ((recsOf q).any fun e => e.name == ("rises" : Str)) = true) (w14 : K.lookup cc14 = some ⟨e14, dd14, .fields vs14, sc14⟩) (v14 : vs14[11]? = some (.ref P14)) (n14 : K.lookup P14 = none) (q14 : ((recsOf q).any fun e => e.name == ("are_whole_pairs" : Str)) = true) (w17 : K.lookup cc17 = some ⟨e17, dd17, .fields vs17, sc17⟩) (v17 : vs17[11]? = some (.ref P17)) (n17 : K.lookup P17 = none) (q17 : ((recsOf q).any fun e => e.name == ("grows" : Str)) = true) (w31 : K.lookup cc31 = some ⟨e31, dd31, .fields vs31, sc31⟩) (v31 : vs31[11]? = some (.ref P31)) (n31 : K.lookup P31 = none) (q31 : ((recsOf q).any fun e => e.name == ("are_places" : Str)) = true) (w35 : K.lookup cc35 = some ⟨e35, dd35, .fields vs35, sc35⟩) (v35 : vs35[11]? = some (.ref P35)) (n35 : K.lookup P35 = none) (q35 : ((recsOf q).any fun e => e.name == ("serves" : Str)) = true) (w36 : K.lookup cc36 = some ⟨e36, dd36, .fields vs36, sc36⟩) (v36 : vs36[11]? = some (.ref P36)) (n36 : K.lookup P36 = none) (q36 : ((recsOf q).any fun e => e.name == ("is_trim" : Str)) = true) (w40 : K.lookup cc40 = some ⟨e40, dd40, .fields vs40, sc40⟩) (v40 : vs40[11]? = some (.ref P40)) (n40 : K.lookup P40 = none) (q40 : ((recsOf q).any fun e => e.name == ("price" : Str)) = true) (w50 : K.lookup cc50 = some ⟨e50, dd50, .fields vs50, sc50⟩) (v50 : vs50[11]? = some (.ref P50)) (n50 : K.lookup P50 = none) (q50 : ((recsOf q).any fun e => e.name == ("are_prices" : Str)) = true) (w32 : K.lookup cc32 = some ⟨e32, dd32, .fields vs32, sc32⟩) (v32 : vs32[11]? = some (.ref P32)) (n32 : K.lookup P32 = none) (q32 : ((recsOf q).any fun e => e.name == ("is_closed" : Str)) = true) (w27 : K.lookup cc27 = some ⟨e27, dd27, .fields vs27, sc27⟩) (v27 : vs27[11]? = some (.ref P27)) (n27 : K.lookup P27 = none) (q27 : ((recsOf q).any fun e => e.name == ("is_attained" : Str)) = true) (w28 : K.lookup cc28 = some ⟨e28, dd28, .fields vs28, sc28⟩) (v28 : vs28[11]? = some (.ref P28)) (n28 : K.lookup P28 = none) (q28 : ((recsOf q).any fun e => e.name == ("are_earliest" : Str)) = true) :
    LamX.LawAtS l w K CX0 11 63 "script" mg fa h := by
  have e := hfa.symm.trans (PySem.W.mg_of X G a64)
  cases e
  have F1 := fun_mk (st := sSpread) l1 c1 k1
  have F2 := fun_mk (st := sDigit) l2 c2 k2
  have F3 := fun_mk (st := sNet) l3 c3 k3
  have F4 := fun_mk (st := sSome) l4 c4 k4
  have F5 := fun_mk (st := sGrown) l5 c5 k5
  have F6 := fun_mk (st := sWhole) l6 c6 k6
  have F7 := fun_mk (st := sWithin) l7 c7 k7
  have F8 := fun_mk (st := sIsRoad) l8 c8 k8
  have F9 := func_mk (st := sRises) l9 c9 k9
  have F10 := func_mk (st := sIsNet) l10 c10 k10
  have F11 := fun_mk (st := sNeedNet) l11 c11 k11
  have F12 := fun_mk (st := sIsPlace) l12 c12 k12
  have F13 := fun_mk (st := sNeedPlace) l13 c13 k13
  have F14 := func_mk (st := sPairs) l14 c14 k14
  have F15 := fun_mk (st := sPrices) l15 c15 k15
  have F16 := fun_mk (st := sLeads) l16 c16 k16
  have F17 := func_mk (st := sGrows) l17 c17 k17
  have F18 := fun_mk (st := sIsTree) l18 c18 k18
  have F22 := fun_mk (st := sUnder) l22 c22 k22
  have F23 := fun_mk (st := sEarly) l23 c23 k23
  have F25 := fun_mk (st := sWays) l25 c25 k25
  have F27 := func_mk (st := sAtt) l27 c27 k27
  have F28 := func_mk (st := sAreE) l28 c28 k28
  have F31 := func_mk (st := sAreP) l31 c31 k31
  have F32 := func_mk (st := sIsClosed) l32 c32 k32
  have F34 := fun_mk (st := sNeedH) l34 c34 k34
  have F35 := func_mk (st := sServes) l35 c35 k35
  have F36 := func_mk (st := sIsTrim) l36 c36 k36
  have F39 := fun_mk (st := sNeedTree) l39 c39 k39
  have F40 := func_mk (st := sPrice) l40 c40 k40
  have F43 := fun_mk (st := sLates) l43 c43 k43
  have F44 := fun_mk (st := sUp) l44 c44 k44
  have F45 := fun_mk (st := sLateness) l45 c45 k45
  have F47 := fun_mk (st := sWft) l47 c47 k47
  have F48 := fun_mk (st := sGraft) l48 c48 k48
  have F50 := func_mk (st := sAreQ) l50 c50 k50
  have F52 := fun_mk (st := sTrimmed) l52 c52 k52
  have F53 := fun_mk (st := sCut) l53 c53 k53
  have F56 := fun_mk (st := sDoor) l56 c56 k56
  have F57 := fun_mk (st := sKind) l57 c57 k57
  have F58 := fun_mk (st := sWord) l58 c58 k58
  have F59 := fun_mk (st := sRoadL) l59 c59 k59
  have F60 := fun_mk (st := sNoTrees) l60 c60 k60
  have F61 := fun_mk (st := sRowDoor) l61 c61 k61
  have F62 := fun_mk (st := sRowWord) l62 c62 k62
  have F63 := fun_mk (st := sRows) l63 c63 k63
  have F64 := fun_mk (st := sLaw) l64 c64 k64
  have b1 := F1.binds (ps := ["cell", "place"]) fun _ _ _ _ _ _ us hl => match us, hl with | [_, _], _ => rfl
  have b2 := F2.binds (ps := ["tape", "many"]) fun _ _ _ _ _ _ us hl => match us, hl with | [_, _], _ => rfl
  have b3 := F3.binds (ps := ["tape", "most"]) fun _ _ _ _ _ _ us hl => match us, hl with | [_, _], _ => rfl
  have b4 := F4.binds (ps := ["tape", "row"]) fun _ _ _ _ _ _ us hl => match us, hl with | [_, _], _ => rfl
  have b5 := F5.binds (ps := ["tape", "net", "root"]) fun _ _ _ _ _ _ us hl => match us, hl with | [_, _, _], _ => rfl
  have b6 := F6.binds (ps := ["thing"]) fun _ _ _ _ _ _ us hl => match us, hl with | [_], _ => rfl
  have b7 := F7.binds (ps := ["thing", "least", "greatest"]) fun _ _ _ _ _ _ us hl => match us, hl with | [_, _, _], _ => rfl
  have b8 := F8.binds (ps := ["many", "thing"]) fun _ _ _ _ _ _ us hl => match us, hl with | [_, _], _ => rfl
  have b9 := F9.toFun.binds (ps := ["row"]) fun _ _ _ _ _ _ us hl => match us, hl with | [_], _ => rfl
  have b10 := F10.toFun.binds (ps := ["thing"]) fun _ _ _ _ _ _ us hl => match us, hl with | [_], _ => rfl
  have b11 := F11.binds (ps := ["net"]) fun _ _ _ _ _ _ us hl => match us, hl with | [_], _ => rfl
  have b12 := F12.binds (ps := ["net", "thing"]) fun _ _ _ _ _ _ us hl => match us, hl with | [_, _], _ => rfl
  have b13 := F13.binds (ps := ["net", "place"]) fun _ _ _ _ _ _ us hl => match us, hl with | [_, _], _ => rfl
  have b14 := F14.toFun.binds (ps := ["thing"]) fun _ _ _ _ _ _ us hl => match us, hl with | [_], _ => rfl
  have b15 := F15.binds (ps := ["net"]) fun _ _ _ _ _ _ us hl => match us, hl with | [_], _ => rfl
  have b16 := F16.binds (ps := ["root", "ahead", "place"]) fun _ _ _ _ _ _ us hl => match us, hl with | [_, _, _], _ => rfl
  have b17 := F17.toFun.binds (ps := ["net", "root", "ahead"]) fun _ _ _ _ _ _ us hl => match us, hl with | [_, _, _], _ => rfl
  have b18 := F18.binds (ps := ["net", "root", "ahead"]) fun _ _ _ _ _ _ us hl => match us, hl with | [_, _, _], _ => rfl
  have b22 := F22.binds (ps := ["numbers", "start", "end", "more"]) fun _ _ _ _ _ _ us hl => match us, hl with | [_, _, _, _], _ => rfl
  have b23 := F23.binds (ps := ["net", "root"]) fun _ _ _ _ _ _ us hl => match us, hl with | [_, _], _ => rfl
  have b25 := F25.binds (ps := ["net", "root"]) fun _ _ _ _ _ _ us hl => match us, hl with | [_, _], _ => rfl
  have b27 := F27.toFun.binds (ps := ["net", "numbers", "place"]) fun _ _ _ _ _ _ us hl => match us, hl with | [_, _, _], _ => rfl
  have b28 := F28.toFun.binds (ps := ["net", "root", "numbers"]) fun _ _ _ _ _ _ us hl => match us, hl with | [_, _, _], _ => rfl
  have b31 := F31.toFun.binds (ps := ["net", "thing"]) fun _ _ _ _ _ _ us hl => match us, hl with | [_, _], _ => rfl
  have b32 := F32.toFun.binds (ps := ["net", "root", "places"]) fun _ _ _ _ _ _ us hl => match us, hl with | [_, _, _], _ => rfl
  have b34 := F34.binds (ps := ["net", "hearers"]) fun _ _ _ _ _ _ us hl => match us, hl with | [_, _], _ => rfl
  have b35 := F35.toFun.binds (ps := ["root", "hearers", "ahead"]) fun _ _ _ _ _ _ us hl => match us, hl with | [_, _, _], _ => rfl
  have b36 := F36.toFun.binds (ps := ["net", "root", "hearers", "ahead"]) fun _ _ _ _ _ _ us hl => match us, hl with | [_, _, _, _], _ => rfl
  have b39 := F39.binds (ps := ["net", "root", "ahead"]) fun _ _ _ _ _ _ us hl => match us, hl with | [_, _, _], _ => rfl
  have b40 := F40.toFun.binds (ps := ["net", "root", "ahead"]) fun _ _ _ _ _ _ us hl => match us, hl with | [_, _, _], _ => rfl
  have b43 := F43.binds (ps := ["net"]) fun _ _ _ _ _ _ us hl => match us, hl with | [_], _ => rfl
  have b44 := F44.binds (ps := ["lates", "root", "ahead", "place"]) fun _ _ _ _ _ _ us hl => match us, hl with | [_, _, _, _], _ => rfl
  have b45 := F45.binds (ps := ["net", "root", "ahead"]) fun _ _ _ _ _ _ us hl => match us, hl with | [_, _, _], _ => rfl
  have b47 := F47.binds (ps := ["net", "root", "ahead"]) fun _ _ _ _ _ _ us hl => match us, hl with | [_, _, _], _ => rfl
  have b48 := F48.binds (ps := ["net", "root", "ahead", "place"]) fun _ _ _ _ _ _ us hl => match us, hl with | [_, _, _, _], _ => rfl
  have b50 := F50.toFun.binds (ps := ["net", "root", "ahead", "numbers"]) fun _ _ _ _ _ _ us hl => match us, hl with | [_, _, _, _], _ => rfl
  have b52 := F52.binds (ps := ["hearers", "ahead"]) fun _ _ _ _ _ _ us hl => match us, hl with | [_, _], _ => rfl
  have b53 := F53.binds (ps := ["net", "root", "hearers", "ahead"]) fun _ _ _ _ _ _ us hl => match us, hl with | [_, _, _, _], _ => rfl
  have b56 := F56.binds (ps := ["way", "net", "root", "place", "ahead"]) fun _ _ _ _ _ _ us hl => match us, hl with | [_, _, _, _, _], _ => rfl
  have b57 := F57.binds (ps := ["e"]) fun _ _ _ _ _ _ us hl => match us, hl with | [_], _ => rfl
  have b58 := F58.binds (ps := ["way", "net", "root", "place", "ahead"]) fun _ _ _ _ _ _ us hl => match us, hl with | [_, _, _, _, _], _ => rfl
  have b59 := F59.binds (ps := ["net", "i", "j"]) fun _ _ _ _ _ _ us hl => match us, hl with | [_, _, _], _ => rfl
  have b60 := F60.binds (ps := ["net", "root", "ahead", "far"]) fun _ _ _ _ _ _ us hl => match us, hl with | [_, _, _, _], _ => rfl
  have b61 := F61.binds (ps := ["way", "net", "root", "row", "ahead"]) fun _ _ _ _ _ _ us hl => match us, hl with | [_, _, _, _, _], _ => rfl
  have b62 := F62.binds (ps := ["way", "net", "root", "row", "ahead"]) fun _ _ _ _ _ _ us hl => match us, hl with | [_, _, _, _, _], _ => rfl
  have b63 := F63.binds (ps := ["net", "root", "ahead", "far"]) fun _ _ _ _ _ _ us hl => match us, hl with | [_, _, _, _], _ => rfl
  have g1 := PySem.W.mg_of X G a1
  have g2 := PySem.W.mg_of X G a2
  have g3 := PySem.W.mg_of X G a3
  have g4 := PySem.W.mg_of X G a4
  have g5 := PySem.W.mg_of X G a5
  have g6 := PySem.W.mg_of X G a6
  have g7 := PySem.W.mg_of X G a7
  have g8 := PySem.W.mg_of X G a8
  have g9 := PySem.W.mg_of X G a9
  have g10 := PySem.W.mg_of X G a10
  have g11 := PySem.W.mg_of X G a11
  have g12 := PySem.W.mg_of X G a12
  have g13 := PySem.W.mg_of X G a13
  have g14 := PySem.W.mg_of X G a14
  have g15 := PySem.W.mg_of X G a15
  have g16 := PySem.W.mg_of X G a16
  have g17 := PySem.W.mg_of X G a17
  have g18 := PySem.W.mg_of X G a18
  have g22 := PySem.W.mg_of X G a22
  have g23 := PySem.W.mg_of X G a23
  have g25 := PySem.W.mg_of X G a25
  have g27 := PySem.W.mg_of X G a27
  have g28 := PySem.W.mg_of X G a28
  have g31 := PySem.W.mg_of X G a31
  have g32 := PySem.W.mg_of X G a32
  have g34 := PySem.W.mg_of X G a34
  have g35 := PySem.W.mg_of X G a35
  have g36 := PySem.W.mg_of X G a36
  have g39 := PySem.W.mg_of X G a39
  have g40 := PySem.W.mg_of X G a40
  have g43 := PySem.W.mg_of X G a43
  have g44 := PySem.W.mg_of X G a44
  have g45 := PySem.W.mg_of X G a45
  have g47 := PySem.W.mg_of X G a47
  have g48 := PySem.W.mg_of X G a48
  have g50 := PySem.W.mg_of X G a50
  have g52 := PySem.W.mg_of X G a52
  have g53 := PySem.W.mg_of X G a53
  have g56 := PySem.W.mg_of X G a56
  have g57 := PySem.W.mg_of X G a57
  have g58 := PySem.W.mg_of X G a58
  have g59 := PySem.W.mg_of X G a59
  have g60 := PySem.W.mg_of X G a60
  have g61 := PySem.W.mg_of X G a61
  have g62 := PySem.W.mg_of X G a62
  have g63 := PySem.W.mg_of X G a63
  have g64 := PySem.W.mg_of X G a64
  have m0 := PySem.W.mg_none_of X G z0
  have m1 := PySem.W.mg_none_of X G z1
  have m2 := PySem.W.mg_none_of X G z2
  have m3 := PySem.W.mg_none_of X G z3
  have m4 := PySem.W.mg_none_of X G z4
  have m5 := PySem.W.mg_none_of X G z5
  have m6 := PySem.W.mg_none_of X G z6
  have m7 := PySem.W.mg_none_of X G z7
  have m8 := PySem.W.mg_none_of X G z8
  have m9 := PySem.W.mg_none_of X G z9
  have m10 := PySem.W.mg_none_of X G z10
  have m11 := PySem.W.mg_none_of X G z11
  have m12 := PySem.W.mg_none_of X G z12
  have u0 := PySem.W.mg_of X G y0
  have u1 := PySem.W.mg_of X G y1
  have u2 := PySem.W.mg_of X G y2
  have u3 := PySem.W.mg_of X G y3
  have c1 := PySem.W.mg_of X G xa1
  have c2 := PySem.W.mg_of X G xa2
  have c3 := PySem.W.mg_of X G xa3
  have c4 := PySem.W.mg_of X G xa4
  have c5 := PySem.W.mg_of X G xa5
  have c6 := PySem.W.mg_of X G xa6
  have c7 := PySem.W.mg_of X G xa7
  have c8 := PySem.W.mg_of X G xa8
  have c9 := PySem.W.mg_of X G xa9
  have c10 := PySem.W.mg_of X G xa10
  have c11 := PySem.W.mg_of X G xa11
  have c12 := PySem.W.mg_of X G xa12
  have hX1 : XCls K mg "NoNet" C1 := ⟨⟨_, _, _, _, PySem.F.excBase_ValueError, xe1⟩, c1, xk1, xs1, xt1⟩
  have hH1 : HearC K C1 C12 (kCls C1 C2 C3 C4 C5 C6 C7 C8 C9 C10 C11 true false false) := ⟨⟨⟨xg1, xh1, xs1, xd1, xc1, xn0, xw0, xm1⟩, kitB_all xq1, xv1⟩, xx1⟩
  have hX2 : XCls K mg "NoPlace" C2 := ⟨⟨_, _, _, _, PySem.F.excBase_ValueError, xe2⟩, c2, xk2, xs2, xt2⟩
  have hH2 : HearC K C2 C12 (kCls C1 C2 C3 C4 C5 C6 C7 C8 C9 C10 C11 false true false) := ⟨⟨⟨xg2, xh2, xs2, xd2, xc2, xn0, xw0, xm2⟩, kitB_all xq2, xv2⟩, xx2⟩
  have hX3 : XCls K mg "NoTree" C3 := ⟨⟨_, _, _, _, PySem.F.excBase_ValueError, xe3⟩, c3, xk3, xs3, xt3⟩
  have hH3 : HearC K C3 C12 (kCls C1 C2 C3 C4 C5 C6 C7 C8 C9 C10 C11 false false true) := ⟨⟨⟨xg3, xh3, xs3, xd3, xc3, xn0, xw0, xm3⟩, kitB_all xq3, xv3⟩, xx3⟩
  have hne := xy0
  obtain ⟨hc10, hp10⟩ := tab_of X T q10 g10 l10 rfl rfl w10 v10
  obtain ⟨hc9, hp9⟩ := tab_of X T q9 g9 l9 rfl rfl w9 v9
  obtain ⟨hc14, hp14⟩ := tab_of X T q14 g14 l14 rfl rfl w14 v14
  obtain ⟨hc17, hp17⟩ := tab_of X T q17 g17 l17 rfl rfl w17 v17
  obtain ⟨hc31, hp31⟩ := tab_of X T q31 g31 l31 rfl rfl w31 v31
  obtain ⟨hc35, hp35⟩ := tab_of X T q35 g35 l35 rfl rfl w35 v35
  obtain ⟨hc36, hp36⟩ := tab_of X T q36 g36 l36 rfl rfl w36 v36
  obtain ⟨hc40, hp40⟩ := tab_of X T q40 g40 l40 rfl rfl w40 v40
  obtain ⟨hc50, hp50⟩ := tab_of X T q50 g50 l50 rfl rfl w50 v50
  obtain ⟨hc32, hp32⟩ := tab_of X T q32 g32 l32 rfl rfl w32 v32
  obtain ⟨hc27, hp27⟩ := tab_of X T q27 g27 l27 rfl rfl w27 v27
  obtain ⟨hc28, hp28⟩ := tab_of X T q28 g28 l28 rfl rfl w28 v28
  refine ⟨PySem.W.fnOf "law" "law" (defArgs sLaw) (defBody sLaw) (defScope sLaw) .none kV64 dc64 pm64 an64 cd64 ct64, [(cc10, P10), (cc9, P9), (cc14, P14), (cc17, P17), (cc31, P31), (cc35, P35), (cc36, P36), (cc40, P40), (cc50, P50), (cc32, P32), (cc27, P27), (cc28, P28)], spLaw K P10 P9 P14 P17 P31 P35 P36 P40 P50 P32 P27 P28, fun p hp => ?_, fun p hp => ?_, fun p hp => ?_, fun s v => .of_eq rfl, fun H a ns _ _ hH hS => ?_, fun base hK hN hB => ?_⟩
  · simp only [List.mem_cons, List.not_mem_nil, or_false] at hp
    rcases hp with rfl | rfl | rfl | rfl | rfl | rfl | rfl | rfl | rfl | rfl | rfl | rfl
    · exact hp10
    · exact hp9
    · exact hp14
    · exact hp17
    · exact hp31
    · exact hp35
    · exact hp36
    · exact hp40
    · exact hp50
    · exact hp32
    · exact hp27
    · exact hp28
  · simp only [List.mem_cons, List.not_mem_nil, or_false] at hp
    rcases hp with rfl | rfl | rfl | rfl | rfl | rfl | rfl | rfl | rfl | rfl | rfl | rfl
    · exact n10
    · exact n9
    · exact n14
    · exact n17
    · exact n31
    · exact n35
    · exact n36
    · exact n40
    · exact n50
    · exact n32
    · exact n27
    · exact n28
  · simp only [List.mem_cons, List.not_mem_nil, or_false] at hp
    rcases hp with rfl | rfl | rfl | rfl | rfl | rfl | rfl | rfl | rfl | rfl | rfl | rfl
    · exact hc10
    · exact hc9
    · exact hc14
    · exact hc17
    · exact hc31
    · exact hc35
    · exact hc36
    · exact hc40
    · exact hc50
    · exact hc32
    · exact hc27
    · exact hc28
  · have t10 : H P10 = some (.tbl #[]) := hH (cc10, P10) (by simp)
    have t9 : H P9 = some (.tbl #[]) := hH (cc9, P9) (by simp)
    have t14 : H P14 = some (.tbl #[]) := hH (cc14, P14) (by simp)
    have t17 : H P17 = some (.tbl #[]) := hH (cc17, P17) (by simp)
    have t31 : H P31 = some (.tbl #[]) := hH (cc31, P31) (by simp)
    have t35 : H P35 = some (.tbl #[]) := hH (cc35, P35) (by simp)
    have t36 : H P36 = some (.tbl #[]) := hH (cc36, P36) (by simp)
    have t40 : H P40 = some (.tbl #[]) := hH (cc40, P40) (by simp)
    have t50 : H P50 = some (.tbl #[]) := hH (cc50, P50) (by simp)
    have t32 : H P32 = some (.tbl #[]) := hH (cc32, P32) (by simp)
    have t27 : H P27 = some (.tbl #[]) := hH (cc27, P27) (by simp)
    have t28 : H P28 = some (.tbl #[]) := hH (cc28, P28) (by simp)
    exact ⟨a, ns, rfl, hS, ⟨_, t10, trivial⟩, ⟨_, t9, trivial⟩, ⟨_, t14, trivial⟩, ⟨_, t17, trivial⟩, ⟨_, t31, trivial⟩, ⟨_, t35, trivial⟩, ⟨_, t36, trivial⟩, ⟨_, t40, trivial⟩, ⟨_, t50, trivial⟩, ⟨_, t32, trivial⟩, ⟨_, t27, trivial⟩, ⟨_, t28, trivial⟩, fun _ => rfl⟩
  · obtain ⟨x10a, x10b, x10c⟩ := hB (cc10, P10) (by simp)
    have B10 : GxR.TabB base mg cc10 P10 := ⟨x10a, x10b, x10c⟩
    obtain ⟨x9a, x9b, x9c⟩ := hB (cc9, P9) (by simp)
    have B9 : GxR.TabB base mg cc9 P9 := ⟨x9a, x9b, x9c⟩
    obtain ⟨x14a, x14b, x14c⟩ := hB (cc14, P14) (by simp)
    have B14 : GxR.TabB base mg cc14 P14 := ⟨x14a, x14b, x14c⟩
    obtain ⟨x17a, x17b, x17c⟩ := hB (cc17, P17) (by simp)
    have B17 : GxR.TabB base mg cc17 P17 := ⟨x17a, x17b, x17c⟩
    obtain ⟨x31a, x31b, x31c⟩ := hB (cc31, P31) (by simp)
    have B31 : GxR.TabB base mg cc31 P31 := ⟨x31a, x31b, x31c⟩
    obtain ⟨x35a, x35b, x35c⟩ := hB (cc35, P35) (by simp)
    have B35 : GxR.TabB base mg cc35 P35 := ⟨x35a, x35b, x35c⟩
    obtain ⟨x36a, x36b, x36c⟩ := hB (cc36, P36) (by simp)
    have B36 : GxR.TabB base mg cc36 P36 := ⟨x36a, x36b, x36c⟩
    obtain ⟨x40a, x40b, x40c⟩ := hB (cc40, P40) (by simp)
    have B40 : GxR.TabB base mg cc40 P40 := ⟨x40a, x40b, x40c⟩
    obtain ⟨x50a, x50b, x50c⟩ := hB (cc50, P50) (by simp)
    have B50 : GxR.TabB base mg cc50 P50 := ⟨x50a, x50b, x50c⟩
    obtain ⟨x32a, x32b, x32c⟩ := hB (cc32, P32) (by simp)
    have B32 : GxR.TabB base mg cc32 P32 := ⟨x32a, x32b, x32c⟩
    obtain ⟨x27a, x27b, x27c⟩ := hB (cc27, P27) (by simp)
    have B27 : GxR.TabB base mg cc27 P27 := ⟨x27a, x27b, x27c⟩
    obtain ⟨x28a, x28b, x28c⟩ := hB (cc28, P28) (by simp)
    have B28 : GxR.TabB base mg cc28 P28 := ⟨x28a, x28b, x28c⟩
    have O1 := ok_spread (P := l.prog) (w := w) (mg := mg) (base := base) F1
    have O2 := ok_digit (P := l.prog) (w := w) (mg := mg) (base := base) F2 k1 b1 g1 O1 m0
    have O3 := ok_net (P := l.prog) (w := w) (mg := mg) (base := base) F3 k2 b2 g2 O2 m1 m2
    have O4 := ok_some (P := l.prog) (w := w) (mg := mg) (base := base) F4 k2 b2 g2 O2 m0
    have O5 := ok_grown (P := l.prog) (w := w) (mg := mg) (base := base) F5 k2 b2 g2 O2 k4 b4 g4 O4 m1
    have O6 := ok_whole (P := l.prog) (w := w) (mg := mg) (base := base) F6 m3 m4 m5
    have O7 := ok_within (P := l.prog) (w := w) (mg := mg) (base := base) F7 F6 b6 g6 O6
    have O8 := ok_road (P := l.prog) (w := w) (mg := mg) (base := base) F8 F7 b7 g7 O7 m3 m2 m0 u0 u1 u2
    have O9 := ok_rises (P := l.prog) (w := w) (mg := mg) (base := base) F9 B9 m6 m7
    have O10 := ok_isnet (P := l.prog) (w := w) (mg := mg) (base := base) F10 B10 k7 b7 g7 O7 k8 b8 g8 O8 k9 b9 g9 O9 m3 m2 m0 m7 u3
    have O11 := ok_neednet (P := l.prog) (w := w) (mg := mg) (base := base) F11 k10 b10 g10 O10
    have O12 := ok_isplace (P := l.prog) (w := w) (mg := mg) (base := base) F12 k7 b7 g7 O7
    have O13 := ok_needplace (P := l.prog) (w := w) (mg := mg) (base := base) F13 k12 b12 g12 O12
    have O14 := ok_pairs (P := l.prog) (w := w) (mg := mg) (base := base) F14 B14 k6 b6 g6 O6 m3 m8 m7
    have O15 := ok_prices (P := l.prog) (w := w) (mg := mg) (base := base) F15
    have O16 := ok_leads (P := l.prog) (w := w) (mg := mg) (base := base) F16 m1 m0
    have O17 := ok_grows (P := l.prog) (w := w) (mg := mg) (base := base) F17 B17 k14 b14 g14 O14 k15 b15 g15 O15 k16 b16 g16 O16 m7
    have O18 := ok_istree (P := l.prog) (w := w) (mg := mg) (base := base) F18 k11 b11 g11 O11 k13 b13 g13 O13 k17 b17 g17 O17
    have O19 := ok_neednetX (P := l.prog) (w := w) (mg := mg) (base := base) F11 hX1 k10 b10 g10 O10
    have O20 := ok_needplaceX (P := l.prog) (w := w) (mg := mg) (base := base) F13 hX2 k12 b12 g12 O12
    have O21 := okX_is_tree (P := l.prog) (w := w) (mg := mg) (base := base) F18 k11 b11 g11 O19 k13 b13 g13 O20
    have O22 := ok_under (P := l.prog) (w := w) (mg := mg) (base := base) F22
    have O23 := ok_early (P := l.prog) (w := w) (mg := mg) (base := base) F23 k11 b11 g11 O11 k13 b13 g13 O13 k22 b22 g22 O22 m1
    have O24 := okX_earliest (P := l.prog) (w := w) (mg := mg) (base := base) F23 k11 b11 g11 O19 k13 b13 g13 O20
    have O25 := ok_ways (P := l.prog) (w := w) (mg := mg) (base := base) F25 k23 b23 g23 O23
    have O26 := okX_ways (P := l.prog) (w := w) (mg := mg) (base := base) F25 k23 b23 g23 O24
    have O27 := ok_att (P := l.prog) (w := w) (mg := mg) (base := base) F27 B27 m9
    have O28 := ok_aree (P := l.prog) (w := w) (mg := mg) (base := base) F28 B28 k11 b11 g11 O11 k13 b13 g13 O13 k14 b14 g14 O14 k22 b22 g22 O22 k27 b27 g27 O27 m7 m9
    have O29 := okX_are_earliest (P := l.prog) (w := w) (mg := mg) (base := base) F28 k11 b11 g11 O19 k13 b13 g13 O20
    have O30 := ok_risesI (P := l.prog) (w := w) (mg := mg) (base := base) F9 B9 m6 m7
    have O31 := ok_arep (P := l.prog) (w := w) (mg := mg) (base := base) F31 B31 k12 b12 g12 O12 k9 b9 g9 O30 m3 m2 m7
    have O32 := ok_isclosed (P := l.prog) (w := w) (mg := mg) (base := base) F32 B32 k11 b11 g11 O11 k13 b13 g13 O13 k31 b31 g31 O31 m7
    have O33 := okX_is_closed (P := l.prog) (w := w) (mg := mg) (base := base) F32 k11 b11 g11 O19 k13 b13 g13 O20
    have O34 := ok_needh (P := l.prog) (w := w) (mg := mg) (base := base) F34 k31 b31 g31 O31
    have O35 := ok_serves (P := l.prog) (w := w) (mg := mg) (base := base) F35 B35 m7
    have O36 := ok_istrim (P := l.prog) (w := w) (mg := mg) (base := base) F36 B36 k11 b11 g11 O11 k13 b13 g13 O13 k34 b34 g34 O34 k17 b17 g17 O17 k35 b35 g35 O35 m10 m7
    have O37 := ok_needhX (P := l.prog) (w := w) (mg := mg) (base := base) F34 hX2 k31 b31 g31 O31
    have O38 := okX_is_trim (P := l.prog) (w := w) (mg := mg) (base := base) F36 k11 b11 g11 O19 k13 b13 g13 O20 k34 b34 g34 O37
    have O39 := ok_needtree (P := l.prog) (w := w) (mg := mg) (base := base) F39 k17 b17 g17 O17
    have O40 := ok_price (P := l.prog) (w := w) (mg := mg) (base := base) F40 B40 k11 b11 g11 O11 k13 b13 g13 O13 k39 b39 g39 O39 k15 b15 g15 O15 m11
    have O41 := ok_needtreeX (P := l.prog) (w := w) (mg := mg) (base := base) F39 hX3 k17 b17 g17 O17
    have O42 := okX_price (P := l.prog) (w := w) (mg := mg) (base := base) F40 k11 b11 g11 O19 k13 b13 g13 O20 k39 b39 g39 O41
    have O43 := ok_lates (P := l.prog) (w := w) (mg := mg) (base := base) F43
    have O44 := ok_up (P := l.prog) (w := w) (mg := mg) (base := base) F44
    have O45 := ok_lateness (P := l.prog) (w := w) (mg := mg) (base := base) F45 k11 b11 g11 O11 k13 b13 g13 O13 k39 b39 g39 O39 k43 b43 g43 O43 k44 b44 g44 O44
    have O46 := okX_lateness (P := l.prog) (w := w) (mg := mg) (base := base) F45 k11 b11 g11 O19 k13 b13 g13 O20 k39 b39 g39 O41
    have O47 := ok_wft (P := l.prog) (w := w) (mg := mg) (base := base) F47 k22 b22 g22 O22
    have O48 := ok_graft (P := l.prog) (w := w) (mg := mg) (base := base) F48 k11 b11 g11 O11 k13 b13 g13 O13 k39 b39 g39 O39 k47 b47 g47 O47 m8
    have O49 := okX_graft (P := l.prog) (w := w) (mg := mg) (base := base) F48 k11 b11 g11 O19 k13 b13 g13 O20 k39 b39 g39 O41
    have O50 := ok_areq (P := l.prog) (w := w) (mg := mg) (base := base) F50 B50 k11 b11 g11 O11 k13 b13 g13 O13 k39 b39 g39 O39 k14 b14 g14 O14 k12 b12 g12 O12 k22 b22 g22 O22 m7 m9
    have O51 := okX_are_prices (P := l.prog) (w := w) (mg := mg) (base := base) F50 k11 b11 g11 O19 k13 b13 g13 O20 k39 b39 g39 O41
    have O52 := ok_trimmed (P := l.prog) (w := w) (mg := mg) (base := base) F52
    have O53 := ok_cut (P := l.prog) (w := w) (mg := mg) (base := base) F53 k11 b11 g11 O11 k13 b13 g13 O13 k34 b34 g34 O34 k39 b39 g39 O39 k35 b35 g35 O35 k52 b52 g52 O52
    have O54 := okX_cut (P := l.prog) (w := w) (mg := mg) (base := base) F53 k11 b11 g11 O19 k13 b13 g13 O20 k34 b34 g34 O37 k39 b39 g39 O41
    have O55 := okX_cut2 (P := l.prog) (w := w) (mg := mg) (base := base) F53 hX3 k11 b11 g11 O19 k13 b13 g13 O20 k34 b34 g34 O37 k39 b39 g39 O41 k35 b35 g35 O35
    have O56 := ok_door (P := l.prog) (w := w) (mg := mg) (base := base) F56 k18 b18 g18 O18 O21 k23 b23 g23 O23 O24 k25 b25 g25 O25 O26 k28 b28 g28 O28 O29 k32 b32 g32 O32 O33 k36 b36 g36 O36 O38 k40 b40 g40 O40 O42 k45 b45 g45 O45 O46 k48 b48 g48 O48 O49 k50 b50 g50 O50 O51 k53 b53 g53 O53 O54 O55
    have O57 := ok_kind (P := l.prog) (w := w) (mg := mg) (base := base) F57 c1 c2 c3 c4 c5 c6 c7 c8 c9 c10 c11 m3 m9 m12
    have O58 := ok_word (P := l.prog) (w := w) (mg := mg) (base := base) F58 hne c12 hH1 hH2 hH3 k56 b56 g56 O56 k57 b57 g57 O57
    have O59 := ok_roadL (P := l.prog) (w := w) (mg := mg) (base := base) F59
    have O60 := ok_notrees (P := l.prog) (w := w) (mg := mg) (base := base) F60 k59 b59 g59 O59 m8 m1
    have O61 := ok_rowdoor (P := l.prog) (w := w) (mg := mg) (base := base) F61 k36 b36 g36 O38 k53 b53 g53 O54
    have O62 := ok_rowword (P := l.prog) (w := w) (mg := mg) (base := base) F62 c12 hH2 k61 b61 g61 O61 k57 b57 g57 O57
    have O63 := ok_rows (P := l.prog) (w := w) (mg := mg) (base := base) F63 k62 b62 g62 O62 m1
    exact ok_law F64 k3 b3 g3 O3 k2 b2 g2 O2 k5 b5 g5 O5 k58 b58 g58 O58 k60 b60 g60 O60 k63 b63 g63 O63 m0 m1
end HK

open PySem PySem.W PyProof.Rows
set_option Elab.async false
set_option maxRecDepth 100000
set_option maxHeartbeats 0 in
theorem PySem.Challenge.cw_hearkenway_k05_no_nets_places_trees_holds : PySem.Challenge.rw_hearkenway_k05_no_nets_places_trees.Holds := by
  w_on; o_law; k_head; (case hw => w_witness2)
  k_fill
  refine HK.walk_tabs (l := PySem.Challenge.rw_hearkenway_k05_no_nets_places_trees) (n := 63) (k := 11) (x := "script") (CX := fun _ => L2.CX0) rfl (by decide) rfl ⟨rfl, by decide, by decide⟩ (fun w h Y => PySem.W.kIn_of Y) ?F (fun _ _ _ _ _ h => h)
  case F =>
    intro w mg fa h Y KX G hmg tabs
    refine' HK.all_mk KX G hmg tabs rfl ?a1 ?l1 ?c1 ?k1 ?a2 ?l2 ?c2 ?k2 ?a3 ?l3 ?c3 ?k3 ?a4 ?l4 ?c4 ?k4 ?a5 ?l5 ?c5 ?k5 ?a6 ?l6 ?c6 ?k6 ?a7 ?l7 ?c7 ?k7 ?a8 ?l8 ?c8 ?k8 ?a9 ?l9 ?c9 ?k9 ?a10 ?l10 ?c10 ?k10 ?a11 ?l11 ?c11 ?k11 ?a12 ?l12 ?c12 ?k12 ?a13 ?l13 ?c13 ?k13 ?a14 ?l14 ?c14 ?k14 ?a15 ?l15 ?c15 ?k15 ?a16 ?l16 ?c16 ?k16 ?a17 ?l17 ?c17 ?k17 ?a18 ?l18 ?c18 ?k18 ?a22 ?l22 ?c22 ?k22 ?a23 ?l23 ?c23 ?k23 ?a25 ?l25 ?c25 ?k25 ?a27 ?l27 ?c27 ?k27 ?a28 ?l28 ?c28 ?k28 ?a31 ?l31 ?c31 ?k31 ?a32 ?l32 ?c32 ?k32 ?a34 ?l34 ?c34 ?k34 ?a35 ?l35 ?c35 ?k35 ?a36 ?l36 ?c36 ?k36 ?a39 ?l39 ?c39 ?k39 ?a40 ?l40 ?c40 ?k40 ?a43 ?l43 ?c43 ?k43 ?a44 ?l44 ?c44 ?k44 ?a45 ?l45 ?c45 ?k45 ?a47 ?l47 ?c47 ?k47 ?a48 ?l48 ?c48 ?k48 ?a50 ?l50 ?c50 ?k50 ?a52 ?l52 ?c52 ?k52 ?a53 ?l53 ?c53 ?k53 ?a56 ?l56 ?c56 ?k56 ?a57 ?l57 ?c57 ?k57 ?a58 ?l58 ?c58 ?k58 ?a59 ?l59 ?c59 ?k59 ?a60 ?l60 ?c60 ?k60 ?a61 ?l61 ?c61 ?k61 ?a62 ?l62 ?c62 ?k62 ?a63 ?l63 ?c63 ?k63 ?a64 ?l64 ?c64 ?k64 ?z0 ?z1 ?z2 ?z3 ?z4 ?z5 ?z6 ?z7 ?z8 ?z9 ?z10 ?z11 ?z12 ?y0 ?y1 ?y2 ?y3 ?xa1 ?xa2 ?xa3 ?xa4 ?xa5 ?xa6 ?xa7 ?xa8 ?xa9 ?xa10 ?xa11 ?xa12 ?xk1 ?xs1 ?xt1 ?xg1 ?xh1 ?xd1 ?xc1 ?xm1 ?xe1 ?xq1 ?xv1 ?xx1 ?xk2 ?xs2 ?xt2 ?xg2 ?xh2 ?xd2 ?xc2 ?xm2 ?xe2 ?xq2 ?xv2 ?xx2 ?xk3 ?xs3 ?xt3 ?xg3 ?xh3 ?xd3 ?xc3 ?xm3 ?xe3 ?xq3 ?xv3 ?xx3 ?xn0 ?xw0 ?xy0 ?w10 ?v10 ?n10 ?q10 ?w9 ?v9 ?n9 ?q9 ?w14 ?v14 ?n14 ?q14 ?w17 ?v17 ?n17 ?q17 ?w31 ?v31 ?n31 ?q31 ?w35 ?v35 ?n35 ?q35 ?w36 ?v36 ?n36 ?q36 ?w40 ?v40 ?n40 ?q40 ?w50 ?v50 ?n50 ?q50 ?w32 ?v32 ?n32 ?q32 ?w27 ?v27 ?n27 ?q27 ?w28 ?v28 ?n28 ?q28
    (case a1 => k_is); (case l1 => k_is); (case c1 => k_is); (case k1 => k_is); (case a2 => k_is); (case l2 => k_is); (case c2 => k_is); (case k2 => k_is); (case a3 => k_is); (case l3 => k_is); (case c3 => k_is); (case k3 => k_is); (case a4 => k_is); (case l4 => k_is); (case c4 => k_is); (case k4 => k_is); (case a5 => k_is); (case l5 => k_is); (case c5 => k_is); (case k5 => k_is); (case a6 => k_is); (case l6 => k_is); (case c6 => k_is); (case k6 => k_is); (case a7 => k_is); (case l7 => k_is); (case c7 => k_is); (case k7 => k_is); (case a8 => k_is); (case l8 => k_is); (case c8 => k_is); (case k8 => k_is); (case a9 => k_is); (case l9 => k_is); (case c9 => k_is); (case k9 => k_is); (case a10 => k_is); (case l10 => k_is); (case c10 => k_is); (case k10 => k_is); (case a11 => k_is); (case l11 => k_is); (case c11 => k_is); (case k11 => k_is); (case a12 => k_is); (case l12 => k_is); (case c12 => k_is); (case k12 => k_is); (case a13 => k_is); (case l13 => k_is); (case c13 => k_is); (case k13 => k_is); (case a14 => k_is); (case l14 => k_is); (case c14 => k_is); (case k14 => k_is); (case a15 => k_is); (case l15 => k_is); (case c15 => k_is); (case k15 => k_is); (case a16 => k_is); (case l16 => k_is); (case c16 => k_is); (case k16 => k_is); (case a17 => k_is); (case l17 => k_is); (case c17 => k_is); (case k17 => k_is); (case a18 => k_is); (case l18 => k_is); (case c18 => k_is); (case k18 => k_is); (case a22 => k_is); (case l22 => k_is); (case c22 => k_is); (case k22 => k_is); (case a23 => k_is); (case l23 => k_is); (case c23 => k_is); (case k23 => k_is); (case a25 => k_is); (case l25 => k_is); (case c25 => k_is); (case k25 => k_is); (case a27 => k_is); (case l27 => k_is); (case c27 => k_is); (case k27 => k_is); (case a28 => k_is); (case l28 => k_is); (case c28 => k_is); (case k28 => k_is); (case a31 => k_is); (case l31 => k_is); (case c31 => k_is); (case k31 => k_is); (case a32 => k_is); (case l32 => k_is); (case c32 => k_is); (case k32 => k_is); (case a34 => k_is); (case l34 => k_is); (case c34 => k_is); (case k34 => k_is); (case a35 => k_is); (case l35 => k_is); (case c35 => k_is); (case k35 => k_is); (case a36 => k_is); (case l36 => k_is); (case c36 => k_is); (case k36 => k_is); (case a39 => k_is); (case l39 => k_is); (case c39 => k_is); (case k39 => k_is); (case a40 => k_is); (case l40 => k_is); (case c40 => k_is); (case k40 => k_is); (case a43 => k_is); (case l43 => k_is); (case c43 => k_is); (case k43 => k_is); (case a44 => k_is); (case l44 => k_is); (case c44 => k_is); (case k44 => k_is); (case a45 => k_is); (case l45 => k_is); (case c45 => k_is); (case k45 => k_is); (case a47 => k_is); (case l47 => k_is); (case c47 => k_is); (case k47 => k_is); (case a48 => k_is); (case l48 => k_is); (case c48 => k_is); (case k48 => k_is); (case a50 => k_is); (case l50 => k_is); (case c50 => k_is); (case k50 => k_is); (case a52 => k_is); (case l52 => k_is); (case c52 => k_is); (case k52 => k_is); (case a53 => k_is); (case l53 => k_is); (case c53 => k_is); (case k53 => k_is); (case a56 => k_is); (case l56 => k_is); (case c56 => k_is); (case k56 => k_is); (case a57 => k_is); (case l57 => k_is); (case c57 => k_is); (case k57 => k_is); (case a58 => k_is); (case l58 => k_is); (case c58 => k_is); (case k58 => k_is); (case a59 => k_is); (case l59 => k_is); (case c59 => k_is); (case k59 => k_is); (case a60 => k_is); (case l60 => k_is); (case c60 => k_is); (case k60 => k_is); (case a61 => k_is); (case l61 => k_is); (case c61 => k_is); (case k61 => k_is); (case a62 => k_is); (case l62 => k_is); (case c62 => k_is); (case k62 => k_is); (case a63 => k_is); (case l63 => k_is); (case c63 => k_is); (case k63 => k_is); (case a64 => k_is); (case l64 => k_is); (case c64 => k_is); (case k64 => k_is); (case z0 => k_is); (case z1 => k_is); (case z2 => k_is); (case z3 => k_is); (case z4 => k_is); (case z5 => k_is); (case z6 => k_is); (case z7 => k_is); (case z8 => k_is); (case z9 => k_is); (case z10 => k_is); (case z11 => k_is); (case z12 => k_is); (case y0 => k_is); (case y1 => k_is); (case y2 => k_is); (case y3 => k_is); (case w10 => k_is); (case w9 => k_is); (case w14 => k_is); (case w17 => k_is); (case w31 => k_is); (case w35 => k_is); (case w36 => k_is); (case w40 => k_is); (case w50 => k_is); (case w32 => k_is); (case w27 => k_is); (case w28 => k_is)
    (case xa1 => k_is); (case xa2 => k_is); (case xa3 => k_is); (case xa4 => k_is); (case xa5 => k_is); (case xa6 => k_is); (case xa7 => k_is); (case xa8 => k_is); (case xa9 => k_is); (case xa10 => k_is); (case xa11 => k_is); (case xa12 => k_is); (case xk1 => k_is); (case xs1 => k_is); (case xt1 => k_is); (case xg1 => k_is); (case xh1 => k_is); (case xd1 => k_is); (case xc1 => k_is); (case xm1 => k_is); (case xe1 => kernel_rfl); (case xq1 => kernel_rfl); (case xv1 => kernel_rfl); (case xx1 => kernel_rfl); (case xk2 => k_is); (case xs2 => k_is); (case xt2 => k_is); (case xg2 => k_is); (case xh2 => k_is); (case xd2 => k_is); (case xc2 => k_is); (case xm2 => k_is); (case xe2 => kernel_rfl); (case xq2 => kernel_rfl); (case xv2 => kernel_rfl); (case xx2 => kernel_rfl); (case xk3 => k_is); (case xs3 => k_is); (case xt3 => k_is); (case xg3 => k_is); (case xh3 => k_is); (case xd3 => k_is); (case xc3 => k_is); (case xm3 => k_is); (case xe3 => kernel_rfl); (case xq3 => kernel_rfl); (case xv3 => kernel_rfl); (case xx3 => kernel_rfl); (case xn0 => k_is); (case xw0 => k_is); (case xy0 => decide)
    (case v10 => rfl); (case n10 => rfl); (case v9 => rfl); (case n9 => rfl); (case v14 => rfl); (case n14 => rfl); (case v17 => rfl); (case n17 => rfl); (case v31 => rfl); (case n31 => rfl); (case v35 => rfl); (case n35 => rfl); (case v36 => rfl); (case n36 => rfl); (case v40 => rfl); (case n40 => rfl); (case v50 => rfl); (case n50 => rfl); (case v32 => rfl); (case n32 => rfl); (case v27 => rfl); (case n27 => rfl); (case v28 => rfl); (case n28 => rfl)
    (case q10 => decide +kernel); (case q9 => decide +kernel); (case q14 => decide +kernel); (case q17 => decide +kernel); (case q31 => decide +kernel); (case q35 => decide +kernel); (case q36 => decide +kernel); (case q40 => decide +kernel); (case q50 => decide +kernel); (case q32 => decide +kernel); (case q27 => decide +kernel); (case q28 => decide +kernel)
