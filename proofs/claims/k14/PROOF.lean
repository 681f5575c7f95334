import PyProof.Rows.All
import Wide.All
import OpenK.AllK
import Wide.FinOn
import HandS.AnyAll
import HandS.GenOver
import HandS.ForMost
import HandS.IsInst
import HandS.EndTab
import HandS.Wide
import HandS.Style
import HandS.Evl
import HandS.TupAny
import HandS.DictComp
import HandS.More
import HandS.Walk
import HandS.WordsDict
import HandS.Dict
import PyProof.SumAny
import KE.KDictList
import HandS.ListItems
import HandS.Conv
import HandS.SetFor
import HandS.Strs
import HandS.Zip
import HandS.Finally
import HandS.EndOwn
import PySem.Challenge.RW_hearkenway_k14_whole_grafted_and_cut
set_option Elab.async false
set_option linter.all false
set_option maxRecDepth 100000
set_option maxHeartbeats 2000000
namespace GAl
open PySem PySem.Spec PyProof.Rows L2 GxR
open Sem (wp)

theorem Inv.kall {X : Cx} {pins : List (Addr × Obj)} {σ : L2.St} {H : Hp} {s s'' : Shared} (I : Inv X pins σ H s) (ho : s''.os = s.os) (hb : AllBare s''.gens)
    (k : ∀ b o, s.heap.get? b = some o → s''.heap.get? b = some o) : Inv X pins σ H s'' := by
  obtain ⟨h', g', d', t', o'⟩ := s''
  have e : o' = s.os := ho
  subst e
  exact I.call (h' := h') (g' := g') (d' := d') (t' := t') (ch := []) (Un.kept k) (I.hok.kept k) hb (fun b z => absurd z (by simp))

theorem bare_set {s : Shared} {g : Nat} {x : GenState} (h : AllBare s.gens) (hx : x.bare = true) : AllBare (s.setGen g x).gens := by
  intro y hy
  simp only [Shared.setGen] at hy
  rcases Array.mem_or_eq_of_mem_setIfInBounds hy with z | z
  · exact h y z
  · rw [z]; exact hx

/-- the context of a generator expression's code -/
abbrev gcx (X : Cx) (A' : Around) (s : Shared) (H : Hp) (cenv : Env) (fp : List Addr) : Cx :=
  { X with A := A', s_0 := s, H_0 := H, env := cenv, outer := X.stack, stack := cenv :: X.stack, ex := fp, fn := fun _ => false, pn := [], xe := fun _ _ => False }

section
variable {X : Cx} {pins : List (Addr × Obj)} {σ : L2.St} {H : Hp} {s : Shared}

theorem gen_start {scope : Scope} {own : List (Str × Nat)} {fp : List Addr} {A' : Around} {cenv : Env} {code : Value} {m : Str → Option Value} {h5 : Heap} {g' : Array GenState} {t5 : Nat} {a : Addr} {oa : Obj}
    (I : Inv X pins σ H s) (ok : BlkOk X.N X.env.scope scope own) (hcell : ∀ y ∈ scope.names, y.2 ≠ .cell) (hN : X.N.Nodup)
    (hfp : ∀ b ∈ fp, FpOk X pins H b ∧ b < s.heap.objs.size)
    (hce : cenv = genEnv scope (cloFrom X.env.cells scope.names []) s.heap.objs.size code builtinsNs X.env)
    (hA : A'.frames = some (cenv :: X.stack)) (hh : A'.handled = none)
    (hns : h5.Ns s.heap.objs.size m) (kp : ∀ b o, s.heap.get? b = some o → h5.get? b = some o) (hb : AllBare g')
    (ha : h5.get? a = some oa) (hla : s.heap.objs.size < a) (hda : ∀ v, oa.data ≠ .cell v) :
    Inv (gcx X A' s H cenv fp) [(a, oa)] (wipe σ (own.map (·.2))) H { s with heap := h5, gens := g', toks := t5 } := by
  have hfree : ∀ y ∈ scope.names, y.2 = .free → ∃ c, X.env.cells.lookup y.1 = some c := fun y hy e => by
    rcases ok.free y hy e with k | k
    · exact I.ok.has _ (.inl k)
    · exact I.ok.has _ (.inr k)
  have hL : cenv.locals = s.heap.objs.size := by rw [hce]; rfl
  have hcl : cenv.cells = cloFrom X.env.cells scope.names [] := by rw [hce]; rfl
  have hsc : cenv.scope = scope := by rw [hce]; rfl
  have mem : ∀ {y c}, cenv.cells.lookup y = some c → X.env.cells.lookup y = some c ∧ c < s.heap.objs.size := fun {y c} e => by
    rw [hcl] at e
    rcases cloFrom_mem (PySem.mem_of_lookup e) with hm | ⟨h1, rfl⟩
    · cases hm
    · obtain ⟨c, hc⟩ := hfree _ h1 rfl
      rw [hc]
      obtain ⟨w, z⟩ := I.cell _ _ hc
      exact ⟨rfl, z.lt⟩
  have look : ∀ {y}, scope.names.lookup y = some .free → ∃ c, cenv.cells.lookup y = some c ∧ X.env.cells.lookup y = some c := fun {y} hl => by
    have hy : (y, NameKind.free) ∈ scope.names := PySem.mem_of_lookup hl
    obtain ⟨c', e'⟩ := mem_lookup (cloFrom_has (cells := X.env.cells) (acc := []) hy)
    rw [← hcl] at e'
    exact ⟨c', e', (mem e').1⟩
  have kfree : ∀ {y k}, cenv.kindOf y = some k → (k = .cell ∨ k = .free) → scope.names.lookup y = some .free := fun {y k} hk hk' => by
    unfold Env.kindOf at hk
    rw [hsc] at hk
    rcases hk' with rfl | rfl
    · exact absurd rfl (hcell _ (PySem.mem_of_lookup hk))
    · exact hk
  have okB : (gcx X A' s H cenv fp).Ok := by
    refine ⟨I.ok.mod, by show cenv.scope.kind = _; rw [hsc]; exact ok.kind, by show cenv.globals = _; rw [hce]; exact I.ok.glob, by show cenv.builtins = _; rw [hce]; rfl, by show s.heap.objs.size ≤ cenv.locals; rw [hL]; exact Nat.le_refl _,
      fun y z c e1 e2 => I.ok.inj y z c (mem e1).1 (mem e2).1, fun y hy => ?_, fun y c z e => (by cases z), fun _ => hh, hA, .inr ⟨rfl, by show cenv.frame = some cenv.locals; rw [hce]; rfl⟩, fun b hb => ⟨?_, fun y c e z => ?_⟩, I.bs, Nat.le_trans I.ok.bsz I.sz, fun b o e hb => ?_, fun b hb z => ?_, I.stack, I.stkFree⟩
    · rcases hy with hy | hy
      · obtain ⟨c, h1, _⟩ := look (kfree hy (.inl rfl)); exact ⟨c, h1⟩
      · obtain ⟨c, h1, _⟩ := look (kfree hy (.inr rfl)); exact ⟨c, h1⟩
    · show b ≠ cenv.locals
      rw [hL]; exact Nat.ne_of_lt (hfp b hb).2
    · exact (hfp b hb).1.2.2.2.2.1 y c (mem e).1 z
    · rcases (hfp b hb).1.2.2.2.1 with z | z
      · exact I.ok.noex b o e z
      · exact absurd (Nat.lt_of_lt_of_le (Heap.lt_size e) (Nat.le_trans I.ok.bsz z)) (Nat.lt_irrefl _)
    · rcases List.mem_cons.mp (I.stkSub b z) with z | z
      · exact (hfp b hb).1.2.1 z
      · exact (hfp b hb).1.2.2.1 z
  refine ⟨okB, rfl, hb, Un.kept kp, ⟨m, ?_, fun i y av e1 e2 e3 => ?_⟩, fun y c e => ?_, ?_, fun y c e => ?_, fun p hp => ?_, I.hok.kept kp, by rw [wipe_length]; exact I.len⟩
  · show Heap.Ns _ cenv.locals _
    rw [hL]
    exact hns
  · obtain ⟨e2, hne⟩ := wipe_some e2
    have hfr : scope.names.lookup y = some .free := by
      have key : ∀ k, scope.names.lookup y = some k → k = .local ∨ k = .cell ∨ k = .free → scope.names.lookup y = some .free := fun k hk hk' => by
        have no : ¬ (k = .local ∨ k = .cell) := fun hh => by
          rcases ok.own _ (PySem.mem_of_lookup hk) hh with e' | e'
          · obtain ⟨p, hp, hpy⟩ := List.mem_map.mp e'
            have e3 := ok.ix p hp
            have : p.1 = y := hpy
            rw [this] at e3
            exact hne (List.mem_map.mpr ⟨p, hp, nodup_ix hN e3 e1⟩)
          · exact e' (List.mem_of_getElem? e1)
        rcases hk' with rfl | rfl | rfl
        · exact absurd (.inl rfl) no
        · exact absurd (.inr rfl) no
        · exact hk
      have e3 : Vis cenv.scope y := e3
      rw [hsc] at e3
      rcases e3 with e3 | e3 | e3
      · exact key _ e3 (.inl rfl)
      · exact key _ e3 (.inr (.inl rfl))
      · exact key _ e3 (.inr (.inr rfl))
    obtain ⟨m, hn, hl⟩ := I.loc
    have hvis : Vis X.env.scope y := (ok.free _ (PySem.mem_of_lookup hfr) rfl).elim (fun k => .inr (.inl k)) (fun k => .inr (.inr k))
    obtain ⟨w, r, q⟩ := hl i y av e1 e2 hvis
    refine ⟨w, r, .inr ⟨.inr (by show cenv.scope.names.lookup y = _; rw [hsc]; exact hfr), ?_⟩⟩
    obtain ⟨c, h1, h2⟩ := look hfr
    rcases q with ⟨k, _⟩ | ⟨_, c', e', z⟩
    · have k : X.env.scope.names.lookup y = some .local := k
      rcases ok.free _ (PySem.mem_of_lookup hfr) rfl with k' | k' <;> rw [show X.env.scope.names.lookup y = _ from k'] at k <;> cases k
    · rw [h2] at e'; cases e'
      exact ⟨c, h1, z.keeps kp⟩
  · obtain ⟨w, z⟩ := I.cell y c (mem e).1
    exact ⟨w, z.keeps kp⟩
  · show H cenv.locals = none
    rw [hL]; exact I.hok.fresh (Nat.le_refl _)
  · exact I.freeC y c (mem e).1
  · have hp : p ∈ ([] : List (Addr × Obj)) ++ [(a, oa)] := hp
    simp only [List.nil_append, List.mem_singleton] at hp
    subst hp
    refine ⟨ha, I.hok.fresh (Nat.le_of_lt hla), ?_, ?_, hda⟩
    · show a ≠ cenv.locals
      rw [hL]; exact Nat.ne_of_gt hla
    · intro z
      have z : a ∈ frs X.stack := z
      obtain ⟨_, o, ho, _⟩ := I.stack.mem z
      exact absurd (Nat.lt_trans hla (Heap.lt_size ho)) (Nat.lt_irrefl _)
end
end GAl

set_option Elab.async false
set_option linter.all false
set_option maxRecDepth 100000
set_option maxHeartbeats 2000000
namespace GAl
open PySem PySem.Spec PyProof.Rows L2 GxR
open Sem (wp)

/-- the generator's end and what it hands out -/
def REnd (XG : Cx) (a : Addr) (oa : Obj) (σw : L2.St) (Qd : Hp → Prop) : Nat → Shared → Shared → Prop := fun _ _ s₁ => ∃ H4, Inv XG [(a, oa)] σw H4 s₁ ∧ Qd H4
def YOut (XG : Cx) (a : Addr) (oa : Obj) (stp : V → Hp → Prop → Prop) : Protocol := fun _ _ v s kap =>
  ∃ y H4 σ4, Inv XG [(a, oa)] σ4 H4 s ∧ RelV y v ∧ stp y H4 (∀ s'' : Shared, s''.os = s.os → AllBare s''.gens → (∀ b o, s.heap.get? b = some o → s''.heap.get? b = some o) → kap (.send .none) s'')

/-- what a turn asks (W by the turn and a measure) -/
def GTurn (J : It) (g : TG) (tt : TT) (te : TE) (vs : List Nat) (σw : L2.St) (Qd : Hp → Prop) (stp : V → Hp → Prop → Prop) (W : Nat → Nat → Hp → Prop) : Prop :=
  ∀ i m H, W i m H → (J.stop i H ∧ Qd H) ∨ (J.go i H ∧ ∃ Nx : Hp → Prop, (∀ H', Nx H' → ∃ m', m' < m ∧ W (i + 1) m' H') ∧ ∀ x H', J.yld i H x H' → g x σw H' fun σ2 H2 => wipe σ2 vs = σw ∧ tt σ2 H2 fun b H3 =>
    if b = true then te σ2 H3 fun y H4 => stp y H4 (Nx H4) else Nx H3)

section
variable {X : Cx} {σ : L2.St} {elt tg iter : Expr} {ifs : List Expr} {scope : Scope} {pos : Pos} {it a : Addr} {oa : Obj} {fp : List Addr} {cenv : Env} {AG : Around} {s4 : Shared} {Hs : Hp} {J : It} {tn : Nat → Heap → Prop}
  {g : TG} {tt : TT} {te : TE} {vs : List Nat} {σw : L2.St} {Qd : Hp → Prop} {stp : V → Hp → Prop → Prop} {W : Nat → Nat → Hp → Prop}

theorem gen_loop (hc : X.calm = true) (hco : cenv.scope.isCoroutine = false) (T : Turn X.prog X.w X.K tg J fp it tn) (hafp : ∀ b ∈ fp, a ≠ b)
    (hmono : ∀ y H (p q : Prop), (p → q) → stp y H p → stp y H q)
    (pg : PG (gcx X (AG.over (.compLoop (.GeneratorExp elt [⟨tg, iter, ifs, 0⟩] scope pos) 0 (.ref it) .none cenv) []) s4 Hs cenv fp) tg g)
    (pt : PTs (gcx X (AG.over (.compLoop (.GeneratorExp elt [⟨tg, iter, ifs, 0⟩] scope pos) 0 (.ref it) .none cenv) []) s4 Hs cenv fp) ifs tt)
    (pe : PE (gcx X (AG.over (.compLoop (.GeneratorExp elt [⟨tg, iter, ifs, 0⟩] scope pos) 0 (.ref it) .none cenv) []) s4 Hs cenv fp) elt te)
    (hW : GTurn J g tt te vs σw Qd stp W) :
    ∀ (m n i : Nat) (s₀ s : Shared) (H : Hp), m < n → W i m H → Inv (gcx X (AG.over (.compLoop (.GeneratorExp elt [⟨tg, iter, ifs, 0⟩] scope pos) 0 (.ref it) .none cenv) []) s4 Hs cenv fp) [(a, oa)] σw H s → tn i s.heap → (∀ b ∈ fp, H b = none) →
      Seg (model X.prog X.w) AG (fun n s₀ r s₁ => r = .ok .next ∧ REnd (gcx X (AG.over (.compLoop (.GeneratorExp elt [⟨tg, iter, ifs, 0⟩] scope pos) 0 (.ref it) .none cenv) []) s4 Hs cenv fp) a oa σw Qd n s₀ s₁)
        (YOut (gcx X (AG.over (.compLoop (.GeneratorExp elt [⟨tg, iter, ifs, 0⟩] scope pos) 0 (.ref it) .none cenv) []) s4 Hs cenv fp) a oa stp) n s₀
        (.compLoop (.GeneratorExp elt [⟨tg, iter, ifs, 0⟩] scope pos) 0 (.ref it) .none cenv)
        ((model X.prog X.w).den (.compLoop (.GeneratorExp elt [⟨tg, iter, ifs, 0⟩] scope pos) 0 (.ref it) .none cenv)) [] s := by
  generalize hXG : gcx X (AG.over (.compLoop (.GeneratorExp elt [⟨tg, iter, ifs, 0⟩] scope pos) 0 (.ref it) .none cenv) []) s4 Hs cenv fp = XG at pg pt pe ⊢
  have hA : XG.A = AG.over (.compLoop (.GeneratorExp elt [⟨tg, iter, ifs, 0⟩] scope pos) 0 (.ref it) .none cenv) [] := by rw [← hXG]
  have hP : XG.prog = X.prog := by rw [← hXG]
  have hw : XG.w = X.w := by rw [← hXG]
  have hK : XG.K = X.K := by rw [← hXG]
  have hcalm : XG.calm = true := by rw [← hXG]; exact hc
  have henv : XG.env = cenv := by rw [← hXG]
  have hxe : XG.xe = fun _ _ => False := by rw [← hXG]
  have hex : XG.ex = fp := by rw [← hXG]
  have hpn : XG.pn = [] := by rw [← hXG]
  have stat : ∀ {σ' : L2.St} {H' : Hp} {s' : Shared}, Inv XG [(a, oa)] σ' H' s' → (∀ b ∈ fp, H' b = none) → ∀ b ∈ fp, FpOk XG [(a, oa)] H' b := fun {σ' H' s'} I' hn b hb =>
    ⟨hn b hb, (I'.ok.exf b (by rw [hex]; exact hb)).1, I'.ok.exfs b (by rw [hex]; exact hb), .inl (by rw [hex]; exact hb), fun x c e => (I'.ok.exf b (by rw [hex]; exact hb)).2 x c e, fun p hp => by
      rw [hpn] at hp
      simp only [List.nil_append, List.mem_singleton] at hp
      subst hp
      exact hafp b hb⟩
  intro m
  induction m using Nat.strongRecOn with
  | ind m ih =>
    intro n i s₀ s H hmn w I st nH
    show Seg _ AG _ _ _ s₀ _ ((compTurn (.GeneratorExp elt [⟨tg, iter, ifs, 0⟩] scope pos) 0 (.ref it) .none cenv).onRaise (leaving cenv)) [] s
    rw [compTurn_gen, Sem.onRaise_eq_wrap]
    refine seg_bind_wrap (wpAny_standAt ?_)
    rcases hW i m H w with ⟨stop, qq⟩ | ⟨go, Nx, hNx, step⟩
    · have td := T.done XG hP hw hK hcalm i _ s _ H (fun _ _ => False) I (stat I nH) st stop
      rw [hA] at td
      refine seg_bind_wrap (thnF td fun r s1 ⟨hr, I1⟩ => ?_)
      subst hr
      exact seg_end (.ok .next) ⟨rfl, H, I1, qq⟩
    · have ti := T.item XG hP hw hK hcalm i _ s _ H (fun _ _ => False) I (stat I nH) st go
      rw [hA] at ti
      refine seg_bind_wrap (thnF ti fun r s1 ⟨u, hr, h1⟩ => ?_)
      subst hr
      refine seg_bind_wrap (thnF h1 fun _ s2 ⟨x, H2, I2, r2, y2, st2, n2⟩ => ?_)
      have I2' := I2.pinned (stat I2 n2) (T.obj _ _ st2)
      have rg := pg.run _ s2 _ H2 x u _ I2' r2 (step x H2 y2)
      rw [hA, hP, hw, henv, hxe] at rg
      refine seg_bind_wrap (thnF rg fun _ s3 ⟨σ3, H3, I3, hw3, q3⟩ => ?_)
      have rt := pt.run _ s3 σ3 H3 _ I3 q3
      rw [hA, hP, hw, henv, hxe] at rt
      refine seg_bind_wrap (thnF rt fun b s5 ⟨H5, I5, q5⟩ => ?_)
      have fin : ∀ {s' s'' : Shared} {H' : Hp}, Inv XG ([(a, oa)] ++ pinsAt fp s2.heap) σ3 H' s' → s''.os = s'.os → AllBare s''.gens → (∀ b o, s'.heap.get? b = some o → s''.heap.get? b = some o) → Nx H' →
          ∃ m', m' < m ∧ W (i + 1) m' H' ∧ Inv XG [(a, oa)] σw H' s'' ∧ tn (i + 1) s''.heap ∧ (∀ b ∈ fp, H' b = none) := fun {s' s'' H'} I' e1 e2 e3 nx => by
        obtain ⟨m', hm, w'⟩ := hNx H' nx
        have pin' : ∀ b ∈ fp, ∀ o, s2.heap.get? b = some o → s'.heap.get? b = some o ∧ H' b = none := fun b hb o e =>
          let z := I'.pin (b, o) (List.mem_append_right _ (List.mem_append_right _ (mem_pinsAt hb e)))
          ⟨z.1, z.2.1⟩
        have hl : σw.length = σ3.length := by rw [← hw3, wipe_length]
        refine ⟨m', hm, w', Inv.kall ((I'.unpinned (pins := [(a, oa)])).weak hl (fun j v e => ?_)) e1 e2 e3, T.keep _ _ _ st2 fun b hb o e => e3 b o (pin' b hb o e).1, fun b hb => ?_⟩
        · rw [← hw3] at e
          exact (wipe_some e).1
        · obtain ⟨o, e, _⟩ := T.obj _ _ st2 b hb
          exact (pin' b hb o e).2
      cases b with
      | false =>
        simp only [Bool.false_eq_true, if_false] at q5 ⊢
        obtain ⟨m', hm, w', I', st', n'⟩ := fin I5 rfl I5.bare (fun _ _ e => e) q5
        exact seg_again rfl (ih m' hm n (i + 1) s₀ s5 H5 (by omega) w' I' st' n')
      | true =>
        simp only [if_true] at q5 ⊢
        have hy : ∀ v, yieldOut cenv v = yieldValue v := fun v => by simp only [yieldOut, hco, Bool.false_eq_true, if_false]
        simp only [hy]
        rw [Sem.bind_eq_wrap', Sem.bind_eq_wrap', Sem.wrap_wrap, Sem.wrap_wrap]
        have re := pe.run _ s5 σ3 H5 _ I5 q5
        rw [hA, hP, hw, henv, hxe] at re
        refine seg_wrap (thnF re fun z s6 ⟨yv, H6, I6, r6, q6⟩ => ?_)
        cases n with
        | zero => exact absurd hmn (Nat.not_lt_zero _)
        | succ n =>
          refine seg_at (seg_yield rfl rfl rfl ⟨yv, H6, σ3, I6.unpinned (pins := [(a, oa)]), r6, hmono _ _ _ _ (fun nx s'' e1 e2 e3 => ?_) q6⟩)
          obtain ⟨m', hm, w', I', st', n'⟩ := fin I6 e1 e2 e3 nx
          exact seg_again rfl (ih m' hm n (i + 1) s'' s'' H6 (by omega) w' I' st' n')

theorem gen_begin (hc : X.calm = true) (hco : cenv.scope.isCoroutine = false) (T : Turn X.prog X.w X.K tg J fp it tn) (hafp : ∀ b ∈ fp, a ≠ b)
    (hmono : ∀ y H (p q : Prop), (p → q) → stp y H p → stp y H q)
    (pg : PG (gcx X (AG.over (.compLoop (.GeneratorExp elt [⟨tg, iter, ifs, 0⟩] scope pos) 0 (.ref it) .none cenv) []) s4 Hs cenv fp) tg g)
    (pt : PTs (gcx X (AG.over (.compLoop (.GeneratorExp elt [⟨tg, iter, ifs, 0⟩] scope pos) 0 (.ref it) .none cenv) []) s4 Hs cenv fp) ifs tt)
    (pe : PE (gcx X (AG.over (.compLoop (.GeneratorExp elt [⟨tg, iter, ifs, 0⟩] scope pos) 0 (.ref it) .none cenv) []) s4 Hs cenv fp) elt te)
    (hW : GTurn J g tt te vs σw Qd stp W) (m : Nat) (s₀ s : Shared) (H : Hp) (w : W 0 m H)
    (I : Inv (gcx X (AG.over (.compLoop (.GeneratorExp elt [⟨tg, iter, ifs, 0⟩] scope pos) 0 (.ref it) .none cenv) []) s4 Hs cenv fp) [(a, oa)] σw H s) (st : tn 0 s.heap) (nH : ∀ b ∈ fp, H b = none) :
      Seg (model X.prog X.w) AG (fun n s₀ r s₁ => r = .ok .next ∧ REnd (gcx X (AG.over (.compLoop (.GeneratorExp elt [⟨tg, iter, ifs, 0⟩] scope pos) 0 (.ref it) .none cenv) []) s4 Hs cenv fp) a oa σw Qd n s₀ s₁)
        (YOut (gcx X (AG.over (.compLoop (.GeneratorExp elt [⟨tg, iter, ifs, 0⟩] scope pos) 0 (.ref it) .none cenv) []) s4 Hs cenv fp) a oa stp) (m + 1) s₀
        (.compStart (.GeneratorExp elt [⟨tg, iter, ifs, 0⟩] scope pos) 0 (.ref it) .none cenv)
        ((model X.prog X.w).den (.compStart (.GeneratorExp elt [⟨tg, iter, ifs, 0⟩] scope pos) 0 (.ref it) .none cenv)) [] s := by
  have loop := gen_loop (a := a) (oa := oa) hc hco T hafp hmono pg pt pe hW m (m + 1) 0 s₀ s H (Nat.lt_succ_self _) w I st nH
  show Seg _ AG _ _ _ s₀ _ ((compStart (.GeneratorExp elt [⟨tg, iter, ifs, 0⟩] scope pos) 0 (.ref it) .none cenv).onRaise (leaving cenv)) [] s
  unfold compStart
  rw [Sem.onRaise_eq_wrap]
  show Seg _ AG _ _ _ s₀ _ ((ask >>= _).wrap _ _ _ _) [] s
  refine seg_bind_wrap (wpAny_askSetting ?_)
  split
  · exact seg_again rfl loop
  · first
      | exact seg_bind_wrap (wpAny_rule (seg_bind_wrap (wpAny_standAt (seg_bind_wrap (T.self _ 0 s _ _ st (seg_again rfl loop))))))
      | (refine seg_bind_wrap (wpAny_rule ?_); show Seg _ AG _ _ _ s₀ _ ((standAt iter.pos >>= _).wrap _ _ _ _) [] s; exact seg_bind_wrap (wpAny_standAt (seg_bind_wrap (T.self _ 0 s _ _ st (seg_again rfl loop)))))
end

/-! ### the consumer's side -/
section
variable {prog : Program} {w : World} {A : Around} {E : Value → Shared → Prop} {s : Shared}
theorem next_sz {a : Addr} {g n : Nat} {gs : GenState} {P : Nat → Shared → Shared → Prop} {Y : Protocol} {Q : Option Value → Shared → Prop} (hh : A.handled = none)
    (hl : s.heap.NoLimit) (hroom : A.depth < recursionLimit)
    (hg : s.heap.IsGen a g) (hgs : s.gens[g]? = some gs)
    (hgo : gs.Goes (model prog w) A.in1 (fun n s₀ r s₁ => r = .ok .next ∧ P n s₀ s₁) Y n (.send .none) (s.setGen g .running))
    (hY : ∀ v s₁ gs', s.gens.size ≤ s₁.gens.size → gs'.bare = true → Y (n - 1) (s.setGen g .running) v s₁ (fun r' s'' => match n with
        | 0 => False
        | m + 1 => gs'.Goes (model prog w) A.in1 (fun n s₀ r s₁ => r = .ok .next ∧ P n s₀ s₁) Y m r' s'') → Q (some v) (s₁.setGen g gs'))
    (hP : ∀ s₁, s.gens.size ≤ s₁.gens.size → P n (s.setGen g .running) s₁ → ∀ h', (∀ b o, s₁.heap.get? b = some o → h'.get? b = some o) → Q none { s₁.setGen g .finished with heap := h' }) :
    wpAny (model prog w) A (pyNext (.ref a)) Q E s := by
  refine GenW.wpAny_gsz (n := s.gens.size) (Nat.le_refl _) (wpAny_pyNext_genexpQ (E := fun e s' => s.gens.size ≤ s'.gens.size → E e s') (Q := fun r s' => s.gens.size ≤ s'.gens.size → Q r s') hh hl hroom hg hgs hgo
    (fun v s₁ gs' hb hv hz => hY v s₁ gs' (by rw [GenW.setGen_size] at hz; exact hz) hb hv)
    (fun s₁ hp h' hk hz => hP s₁ (by have z : s.gens.size ≤ (s₁.setGen g .finished).gens.size := hz; rw [GenW.setGen_size] at z; exact z) hp h' hk))
end
end GAl

set_option Elab.async false
set_option linter.all false
set_option maxRecDepth 100000
set_option maxHeartbeats 2000000
namespace GAl
open PySem PySem.Spec PyProof.Rows L2 GxR
open Sem (wp)

/-- the generator stands, ready for its next turn, at most n - 1 more are to come -/
def GSt (M : Model) (AG : Around) (P : Nat → Shared → Shared → Prop) (Y : Protocol) (a : Addr) (g n : Nat) (s : Shared) : Prop :=
  s.heap.IsGen a g ∧ s.heap.NoLimit ∧ ∃ gs, s.gens[g]? = some gs ∧ gs.Goes M AG (fun n s₀ r s₁ => r = .ok .next ∧ P n s₀ s₁) Y n (.send .none) (s.setGen g .running)

def stpAll (Qf : Hp → Prop) : V → Hp → Prop → Prop := fun y H N => ∃ c, y = .bl c ∧ (if c = true then N else Qf H)
def stpAny (Qt : Hp → Prop) : V → Hp → Prop → Prop := fun y H N => ∃ c, y = .bl c ∧ (if c = true then Qt H else N)
theorem stpAll_mono {Qf : Hp → Prop} : ∀ y H (p q : Prop), (p → q) → stpAll Qf y H p → stpAll Qf y H q := fun y H p q h ⟨c, e, k⟩ => ⟨c, e, by
  cases c with
  | true => simp only [if_true] at k ⊢; exact h k
  | false => simp only [Bool.false_eq_true, if_false] at k ⊢; exact k⟩
theorem stpAny_mono {Qf : Hp → Prop} : ∀ y H (p q : Prop), (p → q) → stpAny Qf y H p → stpAny Qf y H q := fun y H p q h ⟨c, e, k⟩ => ⟨c, e, by
  cases c with
  | false => simp only [Bool.false_eq_true, if_false] at k ⊢; exact h k
  | true => simp only [if_true] at k ⊢; exact k⟩

theorem gens_some {s : Shared} {g k : Nat} {gs : GenState} (h : s.gens[g]? = some gs) (hk : s.gens.size ≤ k) {s₁ : Shared} (e : s₁.gens.size = k) : ∃ x, s₁.gens[g]? = some x := by
  obtain ⟨hl, _⟩ := Array.getElem?_eq_some_iff.mp h
  exact ⟨_, Array.getElem?_eq_getElem (by omega)⟩

section
variable {X XG : Cx} {A : Around} {a : Addr} {oa : Obj} {g : Nat} {σw : L2.St} {Qd Qf : Hp → Prop} {R : Result → Shared → Prop}
theorem isgen_of {h h' : Heap} (hg : h.IsGen a g) (ho : h.get? a = some oa) (ho' : h'.get? a = some oa) : h'.IsGen a g := by
  obtain ⟨o, nm, qn, e, r⟩ := hg
  rw [ho] at e; cases e
  exact ⟨_, nm, qn, ho', r⟩

/-- all.loop over it -/
theorem all_loop (hprog : XG.prog = X.prog) (hw : XG.w = X.w) (hh : A.handled = none) (hroom : A.depth < recursionLimit) (hpn : XG.pn = [])
    (hfin : ∀ s' σ' H', Inv XG [(a, oa)] σ' H' s' → Qd H' → R (.ok (.ret (.bool true))) s')
    (hcut : ∀ s' σ' H', Inv XG [(a, oa)] σ' H' s' → Qf H' → R (.ok (.ret (.bool false))) s') :
    ∀ (n : Nat) (s : Shared), s.heap.get? a = some oa → GSt (model X.prog X.w) A.in1.in1 (REnd XG a oa σw Qd) (YOut XG a oa (stpAll Qf)) a g n s → codeAny (model X.prog X.w) A (.builtin "all.loop" ⟨[.ref a], []⟩) R s := by
  intro n
  induction n with
  | zero =>
    intro s hoa ⟨hg, hl, gs, hgs, hgo⟩
    refine codeAny_builtin F.entry_all_loop ?_
    rw [Around.under_plainId F.plain_all_loop _]
    show wpAny _ A.in1 (pyNext (.ref a) >>= _) _ _ s
    refine wpAny_bind (next_sz (A := A.in1) hh hl hroom hg hgs hgo (fun v s₁ gs' hsz hb hv => ?_) (fun s₁ hsz hp h' hk => ?_))
    · obtain ⟨y, H4, σ4, I4, r, c, e, k⟩ := hv
      subst e
      cases r
      refine wpAny_bind (wpAny_holding (wpAny_truthy_bool ?_))
      refine wpAny_bind (wpAny_letGo ?_)
      cases c with
      | true =>
        simp only [if_true] at k
        exact False.elim (k s₁ rfl I4.bare fun _ _ e => e)
      | false =>
        simp only [Bool.false_eq_true, if_false] at k ⊢
        refine wpAny_bind (wpAny_rule (wpAny_pure ?_))
        exact hcut _ σ4 H4 (Inv.kall I4 rfl (bare_set I4.bare hb) fun _ _ e => e) k
    · obtain ⟨H4, I4, q⟩ := hp
      refine wpAny_bind (wpAny_rule (wpAny_pure ?_))
      exact hfin _ σw H4 (Inv.kall I4 rfl (bare_set I4.bare rfl) hk) q
  | succ n ih =>
    intro s hoa ⟨hg, hl, gs, hgs, hgo⟩
    refine codeAny_builtin F.entry_all_loop ?_
    rw [Around.under_plainId F.plain_all_loop _]
    show wpAny _ A.in1 (pyNext (.ref a) >>= _) _ _ s
    refine wpAny_bind (next_sz (A := A.in1) hh hl hroom hg hgs hgo (fun v s₁ gs' hsz hb hv => ?_) (fun s₁ hsz hp h' hk => ?_))
    · obtain ⟨y, H4, σ4, I4, r, c, e, k⟩ := hv
      subst e
      cases r
      refine wpAny_bind (wpAny_holding (wpAny_truthy_bool ?_))
      refine wpAny_bind (wpAny_letGo ?_)
      cases c with
      | true =>
        simp only [if_true] at k ⊢
        have ha : s₁.heap.get? a = some oa := (I4.pin (a, oa) (by rw [hpn]; simp)).1
        obtain ⟨x, hx⟩ := gens_some hgs hsz rfl
        refine wpAny_pure ⟨plainId_quiet F.plain_all_loop _, ih (s₁.setGen g gs') ha ⟨isgen_of hg hoa ha, I4.nolimit, gs', setGen_self hx, ?_⟩⟩
        exact k ((s₁.setGen g gs').setGen g .running) rfl (bare_set (bare_set I4.bare hb) rfl) fun _ _ e => e
      | false =>
        simp only [Bool.false_eq_true, if_false] at k ⊢
        refine wpAny_bind (wpAny_rule (wpAny_pure ?_))
        exact hcut _ σ4 H4 (Inv.kall I4 rfl (bare_set I4.bare hb) fun _ _ e => e) k
    · obtain ⟨H4, I4, q⟩ := hp
      refine wpAny_bind (wpAny_rule (wpAny_pure ?_))
      exact hfin _ σw H4 (Inv.kall I4 rfl (bare_set I4.bare rfl) hk) q
/-- any.loop over it -/
theorem any_loop (hprog : XG.prog = X.prog) (hw : XG.w = X.w) (hh : A.handled = none) (hroom : A.depth < recursionLimit) (hpn : XG.pn = [])
    (hfin : ∀ s' σ' H', Inv XG [(a, oa)] σ' H' s' → Qd H' → R (.ok (.ret (.bool false))) s')
    (hcut : ∀ s' σ' H', Inv XG [(a, oa)] σ' H' s' → Qf H' → R (.ok (.ret (.bool true))) s') :
    ∀ (n : Nat) (s : Shared), s.heap.get? a = some oa → GSt (model X.prog X.w) A.in1.in1 (REnd XG a oa σw Qd) (YOut XG a oa (stpAny Qf)) a g n s → codeAny (model X.prog X.w) A (.builtin "any.loop" ⟨[.ref a], []⟩) R s := by
  intro n
  induction n with
  | zero =>
    intro s hoa ⟨hg, hl, gs, hgs, hgo⟩
    refine codeAny_builtin F.entry_any_loop ?_
    rw [Around.under_plainId F.plain_any_loop _]
    show wpAny _ A.in1 (pyNext (.ref a) >>= _) _ _ s
    refine wpAny_bind (next_sz (A := A.in1) hh hl hroom hg hgs hgo (fun v s₁ gs' hsz hb hv => ?_) (fun s₁ hsz hp h' hk => ?_))
    · obtain ⟨y, H4, σ4, I4, r, c, e, k⟩ := hv
      subst e
      cases r
      refine wpAny_bind (wpAny_holding (wpAny_truthy_bool ?_))
      refine wpAny_bind (wpAny_letGo ?_)
      cases c with
      | false =>
        simp only [Bool.false_eq_true, if_false] at k
        exact False.elim (k s₁ rfl I4.bare fun _ _ e => e)
      | true =>
        simp only [if_true] at k ⊢
        refine wpAny_bind (wpAny_rule (wpAny_pure ?_))
        exact hcut _ σ4 H4 (Inv.kall I4 rfl (bare_set I4.bare hb) fun _ _ e => e) k
    · obtain ⟨H4, I4, q⟩ := hp
      refine wpAny_bind (wpAny_rule (wpAny_pure ?_))
      exact hfin _ σw H4 (Inv.kall I4 rfl (bare_set I4.bare rfl) hk) q
  | succ n ih =>
    intro s hoa ⟨hg, hl, gs, hgs, hgo⟩
    refine codeAny_builtin F.entry_any_loop ?_
    rw [Around.under_plainId F.plain_any_loop _]
    show wpAny _ A.in1 (pyNext (.ref a) >>= _) _ _ s
    refine wpAny_bind (next_sz (A := A.in1) hh hl hroom hg hgs hgo (fun v s₁ gs' hsz hb hv => ?_) (fun s₁ hsz hp h' hk => ?_))
    · obtain ⟨y, H4, σ4, I4, r, c, e, k⟩ := hv
      subst e
      cases r
      refine wpAny_bind (wpAny_holding (wpAny_truthy_bool ?_))
      refine wpAny_bind (wpAny_letGo ?_)
      cases c with
      | false =>
        simp only [Bool.false_eq_true, if_false] at k ⊢
        have ha : s₁.heap.get? a = some oa := (I4.pin (a, oa) (by rw [hpn]; simp)).1
        obtain ⟨x, hx⟩ := gens_some hgs hsz rfl
        refine wpAny_pure ⟨plainId_quiet F.plain_any_loop _, ih (s₁.setGen g gs') ha ⟨isgen_of hg hoa ha, I4.nolimit, gs', setGen_self hx, ?_⟩⟩
        exact k ((s₁.setGen g gs').setGen g .running) rfl (bare_set (bare_set I4.bare hb) rfl) fun _ _ e => e
      | true =>
        simp only [if_true] at k ⊢
        refine wpAny_bind (wpAny_rule (wpAny_pure ?_))
        exact hcut _ σ4 H4 (Inv.kall I4 rfl (bare_set I4.bare hb) fun _ _ e => e) k
    · obtain ⟨H4, I4, q⟩ := hp
      refine wpAny_bind (wpAny_rule (wpAny_pure ?_))
      exact hfin _ σw H4 (Inv.kall I4 rfl (bare_set I4.bare rfl) hk) q
end
end GAl

set_option Elab.async false
set_option linter.all false
set_option maxRecDepth 100000
set_option maxHeartbeats 2000000
namespace GAl
open PySem PySem.Spec PyProof.Rows L2 GxR
open Sem (wp)

/-- the scope of a generator expression -/
structure GSc (N : List Str) (sc scope : Scope) (own : List (Str × Nat)) : Prop where
  blk : BlkOk N sc scope own
  co : scope.isCoroutine = false
  cell : ∀ y ∈ scope.names, y.2 ≠ .cell
  dot : scope.names.lookup (".0" : Str) = some NameKind.local
def gscC (N : List Str) (sc scope : Scope) (own : List (Str × Nat)) : Bool :=
  blkC N sc scope own && !scope.isCoroutine && (scope.names.all fun y => match y.2 with | .cell => false | _ => true) && (match scope.names.lookup (".0" : Str) with | some .local => true | _ => false)
theorem gsc_by {N : List Str} {sc scope : Scope} {own : List (Str × Nat)} (h : gscC N sc scope own = true) : GSc N sc scope own := by
  unfold gscC at h
  simp only [Bool.and_eq_true, List.all_eq_true, Bool.not_eq_true'] at h
  obtain ⟨⟨⟨h1, h2⟩, h3⟩, h4⟩ := h
  refine ⟨blkOk_by h1, h2, fun y hy e => ?_, ?_⟩
  · have q := h3 y hy
    rw [e] at q
    exact Bool.noConfusion q
  · split at h4
    · assumption
    · cases h4

/-- what a consumed generator expression asks: the walked thing, the def's table, the turns -/
def tGenB (P : Addr) (wi : TI) (g : TG) (tt : TT) (te : TE) (vs : List Nat) (stp : V → Hp → Prop → Prop) (Qd : Hp → Prop) : L2.St → Hp → Prop := fun σ H =>
  wi σ H fun J H1 => TabG H1 P ∧ ∀ H2, Tabbed P H1 H2 → ∃ W : Nat → Nat → Hp → Prop, (∃ m, W 0 m H2) ∧ GTurn J g tt te vs (wipe σ vs) Qd stp W
def tAllG (P : Addr) (wi : TI) (g : TG) (tt : TT) (te : TE) (vs : List Nat) : TE := fun σ H Q => tGenB P wi g tt te vs (stpAll (Q (.bl false))) (Q (.bl true)) σ H
def tAnyG (P : Addr) (wi : TI) (g : TG) (tt : TT) (te : TE) (vs : List Nat) : TE := fun σ H Q => tGenB P wi g tt te vs (stpAny (Q (.bl true))) (Q (.bl false)) σ H

section
variable {X : Cx} {pins : List (Addr × Obj)} {σ : L2.St} {H : Hp} {s : Shared}
theorem gen_make {c P : Addr} {elt tg iter : Expr} {ifs : List Expr} {gpos : Pos} {scope : Scope} {own : List (Str × Nat)} {wi : TI} {g : TG} {tt : TT} {te : TE} {k : Nat} {stp : V → Hp → Prop → Prop} {Qd : Hp → Prop} {Q' : Value → Shared → Prop}
    (hr : Room (k + 1) X.A) (hc : X.calm = true) (hN : X.N.Nodup) (TB : TabB X.base X.mg c P) (hcode : X.env.code = .ref c) (S : GSc X.N X.env.scope scope own) (hi : PI X tg iter wi)
    (hg : ∀ (A' : Around), Room k A' → ∀ (s : Shared) (H : Hp) (cl : List (Str × Addr)) (C : Addr) (code : Value) (fp : List Addr), PG (gcx X A' s H (genEnv scope cl C code builtinsNs X.env) fp) tg g)
    (ht : ∀ (A' : Around), Room k A' → ∀ (s : Shared) (H : Hp) (cl : List (Str × Addr)) (C : Addr) (code : Value) (fp : List Addr), PTs (gcx X A' s H (genEnv scope cl C code builtinsNs X.env) fp) ifs tt)
    (he : ∀ (A' : Around), Room k A' → ∀ (s : Shared) (H : Hp) (cl : List (Str × Addr)) (C : Addr) (code : Value) (fp : List Addr), PE (gcx X A' s H (genEnv scope cl C code builtinsNs X.env) fp) elt te)
    (hmono : ∀ y H (p q : Prop), (p → q) → stp y H p → stp y H q)
    (hs : ∀ v, genFold iter X.env v = pure v) (I : Inv X pins σ H s) (h : tGenB P wi g tt te (own.map (·.2)) stp Qd σ H)
    (hQ : ∀ (XG : Cx) (a : Addr) (oa : Obj) (gn n : Nat) (σw : L2.St) (s5 : Shared), XG.prog = X.prog → XG.w = X.w → XG.pn = [] → s5.heap.get? a = some oa →
      GSt (model X.prog X.w) X.A.in1.in1 (REnd XG a oa σw Qd) (YOut XG a oa stp) a gn n s5 → (∀ s' σ' H', Inv XG [(a, oa)] σ' H' s' → Inv X pins σ H' s') → Q' (.ref a) s5) :
    wpAny (model X.prog X.w) X.A (eval (.GeneratorExp elt [⟨tg, iter, ifs, 0⟩] scope gpos) X.env) Q' X.xe s := by
  have ok := S.blk
  have hfree : ∀ y ∈ scope.names, y.2 = .free → ∃ c, X.env.cells.lookup y.1 = some c := fun y hy e => by
    rcases ok.free y hy e with k | k
    · exact I.ok.has _ (.inl k)
    · exact I.ok.has _ (.inr k)
  refine wpAny_GeneratorExp_make S.co (closure_ok hfree) S.cell S.dot ok.kind (by have := hr.dp; omega) ?_ hs
  refine thn (hi.run pins s σ H _ I h) fun xv s1 hx => thn hx fun itv s2 h2 => ?_
  obtain ⟨it, fp, tn, J, H2, e, I2, T, st2, f2, ⟨ps, hP, hts⟩, q⟩ := h2
  subst e
  have hPs : s2.heap.get? P = some { cls := .none, data := .fields ps } := I2.hok P _ hP
  have cd : PySem.W.CodeHd s2.heap c P := TB.code.keeps fun b u e => I2.bk b u e
  have nP : ∀ b ∈ fp, b ≠ P := fun b hb z => by
    have := (f2 b hb).1
    rw [z, hP] at this; cases this
  have sz2 : ∀ b ∈ fp, b < s2.heap.objs.size := fun b hb => by
    obtain ⟨o, e, _⟩ := T.obj _ _ st2 b hb
    exact Heap.lt_size e
  have cont : ∀ (code : Value) (h3 : Heap) (tk : Nat) (ps' : Array Value), Heap.ExtBut P s2.heap h3 → s2.heap.objs.size ≤ h3.objs.size → h3.get? P = some { cls := .none, data := .fields ps' } → (∃ more, ps' = ps ++ more) → TriplesOk ps'.toList →
      wpAny (model X.prog X.w) X.A (builtinsFor X.env.globals X.env.builtins) (fun bi s₄ =>
        ∀ h', h'.Ns s₄.heap.objs.size (fun y => if y = ".0" then some (.ref it) else none) → Heap.SameBut s₄.heap.objs.size (s₄.heap.push { cls := .type "frame", data := .dict #[] }) h' →
          Q' (.ref h'.objs.size) { s₄ with
            gens := s₄.gens.push (.fresh (.compStart (.GeneratorExp elt [⟨tg, iter, ifs, 0⟩] scope gpos) 0 (.ref it) .none (genEnv scope (cloFrom X.env.cells scope.names []) s₄.heap.objs.size code bi X.env))),
            toks := s₄.toks + 1 + 1 + 1,
            heap := h'.push { cls := .type "generator", data := .fields #[.int s₄.gens.size 0, .str "<genexpr>" (s₄.toks + 1), .str (X.env.qual ++ "<genexpr>") (s₄.toks + 1 + 1)] } }) X.xe { s2 with heap := h3, toks := tk } := by
    intro code h3 tk ps' hx hsz hP3 hmore ht3
    obtain ⟨bm, ob, e1, e2, e3, e4, e5, e6, e7, e8⟩ := TB.bm
    have keep3 : ∀ b u, b ≠ P → s2.heap.get? b = some u → h3.get? b = some u := fun b u hb e => hx b u hb e
    refine wpAny_builtinsFor (m := X.mg) (by rw [I2.ok.glob]; exact (I2.mod.glob.keeps I2.bk).extBut hx TB.gP) e1 e2 (keep3 _ _ e4 (I2.bk _ _ e5)) e6 e7 e8 ?_
    intro h' hn' hs'
    obtain ⟨more, em⟩ := hmore
    have I3 : Inv X pins σ (upd H2 P (.tbl (ps ++ more))) { s2 with heap := h3, toks := tk } :=
      inv_tab (more := more) (h' := h3) (g' := s2.gens) (d' := s2.drawn) (t' := tk) I2 hP keep3 (by rw [← em]; exact hP3) I2.bare
    obtain ⟨W, ⟨m0, w0⟩, turn⟩ := q (upd H2 P (.tbl (ps ++ more))) ⟨⟨ps ++ more, upd_same, by rw [← em]; exact ht3⟩, fun b hb => upd_ne hb⟩
    generalize hH3 : upd H2 P (.tbl (ps ++ more)) = H3 at I3 w0
    generalize hs4 : ({ s2 with heap := h3, toks := tk } : Shared) = s4 at I3 hn' hs' ⊢
    have hh4 : s4.heap = h3 := by rw [← hs4]
    have st4 : tn 0 s4.heap := T.keep _ _ _ st2 fun b hb o e => by rw [hh4]; exact keep3 b o (nP b hb) e
    have f3 : ∀ b ∈ fp, FpOk X pins H3 b ∧ b < s4.heap.objs.size := fun b hb => by
      refine ⟨⟨?_, (f2 b hb).2⟩, by rw [hh4]; exact Nat.lt_of_lt_of_le (sz2 b hb) hsz⟩
      rw [← hH3, upd_ne (nP b hb)]
      exact (f2 b hb).1
    have hszh : h'.objs.size = s4.heap.objs.size + 1 := by rw [hs'.1, Heap.size_push]
    have keep' : ∀ b o, s4.heap.get? b = some o → h'.get? b = some o := fun b o e => hs'.extBut b o (Nat.ne_of_lt (Heap.lt_size e)) (Heap.get?_push_of_some _ e)
    generalize hoa : ({ cls := .type "generator", data := .fields #[.int s4.gens.size 0, .str "<genexpr>" (s4.toks + 1), .str (X.env.qual ++ "<genexpr>") (s4.toks + 1 + 1)] } : Obj) = oa
    have ga : (h'.push oa).get? h'.objs.size = some oa := Heap.get?_push_size _ (by rw [← hoa]; rfl)
    have isg : (h'.push oa).IsGen h'.objs.size s4.gens.size := by rw [← hoa]; exact ⟨_, _, _, Heap.get?_push_size _ rfl, rfl, rfl, rfl⟩
    generalize hce : genEnv scope (cloFrom X.env.cells scope.names []) s4.heap.objs.size code builtinsNs X.env = cenv
    generalize hA' : X.A.in1.in1.over (.compLoop (.GeneratorExp elt [⟨tg, iter, ifs, 0⟩] scope gpos) 0 (.ref it) .none cenv) [] = A'
    have hfr : A'.frames = some (cenv :: X.stack) := by
      rw [← hA']
      show pushEnvs [cenv] (pushEnvs [] X.A.frames) = _
      rw [I2.ok.frames]
      rfl
    have hdp : A'.depth = X.A.depth + 1 := by rw [← hA']; rfl
    have hun : A'.units = X.A.units + 5 := by rw [← hA']; rfl
    have hhd : A'.handled = none := by rw [← hA']; exact hr.hd
    have hr' : Room k A' := ⟨hhd, by rw [hdp]; have := hr.dp; omega, by rw [hun]; have := hr.un; omega⟩
    have bare5 : AllBare (s4.gens.push (.fresh (.compStart (.GeneratorExp elt [⟨tg, iter, ifs, 0⟩] scope gpos) 0 (.ref it) .none cenv))) := I3.bare.push rfl
    have I5 := gen_start (A' := A') (cenv := cenv) (code := code) (m := fun y => if y = ".0" then some (.ref it) else none) (h5 := h'.push oa) (g' := s4.gens.push (.fresh (.compStart (.GeneratorExp elt [⟨tg, iter, ifs, 0⟩] scope gpos) 0 (.ref it) .none cenv)))
      (t5 := s4.toks + 1 + 1 + 1) (a := h'.objs.size) (oa := oa) I3 ok S.cell hN f3 hce.symm hfr hhd (hn'.push _) (fun b o e => Heap.get?_push_of_some _ (keep' b o e)) bare5 ga (by omega) (by rw [← hoa]; intro v z; cases z)
    have back : ∀ s' σ' H', Inv (gcx X A' s4 H3 cenv fp) [(h'.objs.size, oa)] σ' H' s' → Inv X pins σ H' s' := fun s' σ' H' I' =>
      I3.call' (ch := fp) I'.os I'.base I'.hok I'.bare fun b hb => ⟨(f3 b hb).1.2.2.2.1, (f3 b hb).1.2.1, (f3 b hb).1.2.2.2.2.1, (f3 b hb).1.2.2.2.2.2⟩
    have pg : PG (gcx X A' s4 H3 cenv fp) tg g := by rw [← hce]; exact hg A' hr' _ _ _ _ _ _
    have pt : PTs (gcx X A' s4 H3 cenv fp) ifs tt := by rw [← hce]; exact ht A' hr' _ _ _ _ _ _
    have pe : PE (gcx X A' s4 H3 cenv fp) elt te := by rw [← hce]; exact he A' hr' _ _ _ _ _ _
    refine hQ (gcx X A' s4 H3 cenv fp) h'.objs.size oa s4.gens.size (m0 + 1) (wipe σ (own.map (·.2))) _ rfl rfl rfl ga ⟨isg, I5.nolimit, _, Array.getElem?_push_size .., ?_⟩ back
    refine ⟨rfl, ?_⟩
    subst hA'
    refine gen_begin hc (by rw [← hce]; exact S.co) T (fun b hb z => ?_) hmono pg pt pe turn m0 _ _ H3 w0 (Inv.kall I5 rfl (bare_set I5.bare rfl) fun _ _ e => e) ?_ (fun b hb => (f3 b hb).1.1)
    · have h9 := (f3 b hb).2
      rw [← z] at h9
      have h9 : h'.objs.size < s4.heap.objs.size := h9
      omega
    · exact T.keep _ _ _ st4 fun b hb o e => Heap.get?_push_of_some _ (keep' b o e)
  refine ⟨I2.nolimit, ?_⟩
  cases hf : codeAmong gpos ps.toList with
  | none =>
    refine wpAny_genexprCodeX hcode (cd.code hPs hts) (cd.tab hPs) hf fun c' h' tk hx hge hlt hco' _ htab' _ => ?_
    obtain ⟨o1, vs, f1, tf, fl, tg', inF, tx, tt', op, _, _, _, _, _, _, _, _, _, htr, _⟩ := hco'
    exact cont _ h' tk _ hx (Nat.le_trans hge (Nat.le_of_lt hlt)) htab'.2 ⟨_, rfl⟩ htr
  | some cv =>
    refine wpAny_genexprCode_hit hcode (cd.code hPs hts) hf ?_
    exact cont cv s2.heap s2.toks ps (Heap.ExtBut.refl _ _) (Nat.le_refl _) hPs ⟨#[], by simp⟩ hts

theorem pe_allG {c P : Addr} {elt tg iter : Expr} {ifs : List Expr} {p pos gpos : Pos} {scope : Scope} {own : List (Str × Nat)} {wi : TI} {g : TG} {tt : TT} {te : TE} {k : Nat}
    (hr : Room (k + 1) X.A) (hgl : Gl X "all") (hm : X.mg "all" = none) (hc : X.calm = true) (hN : X.N.Nodup) (TB : TabB X.base X.mg c P) (hcode : X.env.code = .ref c) (S : GSc X.N X.env.scope scope own) (hi : PI X tg iter wi)
    (hg : ∀ (A' : Around), Room k A' → ∀ (s : Shared) (H : Hp) (cl : List (Str × Addr)) (C : Addr) (code : Value) (fp : List Addr), PG (gcx X A' s H (genEnv scope cl C code builtinsNs X.env) fp) tg g)
    (ht : ∀ (A' : Around), Room k A' → ∀ (s : Shared) (H : Hp) (cl : List (Str × Addr)) (C : Addr) (code : Value) (fp : List Addr), PTs (gcx X A' s H (genEnv scope cl C code builtinsNs X.env) fp) ifs tt)
    (he : ∀ (A' : Around), Room k A' → ∀ (s : Shared) (H : Hp) (cl : List (Str × Addr)) (C : Addr) (code : Value) (fp : List Addr), PE (gcx X A' s H (genEnv scope cl C code builtinsNs X.env) fp) elt te)
    (hs : ∀ v, genFold iter X.env v = pure v := by intro _; rfl)
    (hst : starEach [.GeneratorExp elt [⟨tg, iter, ifs, 0⟩] scope gpos] X.env = (false, eval (.GeneratorExp elt [⟨tg, iter, ifs, 0⟩] scope gpos) X.env) :: starEach [] X.env := by rfl)
    (hb : bootBuiltins "all" = some (.builtin "all") := by decide +kernel) :
    PE X (.Call (.Name "all" p) [.GeneratorExp elt [⟨tg, iter, ifs, 0⟩] scope gpos] [] pos) (tAllG P wi g tt te (own.map (·.2))) := by
  refine ⟨fun pins s σ H Q I h => ?_⟩
  refine wpAny_Call_Name_kw (ld_blt I hgl hm hb ?_)
  refine PyProof.Rows.callWith_builtin1 ?_ hst (by rfl)
  rw [hst]
  show wpAny _ _ (spliced ((false, eval (.GeneratorExp elt [⟨tg, iter, ifs, 0⟩] scope gpos) X.env) :: backTo pos (starEach [] X.env))) _ _ s
  refine Calls.spliced_cons (gen_make hr hc hN TB hcode S hi hg ht he stpAll_mono hs I h fun XG a oa gn n σw s5 eP eW epn ha hG back => ?_)
  refine Calls.spliced_nil ?_
  refine call_function_tree F.kind_all F.plain_all F.entry_all (F.args_all1 _) ?_
  unfold Builtin.«all»
  refine wpAny_bind (m := oneArg "all" _) (wpAny_pure ?_)
  refine wpAny_bind (wpAny_pyIter_gen hG.1 ?_)
  refine wpAny_pure ⟨plainId_quiet F.plain_all_loop _, all_loop (X := X) (XG := XG) (σw := σw) (Qd := Q (.bl true)) (Qf := Q (.bl false)) eP eW hr.hd (by have := hr.dp; omega) epn (fun s' σ' H' I' q => ?_) (fun s' σ' H' I' q => ?_) n s5 ha hG⟩
  · exact ⟨.bl true, H', back s' σ' H' I', rfl, q⟩
  · exact ⟨.bl false, H', back s' σ' H' I', rfl, q⟩
theorem pe_anyG {c P : Addr} {elt tg iter : Expr} {ifs : List Expr} {p pos gpos : Pos} {scope : Scope} {own : List (Str × Nat)} {wi : TI} {g : TG} {tt : TT} {te : TE} {k : Nat}
    (hr : Room (k + 1) X.A) (hgl : Gl X "any") (hm : X.mg "any" = none) (hc : X.calm = true) (hN : X.N.Nodup) (TB : TabB X.base X.mg c P) (hcode : X.env.code = .ref c) (S : GSc X.N X.env.scope scope own) (hi : PI X tg iter wi)
    (hg : ∀ (A' : Around), Room k A' → ∀ (s : Shared) (H : Hp) (cl : List (Str × Addr)) (C : Addr) (code : Value) (fp : List Addr), PG (gcx X A' s H (genEnv scope cl C code builtinsNs X.env) fp) tg g)
    (ht : ∀ (A' : Around), Room k A' → ∀ (s : Shared) (H : Hp) (cl : List (Str × Addr)) (C : Addr) (code : Value) (fp : List Addr), PTs (gcx X A' s H (genEnv scope cl C code builtinsNs X.env) fp) ifs tt)
    (he : ∀ (A' : Around), Room k A' → ∀ (s : Shared) (H : Hp) (cl : List (Str × Addr)) (C : Addr) (code : Value) (fp : List Addr), PE (gcx X A' s H (genEnv scope cl C code builtinsNs X.env) fp) elt te)
    (hs : ∀ v, genFold iter X.env v = pure v := by intro _; rfl)
    (hst : starEach [.GeneratorExp elt [⟨tg, iter, ifs, 0⟩] scope gpos] X.env = (false, eval (.GeneratorExp elt [⟨tg, iter, ifs, 0⟩] scope gpos) X.env) :: starEach [] X.env := by rfl)
    (hb : bootBuiltins "any" = some (.builtin "any") := by decide +kernel) :
    PE X (.Call (.Name "any" p) [.GeneratorExp elt [⟨tg, iter, ifs, 0⟩] scope gpos] [] pos) (tAnyG P wi g tt te (own.map (·.2))) := by
  refine ⟨fun pins s σ H Q I h => ?_⟩
  refine wpAny_Call_Name_kw (ld_blt I hgl hm hb ?_)
  refine PyProof.Rows.callWith_builtin1 ?_ hst (by rfl)
  rw [hst]
  show wpAny _ _ (spliced ((false, eval (.GeneratorExp elt [⟨tg, iter, ifs, 0⟩] scope gpos) X.env) :: backTo pos (starEach [] X.env))) _ _ s
  refine Calls.spliced_cons (gen_make hr hc hN TB hcode S hi hg ht he stpAny_mono hs I h fun XG a oa gn n σw s5 eP eW epn ha hG back => ?_)
  refine Calls.spliced_nil ?_
  refine call_function_tree F.kind_any F.plain_any F.entry_any (F.args_any1 _) ?_
  unfold Builtin.«any»
  refine wpAny_bind (m := oneArg "any" _) (wpAny_pure ?_)
  refine wpAny_bind (wpAny_pyIter_gen hG.1 ?_)
  refine wpAny_pure ⟨plainId_quiet F.plain_any_loop _, any_loop (X := X) (XG := XG) (σw := σw) (Qd := Q (.bl false)) (Qf := Q (.bl true)) eP eW hr.hd (by have := hr.dp; omega) epn (fun s' σ' H' I' q => ?_) (fun s' σ' H' I' q => ?_) n s5 ha hG⟩
  · exact ⟨.bl false, H', back s' σ' H' I', rfl, q⟩
  · exact ⟨.bl true, H', back s' σ' H' I', rfl, q⟩
end
end GAl

set_option Elab.async false
set_option linter.all false
set_option maxRecDepth 100000
set_option maxHeartbeats 2000000
namespace HK
open PySem PySem.Spec PyProof.Rows L2 GAl GxR
/-! ### defs whose code object is known -/
structure FunC (K : PySem.W.Frag) (x qual : Str) (st : Stmt) (f : Addr) (fd : FuncData) (c : Addr) : Prop where
  ex : ∃ (oc : Value) (od : Option Addr) (kV doc pm : Value) (an : Option Addr) (ct : Value) (osl : Array (Option Value)),
    fd = PySem.W.fnOf x qual (defArgs st) (defBody st) (defScope st) .none kV doc pm an (.ref c) ct ∧ K.lookup f = some ⟨oc, od, .func fd, osl⟩ ∧ PySem.W.codeIn K (.ref c) qual = true
  kp : PySem.W.keepIn K (.ref f) = true
section
variable {P : Program} {w : World} {K : PySem.W.Frag} {mg : Str → Option Value} {base : Heap}
theorem FunC.toFun {x qual : Str} {st : Stmt} {f : Addr} {fd : FuncData} {c : Addr} (F : FunC K x qual st f fd c) : Fun K x qual st f fd := by
  obtain ⟨⟨oc, od, kV, doc, pm, an, ct, osl, e, l, h⟩, k⟩ := F
  exact ⟨⟨oc, od, kV, doc, pm, an, _, ct, osl, e, l, h⟩, k⟩
theorem FunC.ok {x qual : Str} {st : Stmt} {f : Addr} {fd : FuncData} {c : Addr} {N ps : List Str} {k : Nat} {sp : Sp} (F : FunC K x qual st f fd c) (S : FnScope N ps (defScope st)) (len : ∀ vs H Q E, sp vs H Q E → vs.length = ps.length)
    (hbody : ∀ (A : Around) (outer : List Env) (s : Shared) (H : Hp) (vs : List V) (Q : VK) (E : XK), Room k (A.deeper (envOfC qual (defScope st) s.heap.objs.size f (.ref c))) → sp vs H Q E →
      ∃ t, PSs (cxOf CX0 P w K mg base N qual (defScope st) f (.ref c) A outer s H E).nox (defBody st) t ∧ t { nx := fun _ H' => Q .non H', rt := Q } (start N vs) H) : FnOk P w K mg base CX0 (k + 1) f fd ps sp := by
  obtain ⟨oc, od, kV, doc, pm, an, ct, osl, rfl, lk, hcd⟩ := F.ex
  refine fn_of lk hcd S len fun A outer s H vs Q E hr hsp => ?_
  obtain ⟨t, h, q⟩ := hbody A outer s H vs Q E hr hsp
  exact ⟨t, h.nox, q⟩
theorem func_mk {x qual : Str} {st : Stmt} {f c : Addr} {oc : Value} {od an : Option Addr} {osl : Array (Option Value)} {kV doc pm ct : Value} (l : K.lookup f = some ⟨oc, od, .func (PySem.W.fnOf x qual (defArgs st) (defBody st) (defScope st) .none kV doc pm an (.ref c) ct), osl⟩)
    (h : PySem.W.codeIn K (.ref c) qual = true) (k : PySem.W.keepIn K (.ref f) = true) : FunC K x qual st f (PySem.W.fnOf x qual (defArgs st) (defBody st) (defScope st) .none kV doc pm an (.ref c) ct) c := ⟨⟨oc, od, kV, doc, pm, an, ct, osl, rfl, l, h⟩, k⟩
end

/-! ### what stays: everything but the list at t; tables stay tables -/
structure Kt (t : Addr) (H H' : Hp) : Prop where
  tup : ∀ b xs, H b = some (.tup xs) → H' b = some (.tup xs)
  frz : ∀ b o u, H b = some (.frz o u) → H' b = some (.frz o u)
  oth : ∀ b o, H b = some o → b ≠ t → (∀ ps, o ≠ .tbl ps) → H' b = some o
  tab : ∀ P, TabG H P → TabG H' P
  dom : ∀ b, H' b = none → H b = none
/-- everything; tables stay tables -/
structure K0 (H H' : Hp) : Prop where
  oth : ∀ b o, H b = some o → (∀ ps, o ≠ .tbl ps) → H' b = some o
  tab : ∀ P, TabG H P → TabG H' P
  dom : ∀ b, H' b = none → H b = none
theorem upd_none {H : Hp} {p b : Addr} {o : HO} (h : upd H p o b = none) : H b = none := by
  by_cases e : b = p
  · rw [e, upd_same] at h; cases h
  · rw [upd_ne e] at h; exact h
theorem K0.refl (H : Hp) : K0 H H := ⟨fun _ _ h _ => h, fun _ h => h, fun _ h => h⟩
theorem K0.trans {H H1 H2 : Hp} (a : K0 H H1) (b : K0 H1 H2) : K0 H H2 := ⟨fun x o h n => b.oth x o (a.oth x o h n) n, fun P h => b.tab P (a.tab P h), fun x h => a.dom x (b.dom x h)⟩
theorem K0.kt {t : Addr} {H H' : Hp} (a : K0 H H') : Kt t H H' := ⟨fun b xs h => a.oth b _ h (fun _ z => by cases z), fun b o u h => a.oth b _ h (fun _ z => by cases z), fun b o h _ n => a.oth b o h n, a.tab, a.dom⟩
theorem Kt.refl (t : Addr) (H : Hp) : Kt t H H := (K0.refl H).kt
theorem Kt.trans {t : Addr} {H H1 H2 : Hp} (a : Kt t H H1) (b : Kt t H1 H2) : Kt t H H2 := ⟨fun x xs h => b.tup x xs (a.tup x xs h), fun x o u h => b.frz x o u (a.frz x o u h), fun x o h n m => b.oth x o (a.oth x o h n m) n m, fun P h => b.tab P (a.tab P h), fun x h => a.dom x (b.dom x h)⟩
theorem tabG_upd {H : Hp} {p : Addr} {o : HO} (n : H p = none) {P : Addr} (h : TabG H P) : TabG (upd H p o) P := by
  obtain ⟨ps, e, ht⟩ := h
  exact ⟨ps, by rw [upd_ne (ne_of_none e n)]; exact e, ht⟩
theorem K0.new {H : Hp} {p : Addr} {o : HO} (n : H p = none) : K0 H (upd H p o) := ⟨fun b u e _ => by rw [upd_ne (ne_of_none e n)]; exact e, fun P h => tabG_upd n h, fun _ h => upd_none h⟩
theorem K0.tbd {P : Addr} {H H' : Hp} (h0 : TabG H P) (h : Tabbed P H H') : K0 H H' := ⟨fun b o e n => by
  have hb : b ≠ P := fun z => by
    obtain ⟨ps, e', _⟩ := h0
    rw [z, e'] at e
    exact n ps (Option.some.inj e).symm
  rw [h.2 b hb]; exact e, fun Q hq => by
  by_cases hQ : Q = P
  · rw [hQ]; exact h.1
  · obtain ⟨ps, e, ht⟩ := hq
    exact ⟨ps, by rw [h.2 Q hQ]; exact e, ht⟩, fun b e => by
  by_cases hb : b = P
  · obtain ⟨ps, e', _⟩ := h.1
    rw [hb, e'] at e; cases e
  · rw [h.2 b hb] at e; exact e⟩
/-- the list at t is written -/
theorem Kt.set {t : Addr} {H : Hp} {xs ys : List V} (h : H t = some (.lst xs)) : Kt t H (upd H t (.lst ys)) := ⟨fun b zs e => by
  rw [upd_ne (ne_of e h (fun z => by cases z))]; exact e, fun b o u e => by
  rw [upd_ne (ne_of e h (fun z => by cases z))]; exact e, fun b o e n _ => by rw [upd_ne n]; exact e, fun P hP => by
  obtain ⟨ps, e, ht⟩ := hP
  exact ⟨ps, by rw [upd_ne (ne_of e h (fun z => by cases z))]; exact e, ht⟩, fun _ e => upd_none e⟩
theorem Kt.sqT {K : PySem.W.Frag} {t a : Addr} {H H' : Hp} {xs : List V} (k : Kt t H H') (h : SqT K H a xs) : SqT K H' a xs := by
  rcases h with (h | ⟨o, h⟩) | h
  · exact .inl (.inl (k.tup _ _ h))
  · exact .inl (.inr ⟨o, k.frz _ _ _ h⟩)
  · exact .inr h
theorem K0.sqT {K : PySem.W.Frag} {a : Addr} {H H' : Hp} {xs : List V} (k : K0 H H') (h : SqT K H a xs) : SqT K H' a xs := (k.kt (t := 0)).sqT h
theorem K0.sqL {K : PySem.W.Frag} {a : Addr} {H H' : Hp} {xs : List V} (k : K0 H H') (h : SqL K H a xs) : SqL K H' a xs := by
  rcases h with (h | ⟨o, h⟩) | h
  · exact .inl (.inl (k.oth _ _ h (fun _ z => by cases z)))
  · exact .inl (.inr ⟨o, k.oth _ _ h (fun _ z => by cases z)⟩)
  · exact .inr h
theorem Kt.sqL {K : PySem.W.Frag} {t a : Addr} {H H' : Hp} {xs : List V} (k : Kt t H H') (n : a ≠ t) (h : SqL K H a xs) : SqL K H' a xs := by
  rcases h with (h | ⟨o, h⟩) | h
  · exact .inl (.inl (k.oth _ _ h n (fun _ z => by cases z)))
  · exact .inl (.inr ⟨o, k.frz _ _ _ h⟩)
  · exact .inr h
mutual
theorem K0.dp {K : PySem.W.Frag} {H H' : Hp} (k : K0 H H') : ∀ (d : PyData) (v : V), Dp K H v d → Dp K H' v d
  | .none, _, h => by cases h; exact .non
  | .bool _, _, h => by cases h; exact .bl _
  | .int _, _, h => by cases h; exact .int _
  | .str _, _, h => by cases h; exact .str _
  | .list ds, _, h => by cases h with | lst a b => exact .lst (k.sqL a) (K0.dpAll k ds _ b)
  | .tuple ds, _, h => by cases h with | tup a b => exact .tup (k.sqT a) (K0.dpAll k ds _ b)
  | .dict _, _, h => by cases h
theorem K0.dpAll {K : PySem.W.Frag} {H H' : Hp} (k : K0 H H') : ∀ (ds : List PyData) (vs : List V), DpAll K H vs ds → DpAll K H' vs ds
  | [], _, h => by cases h; exact .nil
  | d :: ds, _, h => by cases h with | cons a b => exact .cons (K0.dp k d _ a) (K0.dpAll k ds _ b)
end

/-! ### kinds -/
def tys : List String := ["NoneType", "bool", "int", "str", "list", "tuple", "dict"]
theorem tys_int {T : String} (h : T ∈ tys) : kitB T "int" = some (T == "int" || T == "bool") := by
  simp only [tys, List.mem_cons, List.not_mem_nil, or_false] at h
  rcases h with rfl | rfl | rfl | rfl | rfl | rfl | rfl <;> decide +kernel
theorem tys_bool {T : String} (h : T ∈ tys) : kitB T "bool" = some (T == "bool") := by
  simp only [tys, List.mem_cons, List.not_mem_nil, or_false] at h
  rcases h with rfl | rfl | rfl | rfl | rfl | rfl | rfl <;> decide +kernel
theorem tys_tuple {T : String} (h : T ∈ tys) : kitB T "tuple" = some (T == "tuple") := by
  simp only [tys, List.mem_cons, List.not_mem_nil, or_false] at h
  rcases h with rfl | rfl | rfl | rfl | rfl | rfl | rfl <;> decide +kernel
theorem tys_dict {T : String} (h : T ∈ tys) : kitB T "dict" = some (T == "dict") := by
  simp only [tys, List.mem_cons, List.not_mem_nil, or_false] at h
  rcases h with rfl | rfl | rfl | rfl | rfl | rfl | rfl <;> decide +kernel
theorem sqT_ty {K : PySem.W.Frag} {H : Hp} {a : Addr} {xs : List V} (h : SqT K H a xs) : TyX K H (.ref a) (.type "tuple") := by
  rcases h with (h | ⟨o, h⟩) | ⟨o, _, _, ho, h, _⟩
  · exact .base (.tup h)
  · exact .fTuple h
  · exact .kTuple ho h
theorem sqL_ty {K : PySem.W.Frag} {H : Hp} {a : Addr} {xs : List V} (h : SqL K H a xs) : TyX K H (.ref a) (.type "list") := by
  rcases h with (h | ⟨o, h⟩) | ⟨o, _, _, ho, h, _⟩
  · exact .base (.lst h)
  · exact .base (.frz h)
  · exact .kList ho h
def tyD : PyData → String
  | .none => "NoneType" | .bool _ => "bool" | .int _ => "int" | .str _ => "str" | .list _ => "list" | .tuple _ => "tuple" | .dict _ => "dict"
theorem tyD_mem (d : PyData) : tyD d ∈ tys := by cases d <;> simp [tyD, tys]
theorem dp_ty {K : PySem.W.Frag} {H : Hp} {v : V} {d : PyData} (h : Dp K H v d) : TyX K H v (.type (tyD d)) := by
  cases h with
  | non => exact .base .non
  | bl b => exact .base (.bl b)
  | int i => exact .base (.int i)
  | str x => exact .base (.str x)
  | lst a _ => exact sqL_ty a
  | tup a _ => exact sqT_ty a
def isWholeD : PyData → Bool
  | .int _ => true
  | _ => false
def withinD (d : PyData) (lo hi : Int) : Bool := match d with
  | .int i => decide (lo ≤ i) && decide (i ≤ hi)
  | _ => false
theorem whole_ty (d : PyData) : ((tyD d == "int" || tyD d == "bool") && !(tyD d == "bool")) = isWholeD d := by cases d <;> simp [tyD, isWholeD]
theorem dp_int {K : PySem.W.Frag} {H : Hp} {x : V} {d : PyData} (h : Dp K H x d) (e : isWholeD d = true) : ∃ i, x = .int i ∧ d = .int i := by
  cases h <;> first | exact ⟨_, rfl, rfl⟩ | cases e
end HK

set_option Elab.async false
set_option linter.all false
set_option maxRecDepth 100000
set_option maxHeartbeats 2000000
namespace HK
open PySem PySem.Spec PyProof.Rows L2 GAl GxR
def topS (i : Nat) : Stmt := PySem.Challenge.pw_hearkenway_k14_whole_grafted_and_cut.main.body.getD i (.Pass ⟨0, 0, 0, 0⟩)
abbrev sWhole : Stmt := topS 6
abbrev sWithin : Stmt := topS 7
abbrev sRises : Stmt := topS 8
abbrev sIsNet : Stmt := topS 14
abbrev sIsRoad : Stmt := topS 15
theorem scWhole : FnScope ["thing"] ["thing"] (defScope sWhole) := ⟨rfl, rfl, rfl, by decide +kernel, rfl, by decide +kernel, by decide +kernel⟩
theorem scWithin : FnScope ["thing", "least", "greatest"] ["thing", "least", "greatest"] (defScope sWithin) := ⟨rfl, rfl, rfl, by decide +kernel, rfl, by decide +kernel, by decide +kernel⟩
theorem scIsRoad : FnScope ["many", "thing", "start", "end", "cost", "late"] ["many", "thing"] (defScope sIsRoad) := ⟨rfl, rfl, rfl, by decide +kernel, rfl, by decide +kernel, by decide +kernel⟩

theorem qeq {Q : VK} {a b : Bool} {H : Hp} (q : Q (.bl a) H) (e : a = b) : Q (.bl b) H := e ▸ q
section
variable {P : Program} {w : World} {K : PySem.W.Frag} {mg : Str → Option Value} {base : Heap}
def spWhole (K : PySem.W.Frag) : Sp := fun vs H Q _ => ∃ x d, vs = [x] ∧ Dp K H x d ∧ Q (.bl (isWholeD d)) H
theorem ok_whole {f : Addr} {fd : FuncData} (F : Fun K "is_whole" "is_whole" sWhole f fd) (mi : mg "isinstance" = none) (mI : mg "int" = none) (mB : mg "bool" = none) : FnOk P w K mg base CX0 1 f fd ["thing"] (spWhole K) := by
  refine F.ok scWhole (fun vs H Q E h => ?_) (fun cdv A outer s H vs Q E hr h => ?_)
  · obtain ⟨x, d, rfl, _⟩ := h
    rfl
  · obtain ⟨x, d, rfl, hd, q⟩ := h
    refine ⟨_, pss_one (ps_ret (pe_and (pe_callB call_isi (by rfl) mi boot_isinstance (pa_cons (pv 0) (pa_cons (pe_bltn (v := .ty "int") (by rfl) mI (by decide +kernel) rfl) pa_nil)))
      (pe_one (pe_not (pe_callB call_isi (by rfl) mi boot_isinstance (pa_cons (pv 0) (pa_cons (pe_bltn (v := .ty "bool") (by rfl) mB (by decide +kernel) rfl) pa_nil))))))), ?_⟩
    refine ⟨x, rfl, x, .ty "int", _, _, _, rfl, .ty "int", dp_ty hd, kit_ty (tys_int (tyD_mem d)), _, rfl, ite2 (fun e => ?_) (fun e => ?_)⟩
    · refine ⟨x, rfl, x, .ty "bool", _, _, _, rfl, .ty "bool", dp_ty hd, kit_ty (tys_bool (tyD_mem d)), _, rfl, ?_⟩
      exact qeq q (by rw [← whole_ty d, e, Bool.true_and])
    · have e' : (tyD d == "int" || tyD d == "bool") = false := by simpa using e
      exact qeq q (by rw [← whole_ty d, e', Bool.false_and])
def spWithin (K : PySem.W.Frag) : Sp := fun vs H Q _ => ∃ x d lo hi, vs = [x, .int lo, .int hi] ∧ Dp K H x d ∧ Q (.bl (withinD d lo hi)) H
theorem ok_within {f fW : Addr} {fd fdW : FuncData} (F : Fun K "is_within" "is_within" sWithin f fd) (FW : Fun K "is_whole" "is_whole" sWhole fW fdW) (bW : Binds K fdW ["thing"] []) (gW : mg "is_whole" = some (.ref fW))
    (GW : FnOk P w K mg base CX0 1 fW fdW ["thing"] (spWhole K)) : FnOk P w K mg base CX0 2 f fd ["thing", "least", "greatest"] (spWithin K) := by
  refine F.ok scWithin (fun vs H Q E h => ?_) (fun cdv A outer s H vs Q E hr h => ?_)
  · obtain ⟨x, d, lo, hi, rfl, _⟩ := h
    rfl
  · obtain ⟨x, d, lo, hi, rfl, hd, q⟩ := h
    refine ⟨_, pss_one (ps_ret (pe_and (pe_call GW hr (by rfl) gW FW.kp bW .nil pass0 (pa_cons (pv 0) pa_nil)) (pe_one (pe_chain op_le op_le (pv 1) (pv 0) (pv 2))))), ?_⟩
    refine ⟨x, rfl, x, d, rfl, hd, _, rfl, ite2 (fun e => ?_) (fun e => ?_)⟩
    · obtain ⟨i, rfl, rfl⟩ := dp_int hd e
      refine ⟨_, rfl, _, rfl, _, _, rfl, rfl, _, rfl, ite2 (fun e1 => ?_) (fun e1 => ?_)⟩
      · refine ⟨_, rfl, _, _, rfl, rfl, ?_⟩
        exact qeq q (by show (decide (lo ≤ i) && decide (i ≤ hi)) = _; rw [e1, Bool.true_and])
      · exact qeq q (by show (decide (lo ≤ i) && decide (i ≤ hi)) = _; simp only [Bool.not_eq_true] at e1; rw [e1, Bool.false_and])
    · exact qeq q (by cases d <;> first | rfl | exact absurd rfl e)
end
end HK

set_option Elab.async false
set_option linter.all false
set_option maxRecDepth 100000
set_option maxHeartbeats 2000000
namespace HK
open PySem PySem.Spec PyProof.Rows L2 GAl GxR
def neD : PyData → PyData → Bool
  | .int a, .int b => !decide (a = b)
  | _, _ => false
def isRoadD (n : Int) : PyData → Bool
  | .tuple [s, e, c, l] => (withinD s 0 (n - 1) && withinD e 0 (n - 1) && neD s e) && (withinD c 0 1000 && withinD l 1 1000)
  | _ => false
theorem dpAll_len {K : PySem.W.Frag} {H : Hp} : ∀ {xs : List V} {ds : List PyData}, DpAll K H xs ds → xs.length = ds.length
  | _, _, .nil => rfl
  | _, _, .cons _ t => by rw [List.length_cons, List.length_cons, dpAll_len t]
theorem within_int {d : PyData} {lo hi : Int} (h : withinD d lo hi = true) : ∃ i, d = .int i ∧ lo ≤ i ∧ i ≤ hi := by
  cases d <;> simp only [withinD] at h <;> first | cases h | skip
  rename_i i
  simp only [Bool.and_eq_true, decide_eq_true_eq] at h
  exact ⟨i, rfl, h.1, h.2⟩
theorem dp_int' {K : PySem.W.Frag} {H : Hp} {x : V} {i : Int} (h : Dp K H x (.int i)) : x = .int i := by cases h; rfl
theorem dp_tup {K : PySem.W.Frag} {H : Hp} {x : V} {ds : List PyData} (h : Dp K H x (.tuple ds)) : ∃ a xs, x = .ref a ∧ SqT K H a xs ∧ DpAll K H xs ds := by cases h with | tup a b => exact ⟨_, _, rfl, a, b⟩

section
variable {P : Program} {w : World} {K : PySem.W.Frag} {mg : Str → Option Value} {base : Heap}
def spRoad (K : PySem.W.Frag) : Sp := fun vs H Q _ => ∃ (n : Int) (x : V) (d : PyData), vs = [.int n, x] ∧ Dp K H x d ∧ Q (.bl (isRoadD n d)) H
theorem ok_road {f fW : Addr} {fd fdW : FuncData} {t1 t2 t3 : Tok} (F : Fun K "is_road" "is_road" sIsRoad f fd) (FW : Fun K "is_within" "is_within" sWithin fW fdW) (bW : Binds K fdW ["thing", "least", "greatest"] []) (gW : mg "is_within" = some (.ref fW))
    (GW : FnOk P w K mg base CX0 2 fW fdW ["thing", "least", "greatest"] (spWithin K)) (mi : mg "isinstance" = none) (mT : mg "tuple" = none) (ml : mg "len" = none)
    (g1 : mg "MOST_PRICE" = some (.int 1000 t1)) (g2 : mg "LEAST_LATE" = some (.int 1 t2)) (g3 : mg "MOST_LATE" = some (.int 1000 t3)) : FnOk P w K mg base CX0 3 f fd ["many", "thing"] (spRoad K) := by
  refine F.ok scIsRoad (fun vs H Q E h => ?_) (fun cdv A outer s H vs Q E hr h => ?_)
  · obtain ⟨n, x, d, rfl, _⟩ := h
    rfl
  · obtain ⟨n, x, d, rfl, hd, q⟩ := h
    refine ⟨_, pss_cons (ps_if (pt_not (PW.pt (pw_and (pt_val (pe_callB call_isi (by rfl) mi boot_isinstance (pa_cons (pv 1) (pa_cons (pe_bltn (v := .ty "tuple") (by rfl) mT (by decide +kernel) rfl) pa_nil))))
        (pw_and1 (pt_cmpR op_eq (pe_callB call_len_seq (by rfl) ml PySem.boot_len (pa_cons (pv 1) pa_nil)) pe_int (nomark _)))))) (pss_one (ps_ret pe_bl)) pss_nil)
      (pss_cons (ps_asg (pv 1) (pg_tup rfl (pgs_cons (pg_name (i := 2) scIsRoad.nd rfl (.inl rfl)) (pgs_cons (pg_name (i := 3) scIsRoad.nd rfl (.inl rfl)) (pgs_cons (pg_name (i := 4) scIsRoad.nd rfl (.inl rfl)) (pgs_cons (pg_name (i := 5) scIsRoad.nd rfl (.inl rfl)) pgs_nil))))))
      (pss_cons (ps_if (pt_not (PW.pt (pw_and (pt_val (pe_call GW hr (by rfl) gW FW.kp bW .nil pass0 (pa_cons (pv 2) (pa_cons pe_int (pa_cons (pe_op op_sub (pv 0) pe_int) pa_nil)))))
        (pw_and (pt_val (pe_call GW hr (by rfl) gW FW.kp bW .nil pass0 (pa_cons (pv 3) (pa_cons pe_int (pa_cons (pe_op op_sub (pv 0) pe_int) pa_nil)))))
          (pw_and1 (pt_cmpR op_ne (pv 2) (pv 3) (nomark _))))))) (pss_one (ps_ret pe_bl)) pss_nil)
      (pss_one (ps_ret (pe_and (pe_call GW hr (by rfl) gW FW.kp bW .nil pass0 (pa_cons (pv 4) (pa_cons pe_int (pa_cons (pe_glob (v := .int 1000) (by rfl) g1 ⟨_, rfl⟩) pa_nil))))
        (pe_one (pe_call GW hr (by rfl) gW FW.kp bW .nil pass0 (pa_cons (pv 5) (pa_cons (pe_glob (v := .int 1) (by rfl) g2 ⟨_, rfl⟩) (pa_cons (pe_glob (v := .int 1000) (by rfl) g3 ⟨_, rfl⟩) pa_nil)))))))))), ?_⟩
    -- isinstance(thing, tuple) and len(thing) == 4
    refine ⟨x, rfl, x, .ty "tuple", _, _, _, rfl, .ty "tuple", dp_ty hd, kit_ty (tys_tuple (tyD_mem d)), _, rfl, ite2 (fun e => ?_) (fun e => ?_)⟩
    · obtain ⟨ds, rfl⟩ : ∃ ds, d = .tuple ds := by cases d <;> first | exact ⟨_, rfl⟩ | (simp [tyD] at e)
      obtain ⟨a, xs, rfl, hq, hall⟩ := dp_tup hd
      refine ⟨.ref a, rfl, a, xs, rfl, .inr hq, rfl, _, rfl, ?_⟩
      by_cases h4 : xs.length = 4
      · rw [decide_eq_true (show (V.int (xs.length : Int)) = .int 4 by rw [h4]; rfl)]
        refine iteF ?_
        have h4' : ds.length = 4 := by rw [← dpAll_len hall]; exact h4
        obtain ⟨s1, e1, c1, l1, rfl⟩ : ∃ s1 e1 c1 l1, ds = [s1, e1, c1, l1] := by
          match ds, h4' with
          | [a, b, c, d], _ => exact ⟨a, b, c, d, rfl⟩
        cases hall with
        | cons d1 hall => cases hall with
          | cons d2 hall => cases hall with
            | cons d3 hall => cases hall with
              | cons d4 hall =>
                cases hall
                rename_i v1 v2 v3 v4
                refine ⟨.ref a, rfl, a, _, rfl, hq, rfl, v1, _, rfl, v2, _, rfl, v3, _, rfl, v4, _, rfl, rfl, ?_⟩
                refine ⟨v1, rfl, .int n, rfl, n, 1, rfl, rfl, v1, s1, 0, n - 1, rfl, d1, _, rfl, ite2 (fun b1 => ?_) (fun b1 => ?_)⟩
                · refine ⟨v2, rfl, .int n, rfl, n, 1, rfl, rfl, v2, e1, 0, n - 1, rfl, d2, _, rfl, ite2 (fun b2 => ?_) (fun b2 => ?_)⟩
                  · obtain ⟨i, rfl, _⟩ := within_int b1
                    obtain ⟨j, rfl, _⟩ := within_int b2
                    obtain rfl := dp_int' d1
                    obtain rfl := dp_int' d2
                    refine ⟨_, rfl, _, rfl, rfl, _, rfl, ?_⟩
                    have hne : (!decide (V.int i = V.int j)) = neD (.int i) (.int j) := by
                      show (!decide (V.int i = V.int j)) = !decide (i = j)
                      congr 1
                      exact decide_eq_decide.mpr ⟨fun z => V.int.inj z, fun z => by rw [z]⟩
                    rw [hne]
                    cases b3 : neD (.int i) (.int j) with
                    | true =>
                      refine iteF ?_
                      refine ⟨v3, rfl, v3, c1, 0, 1000, rfl, d3, _, rfl, ite2 (fun b4 => ?_) (fun b4 => ?_)⟩
                      · refine ⟨v4, rfl, v4, l1, 1, 1000, rfl, d4, ?_⟩
                        exact qeq q (by show ((_ && _ && _) && (_ && _)) = _; rw [b1, b2, b3, b4]; rfl)
                      · simp only [Bool.not_eq_true] at b4
                        exact qeq q (by show ((_ && _ && _) && (_ && _)) = _; rw [b4, Bool.false_and, Bool.and_false])
                    | false =>
                      refine iteT ?_
                      exact qeq q (by show ((_ && _ && _) && (_ && _)) = _; rw [b3, Bool.and_false, Bool.false_and])
                  · simp only [Bool.not_eq_true] at b2
                    refine iteT ?_
                    exact qeq q (by show ((_ && _ && _) && (_ && _)) = _; rw [b2, Bool.and_false, Bool.false_and, Bool.false_and])
                · simp only [Bool.not_eq_true] at b1
                  refine iteT ?_
                  exact qeq q (by show ((_ && _ && _) && (_ && _)) = _; rw [b1, Bool.false_and, Bool.false_and, Bool.false_and])
      · rw [decide_eq_false (show ¬ (V.int (xs.length : Int)) = .int 4 from fun z => h4 (by have := V.int.inj z; omega))]
        refine iteT ?_
        refine qeq q ?_
        have h4' : ds.length ≠ 4 := by rw [← dpAll_len hall]; exact h4
        unfold isRoadD
        split
        · rename_i heq
          cases heq
          exact absurd rfl h4'
        · rfl
    · refine iteT ?_
      refine qeq q ?_
      cases d <;> first | rfl | (exact absurd rfl e)
end
end HK

set_option Elab.async false
set_option linter.all false
set_option maxRecDepth 100000
set_option maxHeartbeats 2000000
namespace HK
open PySem PySem.Spec PyProof.Rows L2 GAl GxR
theorem tyes {σ : L2.St} {H : Hp} {A B : Hp → Prop} (h : A H) : tYes σ H (fun b H3 => if b = true then A H3 else B H3) := by
  show (fun (b : Bool) (H3 : Hp) => if b = true then A H3 else B H3) true H
  simp only [if_true]
  exact h
def risesB (l : List (List Int)) : Bool := (List.range (l.length - 1)).all fun i => HT.lexLt (l.getD i []) (l.getD (i + 1) [])
theorem risesB_yes {l : List (List Int)} (h : ∀ j, j < l.length - 1 → HT.lexLt (l.getD j []) (l.getD (j + 1) []) = true) : risesB l = true := by
  unfold risesB
  rw [List.all_eq_true]
  exact fun j hj => h j (List.mem_range.mp hj)
theorem risesB_no {l : List (List Int)} {j : Nat} (hj : j < l.length - 1) (h : HT.lexLt (l.getD j []) (l.getD (j + 1) []) = false) : risesB l = false := by
  unfold risesB
  rw [Bool.eq_false_iff]
  intro z
  have := List.all_eq_true.mp z j (List.mem_range.mpr hj)
  rw [h] at this
  cases this
theorem cut1 (xs : List V) : cutV xs (some 1) none = xs.drop 1 := by
  unfold cutV
  rw [show HT.sIx xs.length 0 (some 1) = min 1 xs.length from HT.sIx_nat xs.length 0 1, HT.sIx_none]
  cases xs with
  | nil => rfl
  | cons x r =>
    rw [show min 1 (x :: r).length = 1 by
      rw [List.length_cons]
      omega]
    show (List.take ((x :: r).length - 1) r) = r
    rw [List.length_cons, Nat.add_sub_cancel]
    exact List.take_length
theorem scRises : FnScope ["row", "low", "high"] ["row"] (defScope sRises) := ⟨rfl, rfl, rfl, by decide +kernel, rfl, by decide +kernel, by decide +kernel⟩
section
variable {P : Program} {w : World} {K : PySem.W.Frag} {mg : Str → Option Value} {base : Heap}
/-- the list at a holds tuples of ints -/
def TupsAt (K : PySem.W.Frag) (H : Hp) (xs : List V) (l : List (List Int)) : Prop := xs.length = l.length ∧ ∀ (i : Nat) (x : V), xs[i]? = some x → ∃ t, x = .ref t ∧ SqT K H t ((l.getD i []).map V.int)
theorem TupsAt.k0 {H H' : Hp} {xs : List V} {l : List (List Int)} (h : TupsAt K H xs l) (k : K0 H H') : TupsAt K H' xs l := ⟨h.1, fun i x e => by
  obtain ⟨t, e, s⟩ := h.2 i x e
  exact ⟨t, e, k.sqT s⟩⟩
def spRises (K : PySem.W.Frag) (Pr : Addr) : Sp := fun vs H Q _ => ∃ (a : Addr) (xs : List V) (l : List (List Int)), vs = [.ref a] ∧ SqL K H a xs ∧ TupsAt K H xs l ∧ TabG H Pr ∧ ∀ H', K0 H H' → Q (.bl (risesB l)) H'
theorem ok_rises {f c Pr : Addr} {fd : FuncData} (F : FunC K "rises" "rises" sRises f fd c) (TB : TabB base mg c Pr) (mz : mg "zip" = none) (ma : mg "all" = none) : FnOk P w K mg base CX0 2 f fd ["row"] (spRises K Pr) := by
  refine F.ok scRises (fun vs H Q E h => ?_) (fun A outer s H vs Q E hr h => ?_)
  · obtain ⟨a, xs, l, rfl, _⟩ := h
    rfl
  · obtain ⟨a, xs, l, rfl, hS, hT, hP, q⟩ := h
    refine ⟨_, pss_one (ps_ret (pe_allG (own := [("low", 1), ("high", 2)]) (k := 0) (g := gTup K 2 (gCons (gName 1) (gCons (gName 2) gNil))) (tt := tYes) (te := tOp (rLtT K) (tVar 1) (tVar 2)) hr (by rfl) ma rfl scRises.nd TB rfl (gsc_by (N := ["row", "low", "high"]) (sc := defScope sRises) (by decide +kernel))
      (pi_zip (by rfl) mz (pa_cons (pv 0) (pa_cons (pe_slice sl_list (pv 0) (po_some pe_int) po_none) pa_nil)))
      (fun A' hr' _ _ _ _ _ _ => pg_tup rfl (pgs_cons (pg_name (i := 1) scRises.nd rfl (.inl rfl)) (pgs_cons (pg_name (i := 2) scRises.nd rfl (.inl rfl)) pgs_nil)))
      (fun A' hr' _ _ _ _ _ _ => pts_nil)
      (fun A' hr' _ _ _ _ _ _ => pe_cmpR (op_ltT hr'.units0) (pv 1) (pv 2) (nomark _)))), ?_⟩
    refine ⟨.ref a, rfl, .ref a, rfl, 1, rfl, a, xs, rfl, hS, fun c nc => ?_⟩
    have k1 : K0 H (upd H c (.lst (cutV xs (some 1) none))) := K0.new nc
    refine ⟨a, c, xs, _, rfl, k1.sqL hS, .inl (.inl upd_same), k1.tab _ hP, fun H2 hT2 => ?_⟩
    have k2 : K0 H H2 := k1.trans (K0.tbd (k1.tab _ hP) hT2)
    have hc2 : H2 c = some (.lst (xs.drop 1)) := by
      have := (K0.tbd (k1.tab _ hP) hT2).oth c _ upd_same (fun _ z => by cases z)
      rw [cut1] at this
      exact this
    refine ⟨fun i m H3 => i + m = xs.length - 1 ∧ K0 H H3 ∧ H3 c = some (.lst (xs.drop 1)) ∧ ∀ j, j < i → HT.lexLt (l.getD j []) (l.getD (j + 1) []) = true, ⟨xs.length - 1, by omega, k2, hc2, fun j hj => absurd hj (Nat.not_lt_zero _)⟩, fun i m H3 hW => ?_⟩
    obtain ⟨em, k3, ec, hlt⟩ := hW
    have hA : SqL K H3 a xs := k3.sqL hS
    have hC : SqL K H3 c (xs.drop 1) := .inl (.inl ec)
    by_cases hi : i < xs.length - 1
    · have h1 : i < xs.length := by omega
      have h2 : i + 1 < xs.length := by omega
      have g1 : xs[i]? = some xs[i] := List.getElem?_eq_getElem h1
      have g2 : (xs.drop 1)[i]? = some xs[i + 1] := by rw [List.getElem?_drop, Nat.add_comm 1 i]; exact List.getElem?_eq_getElem h2
      refine .inr ⟨⟨_, _, _, _, hA, hC, g1, g2⟩, fun H' => K0 H H' ∧ H' c = some (.lst (xs.drop 1)) ∧ HT.lexLt (l.getD i []) (l.getD (i + 1) []) = true, fun H' hN => ?_, fun x H' hy => ?_⟩
      · obtain ⟨k', ec', hl'⟩ := hN
        refine ⟨m - 1, by omega, by omega, k', ec', fun j hj => ?_⟩
        by_cases e : j = i
        · rw [e]; exact hl'
        · exact hlt j (by omega)
      · obtain ⟨T, x1, x2, rfl, nT, rfl, f1, f2⟩ := hy
        have ex1 : x1 = xs[i] := Option.some.inj ((f1 _ hA).symm.trans g1)
        have ex2 : x2 = xs[i + 1] := Option.some.inj ((f2 _ hC).symm.trans g2)
        have kT : K0 H3 (upd H3 T (.tup [x1, x2])) := K0.new nT
        obtain ⟨t1, e1, s1⟩ := hT.2 i x1 (by rw [ex1]; exact g1)
        obtain ⟨t2, e2, s2⟩ := hT.2 (i + 1) x2 (by rw [ex2]; exact List.getElem?_eq_getElem h2)
        refine ⟨T, [x1, x2], rfl, .inl (.inl upd_same), rfl, x1, [x2], rfl, x2, [], rfl, rfl, rfl, ?_⟩
        refine tyes ?_
        have k4 := k3.trans kT
        refine ⟨x1, rfl, x2, rfl, t1, t2, _, _, e1, e2, k4.sqT s1, k4.sqT s2, _, rfl, ?_⟩
        cases hb : HT.lexLt (l.getD i []) (l.getD (i + 1) []) with
        | true => exact iteT ⟨k4, kT.oth c _ ec (fun _ z => by cases z), rfl⟩
        | false => exact iteF (qeq (q _ k4) (risesB_no (by rw [← hT.1]; exact hi) hb))
    · refine .inl ⟨⟨_, _, hA, hC, .inr (by rw [List.length_drop]; omega)⟩, ?_⟩
      exact qeq (q _ k3) (risesB_yes fun j hj => hlt j (by rw [← hT.1] at hj; omega))
end
end HK

set_option Elab.async false
set_option linter.all false
set_option maxRecDepth 100000
set_option maxHeartbeats 2000000
namespace HK
open PySem PySem.Spec PyProof.Rows L2 GAl GxR
def pairD : PyData → List Int
  | .tuple (.int s :: .int e :: _) => [s, e]
  | _ => []
def isNetD : PyData → Bool
  | .tuple [.int m, .tuple rs] => (decide (1 ≤ m) && decide (m ≤ 12)) && (rs.all (isRoadD m) && risesB (rs.map pairD))
  | _ => false
theorem road_ints {n : Int} {d : PyData} (h : isRoadD n d = true) : ∃ s e c l : Int, d = .tuple [.int s, .int e, .int c, .int l] ∧ 0 ≤ s ∧ s ≤ n - 1 ∧ 0 ≤ e ∧ e ≤ n - 1 ∧ s ≠ e ∧ 0 ≤ c ∧ c ≤ 1000 ∧ 1 ≤ l ∧ l ≤ 1000 := by
  unfold isRoadD at h
  split at h
  · rename_i s e c l
    simp only [Bool.and_eq_true] at h
    obtain ⟨⟨⟨h1, h2⟩, h3⟩, h4, h5⟩ := h
    obtain ⟨i, rfl, a1, a2⟩ := within_int h1
    obtain ⟨j, rfl, b1, b2⟩ := within_int h2
    obtain ⟨k, rfl, c1, c2⟩ := within_int h4
    obtain ⟨q, rfl, d1, d2⟩ := within_int h5
    refine ⟨i, j, k, q, rfl, a1, a2, b1, b2, fun z => ?_, c1, c2, d1, d2⟩
    rw [z] at h3
    simp [neD] at h3
  · cases h
theorem dp_ints4 {K : PySem.W.Frag} {H : Hp} {x : V} {s e c l : Int} (h : Dp K H x (.tuple [.int s, .int e, .int c, .int l])) : ∃ a, x = .ref a ∧ SqT K H a [.int s, .int e, .int c, .int l] := by
  obtain ⟨a, xs, rfl, hq, hall⟩ := dp_tup h
  cases hall with
  | cons d1 hall => cases hall with
    | cons d2 hall => cases hall with
      | cons d3 hall => cases hall with
        | cons d4 hall =>
          cases hall
          obtain rfl := dp_int' d1
          obtain rfl := dp_int' d2
          obtain rfl := dp_int' d3
          obtain rfl := dp_int' d4
          exact ⟨a, rfl, hq⟩
theorem dpAll_get {K : PySem.W.Frag} {H : Hp} : ∀ {xs : List V} {ds : List PyData} {i : Nat} {x : V}, DpAll K H xs ds → xs[i]? = some x → ∃ d, ds[i]? = some d ∧ Dp K H x d
  | _, _, _, _, .nil, e => by simp at e
  | _, _, 0, _, .cons h _, e => by simp at e; subst e; exact ⟨_, rfl, h⟩
  | _, _, i + 1, x, .cons _ t, e => by
    obtain ⟨d, h1, h2⟩ := dpAll_get (i := i) (x := x) t (by simpa using e)
    exact ⟨d, by simpa using h1, h2⟩
theorem K0.mut {H H' : Hp} {p : Addr} {o : HO} (k : K0 H H') (n : H p = none) : K0 H (upd H' p o) := ⟨fun b u e m => by
  rw [upd_ne (ne_of_none e n)]; exact k.oth b u e m, fun P h => by
  obtain ⟨ps, e, ht⟩ := h
  obtain ⟨ps', e', ht'⟩ := k.tab P ⟨ps, e, ht⟩
  exact ⟨ps', by rw [upd_ne (ne_of_none e n)]; exact e', ht'⟩, fun b e => k.dom b (upd_none e)⟩
theorem TupsAt.kt {K : PySem.W.Frag} {t : Addr} {H H' : Hp} {xs : List V} {l : List (List Int)} (h : TupsAt K H xs l) (k : Kt t H H') : TupsAt K H' xs l := ⟨h.1, fun i x e => by
  obtain ⟨t, e, s⟩ := h.2 i x e
  exact ⟨t, e, k.sqT s⟩⟩
theorem TupsAt.snoc {K : PySem.W.Frag} {H : Hp} {xs : List V} {l : List (List Int)} {t : Addr} {ns : List Int} (h : TupsAt K H xs l) (s : SqT K H t (ns.map V.int)) : TupsAt K H (xs ++ [.ref t]) (l ++ [ns]) := by
  refine ⟨by simp [h.1], fun i x e => ?_⟩
  by_cases hi : i < xs.length
  · rw [List.getElem?_append_left hi] at e
    obtain ⟨t', e', s'⟩ := h.2 i x e
    refine ⟨t', e', ?_⟩
    have : (l ++ [ns]).getD i [] = l.getD i [] := by
      simp only [List.getD_eq_getElem?_getD]
      rw [List.getElem?_append_left (by rw [← h.1]; exact hi)]
    rw [this]; exact s'
  · have hx : i = xs.length := by
      have : i < (xs ++ [V.ref t]).length := (List.getElem?_eq_some_iff.mp e).1
      rw [List.length_append, List.length_singleton] at this
      omega
    subst hx
    rw [List.getElem?_append_right (Nat.le_refl _), Nat.sub_self] at e
    have e : V.ref t = x := Option.some.inj e
    refine ⟨t, e.symm, ?_⟩
    have : (l ++ [ns]).getD xs.length [] = ns := by
      simp only [List.getD_eq_getElem?_getD]
      rw [h.1, List.getElem?_append_right (Nat.le_refl _), Nat.sub_self]; rfl
    rw [this]; exact s
theorem scIsNet : FnScope ["thing", "many", "roads", "road"] ["thing"] (defScope sIsNet) := ⟨rfl, rfl, rfl, by decide +kernel, rfl, by decide +kernel, by decide +kernel⟩
theorem all_no {rs : List PyData} {p : PyData → Bool} {i : Nat} {d : PyData} (h : rs[i]? = some d) (hd : p d = false) : rs.all p = false := by
  rw [Bool.eq_false_iff]
  intro z
  have := List.all_eq_true.mp z d (List.mem_of_getElem? h)
  rw [hd] at this; cases this
theorem all_yes {rs : List PyData} {p : PyData → Bool} (h : ∀ (j : Nat) (d : PyData), rs[j]? = some d → p d = true) : rs.all p = true := by
  rw [List.all_eq_true]
  intro d hd
  obtain ⟨j, hj, e⟩ := List.getElem_of_mem hd
  exact h j d (by rw [← e]; exact List.getElem?_eq_getElem hj)

section
variable {P : Program} {w : World} {K : PySem.W.Frag} {mg : Str → Option Value} {base : Heap}
def NetAns (K : PySem.W.Frag) (H : Hp) (v : V) (b : Bool) : Prop := (∃ d, Dp K H v d ∧ (∀ m rs, d = .tuple [m, .tuple rs] → rs.length ≤ 1000) ∧ b = isNetD d) ∨ (∃ T, T ∈ tys ∧ TyX K H v (.type T) ∧ (T == "tuple") = false ∧ b = false)
def spIsNet (K : PySem.W.Frag) (Pn Pr : Addr) : Sp := fun vs H Q _ => ∃ (v : V) (b : Bool), vs = [v] ∧ NetAns K H v b ∧ TabG H Pn ∧ TabG H Pr ∧ ∀ H', K0 H H' → Q (.bl b) H'
theorem ok_isnet {f c Pn Pr fW fR fS : Addr} {fd fdW fdR fdS : FuncData} {t1 : Tok} (F : FunC K "is_net" "is_net" sIsNet f fd c) (TB : TabB base mg c Pn)
    (kW : PySem.W.keepIn K (.ref fW) = true) (bW : Binds K fdW ["thing", "least", "greatest"] []) (gW : mg "is_within" = some (.ref fW)) (GW : FnOk P w K mg base CX0 2 fW fdW ["thing", "least", "greatest"] (spWithin K))
    (kR : PySem.W.keepIn K (.ref fR) = true) (bR : Binds K fdR ["many", "thing"] []) (gR : mg "is_road" = some (.ref fR)) (GR : FnOk P w K mg base CX0 3 fR fdR ["many", "thing"] (spRoad K))
    (kS : PySem.W.keepIn K (.ref fS) = true) (bS : Binds K fdS ["row"] []) (gS : mg "rises" = some (.ref fS)) (GS : FnOk P w K mg base CX0 2 fS fdS ["row"] (spRises K Pr))
    (mi : mg "isinstance" = none) (mT : mg "tuple" = none) (ml : mg "len" = none) (ma : mg "all" = none) (g1 : mg "MOST_PLACES" = some (.int 12 t1)) : FnOk P w K mg base CX0 5 f fd ["thing"] (spIsNet K Pn Pr) := by
  refine F.ok scIsNet (fun vs H Q E h => ?_) (fun A outer s H vs Q E hr h => ?_)
  · obtain ⟨v, b, rfl, _⟩ := h
    rfl
  · obtain ⟨v, b, rfl, hA, hPn, hPr, q⟩ := h
    refine ⟨_, pss_cons (ps_if (pt_not (PW.pt (pw_and (pt_val (pe_callB call_isi (by rfl) mi boot_isinstance (pa_cons (pv 0) (pa_cons (pe_bltn (v := .ty "tuple") (by rfl) mT (by decide +kernel) rfl) pa_nil))))
        (pw_and1 (pt_cmpR op_eq (pe_callB call_len_seq (by rfl) ml PySem.boot_len (pa_cons (pv 0) pa_nil)) pe_int (nomark _)))))) (pss_one (ps_ret pe_bl)) pss_nil)
      (pss_cons (ps_asg (pv 0) (pg_tup rfl (pgs_cons (pg_name (i := 1) scIsNet.nd rfl (.inr rfl)) (pgs_cons (pg_name (i := 2) scIsNet.nd rfl (.inl rfl)) pgs_nil))))
      (pss_cons (ps_if (pt_not (PW.pt (pw_and (pt_val (pe_call GW (hr.mono (by decide)) (by rfl) gW kW bW .nil pass0 (pa_cons (pv 1) (pa_cons pe_int (pa_cons (pe_glob (v := .int 12) (by rfl) g1 ⟨_, rfl⟩) pa_nil)))))
        (pw_and1 (pt_val (pe_callB call_isi (by rfl) mi boot_isinstance (pa_cons (pv 2) (pa_cons (pe_bltn (v := .ty "tuple") (by rfl) mT (by decide +kernel) rfl) pa_nil)))))))) (pss_one (ps_ret pe_bl)) pss_nil)
      (pss_cons (ps_if (pt_not (pt_val (pe_allG (own := [("road", 3)]) (k := 3) (g := gName 3) (tt := tYes) (te := tCall (spRoad K) [] E0 (tCons (tVar 1) (tCons (tVar 3) tNil))) hr (by rfl) ma rfl scIsNet.nd TB rfl (gsc_by (N := ["thing", "many", "roads", "road"]) (sc := defScope sIsNet) (by decide +kernel))
          (pi_tup (pv 2)) (fun A' hr' _ _ _ _ _ _ => pg_name (i := 3) scIsNet.nd rfl (.inl rfl)) (fun A' hr' _ _ _ _ _ _ => pts_nil)
          (fun A' hr' _ _ _ _ _ _ => pe_call GR hr' (by rfl) gR kR bR .nil pass0 (pa_cons (pv 1) (pa_cons (pv 3) pa_nil)))))) (pss_one (ps_ret pe_bl)) pss_nil)
      (pss_one (ps_ret (pe_call GS (hr.mono (by decide)) (by rfl) gS kS bS .nil pass0 (pa_cons (pe_lc (own := [("road", 3)]) (g := gName 3) (tt := tYes) (te := tSl (rSlT K) (tVar 3) tNoPart (tPart (tC (.int 2)))) rfl scIsNet.nd (pi_tup (pv 2))
          (blkOk_by (N := ["thing", "many", "roads", "road"]) (sc := defScope sIsNet) (by decide +kernel)) (fun _ _ _ _ _ => pg_name (i := 3) scIsNet.nd rfl (Or.inl rfl)) (fun _ _ _ _ _ => pts_nil)
          (fun _ _ _ _ _ => pe_slice sl_tup (pv 3) po_none (po_some pe_int))) pa_nil))))))), ?_⟩
    rcases hA with ⟨d, hd, hsz, rfl⟩ | ⟨T, hT, hty, hne, rfl⟩
    · refine ⟨v, rfl, v, .ty "tuple", _, _, _, rfl, .ty "tuple", dp_ty hd, kit_ty (tys_tuple (tyD_mem d)), _, rfl, ite2 (fun e => ?_) (fun e => ?_)⟩
      · obtain ⟨ds, rfl⟩ : ∃ ds, d = .tuple ds := by cases d <;> first | exact ⟨_, rfl⟩ | (simp [tyD] at e)
        obtain ⟨a, xs, rfl, hq, hall⟩ := dp_tup hd
        refine ⟨.ref a, rfl, a, xs, rfl, .inr hq, rfl, _, rfl, ?_⟩
        by_cases h4 : xs.length = 2
        · rw [decide_eq_true (show (V.int (xs.length : Int)) = .int 2 by rw [h4]; rfl)]
          refine iteF ?_
          have h4' : ds.length = 2 := by rw [← dpAll_len hall]; exact h4
          obtain ⟨dm, dr, rfl⟩ : ∃ dm dr, ds = [dm, dr] := by
            match ds, h4' with
            | [a, b], _ => exact ⟨a, b, rfl⟩
          cases hall with
          | cons d1 hall => cases hall with
            | cons d2 hall =>
              cases hall
              rename_i v1 v2
              refine ⟨.ref a, rfl, a, _, rfl, hq, rfl, v1, _, rfl, v2, _, rfl, rfl, ?_⟩
              refine ⟨v1, rfl, v1, dm, 1, 12, rfl, d1, _, rfl, ite2 (fun b1 => ?_) (fun b1 => ?_)⟩
              · obtain ⟨m, rfl, m1, m2⟩ := within_int b1
                obtain rfl := dp_int' d1
                refine ⟨v2, rfl, v2, .ty "tuple", _, _, _, rfl, .ty "tuple", dp_ty d2, kit_ty (tys_tuple (tyD_mem dr)), _, rfl, ?_⟩
                cases hb2 : (tyD dr == "tuple") with
                | false =>
                  refine iteT (qeq (q _ (K0.refl _)) ?_)
                  cases dr <;> first | rfl | (simp [tyD] at hb2)
                | true =>
                  refine iteF ?_
                  obtain ⟨rs, rfl⟩ : ∃ ds, dr = .tuple ds := by cases dr <;> first | exact ⟨_, rfl⟩ | (simp [tyD] at hb2)
                  obtain ⟨r, ys, rfl, hqr, hallr⟩ := dp_tup d2
                  have hm : isNetD (.tuple [.int m, .tuple rs]) = (rs.all (isRoadD m) && risesB (rs.map pairD)) := by
                    show ((decide (1 ≤ m) && decide (m ≤ 12)) && _) = _
                    rw [decide_eq_true m1, decide_eq_true m2, Bool.true_and, Bool.true_and]
                  rw [hm] at q
                  have hlen : ys.length = rs.length := dpAll_len hallr
                  -- all(is_road(many, road) for road in roads)
                  refine ⟨.ref r, rfl, r, rfl, ⟨_, hqr⟩, hPn, fun H2 hT2 => ?_⟩
                  have k2 : K0 H H2 := K0.tbd hPn hT2
                  refine ⟨fun i mm H3 => i + mm = ys.length ∧ K0 H H3 ∧ ∀ (j : Nat) (d : PyData), j < i → rs[j]? = some d → isRoadD m d = true, ⟨ys.length, by omega, k2, fun j _ hj => absurd hj (Nat.not_lt_zero _)⟩, fun i mm H3 hW => ?_⟩
                  obtain ⟨em, k3, hlt⟩ := hW
                  have hY : SqT K H3 r ys := k3.sqT hqr
                  by_cases hi : i < ys.length
                  · have g1 : ys[i]? = some ys[i] := List.getElem?_eq_getElem hi
                    obtain ⟨di, hdi, hDi⟩ := dpAll_get hallr g1
                    refine .inr ⟨⟨_, _, hY, g1⟩, fun H' => K0 H H' ∧ isRoadD m di = true, fun H' hN => ?_, fun x H' hy => ?_⟩
                    · obtain ⟨k', hb'⟩ := hN
                      refine ⟨mm - 1, by omega, by omega, k', fun j d hj hd => ?_⟩
                      by_cases e : j = i
                      · subst e
                        rw [hdi] at hd; cases hd; exact hb'
                      · exact hlt j d (by omega) hd
                    · obtain ⟨rfl, fx⟩ := hy
                      have ex : x = ys[i] := Option.some.inj ((fx _ hY).symm.trans g1)
                      subst ex
                      refine ⟨rfl, tyes ?_⟩
                      refine ⟨.int m, rfl, _, rfl, m, _, di, rfl, K0.dp k3 di _ hDi, _, rfl, ?_⟩
                      cases hb3 : isRoadD m di with
                      | true => exact iteT ⟨k3, rfl⟩
                      | false =>
                        refine iteF ⟨_, rfl, iteT (qeq (q _ k3) ?_)⟩
                        rw [all_no hdi hb3, Bool.false_and]
                  · refine .inl ⟨⟨_, hY, by omega⟩, _, rfl, iteF ?_⟩
                    have hallR : ∀ (j : Nat) (d : PyData), rs[j]? = some d → isRoadD m d = true := fun j d hd => hlt j d (by
                      have := (List.getElem?_eq_some_iff.mp hd).1
                      omega) hd
                    have hat : rs.all (isRoadD m) = true := all_yes hallR
                    rw [hat, Bool.true_and] at q
                    -- rises([road[:2] for road in roads])
                    refine ⟨.ref r, rfl, r, rfl, ⟨_, hY⟩, fun D nD => lc_tup (K := K) (a := r) (xs := ys) (fun i H4 => K0 H3 H4 ∧ ∃ zs, H4 D = some (.lst zs) ∧ TupsAt K H4 zs ((rs.take i).map pairD)) ⟨K0.new nD, [], upd_same, rfl, fun i x e => by simp at e⟩ (fun i H4 _ h => h.1.sqT hY) (fun i x H4 hx h => ?_) (fun H4 h => ?_)⟩
                    · obtain ⟨k4, zs, ez, hz⟩ := h
                      obtain ⟨di, hdi, hDi⟩ := dpAll_get hallr hx
                      obtain ⟨s1, e1, c1, l1, rfl, _⟩ := road_ints (hallR i di hdi)
                      obtain ⟨ar, rfl, hqa⟩ := dp_ints4 (K0.dp (k3.trans k4) _ _ hDi)
                      refine ⟨rfl, tyes ?_⟩
                      refine ⟨.ref ar, rfl, 2, rfl, ar, _, rfl, hqa, fun z => absurd z.2 (by show ¬ (HT.sIx 4 4 (some 2) = 4); decide), fun p np => ?_⟩
                      have kp : K0 H4 (upd H4 p (.tup (cutV [.int s1, .int e1, .int c1, .int l1] none (some 2)))) := K0.new np
                      have ez' := kp.oth D _ ez (fun _ z => by cases z)
                      have hl : zs.length ≤ rs.length := by
                        rw [hz.1, List.length_map, List.length_take]; omega
                      refine ⟨zs, ez', small1000 (Nat.le_trans hl (hsz _ _ rfl)), ?_⟩
                      refine ⟨(k4.trans kp).mut nD, zs ++ [.ref p], upd_same, ?_⟩
                      have : (rs.take (i + 1)).map pairD = (rs.take i).map pairD ++ [[s1, e1]] := by
                        rw [List.take_add_one, hdi, List.map_append]; rfl
                      rw [this]
                      refine TupsAt.snoc ((hz.k0 kp).kt (Kt.set ez')) ?_
                      exact (Kt.set ez').sqT (.inl (.inl upd_same))
                    · obtain ⟨k4, zs, ez, hz⟩ := h
                      rw [hlen, List.take_length] at hz
                      exact ⟨D, zs, _, rfl, .inl (.inl ez), hz, (k3.trans k4).tab _ hPr, fun H5 k5 => q _ ((k3.trans k4).trans k5)⟩
              · simp only [Bool.not_eq_true] at b1
                refine iteT (qeq (q _ (K0.refl _)) ?_)
                unfold isNetD
                split
                · rename_i heq
                  cases heq
                  show (withinD (.int _) 1 12 && _) = false
                  rw [b1, Bool.false_and]
                · rfl
        · rw [decide_eq_false (show ¬ (V.int (xs.length : Int)) = .int 2 from fun z => h4 (by have := V.int.inj z; omega))]
          refine iteT (qeq (q _ (K0.refl _)) ?_)
          have h4' : ds.length ≠ 2 := by rw [← dpAll_len hall]; exact h4
          unfold isNetD
          split
          · rename_i heq
            cases heq
            exact absurd rfl h4'
          · rfl
      · refine iteT (qeq (q _ (K0.refl _)) ?_)
        cases d <;> first | rfl | (exact absurd rfl e)
    · refine ⟨v, rfl, v, .ty "tuple", _, _, _, rfl, .ty "tuple", hty, kit_ty (tys_tuple hT), _, rfl, ?_⟩
      rw [hne]
      exact iteF (iteT (q _ (K0.refl _)))
end
end HK

set_option Elab.async false
set_option linter.all false
set_option maxRecDepth 100000
set_option maxHeartbeats 2000000
namespace HK
open PySem PySem.Spec PyProof.Rows L2 GAl GxR
open Evl (pss_cut)
abbrev sSpread : Stmt := topS 40
abbrev sDigit : Stmt := topS 41
abbrev sSome : Stmt := topS 42
theorem scSpread : FnScope ["cell", "place", "mixed", "other"] ["cell", "place"] (defScope sSpread) := ⟨rfl, rfl, rfl, by decide +kernel, rfl, by decide +kernel, by decide +kernel⟩
theorem scDigit : FnScope ["tape", "many", "place", "cell", "found"] ["tape", "many"] (defScope sDigit) := ⟨rfl, rfl, rfl, by decide +kernel, rfl, by decide +kernel, by decide +kernel⟩
theorem scSome : FnScope ["tape", "row"] ["tape", "row"] (defScope sSome) := ⟨rfl, rfl, rfl, by decide +kernel, rfl, by decide +kernel, by decide +kernel⟩
theorem dpInts {K : PySem.W.Frag} {H : Hp} : ∀ ns : List Int, DpAll K H (ns.map V.int) (ns.map PyData.int)
  | [] => .nil
  | n :: ns => .cons (.int n) (dpInts ns)
/-- the script, at s: written, locked, or a list apart from the tape's at t -/
def Scr (K : PySem.W.Frag) (t : Addr) (H : Hp) (s : Addr) (ns : List Int) : Prop := (H s = some (.lst (ns.map V.int)) ∧ s ≠ t) ∨ (∃ o, H s = some (.frz o (.lst (ns.map V.int)))) ∨
  ∃ (o : Obj) (its : Array Value) (n : Nat), K.lookup s = some o ∧ o.cls = .type "list" ∧ o.dict = none ∧ o.data = .seq its n ∧ its.size ≤ sizeLine ∧ Vals (ns.map V.int) its.toList
theorem Scr.sq {K : PySem.W.Frag} {t : Addr} {H : Hp} {s : Addr} {ns : List Int} (h : Scr K t H s ns) : SqL K H s (ns.map V.int) := by
  rcases h with ⟨h, _⟩ | h | h
  · exact .inl (.inl h)
  · exact .inl (.inr h)
  · exact .inr h
theorem Scr.kt {K : PySem.W.Frag} {t : Addr} {H H' : Hp} {s : Addr} {ns : List Int} (h : Scr K t H s ns) (k : Kt t H H') : Scr K t H' s ns := by
  rcases h with ⟨h, n⟩ | ⟨o, h⟩ | h
  · exact .inl ⟨k.oth _ _ h n (fun _ z => by cases z), n⟩
  · exact .inr (.inl ⟨o, k.frz _ _ _ h⟩)
  · exact .inr (.inr h)
theorem Scr.of {K : PySem.W.Frag} {t : Addr} {H : Hp} {s : Addr} {ns : List Int} {o : HO} (h : SqL K H s (ns.map V.int)) (n : H t = none) : Scr K t (upd H t o) s ns := by
  rcases h with (h | ⟨o', h⟩) | h
  · have z := ne_of_none h n
    exact .inl ⟨by rw [upd_ne z]; exact h, z⟩
  · have z := ne_of_none h n
    exact .inr (.inl ⟨o', by rw [upd_ne z]; exact h⟩)
  · exact .inr (.inr h)
/-- the tape: the script, the next place, what is left of the number -/
def TapeV (H : Hp) (t s : Addr) : Prop := ∃ p v : Int, H t = some (.lst [.ref s, .int p, .int v]) ∧ 0 ≤ p ∧ 0 ≤ v
structure Tape (K : PySem.W.Frag) (H : Hp) (t s : Addr) (ns : List Int) : Prop where
  v : TapeV H t s
  scr : Scr K t H s ns
theorem canLay_ints : ∀ ns : List Int, SeqAt.shaped (.list (ns.map PyData.int)) = true := PySem.W.shaped_ints
theorem eqv_nil (ns : List Int) : PyData.eqv (.list (ns.map PyData.int)) (.list []) = ns.isEmpty := by
  cases ns <;> simp [PyData.eqv, PyData.eqvAll]
section
variable {P : Program} {w : World} {K : PySem.W.Frag} {mg : Str → Option Value} {base : Heap}
def spSpread : Sp := fun vs H Q _ => ∃ cell place : Int, vs = [.int cell, .int place] ∧ 0 ≤ place ∧ ∀ v : Int, 0 ≤ v → Q (.int v) H
theorem mulR {i j : Int} (h : -(2 ^ 64) < j) (h2 : j < 2 ^ 64) : CMul i j := .inr ⟨h, h2⟩
theorem mulL {i j : Int} (h : -(2 ^ 64) < i) (h2 : i < 2 ^ 64) : CMul i j := .inl ⟨h, h2⟩
theorem ok_spread {f : Addr} {fd : FuncData} (F : Fun K "_law_b_spread" "_law_b_spread" sSpread f fd) : FnOk P w K mg base CX0 1 f fd ["cell", "place"] spSpread := by
  refine F.ok scSpread (fun vs H Q E h => ?_) (fun cdv A outer s H vs Q E hr h => ?_)
  · obtain ⟨a, b, rfl, _⟩ := h
    rfl
  · obtain ⟨cell, place, rfl, hp, q⟩ := h
    refine ⟨_, pss_cons (ps_if (pt_cmpR op_ge (pv 0) (pe_op op_pow pe_int pe_int) (nomark _)) (pss_one (ps_ret (pv 0))) pss_nil)
      (pss_cut (ps_set (i := 2) scSpread.nd rfl (.inl rfl) (pe_op op_mod (pe_op op_add (pe_op op_add (pe_op op_mul (pe_op op_mod (pv 0) pe_int) pe_int) (pe_op op_mul (pv 1) pe_int)) pe_int) pe_int))
      (pss_cut (ps_set (i := 2) scSpread.nd rfl (.inl rfl) (pe_op op_mod (pe_op op_add (pe_op op_add (pe_op op_mul (pv 2) (pv 2)) (pe_op op_mul pe_int (pv 1))) pe_int) pe_int))
      (pss_cut (ps_set (i := 3) scSpread.nd rfl (.inl rfl) (pe_op op_mod (pe_op op_add (pe_op op_add (pe_op op_mul (pv 2) (pv 2)) (pe_op op_mul pe_int (pv 2))) (pv 1)) pe_int))
      (pss_one (ps_ret (pe_op op_add (pe_op op_mul (pv 2) pe_int) (pv 3))))))), ?_⟩
    refine ⟨.int cell, rfl, 10, 18, rfl, rfl, ⟨by decide, by decide, by decide⟩, cell, _, rfl, rfl, _, rfl, ite2 (fun e => ?_) (fun e => ?_)⟩
    · refine ⟨.int cell, rfl, q cell ?_⟩
      have h1 : (10 : Int) ^ (18 : Int).toNat ≤ cell := of_decide_eq_true e
      have h2 : (0 : Int) ≤ (10 : Int) ^ (18 : Int).toNat := by decide
      omega
    · refine ⟨fun σ' H' => ∃ m : Int, σ' = [some (.int cell), some (.int place), some (.int m), none] ∧ H' = H ∧ 0 ≤ m ∧ m < 2147483629, ?_, ?_⟩
      · exact ⟨.int cell, rfl, cell, 2147483647, rfl, rfl, (show (0 : Int) < 2147483647 by decide), _, 16807, rfl, rfl, mulR (by decide) (by decide), .int place, rfl, place, 62089911, rfl, rfl, mulR (by decide) (by decide), _, _, rfl, rfl, _, 12345, rfl, rfl, _, 2147483629, rfl, rfl, (show (0 : Int) < 2147483629 by decide),
          _, rfl, rfl, Int.emod_nonneg _ (by decide), Int.emod_lt_of_pos _ (by decide)⟩
      rintro σ' H' ⟨m1, rfl, rfl, b1, b2⟩
      refine ⟨fun σ' H'' => ∃ m : Int, σ' = [some (.int cell), some (.int place), some (.int m), none] ∧ H'' = H' ∧ 0 ≤ m ∧ m < 2147483587, ?_, ?_⟩
      · exact ⟨.int m1, rfl, .int m1, rfl, m1, m1, rfl, rfl, mulL (by omega) (by omega), .int place, rfl, 7919, place, rfl, rfl, mulL (by decide) (by decide), _, _, rfl, rfl, _, 1, rfl, rfl, _, 2147483587, rfl, rfl, (show (0 : Int) < 2147483587 by decide),
          _, rfl, rfl, Int.emod_nonneg _ (by decide), Int.emod_lt_of_pos _ (by decide)⟩
      rintro σ' H'' ⟨m2, rfl, rfl, c1, c2⟩
      refine ⟨fun σ' H' => ∃ m : Int, σ' = [some (.int cell), some (.int place), some (.int m2), some (.int m)] ∧ H' = H'' ∧ 0 ≤ m, ?_, ?_⟩
      · exact ⟨.int m2, rfl, .int m2, rfl, m2, m2, rfl, rfl, mulL (by omega) (by omega), .int m2, rfl, 40014, m2, rfl, rfl, mulL (by decide) (by decide), _, _, rfl, rfl, .int place, rfl, _, place, rfl, rfl, _, 2147483563, rfl, rfl, (show (0 : Int) < 2147483563 by decide),
          _, rfl, rfl, Int.emod_nonneg _ (by decide)⟩
      rintro σ' H' ⟨m3, rfl, rfl, d1⟩
      refine ⟨.int m2, rfl, m2, 2147483563, rfl, rfl, mulL (by omega) (by omega), .int m3, rfl, _, m3, rfl, rfl, ?_⟩
      exact q _ (by omega)

def spDigit (K : PySem.W.Frag) : Sp := fun vs H Q _ => ∃ (t sc : Addr) (many : Int) (ns : List Int), vs = [.ref t, .int many] ∧ Tape K H t sc ns ∧ 0 < many ∧ many ≤ 100000000000000000000 ∧
  ∀ (d : Int) (H' : Hp), 0 ≤ d → d < many → Kt t H H' → Tape K H' t sc ns → Q (.int d) H'
theorem ok_digit {f fS : Addr} {fd fdS : FuncData} (F : Fun K "_law_b_digit" "_law_b_digit" sDigit f fd) (kS : PySem.W.keepIn K (.ref fS) = true) (bS : Binds K fdS ["cell", "place"] []) (gS : mg "_law_b_spread" = some (.ref fS))
    (GS : FnOk P w K mg base CX0 1 fS fdS ["cell", "place"] spSpread) (ml : mg "len" = none) : FnOk P w K mg base CX0 2 f fd ["tape", "many"] (spDigit K) := by
  refine F.ok scDigit (fun vs H Q E h => ?_) (fun cdv A outer s H vs Q E hr h => ?_)
  · obtain ⟨a, b, c, ns, rfl, _⟩ := h
    rfl
  · obtain ⟨t, sc, many, ns, rfl, ⟨⟨p, v, ht, hp, hv⟩, hScr⟩, hm, hm2, q⟩ := h
    have hS := hScr.sq
    refine ⟨_, pss_cut (ps_if (pt_cmpR op_lt (pe_ix ix_list (pv 0) pe_int (fun _ _ => rfl)) (pv 1) (nomark _))
        (pss_cons (ps_set (i := 2) scDigit.nd rfl (.inl rfl) (pe_ix ix_list (pv 0) pe_int (fun _ _ => rfl)))
        (pss_cons (ps_set (i := 3) scDigit.nd rfl (.inl rfl) (pv 2))
        (pss_cut (ps_if (pt_cmpR op_lt (pv 2) (pe_callB call_len_seq (by rfl) ml PySem.boot_len (pa_cons (pe_ix ix_list (pv 0) pe_int (fun _ _ => rfl)) pa_nil)) (nomark _))
            (pss_one (ps_set (i := 3) scDigit.nd rfl (.inl rfl) (pe_ix ix_list (pe_ix ix_list (pv 0) pe_int (fun _ _ => rfl)) (pv 2) (fun _ _ => rfl))))
            (pss_one (ps_if (pt_cmpR (op_neD hr.units) (pe_ix ix_list (pv 0) pe_int (fun _ _ => rfl)) (pe_lst pa_nil) (nomark _))
              (pss_one (ps_set (i := 3) scDigit.nd rfl (.inl rfl) (pe_op op_add (pe_op op_mod (pe_ix ix_list (pe_ix ix_list (pv 0) pe_int (fun _ _ => rfl)) (pe_op op_mod (pe_op op_mul (pv 2) pe_int) (pe_callB call_len_seq (by rfl) ml PySem.boot_len (pa_cons (pe_ix ix_list (pv 0) pe_int (fun _ _ => rfl)) pa_nil))) (fun _ _ => rfl)) (pe_op op_pow pe_int pe_int)) (pe_op op_mul (pv 2) pe_int)))) pss_nil)))
        (pss_cons (ps_asg (pe_op op_add (pv 2) pe_int) (pg_sub (pv 0) pe_int set_list))
        (pss_one (ps_asg (pe_call GS hr (by rfl) gS kS bS .nil pass0 (pa_cons (pv 3) (pa_cons (pv 2) pa_nil))) (pg_sub (pv 0) pe_int set_list))))))) pss_nil)
      (pss_cons (ps_set (i := 4) scDigit.nd rfl (.inl rfl) (pe_op op_mod (pe_ix ix_list (pv 0) pe_int (fun _ _ => rfl)) (pv 1)))
      (pss_cons (ps_asg (pe_op op_fdivW (pe_ix ix_list (pv 0) pe_int (fun _ _ => rfl)) (pv 1)) (pg_sub (pv 0) pe_int set_list))
      (pss_one (ps_ret (pv 4))))), ?_⟩
    refine ⟨fun σ' H' => ∃ y2 y3 y4 p' v', σ' = [some (.ref t), some (.int many), y2, y3, y4] ∧ Kt t H H' ∧ H' t = some (.lst [.ref sc, .int p', .int v']) ∧ 0 ≤ p' ∧ 0 ≤ v', ?_, ?_⟩
    · refine ⟨.ref t, rfl, t, _, 2, .int v, rfl, rfl, .inl (.inl ht), atI_nat (j := 2) rfl, .int many, rfl, v, many, rfl, rfl, _, rfl, ite2 (fun e => ?_) (fun e => ?_)⟩
      · refine ⟨.ref t, rfl, t, _, 1, .int p, rfl, rfl, .inl (.inl ht), atI_nat (j := 1) rfl, .int p, rfl, ?_⟩
        refine ⟨fun σ' H' => ∃ c : Int, σ' = [some (.ref t), some (.int many), some (.int p), some (.int c), none] ∧ K0 H H', ?_, ?_⟩
        · refine ⟨.int p, rfl, .ref t, rfl, t, _, 0, .ref sc, rfl, rfl, .inl (.inl ht), atI_nat (j := 0) rfl, sc, _, rfl, .inl hS, p, _, rfl, rfl, _, rfl, ite2 (fun e2 => ?_) (fun e2 => ?_)⟩
          · have hlt : p < ((ns.map V.int).length : Int) := of_decide_eq_true e2
            rw [List.length_map] at hlt
            obtain ⟨j, rfl⟩ := Int.eq_ofNat_of_zero_le hp
            have hj : j < ns.length := by omega
            refine ⟨.ref t, rfl, t, _, 0, .ref sc, rfl, rfl, .inl (.inl ht), atI_nat (j := 0) rfl, _, rfl, sc, _, _, .int ns[j], rfl, rfl, hS, atI_nat (by rw [List.getElem?_map, List.getElem?_eq_getElem hj]; rfl), ?_⟩
            exact ⟨_, rfl, K0.refl _⟩
          · refine ⟨.ref t, rfl, t, _, 0, .ref sc, rfl, rfl, .inl (.inl ht), atI_nat (j := 0) rfl, Nat.zero_le _, fun pn np => ?_⟩
            have kn : K0 H (upd H pn (.lst [])) := K0.new np
            have ht' := kn.oth t _ ht (fun _ z => by cases z)
            refine ⟨_, _, .lst (kn.sqL hS) (dpInts ns), .lst (.inl (.inl upd_same)) .nil, canLay_ints ns, canLay_ints [], _, rfl, ?_⟩
            rw [show PyData.eqv (.list (ns.map PyData.int)) (.list ([] : List PyData)) = ns.isEmpty from eqv_nil ns]
            refine ite2 (fun e3 => ?_) (fun e3 => ⟨p, rfl, kn⟩)
            · have hl : 0 < (ns.length : Int) := by
                cases ns with
                | nil => cases e3
                | cons n0 nr => rw [List.length_cons]; omega
              have hl' : 0 < ((ns.map V.int).length : Int) := by rw [List.length_map]; exact hl
              have hix : ∃ k : Nat, p * 7 % ((ns.map V.int).length : Int) = (k : Int) ∧ k < ns.length := by
                have h1 := Int.emod_nonneg (p * 7) (show ((ns.map V.int).length : Int) ≠ 0 by omega)
                have h2 := Int.emod_lt_of_pos (p * 7) hl'
                obtain ⟨k, hk⟩ := Int.eq_ofNat_of_zero_le h1
                rw [List.length_map] at h2
                refine ⟨k, hk, ?_⟩
                rw [List.length_map] at hk
                omega
              obtain ⟨k, hk, hkl⟩ := hix
              refine ⟨.ref t, rfl, t, _, 0, .ref sc, rfl, rfl, .inl (.inl ht'), atI_nat (j := 0) rfl, .int p, rfl, p, 7, rfl, rfl, mulR (by decide) (by decide), .ref t, rfl, t, _, 0, .ref sc, rfl, rfl, .inl (.inl ht'), atI_nat (j := 0) rfl, sc, _, rfl, .inl (kn.sqL hS), _, _, rfl, rfl, hl',
                sc, _, _, .int ns[k], rfl, rfl, kn.sqL hS, (by rw [hk]; exact atI_nat (by rw [List.getElem?_map, List.getElem?_eq_getElem hkl]; rfl)), 10, 6, rfl, rfl, ⟨by decide, by decide, by decide⟩, _, _, rfl, rfl, (show (0 : Int) < 10 ^ (6 : Int).toNat by decide), .int p, rfl, p, 1000003, rfl, rfl, mulR (by decide) (by decide), _, _, rfl, rfl, ?_⟩
              exact ⟨_, rfl, kn⟩
        · rintro σ' H' ⟨c, rfl, k⟩
          have ht' := k.oth t _ ht (fun _ z => by cases z)
          refine ⟨.int p, rfl, p, 1, rfl, rfl, .ref t, rfl, t, _, 1, 1, rfl, rfl, ht', rfl, ?_⟩
          refine ⟨.int c, rfl, .int p, rfl, c, p, rfl, hp, fun v' hv' => ?_⟩
          refine ⟨.ref t, rfl, t, _, 2, 2, rfl, rfl, upd_same, rfl, ?_⟩
          rw [upd_upd]
          have kk : Kt t H (upd H' t (.lst [.ref sc, .int (p + 1), .int v'])) := (k.kt).trans (Kt.set ht')
          exact ⟨_, _, _, p + 1, v', rfl, kk, upd_same, by omega, hv'⟩
      · exact ⟨_, _, _, p, v, rfl, Kt.refl _ _, ht, hp, hv⟩
    · rintro σ' H' ⟨y2, y3, y4, p', v', rfl, k, ht', hp', hv'⟩
      refine ⟨.ref t, rfl, t, _, 2, .int v', rfl, rfl, .inl (.inl ht'), atI_nat (j := 2) rfl, .int many, rfl, v', many, rfl, rfl, hm, ?_⟩
      refine ⟨.ref t, rfl, t, _, 2, .int v', rfl, rfl, .inl (.inl ht'), atI_nat (j := 2) rfl, .int many, rfl, v', many, rfl, rfl, ?_, .ref t, rfl, t, _, 2, 2, rfl, rfl, ht', rfl, ?_⟩
      · exact wide_div (b := 70) hm (by omega) (by decide) (by decide)
      · refine ⟨_, rfl, q _ _ (Int.emod_nonneg _ (by omega)) (Int.emod_lt_of_pos _ hm) (k.trans (Kt.set ht')) ?_⟩
        exact ⟨⟨p', v' / many, upd_same, hp', Int.ediv_nonneg hv' (by omega)⟩, hScr.kt (k.trans (Kt.set ht'))⟩
end
end HK

set_option Elab.async false
set_option linter.all false
set_option maxRecDepth 100000
set_option maxHeartbeats 2000000
namespace HK
open PySem PySem.Spec PyProof.Rows L2 GAl GxR
section
variable {X : Cx}
/-- tuple(xs) of a list: the new object is known -/
theorem call_tuple_fz : CallR X (.type "tuple") (fun xs H Q => ∃ p ys, xs = [.ref p] ∧ SqL X.K H p ys ∧ ∀ l o, H l = none → o.cls = .type "tuple" → o.dict = none → Q (.ref l) (upd H l (.frz o (.tup ys)))) := by
  intro pins s σ H xs us Q I r h
  obtain ⟨p, ys, rfl, hq, q⟩ := h
  obtain ⟨u, rfl, rx⟩ := vals1 r
  cases rx
  obtain ⟨its, r', pl, hz⟩ := I.list hq
  have hlen := r'.length
  refine call_tuple_list pl.isList (fun h' kp => ?_) (by simp only [List.size_toArray] <;> omega)
  have I1 : Inv X pins σ H { s with heap := h' } := I.kept (t' := s.toks) kp
  have hget : (h'.push { cls := .type "tuple", data := .seq its.toArray }).get? h'.objs.size = some { cls := .type "tuple", data := .seq its.toArray } := Heap.get?_push_size _ rfl
  have I2 : Inv X pins σ (upd H h'.objs.size (.frz { cls := .type "tuple", data := .seq its.toArray } (.tup ys))) { s with heap := h'.push { cls := .type "tuple", data := .seq its.toArray } } :=
    I1.laid (t' := s.toks) (fun b o e => Heap.get?_push_of_some _ e) (Nat.le_refl _) (show ObjOk X.prog X.w _ _ _ (.frz _ (.tup ys)) from ⟨hget, hz, its, r', IsTup.new _ _⟩)
  exact ⟨.ref h'.objs.size, _, I2, rfl, q _ _ (I1.hok.fresh (Nat.le_refl _)) rfl rfl⟩
/-- a method of a built-in type, of an object that is known -/
def tBMF (T : String) (r : V → List V → Hp → VK → Prop) (to : TE) (t : TA) : TE := fun σ H Q => to σ H fun x H1 => (∃ a ob u, x = .ref a ∧ H1 a = some (.frz ob u) ∧ ob.cls = .type T ∧ ob.dict = none) ∧ t σ H1 fun xs H2 => r x xs H2 Q
theorem pe_bmF {o e : Expr} {es : List Expr} {to : TE} {t : TA} {name : Str} {apos cpos : Pos} {T id : String} {r : V → List V → Hp → VK → Prop}
    (pa : PlainAttrs T) (slot : Slot T name id) (hty : typeOf (.builtin id) = pure (.type "method_descriptor")) (hm : MtR X id r) (ho : PE X o to) (ha : PA X (e :: es) t)
    (hbase : attributeBase o name X.env (eval o X.env) = eval o X.env := by rfl)
    (hfew : ((backTo cpos (starEach (e :: es) X.env)).all (fun x => !x.1) && (backToKw cpos (keywordEach [] X.env)).all (fun x => x.1.isSome)
      && decide ((e :: es).length + ([] : List Keyword).length + (if ([] : List Keyword).isEmpty then 0 else 1) < 30)) = true := by rfl)
    (hline : (apos.endLine == cpos.line) = true := by rfl) (hs : starEach (e :: es) X.env = (false, eval e X.env) :: starEach es X.env := by rfl) (hplain : (backTo cpos (starEach es X.env)).any (·.1) = false := by rfl) :
    PE X (.Call (.Attribute o name apos) (e :: es) [] cpos) (tBMF T r to t) := by
  refine ⟨fun pins s σ H Q I h => ?_⟩
  refine wpAny_Call_method_late hbase hfew hline rfl (thn (ho.run pins s σ H _ I h) fun v s1 ⟨x, H1, I1, r1, ⟨a, ob, u, ex, hob, hc, hd⟩, q1⟩ => ?_)
  subst ex
  have hget := (show ObjOk X.prog X.w H1 s1.heap a (.frz ob u) from I1.hok a _ hob).1
  have ev : v = .ref a := r1
  refine ⟨T, id, pa, slot, hty, by rw [ev]; exact ⟨ob, hget, hc⟩, fun b e2 => ?_, ?_⟩
  · rw [ev] at e2
    cases e2
    exact ⟨ob, hget, hd⟩
  have hA := ha.run cpos pins s1 σ H1 _ I1 q1
  rw [hs] at hA ⊢
  refine Calls.callWith_builtin (by show (false || (backTo cpos (starEach es X.env)).any (·.1)) = false; rw [hplain] <;> rfl) (Calls.evalArgs_plain ?_)
  exact thn hA fun us s2 ⟨vs, H2, I2, r2, q2⟩ => hm pins s2 σ H2 (.ref a) vs v us Q I2 r1 r2 q2
end
end HK

set_option Elab.async false
set_option linter.all false
set_option maxRecDepth 100000
set_option maxHeartbeats 2000000
namespace HK
open PySem PySem.Spec PyProof.Rows L2 GAl GxR
open Evl (pss_cut)
abbrev sNet : Stmt := topS 43
theorem scNet : FnScope ["tape", "most", "n", "often", "roads", "i", "j", "pay", "late"] ["tape", "most"] (defScope sNet) := ⟨rfl, rfl, rfl, by decide +kernel, rfl, by decide +kernel, by decide +kernel⟩
structure R4 where
  s : Int
  e : Int
  c : Int
  l : Int
def R4.vs (r : R4) : List V := [.int r.s, .int r.e, .int r.c, .int r.l]
def R4.d (r : R4) : PyData := .tuple [.int r.s, .int r.e, .int r.c, .int r.l]
structure RoadOk (n : Int) (r : R4) : Prop where
  s0 : 0 ≤ r.s
  s1 : r.s < n
  e0 : 0 ≤ r.e
  e1 : r.e < n
  ne : r.s ≠ r.e
  c0 : 0 ≤ r.c
  c1 : r.c ≤ 1000
  l0 : 1 ≤ r.l
  l1 : r.l ≤ 1000
def R4.lt (a b : R4) : Prop := a.s < b.s ∨ (a.s = b.s ∧ a.e < b.e)
structure Good (n : Int) (rs : List R4) : Prop where
  n1 : 1 ≤ n
  n2 : n ≤ 12
  ok : ∀ r ∈ rs, RoadOk n r
  up : rs.Pairwise R4.lt
/-- the roads' tuples -/
def Roads (K : PySem.W.Frag) (H : Hp) (xs : List V) (rs : List R4) : Prop := DpAll K H xs (rs.map R4.d)
theorem dp_r4 {K : PySem.W.Frag} {H : Hp} {x : V} {r : R4} (h : Dp K H x r.d) : ∃ a, x = .ref a ∧ SqT K H a r.vs := dp_ints4 h
theorem r4_dp {K : PySem.W.Frag} {H : Hp} {a : Addr} {r : R4} (h : SqT K H a r.vs) : Dp K H (.ref a) r.d := .tup h (.cons (.int _) (.cons (.int _) (.cons (.int _) (.cons (.int _) .nil))))
theorem Kt.roads {K : PySem.W.Frag} {t : Addr} {H H' : Hp} (k : Kt t H H') : ∀ {xs : List V} {rs : List R4}, Roads K H xs rs → Roads K H' xs rs
  | _, [], .nil => .nil
  | _, r :: rs, .cons a b => .cons (by
      obtain ⟨p, rfl, h⟩ := dp_r4 (r := r) a
      exact r4_dp (r := r) (k.sqT h)) (Kt.roads k (rs := rs) b)
theorem dpAll_snoc {K : PySem.W.Frag} {H : Hp} : ∀ {xs : List V} {ds : List PyData} {x : V} {d : PyData}, DpAll K H xs ds → Dp K H x d → DpAll K H (xs ++ [x]) (ds ++ [d])
  | _, _, _, _, .nil, h => .cons h .nil
  | _, _, _, _, .cons a b, h => .cons a (dpAll_snoc b h)
theorem Roads.snoc {K : PySem.W.Frag} {H : Hp} {xs : List V} {rs : List R4} {a : Addr} {r : R4} (h : Roads K H xs rs) (s : SqT K H a r.vs) : Roads K H (xs ++ [.ref a]) (rs ++ [r]) := by
  unfold Roads
  rw [List.map_append]
  exact dpAll_snoc h (r4_dp s)
theorem Roads.len {K : PySem.W.Frag} {H : Hp} {xs : List V} {rs : List R4} (h : Roads K H xs rs) : xs.length = rs.length := by
  have := dpAll_len h
  rw [List.length_map] at this
  exact this
theorem Kt.mut {t : Addr} {H H' : Hp} {p : Addr} {o : HO} (k : Kt t H H') (n : H p = none) : Kt t H (upd H' p o) := ⟨fun b u e => by
  rw [upd_ne (ne_of_none e n)]; exact k.tup b u e, fun b o u e => by
  rw [upd_ne (ne_of_none e n)]; exact k.frz b o u e, fun b u e m m' => by
  rw [upd_ne (ne_of_none e n)]; exact k.oth b u e m m', fun P h => by
  obtain ⟨ps, e, ht⟩ := h
  obtain ⟨ps', e', ht'⟩ := k.tab P ⟨ps, e, ht⟩
  exact ⟨ps', by rw [upd_ne (ne_of_none e n)]; exact e', ht'⟩, fun b e => k.dom b (upd_none e)⟩
theorem Tape.k0 {K : PySem.W.Frag} {H H' : Hp} {t s : Addr} {ns : List Int} (h : Tape K H t s ns) (k : K0 H H') : Tape K H' t s ns := by
  obtain ⟨⟨p, v, e, r⟩, q⟩ := h
  exact ⟨⟨p, v, k.oth t _ e (fun _ z => by cases z), r⟩, q.kt k.kt⟩
theorem Tape.ne {K : PySem.W.Frag} {H : Hp} {t s b : Addr} {ns : List Int} (h : Tape K H t s ns) (n : H b = none) : b ≠ t := fun z => by
  obtain ⟨_, _, e, _⟩ := h.v
  rw [z, e] at n; cases n
/-- a list of the law's own, at b, is written -/
theorem Tape.mut {K : PySem.W.Frag} {H H' : Hp} {t s b : Addr} {ns : List Int} {o : HO} (h : Tape K H' t s ns) (h0 : Scr K t H s ns) (k : Kt t H H') (n : H b = none) (nb : b ≠ t) : Tape K (upd H' b o) t s ns := by
  obtain ⟨⟨p, v, e, r⟩, q⟩ := h
  exact ⟨⟨p, v, by rw [upd_ne nb.symm]; exact e, r⟩, h0.kt (k.mut n)⟩
theorem pick8 {x d : Int} (h0 : 0 ≤ d) (h1 : d < 8) (hx : 0 ≤ x ∧ x ≤ 1000) : ∃ y : Int, atI [V.int 0, .int 1, .int 1, .int 2, .int 3, .int 7, .int 1000, .int x] d = some (.int y) ∧ 0 ≤ y ∧ y ≤ 1000 := by
  obtain ⟨k, rfl⟩ := Int.eq_ofNat_of_zero_le h0
  match k, h1 with
  | 0, _ => exact ⟨0, atI_nat rfl, by omega, by omega⟩
  | 1, _ => exact ⟨1, atI_nat rfl, by omega, by omega⟩
  | 2, _ => exact ⟨1, atI_nat rfl, by omega, by omega⟩
  | 3, _ => exact ⟨2, atI_nat rfl, by omega, by omega⟩
  | 4, _ => exact ⟨3, atI_nat rfl, by omega, by omega⟩
  | 5, _ => exact ⟨7, atI_nat rfl, by omega, by omega⟩
  | 6, _ => exact ⟨1000, atI_nat rfl, by omega, by omega⟩
  | 7, _ => exact ⟨x, atI_nat rfl, hx⟩
  | k + 8, h => exact absurd h (by omega)
theorem pick7 {x d : Int} (h0 : 0 ≤ d) (h1 : d < 7) (hx : 1 ≤ x ∧ x ≤ 1000) : ∃ y : Int, atI [V.int 1, .int 1, .int 2, .int 3, .int 5, .int 1000, .int x] d = some (.int y) ∧ 1 ≤ y ∧ y ≤ 1000 := by
  obtain ⟨k, rfl⟩ := Int.eq_ofNat_of_zero_le h0
  match k, h1 with
  | 0, _ => exact ⟨1, atI_nat rfl, by omega, by omega⟩
  | 1, _ => exact ⟨1, atI_nat rfl, by omega, by omega⟩
  | 2, _ => exact ⟨2, atI_nat rfl, by omega, by omega⟩
  | 3, _ => exact ⟨3, atI_nat rfl, by omega, by omega⟩
  | 4, _ => exact ⟨5, atI_nat rfl, by omega, by omega⟩
  | 5, _ => exact ⟨1000, atI_nat rfl, by omega, by omega⟩
  | 6, _ => exact ⟨x, atI_nat rfl, hx⟩
  | k + 7, h => exact absurd h (by omega)

section
variable {P : Program} {w : World} {K : PySem.W.Frag} {mg : Str → Option Value} {base : Heap}
/-- what the law's net is -/
def NetAt (K : PySem.W.Frag) (H : Hp) (a : Addr) (n : Int) (rs : List R4) : Prop := ∃ (r : Addr) (xs : List V) (_ : Unit), SqT K H a [.int n, .ref r] ∧ SqT K H r xs ∧ True ∧ True ∧ Roads K H xs rs
theorem NetAt.kt {t : Addr} {H H' : Hp} {a : Addr} {n : Int} {rs : List R4} (h : NetAt K H a n rs) (k : Kt t H H') : NetAt K H' a n rs := by
  obtain ⟨r, xs, o, h1, h2, hc, hd, h3⟩ := h
  exact ⟨r, xs, o, k.sqT h1, k.sqT h2, hc, hd, k.roads h3⟩
def spNet (K : PySem.W.Frag) : Sp := fun vs H Q _ => ∃ (t sc : Addr) (most : Int) (ns : List Int), vs = [.ref t, .int most] ∧ Tape K H t sc ns ∧ 1 ≤ most ∧ most ≤ 12 ∧
  ∀ (a : Addr) (n : Int) (rs : List R4) (H' : Hp), Kt t H H' → Tape K H' t sc ns → NetAt K H' a n rs → n ≤ most → Good n rs → rs.length ≤ 156 → Q (.ref a) H'
/-- between the turns -/
structure NI (K : PySem.W.Frag) (H : Hp) (t sc ra : Addr) (ns : List Int) (n : Int) (i j : Nat) (H3 : Hp) : Prop where
  kt : Kt t H H3
  tp : Tape K H3 t sc ns
  ex : ∃ xs rs, H3 ra = some (.lst xs) ∧ Roads K H3 xs rs ∧ Good n rs ∧ (∀ r ∈ rs, r.s < i ∨ (r.s = i ∧ r.e < j)) ∧ rs.length ≤ 12 * i + j
theorem ok_net {f fD : Addr} {fd fdD : FuncData} (F : Fun K "_law_b_net" "_law_b_net" sNet f fd) (kD : PySem.W.keepIn K (.ref fD) = true) (bD : Binds K fdD ["tape", "many"] []) (gD : mg "_law_b_digit" = some (.ref fD))
    (GD : FnOk P w K mg base CX0 2 fD fdD ["tape", "many"] (spDigit K)) (mr : mg "range" = none) (mT : mg "tuple" = none) : FnOk P w K mg base CX0 3 f fd ["tape", "most"] (spNet K) := by
  refine F.ok scNet (fun vs H Q E h => ?_) (fun cdv A outer s H vs Q E hr h => ?_)
  · obtain ⟨a, b, c, ns, rfl, _⟩ := h
    rfl
  · obtain ⟨t, sc, most, ns, rfl, htp, hm1, hm2, q⟩ := h
    refine ⟨_, pss_cons (ps_set (i := 2) scNet.nd rfl (.inl rfl) (pe_op op_add pe_int (pe_call GD hr (by rfl) gD kD bD .nil pass0 (pa_cons (pv 0) (pa_cons (pv 1) pa_nil)))))
      (pss_cons (ps_set (i := 3) scNet.nd rfl (.inl rfl) (pe_op op_add pe_int (pe_call GD hr (by rfl) gD kD bD .nil pass0 (pa_cons (pv 0) (pa_cons pe_int pa_nil)))))
      (pss_cons (ps_set (i := 4) scNet.nd rfl (.inl rfl) (pe_lst pa_nil))
      (pss_cons (ps_for PassesOwn.never rfl (pi_range1 (by rfl) mr (pa_cons (pv 2) pa_nil)) (pg_name (i := 5) scNet.nd rfl (.inl rfl))
        (pss_one (ps_for PassesOwn.never rfl (pi_range1 (by rfl) mr (pa_cons (pv 2) pa_nil)) (pg_name (i := 6) scNet.nd rfl (.inl rfl))
          (pss_one (ps_if (PW.pt (pw_and (pt_cmpR op_ne (pv 5) (pv 6) (nomark _)) (pw_and1 (pt_cmpR op_lt (pe_call GD hr (by rfl) gD kD bD .nil pass0 (pa_cons (pv 0) (pa_cons pe_int pa_nil))) (pv 3) (nomark _)))))
            (pss_cons (ps_set (i := 7) scNet.nd rfl (.inl rfl) (pe_ix ix_list (pe_lst (pa_cons pe_int (pa_cons pe_int (pa_cons pe_int (pa_cons pe_int (pa_cons pe_int (pa_cons pe_int (pa_cons pe_int (pa_cons (pe_call GD hr (by rfl) gD kD bD .nil pass0 (pa_cons (pv 0) (pa_cons pe_int pa_nil))) pa_nil)))))))))
                (pe_call GD hr (by rfl) gD kD bD .nil pass0 (pa_cons (pv 0) (pa_cons pe_int pa_nil))) (fun _ _ => rfl)))
            (pss_cons (ps_set (i := 8) scNet.nd rfl (.inl rfl) (pe_ix ix_list (pe_lst (pa_cons pe_int (pa_cons pe_int (pa_cons pe_int (pa_cons pe_int (pa_cons pe_int (pa_cons pe_int (pa_cons (pe_op op_add pe_int (pe_call GD hr (by rfl) gD kD bD .nil pass0 (pa_cons (pv 0) (pa_cons pe_int pa_nil)))) pa_nil))))))))
                (pe_call GD hr (by rfl) gD kD bD .nil pass0 (pa_cons (pv 0) (pa_cons pe_int pa_nil))) (fun _ _ => rfl)))
            (pss_one (ps_expr (pe_bm PySem.F.plainAttrs_list PySem.F.slot_list_append PySem.F.type_list_append mt_append (pv 4) (pa_cons (pe_tup (pa_cons (pv 5) (pa_cons (pv 6) (pa_cons (pv 7) (pa_cons (pv 8) pa_nil))))) pa_nil)))))) pss_nil)))))
      (pss_one (ps_ret (pe_tup (pa_cons (pv 2) (pa_cons (pe_callTy call_tuple_fz (by rfl) mT (by decide +kernel) (pa_cons (pv 4) pa_nil)) pa_nil)))))))), ?_⟩
    -- n
    refine ⟨.ref t, rfl, .int most, rfl, t, sc, most, ns, rfl, htp, by omega, by omega, fun d1 H1 hd1 hd1' k1 tp1 => ⟨1, d1, rfl, rfl, ?_⟩⟩
    -- often
    refine ⟨.ref t, rfl, t, sc, 6, ns, rfl, tp1, by omega, by omega, fun d2 H2 hd2 hd2' k2 tp2 => ⟨1, d2, rfl, rfl, ?_⟩⟩
    -- roads = []
    refine ⟨Nat.zero_le _, fun ra nra => ?_⟩
    have k12 : Kt t H H2 := k1.trans k2
    have nHra : H ra = none := k12.dom _ nra
    have hn1 : 1 ≤ 1 + d1 := by omega
    have hn2 : 1 + d1 ≤ 12 := by omega
    have hra : ra ≠ t := tp2.ne nra
    have stepI : ∀ {H3 H4 : Hp} {i j : Nat}, NI K H t sc ra ns (1 + d1) i j H3 → Kt t H3 H4 → Tape K H4 t sc ns → NI K H t sc ra ns (1 + d1) i j H4 := fun {H3 H4 i j} h k tp => by
      obtain ⟨xs, rs, e1, e2, e3⟩ := h.ex
      exact ⟨h.kt.trans k, tp, xs, rs, k.oth ra _ e1 hra (fun _ z => by cases z), k.roads e2, e3⟩
    have step0 : ∀ {H3 H4 : Hp} {i j : Nat}, NI K H t sc ra ns (1 + d1) i j H3 → K0 H3 H4 → NI K H t sc ra ns (1 + d1) i j H4 := fun {H3 H4 i j} h k => stepI h k.kt (h.tp.k0 k)
    refine ⟨.int (1 + d1), rfl, 1 + d1, rfl, by omega, by omega, for_range (lo := 0) (n := (1 + d1).toNat) (fun i σ' H' => ∃ y5 y6 y7 y8, σ' = [some (.ref t), some (.int most), some (.int (1 + d1)), some (.int (1 + d2)), some (.ref ra), y5, y6, y7, y8] ∧ NI K H t sc ra ns (1 + d1) i 0 H')
      ⟨none, none, none, none, rfl, ?_⟩ (fun i σ' H' hi h => ?_) (fun σ' H' h => ?_)⟩
    · exact ⟨k12.mut nHra, tp2.k0 (K0.new nra), [], [], upd_same, .nil, ⟨hn1, hn2, fun r hr => (by cases hr), .nil⟩, fun r hr => (by cases hr), by simp⟩
    · obtain ⟨y5, y6, y7, y8, rfl, hI⟩ := h
      refine ⟨.int (1 + d1), rfl, 1 + d1, rfl, by omega, by omega, for_range (lo := 0) (n := (1 + d1).toNat) (fun j σ' H' => ∃ y6 y7 y8, σ' = [some (.ref t), some (.int most), some (.int (1 + d1)), some (.int (1 + d2)), some (.ref ra), some (.int (0 + (i : Int))), y6, y7, y8] ∧ NI K H t sc ra ns (1 + d1) i j H')
        ⟨y6, y7, y8, rfl, hI⟩ (fun j σ' H' hj h => ?_) (fun σ' H' h => ?_)⟩
      · obtain ⟨y6, y7, y8, rfl, hI⟩ := h
        have next : ∀ {H4 : Hp}, NI K H t sc ra ns (1 + d1) i j H4 → NI K H t sc ra ns (1 + d1) i (j + 1) H4 := fun {H4} h => by
          obtain ⟨xs, rs, e1, e2, e3, e4, e5⟩ := h.ex
          exact ⟨h.kt, h.tp, xs, rs, e1, e2, e3, fun r hr => by
            rcases e4 r hr with z | ⟨z, z2⟩
            · exact .inl z
            · exact .inr ⟨z, by omega⟩, by omega⟩
        refine ⟨_, rfl, _, rfl, rfl, _, rfl, ite2 (fun e => ?_) (fun e => iteF ⟨_, y7, y8, rfl, next hI⟩)⟩
        have hij : (i : Int) ≠ j := by
          have e : (!decide (V.int (0 + (i : Int)) = V.int (0 + (j : Int)))) = true := e
          simp only [Bool.not_eq_true', decide_eq_false_iff_not] at e
          intro z
          exact e (by rw [z])
        refine ⟨.ref t, rfl, t, sc, 8, ns, rfl, hI.tp, by omega, by omega, fun d3 H3 hd3 hd3' k3 tp3 => ⟨_, rfl, d3, _, rfl, rfl, _, rfl, ite2 (fun e2 => ?_) (fun e2 => ⟨_, y7, y8, rfl, next (stepI hI k3 tp3)⟩)⟩⟩
        have I3 := stepI hI k3 tp3
        -- pay
        refine ⟨.ref t, rfl, t, sc, 1001, ns, rfl, tp3, by omega, by omega, fun d4 H4 hd4 hd4' k4 tp4 => ⟨by show 8 ≤ sizeLine; decide, fun pl npl => ?_⟩⟩
        have I4 := step0 (stepI I3 k4 tp4) (K0.new (o := .lst [.int 0, .int 1, .int 1, .int 2, .int 3, .int 7, .int 1000, .int d4]) npl)
        have npt := tp4.ne npl
        refine ⟨.ref t, rfl, t, sc, 8, ns, rfl, I4.tp, by omega, by omega, fun d5 H5 hd5 hd5' k5 tp5 => ?_⟩
        have I5 := stepI I4 k5 tp5
        obtain ⟨pay, hpay, p0, p1⟩ := pick8 (x := d4) hd5 hd5' ⟨hd4, by omega⟩
        refine ⟨pl, _, d5, .int pay, rfl, rfl, .inl (.inl (k5.oth pl _ upd_same npt (fun _ z => by cases z))), hpay, ?_⟩
        -- late
        refine ⟨.ref t, rfl, t, sc, 1000, ns, rfl, tp5, by omega, by omega, fun d6 H6 hd6 hd6' k6 tp6 => ⟨1, d6, rfl, rfl, by show 7 ≤ sizeLine; decide, fun ql nql => ?_⟩⟩
        have I6 := step0 (stepI I5 k6 tp6) (K0.new (o := .lst [.int 1, .int 1, .int 2, .int 3, .int 5, .int 1000, .int (1 + d6)]) nql)
        have nqt := tp6.ne nql
        refine ⟨.ref t, rfl, t, sc, 7, ns, rfl, I6.tp, by omega, by omega, fun d7 H7 hd7 hd7' k7 tp7 => ?_⟩
        have I7 := stepI I6 k7 tp7
        obtain ⟨late, hlate, l0, l1⟩ := pick7 (x := 1 + d6) hd7 hd7' ⟨by omega, by omega⟩
        refine ⟨ql, _, d7, .int late, rfl, rfl, .inl (.inl (k7.oth ql _ upd_same nqt (fun _ z => by cases z))), hlate, ?_⟩
        -- roads.append((i, j, pay, late))
        obtain ⟨xs, rs, e1, e2', e3, e4, e5⟩ := I7.ex
        refine ⟨.ref ra, rfl, .inl ⟨rfl, _, .inl (.inl e1)⟩, _, rfl, _, rfl, _, rfl, _, rfl, by show 4 ≤ sizeLine; decide, fun tp ntp => ?_⟩
        have kT : K0 H7 (upd H7 tp (.tup [.int (0 + (i : Int)), .int (0 + (j : Int)), .int pay, .int late])) := K0.new ntp
        have e1' := kT.oth ra _ e1 (fun _ z => by cases z)
        have hlen : xs.length ≤ 200 := by
          rw [e2'.len]
          omega
        refine ⟨ra, _, _, rfl, rfl, e1', Nat.lt_of_le_of_lt hlen (by decide), _, _, _, rfl, ?_⟩
        have kA := (I7.kt.trans kT.kt).mut (o := .lst (xs ++ [.ref tp])) nHra
        refine ⟨kA, (I7.tp.k0 kT).mut htp.scr (I7.kt.trans kT.kt) nHra hra, xs ++ [.ref tp], rs ++ [⟨0 + (i : Int), 0 + (j : Int), pay, late⟩], upd_same, ?_, ⟨hn1, hn2, fun r hr => ?_, ?_⟩, fun r hr => ?_, ?_⟩
        · exact Roads.snoc (r := ⟨0 + (i : Int), 0 + (j : Int), pay, late⟩) ((Kt.set e1').roads (kT.kt (t := t) |>.roads e2')) ((Kt.set e1').sqT (.inl (.inl upd_same)))
        · rcases List.mem_append.mp hr with z | z
          · exact e3.ok r z
          · have z := List.mem_singleton.mp z
            subst z
            exact ⟨by show 0 ≤ 0 + (i : Int); omega, by show 0 + (i : Int) < 1 + d1; omega, by show 0 ≤ 0 + (j : Int); omega, by show 0 + (j : Int) < 1 + d1; omega, by show 0 + (i : Int) ≠ 0 + (j : Int); omega, p0, p1, l0, l1⟩
        · rw [List.pairwise_append]
          refine ⟨e3.up, List.pairwise_singleton _ _, fun a ha b hb => ?_⟩
          have z := List.mem_singleton.mp hb
          subst z
          rcases e4 a ha with z | ⟨z, z2⟩
          · exact .inl (by show a.s < 0 + (i : Int); omega)
          · exact .inr ⟨by show a.s = 0 + (i : Int); omega, by show a.e < 0 + (j : Int); omega⟩
        · rcases List.mem_append.mp hr with z | z
          · rcases e4 r z with z | ⟨z, z2⟩
            · exact .inl z
            · exact .inr ⟨z, by omega⟩
          · have z := List.mem_singleton.mp z
            subst z
            exact .inr ⟨by show 0 + (i : Int) = i; omega, by show 0 + (j : Int) < _; omega⟩
        · rw [List.length_append, List.length_singleton]; omega
      · obtain ⟨y6, y7, y8, rfl, hI⟩ := h
        obtain ⟨xs, rs, e1, e2, e3, e4, e5⟩ := hI.ex
        refine ⟨_, _, _, _, rfl, hI.kt, hI.tp, xs, rs, e1, e2, e3, fun r hr => ?_, by omega⟩
        have hro := e3.ok r hr
        rcases e4 r hr with z | ⟨z, z2⟩
        · exact .inl (by omega)
        · exact .inl (by omega)
    · obtain ⟨y5, y6, y7, y8, rfl, hI⟩ := h
      obtain ⟨xs, rs, e1, e2, e3, e4, e5⟩ := hI.ex
      refine ⟨_, rfl, .ref ra, rfl, ra, xs, rfl, .inl (.inl e1), fun tl ob ntl hoc hod => ?_⟩
      have kT : K0 H' (upd H' tl (.frz ob (.tup xs))) := K0.new ntl
      refine ⟨by show 2 ≤ sizeLine; decide, fun tn ntn => ?_⟩
      have kN : K0 (upd H' tl (.frz ob (.tup xs))) (upd (upd H' tl (.frz ob (.tup xs))) tn (.tup [.int (1 + d1), .ref tl])) := K0.new ntn
      have kk := kT.trans kN
      refine q tn (1 + d1) rs _ (hI.kt.trans kk.kt) (hI.tp.k0 kk) ⟨tl, xs, (), .inl (.inl upd_same), kN.sqT (.inl (.inr ⟨ob, upd_same⟩)), trivial, trivial, kk.kt (t := t) |>.roads e2⟩ (by omega) e3 (by omega)
end
end HK

set_option Elab.async false
set_option linter.all false
set_option maxRecDepth 100000
set_option maxHeartbeats 2000000
namespace HK
open PySem PySem.Spec PyProof.Rows L2 GAl GxR
mutual
/-- data whose lists are tracked, apart from the tape -/
inductive Dq (K : PySem.W.Frag) (T : Addr → Prop) (H : Hp) : V → PyData → Prop
  | non : Dq K T H .non .none
  | bl (b : Bool) : Dq K T H (.bl b) (.bool b)
  | int (i : Int) : Dq K T H (.int i) (.int i)
  | str (x : Str) : Dq K T H (.str x) (.str x)
  | lst {a : Addr} {xs : List V} {ds : List PyData} : H a = some (.lst xs) → ¬ T a → DqAll K T H xs ds → Dq K T H (.ref a) (.list ds)
  | tup {a : Addr} {xs : List V} {ds : List PyData} : SqT K H a xs → DqAll K T H xs ds → Dq K T H (.ref a) (.tuple ds)
inductive DqAll (K : PySem.W.Frag) (T : Addr → Prop) (H : Hp) : List V → List PyData → Prop
  | nil : DqAll K T H [] []
  | cons {v : V} {vs : List V} {d : PyData} {ds : List PyData} : Dq K T H v d → DqAll K T H vs ds → DqAll K T H (v :: vs) (d :: ds)
end
mutual
theorem Dq.dp {K : PySem.W.Frag} {T : Addr → Prop} {H : Hp} : ∀ (d : PyData) (v : V), Dq K T H v d → Dp K H v d
  | .none, _, h => by cases h; exact .non
  | .bool _, _, h => by cases h; exact .bl _
  | .int _, _, h => by cases h; exact .int _
  | .str _, _, h => by cases h; exact .str _
  | .list ds, _, h => by cases h with | lst a _ b => exact .lst (.inl (.inl a)) (DqAll.dp ds _ b)
  | .tuple ds, _, h => by cases h with | tup a b => exact .tup a (DqAll.dp ds _ b)
  | .dict _, _, h => by cases h
theorem DqAll.dp {K : PySem.W.Frag} {T : Addr → Prop} {H : Hp} : ∀ (ds : List PyData) (vs : List V), DqAll K T H vs ds → DpAll K H vs ds
  | [], _, h => by cases h; exact .nil
  | d :: ds, _, h => by cases h with | cons a b => exact .cons (Dq.dp d _ a) (DqAll.dp ds _ b)
end
mutual
theorem Dq.kt {K : PySem.W.Frag} {T : Addr → Prop} {t : Addr} {H H' : Hp} (hT : T t) (k : Kt t H H') : ∀ (d : PyData) (v : V), Dq K T H v d → Dq K T H' v d
  | .none, _, h => by cases h; exact .non
  | .bool _, _, h => by cases h; exact .bl _
  | .int _, _, h => by cases h; exact .int _
  | .str _, _, h => by cases h; exact .str _
  | .list ds, _, h => by cases h with | lst a n b => exact .lst (k.oth _ _ a (fun z => n (z ▸ hT)) (fun _ z => by cases z)) n (DqAll.kt hT k ds _ b)
  | .tuple ds, _, h => by cases h with | tup a b => exact .tup (k.sqT a) (DqAll.kt hT k ds _ b)
  | .dict _, _, h => by cases h
theorem DqAll.kt {K : PySem.W.Frag} {T : Addr → Prop} {t : Addr} {H H' : Hp} (hT : T t) (k : Kt t H H') : ∀ (ds : List PyData) (vs : List V), DqAll K T H vs ds → DqAll K T H' vs ds
  | [], _, h => by cases h; exact .nil
  | d :: ds, _, h => by cases h with | cons a b => exact .cons (Dq.kt hT k d _ a) (DqAll.kt hT k ds _ b)
end
theorem DqAll.len {K : PySem.W.Frag} {T : Addr → Prop} {H : Hp} : ∀ {vs : List V} {ds : List PyData}, DqAll K T H vs ds → vs.length = ds.length
  | _, _, .nil => rfl
  | _, _, .cons _ b => by rw [List.length_cons, List.length_cons, b.len]
theorem DqAll.app {K : PySem.W.Frag} {T : Addr → Prop} {H : Hp} : ∀ {vs ws : List V} {ds es : List PyData}, DqAll K T H vs ds → DqAll K T H ws es → DqAll K T H (vs ++ ws) (ds ++ es)
  | _, _, _, _, .nil, h => h
  | _, _, _, _, .cons a b, h => .cons a (b.app h)
theorem DqAll.take {K : PySem.W.Frag} {T : Addr → Prop} {H : Hp} : ∀ {vs : List V} {ds : List PyData} (k : Nat), DqAll K T H vs ds → DqAll K T H (vs.take k) (ds.take k)
  | _, _, 0, _ => .nil
  | _, _, _ + 1, .nil => .nil
  | _, _, k + 1, .cons a b => .cons a (b.take k)
theorem DqAll.drop {K : PySem.W.Frag} {T : Addr → Prop} {H : Hp} : ∀ {vs : List V} {ds : List PyData} (k : Nat), DqAll K T H vs ds → DqAll K T H (vs.drop k) (ds.drop k)
  | _, _, 0, h => h
  | _, _, _ + 1, .nil => .nil
  | _, _, k + 1, .cons _ b => b.drop k
theorem DqAll.get {K : PySem.W.Frag} {T : Addr → Prop} {H : Hp} : ∀ {vs : List V} {ds : List PyData} {i : Nat} {x : V}, DqAll K T H vs ds → vs[i]? = some x → ∃ d, ds[i]? = some d ∧ Dq K T H x d
  | _, _, _, _, .nil, e => by simp at e
  | _, _, 0, _, .cons h _, e => by simp at e; subst e; exact ⟨_, rfl, h⟩
  | _, _, i + 1, x, .cons _ b, e => by
    obtain ⟨d, h1, h2⟩ := DqAll.get (i := i) (x := x) b (by simpa using e)
    exact ⟨d, by simpa using h1, h2⟩
theorem DqAll.rev {K : PySem.W.Frag} {T : Addr → Prop} {H : Hp} : ∀ {vs : List V} {ds : List PyData}, DqAll K T H vs ds → DqAll K T H vs.reverse ds.reverse
  | _, _, .nil => .nil
  | _, _, .cons a b => by
    rw [List.reverse_cons, List.reverse_cons]
    exact b.rev.app (.cons a .nil)
theorem roads_dq {K : PySem.W.Frag} {T : Addr → Prop} {H : Hp} : ∀ {xs : List V} {rs : List R4}, Roads K H xs rs → DqAll K T H xs (rs.map R4.d)
  | _, [], .nil => .nil
  | _, r :: rs, .cons a b => .cons (by
      obtain ⟨p, rfl, h⟩ := dp_r4 (r := r) a
      exact .tup h (.cons (.int _) (.cons (.int _) (.cons (.int _) (.cons (.int _) .nil))))) (roads_dq (rs := rs) b)

/-- what stays, the tape a tape -/
structure Kp (K : PySem.W.Frag) (t sc : Addr) (ns : List Int) (H H' : Hp) : Prop where
  kt : Kt t H H'
  tp : Tape K H t sc ns → Tape K H' t sc ns
theorem Kp.refl {K : PySem.W.Frag} {t sc : Addr} {ns : List Int} (H : Hp) : Kp K t sc ns H H := ⟨Kt.refl _ _, fun h => h⟩
theorem Kp.trans {K : PySem.W.Frag} {t sc : Addr} {ns : List Int} {H H1 H2 : Hp} (a : Kp K t sc ns H H1) (b : Kp K t sc ns H1 H2) : Kp K t sc ns H H2 := ⟨a.kt.trans b.kt, fun h => b.tp (a.tp h)⟩
theorem K0.kp {K : PySem.W.Frag} {t sc : Addr} {ns : List Int} {H H' : Hp} (k : K0 H H') : Kp K t sc ns H H' := ⟨k.kt, fun h => h.k0 k⟩

section
variable {K : PySem.W.Frag} {T : Addr → Prop} {t sc : Addr} {ns : List Int} {H0 : Hp} {σ : L2.St}
/-- an expression makes data of which P holds -/
def Mk (K : PySem.W.Frag) (T : Addr → Prop) (t sc : Addr) (ns : List Int) (H0 : Hp) (σ : L2.St) (te : TE) (P : PyData → Prop) : Prop := T t → (∀ b, T b → H0 b ≠ none) → ∀ H, Kp K t sc ns H0 H → ∀ Q : VK, (∀ v H' d, Kp K t sc ns H H' → P d → Dq K T H' v d → Q v H') → te σ H Q
def MkL (K : PySem.W.Frag) (T : Addr → Prop) (t sc : Addr) (ns : List Int) (H0 : Hp) (σ : L2.St) (ta : TA) (P : List PyData → Prop) : Prop := T t → (∀ b, T b → H0 b ≠ none) → ∀ H, Kp K t sc ns H0 H → ∀ Q : List V → Hp → Prop, (∀ vs H' ds, Kp K t sc ns H H' → P ds → DqAll K T H' vs ds → Q vs H') → ta σ H Q
def MkI (K : PySem.W.Frag) (T : Addr → Prop) (t sc : Addr) (ns : List Int) (H0 : Hp) (σ : L2.St) (te : TE) (i : Int) : Prop := Mk K T t sc ns H0 σ te (· = .int i)
theorem Mk.imp {te : TE} {P P' : PyData → Prop} (h : Mk K T t sc ns H0 σ te P) (i : ∀ d, P d → P' d) : Mk K T t sc ns H0 σ te P' := fun hTt hdm H k Q q => h hTt hdm H k Q fun v H' d k' p dq => q v H' d k' (i d p) dq
theorem mk_int {i : Int} : Mk K T t sc ns H0 σ (tC (.int i)) (· = .int i) := fun _ _ H _ _ q => q _ H _ (Kp.refl H) rfl (.int i)
theorem mk_bl {b : Bool} : Mk K T t sc ns H0 σ (tC (.bl b)) (· = .bool b) := fun _ _ H _ _ q => q _ H _ (Kp.refl H) rfl (.bl b)
theorem mk_non : Mk K T t sc ns H0 σ (tC .non) (· = .none) := fun _ _ H _ _ q => q _ H _ (Kp.refl H) rfl .non
theorem mk_str {x : Str} : Mk K T t sc ns H0 σ (tC (.str x)) (· = .str x) := fun _ _ H _ _ q => q _ H _ (Kp.refl H) rfl (.str x)
theorem mk_var {i : Nat} {v : V} {d : PyData} (e : σ[i]? = some (some v)) (h : Dq K T H0 v d) : Mk K T t sc ns H0 σ (tVar i) (· = d) := fun hTt hdm H k _ q => ⟨v, e, q v H d (Kp.refl H) rfl (Dq.kt hTt k.kt d v h)⟩
theorem mk_add {ta tb : TE} {i j : Int} (ha : Mk K T t sc ns H0 σ ta (· = .int i)) (hb : Mk K T t sc ns H0 σ tb (· = .int j)) : Mk K T t sc ns H0 σ (tOp (rI0 fun i j => .int (i + j)) ta tb) (· = .int (i + j)) := fun hTt hdm H k Q q => ha hTt hdm H k _ fun v H1 d k1 e dq => by
  subst e; cases dq
  exact hb hTt hdm H1 (k.trans k1) _ fun v H2 d k2 e dq => by
    subst e; cases dq
    exact ⟨i, j, rfl, rfl, q _ H2 _ (k1.trans k2) rfl (.int _)⟩
theorem mk_sub {ta tb : TE} {i j : Int} (ha : Mk K T t sc ns H0 σ ta (· = .int i)) (hb : Mk K T t sc ns H0 σ tb (· = .int j)) : Mk K T t sc ns H0 σ (tOp (rI0 fun i j => .int (i - j)) ta tb) (· = .int (i - j)) := fun hTt hdm H k Q q => ha hTt hdm H k _ fun v H1 d k1 e dq => by
  subst e; cases dq
  exact hb hTt hdm H1 (k.trans k1) _ fun v H2 d k2 e dq => by
    subst e; cases dq
    exact ⟨i, j, rfl, rfl, q _ H2 _ (k1.trans k2) rfl (.int _)⟩
theorem mk_neg {ta : TE} {i : Int} (ha : Mk K T t sc ns H0 σ ta (· = .int i)) : Mk K T t sc ns H0 σ (tUn (rU fun i => .int (-i)) ta) (· = .int (-i)) := fun hTt hdm H k Q q => ha hTt hdm H k _ fun v H1 d k1 e dq => by
  subst e; cases dq
  exact ⟨i, rfl, q _ H1 _ k1 rfl (.int _)⟩
theorem mkl_nil : MkL K T t sc ns H0 σ tNil (· = []) := fun _ _ H _ _ q => q [] H [] (Kp.refl H) rfl .nil
theorem mkl_cons {te : TE} {ta : TA} {d : PyData} {ds : List PyData} (h : Mk K T t sc ns H0 σ te (· = d)) (hr : MkL K T t sc ns H0 σ ta (· = ds)) : MkL K T t sc ns H0 σ (tCons te ta) (· = d :: ds) := fun hTt hdm H k Q q => h hTt hdm H k _ fun v H1 d1 k1 e dq => hr hTt hdm H1 (k.trans k1) _ fun vs H2 es k2 e2 dqs => by
  subst e e2
  exact q _ H2 _ (k1.trans k2) rfl (.cons (Dq.kt hTt k2.kt _ _ dq) dqs)
theorem mkl_consP {te : TE} {ta : TA} {P : PyData → Prop} {ds : List PyData} (h : Mk K T t sc ns H0 σ te P) (hr : MkL K T t sc ns H0 σ ta (· = ds)) : MkL K T t sc ns H0 σ (tCons te ta) (fun l => ∃ d, P d ∧ l = d :: ds) := fun hTt hdm H k Q q => h hTt hdm H k _ fun v H1 d1 k1 e dq => hr hTt hdm H1 (k.trans k1) _ fun vs H2 es k2 e2 dqs => by
  subst e2
  exact q _ H2 _ (k1.trans k2) ⟨d1, e, rfl⟩ (.cons (Dq.kt hTt k2.kt _ _ dq) dqs)
theorem mk_tup {ta : TA} {P : List PyData → Prop} (h : MkL K T t sc ns H0 σ ta P) (hl : ∀ ds, P ds → ds.length ≤ 1000) : Mk K T t sc ns H0 σ (tTup ta) (fun d => ∃ ds, P ds ∧ d = .tuple ds) := fun hTt hdm H k Q q => h hTt hdm H k _ fun vs H1 ds k1 p dqs => by
  refine ⟨by rw [dqs.len]; exact Nat.le_of_lt (small1000 (hl ds p)), fun a na => ?_⟩
  have kn : K0 H1 (upd H1 a (.tup vs)) := K0.new na
  exact q _ _ _ (k1.trans kn.kp) ⟨ds, p, rfl⟩ (.tup (.inl (.inl upd_same)) (DqAll.kt hTt kn.kt _ _ dqs))
theorem mk_tupE {ta : TA} {ds : List PyData} (h : MkL K T t sc ns H0 σ ta (· = ds)) (hl : ds.length ≤ 1000 := by decide) : Mk K T t sc ns H0 σ (tTup ta) (· = .tuple ds) := (mk_tup h fun es e => by rw [e]; exact hl).imp fun d ⟨es, e, e2⟩ => by rw [e2, e]
theorem mk_lst {ta : TA} {P : List PyData → Prop} (h : MkL K T t sc ns H0 σ ta P) (hl : ∀ ds, P ds → ds.length ≤ 1000) : Mk K T t sc ns H0 σ (tLst ta) (fun d => ∃ ds, P ds ∧ d = .list ds) := fun hTt hdm H k Q q => h hTt hdm H k _ fun vs H1 ds k1 p dqs => by
  refine ⟨by rw [dqs.len]; exact Nat.le_of_lt (small1000 (hl ds p)), fun a na => ?_⟩
  have kn : K0 H1 (upd H1 a (.lst vs)) := K0.new na
  exact q _ _ _ (k1.trans kn.kp) ⟨ds, p, rfl⟩ (.lst upd_same (fun z => hdm _ z ((k.trans k1).kt.dom _ na)) (DqAll.kt hTt kn.kt _ _ dqs))
theorem mk_lstE {ta : TA} {ds : List PyData} (h : MkL K T t sc ns H0 σ ta (· = ds)) (hl : ds.length ≤ 1000 := by decide) : Mk K T t sc ns H0 σ (tLst ta) (· = .list ds) := (mk_lst h fun es e => by rw [e]; exact hl).imp fun d ⟨es, e, e2⟩ => by rw [e2, e]
/-- xs + ys, two lists -/
theorem mk_catL {ta tb : TE} {ds es : List PyData} (ha : Mk K T t sc ns H0 σ ta (· = .list ds)) (hb : Mk K T t sc ns H0 σ tb (· = .list es)) (hl : ds.length + es.length ≤ 1000 := by decide) : Mk K T t sc ns H0 σ (tOp rCat ta tb) (· = .list (ds ++ es)) := fun hTt hdm H k Q q => ha hTt hdm H k _ fun v H1 d k1 e dq => by
  subst e
  exact hb hTt hdm H1 (k.trans k1) _ fun v2 H2 d k2 e dq2 => by
    subst e
    have dq' := Dq.kt hTt k2.kt _ _ dq
    cases dq' with
    | @lst a xs _ h1 n1 a1 => cases dq2 with
      | @lst b ys _ h2 n2 a2 =>
        refine ⟨_, _, _, _, rfl, rfl, h1, h2, ?_, fun p np => ?_⟩
        · rw [a1.len, a2.len]; exact Nat.le_of_lt (small1000 hl)
        · have kn : K0 H2 (upd H2 p (.lst (xs ++ ys))) := K0.new np
          exact q _ _ _ ((k1.trans k2).trans kn.kp) rfl (.lst upd_same (fun z => hdm _ z (((k.trans k1).trans k2).kt.dom _ np)) (DqAll.kt hTt kn.kt _ _ (a1.app a2)))
/-- t + u, two tuples -/
theorem mk_catT {ta tb : TE} {P1 P2 : List PyData → Prop} (ha : Mk K T t sc ns H0 σ ta (fun d => ∃ ds, P1 ds ∧ d = .tuple ds)) (hb : Mk K T t sc ns H0 σ tb (fun d => ∃ ds, P2 ds ∧ d = .tuple ds)) (hl : ∀ ds es, P1 ds → P2 es → ds.length + es.length ≤ 1000) :
    Mk K T t sc ns H0 σ (tOp (rCatA K) ta tb) (fun d => ∃ ds, (∃ d1 d2, P1 d1 ∧ P2 d2 ∧ ds = d1 ++ d2) ∧ d = .tuple ds) := fun hTt hdm H k Q q => ha hTt hdm H k _ fun v H1 d k1 e dq => by
  obtain ⟨ds, p1, rfl⟩ := e
  exact hb hTt hdm H1 (k.trans k1) _ fun v2 H2 d k2 e dq2 => by
    obtain ⟨es, p2, rfl⟩ := e
    have dq' := Dq.kt hTt k2.kt _ _ dq
    cases dq' with
    | @tup a xs _ h1 a1 => cases dq2 with
      | @tup b ys _ h2 a2 =>
        refine ⟨_, _, _, _, rfl, rfl, h1, h2, ?_, fun e => ?_, fun e1 e2 => ?_, fun _ _ p np => ?_⟩
        · rw [a1.len, a2.len]; exact Nat.le_of_lt (small1000 (hl _ _ p1 p2))
        · subst e
          cases a1
          exact q _ _ _ (k1.trans k2) ⟨es, ⟨[], es, p1, p2, rfl⟩, rfl⟩ (.tup h2 a2)
        · subst e2
          cases a2
          exact q _ _ _ (k1.trans k2) ⟨ds, ⟨ds, [], p1, p2, by simp⟩, rfl⟩ (.tup h1 a1)
        · have kn : K0 H2 (upd H2 p (.tup (xs ++ ys))) := K0.new np
          exact q _ _ _ ((k1.trans k2).trans kn.kp) ⟨_, ⟨ds, es, p1, p2, rfl⟩, rfl⟩ (.tup (.inl (.inl upd_same)) (DqAll.kt hTt kn.kt _ _ (a1.app a2)))
def cutD (ds : List PyData) (lo hi : Option Int) : List PyData := (ds.drop (HT.sIx ds.length 0 lo)).take (HT.sIx ds.length ds.length hi - HT.sIx ds.length 0 lo)
def MkO (K : PySem.W.Frag) (T : Addr → Prop) (t sc : Addr) (ns : List Int) (H0 : Hp) (σ : L2.St) (to : TO) (o : Option Int) : Prop := T t → (∀ b, T b → H0 b ≠ none) → ∀ H, Kp K t sc ns H0 H → ∀ Q : Option Int → Hp → Prop, (∀ H', Kp K t sc ns H H' → Q o H') → to σ H Q
theorem mko_none : MkO K T t sc ns H0 σ tNoPart none := fun _ _ H _ _ q => q H (Kp.refl H)
theorem mko_some {te : TE} {i : Int} (h : Mk K T t sc ns H0 σ te (· = .int i)) : MkO K T t sc ns H0 σ (tPart te) (some i) := fun hTt hdm H k _ q => h hTt hdm H k _ fun v H1 d k1 e dq => by
  subst e; cases dq
  exact ⟨i, rfl, q H1 k1⟩
theorem mk_sl {te : TE} {tl th : TO} {lo hi : Option Int} {ds : List PyData} (h : Mk K T t sc ns H0 σ te (· = .tuple ds)) (h1 : MkO K T t sc ns H0 σ tl lo) (h2 : MkO K T t sc ns H0 σ th hi) : Mk K T t sc ns H0 σ (tSl (rSlA K) te tl th) (· = .tuple (cutD ds lo hi)) := fun hTt hdm H k Q q => h hTt hdm H k _ fun v H1 d k1 e dq => by
  subst e
  exact h1 hTt hdm H1 (k.trans k1) _ fun H2 k2 => h2 hTt hdm H2 ((k.trans k1).trans k2) _ fun H3 k3 => by
    have dq' := Dq.kt hTt (k2.trans k3).kt _ _ dq
    cases dq' with
    | @tup a xs _ hq hall =>
      refine ⟨_, _, rfl, hq, fun hw => ?_, fun hw p np => ?_⟩
      · have : cutD ds lo hi = ds := by
          unfold cutD
          rw [← hall.len, hw.1, hw.2, List.drop_zero, Nat.sub_zero]
          exact List.take_of_length_le (by rw [hall.len]; exact Nat.le_refl _)
        rw [this] at q
        exact q _ H3 _ ((k1.trans k2).trans k3) rfl (.tup hq hall)
      · have kn : K0 H3 (upd H3 p (.tup (cutV xs lo hi))) := K0.new np
        refine q _ _ _ (((k1.trans k2).trans k3).trans kn.kp) rfl (.tup (.inl (.inl upd_same)) (DqAll.kt hTt kn.kt _ _ ?_))
        unfold cutV cutD
        rw [hall.len]
        exact (hall.drop _).take _
/-- t[i], a tuple at a written place -/
theorem mk_ixT {te ti : TE} {ds : List PyData} {j : Nat} {d : PyData} (h : Mk K T t sc ns H0 σ te (· = .tuple ds)) (hi : Mk K T t sc ns H0 σ ti (· = .int j)) (hd : ds[j]? = some d) : Mk K T t sc ns H0 σ (tOp (rIxT K) te ti) (· = d) := fun hTt hdm H k Q q => h hTt hdm H k _ fun v H1 d1 k1 e dq => by
  subst e
  exact hi hTt hdm H1 (k.trans k1) _ fun v2 H2 d2 k2 e dq2 => by
    subst e; cases dq2
    have dq' := Dq.kt hTt k2.kt _ _ dq
    cases dq' with
    | @tup a xs _ hq hall =>
      have hl : j < xs.length := by rw [hall.len]; exact (List.getElem?_eq_some_iff.mp hd).1
      obtain ⟨d', e1, e2⟩ := hall.get (List.getElem?_eq_getElem hl)
      rw [hd] at e1; cases e1
      exact ⟨_, _, _, _, rfl, rfl, hq, atI_nat (List.getElem?_eq_getElem hl), q _ H2 _ (k1.trans k2) rfl e2⟩
end
end HK

set_option Elab.async false
set_option linter.all false
set_option maxRecDepth 100000
set_option maxHeartbeats 2000000
namespace HK
open PySem PySem.Spec PyProof.Rows L2 GAl GxR
open Evl (pss_cut)
section
variable {P : Program} {w : World} {K : PySem.W.Frag} {mg : Str → Option Value} {base : Heap}
def spSome (K : PySem.W.Frag) : Sp := fun vs H Q _ => ∃ (t sc r : Addr) (ns : List Int) (xs : List V), vs = [.ref t, .ref r] ∧ Tape K H t sc ns ∧ (SqT K H r xs ∨ (H r = some (.lst xs) ∧ r ≠ t)) ∧ 0 < xs.length ∧ xs.length ≤ 100000 ∧
  ∀ (j : Nat) (x : V) (H' : Hp), xs[j]? = some x → Kp K t sc ns H H' → Q x H'
theorem ok_some {f fD : Addr} {fd fdD : FuncData} (F : Fun K "_law_b_some" "_law_b_some" sSome f fd) (kD : PySem.W.keepIn K (.ref fD) = true) (bD : Binds K fdD ["tape", "many"] []) (gD : mg "_law_b_digit" = some (.ref fD))
    (GD : FnOk P w K mg base CX0 2 fD fdD ["tape", "many"] (spDigit K)) (ml : mg "len" = none) : FnOk P w K mg base CX0 3 f fd ["tape", "row"] (spSome K) := by
  refine F.ok scSome (fun vs H Q E h => ?_) (fun cdv A outer s H vs Q E hr h => ?_)
  · obtain ⟨a, b, c, d, e, rfl, _⟩ := h
    rfl
  · obtain ⟨t, sc, r, ns, xs, rfl, htp, hx, h0, h1, q⟩ := h
    refine ⟨_, pss_one (ps_ret (pe_ix ix_seq (pv 1) (pe_call GD hr (by rfl) gD kD bD .nil pass0 (pa_cons (pv 0) (pa_cons (pe_callB call_len_seq (by rfl) ml PySem.boot_len (pa_cons (pv 1) pa_nil)) pa_nil))) (fun _ _ => rfl))), ?_⟩
    refine ⟨.ref r, rfl, .ref t, rfl, .ref r, rfl, r, xs, rfl, hx.elim .inr (fun z => .inl (.inl (.inl z.1))), t, sc, _, ns, rfl, htp, by omega, by omega, fun d H' d0 d1 k tp => ?_⟩
    obtain ⟨j, rfl⟩ := Int.eq_ofNat_of_zero_le d0
    have hj : j < xs.length := by omega
    rcases hx with hx | ⟨hx, hn⟩
    · exact .inr (.inl ⟨r, xs, _, _, rfl, rfl, k.sqT hx, atI_nat (List.getElem?_eq_getElem hj), q j _ H' (List.getElem?_eq_getElem hj) ⟨k, fun _ => tp⟩⟩)
    · exact .inl ⟨r, xs, _, _, rfl, rfl, .inl (.inl (k.oth _ _ hx hn (fun _ z => by cases z))), atI_nat (List.getElem?_eq_getElem hj), q j _ H' (List.getElem?_eq_getElem hj) ⟨k, fun _ => tp⟩⟩

end
end HK

set_option Elab.async false
set_option linter.all false
set_option maxHeartbeats 2000000
namespace HK
/-! ### the mathematics: going through the roads as often as there are places -/
abbrev IF := Int → Option Int
def put (f : IF) (i x : Int) : IF := fun j => if j = i then some x else f j
def Le (g f : IF) : Prop := ∀ v a, f v = some a → ∃ b, g v = some b ∧ b ≤ a
theorem Le.refl (f : IF) : Le f f := fun v a h => ⟨a, h, Int.le_refl _⟩
theorem Le.trans {f g h : IF} (a : Le f g) (b : Le g h) : Le f h := fun v x e => by
  obtain ⟨y, e1, l1⟩ := b v x e
  obtain ⟨z, e2, l2⟩ := a v y e1
  exact ⟨z, e2, by omega⟩
def rlx (src g : IF) (r : R4) : IF := match src r.s with
  | none => g
  | some a => match g r.e with
    | none => put g r.e (a + r.l)
    | some b => if a + r.l < b then put g r.e (a + r.l) else g
structure IInv (n : Int) (rs : List R4) (root : Int) (f : IF) : Prop where
  rt0 : f root = some 0
  rng : ∀ v a, f v = some a → 0 ≤ v ∧ v < n ∧ 0 ≤ a
  wt : ∀ v b, f v = some b → v = root ∨ ∃ r ∈ rs, r.e = v ∧ ∃ a, f r.s = some a ∧ a + r.l ≤ b
def Closed (rs : List R4) (f : IF) : Prop := ∀ r ∈ rs, ∀ a, f r.s = some a → ∃ b, f r.e = some b ∧ b ≤ a + r.l
section
variable {n root : Int} {rs : List R4}
theorem put_inv {g : IF} {r : R4} {x a' : Int} (I : IInv n rs root g) (hr : RoadOk n r) (hm : r ∈ rs) (ha : g r.s = some a') (hx : a' + r.l ≤ x) (hlt : ∀ b, g r.e = some b → x < b) : IInv n rs root (put g r.e x) ∧ Le (put g r.e x) g := by
  have h0 := (I.rng _ _ ha).2.2
  have hl := hr.l0
  have ne : r.e ≠ root := fun z => by
    have := hlt 0 (by rw [z]; exact I.rt0)
    omega
  have le : Le (put g r.e x) g := fun v b e => by
    by_cases hv : v = r.e
    · subst hv
      exact ⟨x, if_pos rfl, Int.le_of_lt (hlt b e)⟩
    · exact ⟨b, by unfold put; rw [if_neg hv]; exact e, Int.le_refl _⟩
  refine ⟨⟨?_, fun v b e => ?_, fun v b e => ?_⟩, le⟩
  · unfold put; rw [if_neg (fun z => ne z.symm)]; exact I.rt0
  · unfold put at e
    by_cases hv : v = r.e
    · rw [if_pos hv] at e
      cases e
      rw [hv]
      exact ⟨hr.e0, hr.e1, by omega⟩
    · rw [if_neg hv] at e
      exact I.rng v b e
  · by_cases hv : v = r.e
    · unfold put at e
      rw [if_pos hv] at e
      cases e
      exact .inr ⟨r, hm, hv.symm, a', by unfold put; rw [if_neg hr.ne]; exact ha, hx⟩
    · unfold put at e
      rw [if_neg hv] at e
      rcases I.wt v b e with h | ⟨r', h1, h2, a, h3, h4⟩
      · exact .inl h
      · obtain ⟨a2, h5, h6⟩ := le _ _ h3
        exact .inr ⟨r', h1, h2, a2, h5, by omega⟩
theorem rlx_inv {src g : IF} {r : R4} (I : IInv n rs root g) (hr : RoadOk n r) (hm : r ∈ rs) (hs : Le g src) :
    IInv n rs root (rlx src g r) ∧ Le (rlx src g r) g ∧ ∀ a, src r.s = some a → ∃ b, rlx src g r r.e = some b ∧ b ≤ a + r.l := by
  unfold rlx
  cases e : src r.s with
  | none => exact ⟨I, .refl _, fun a z => by cases z⟩
  | some a =>
    obtain ⟨a', e1, l1⟩ := hs _ _ e
    cases e2 : g r.e with
    | none =>
      obtain ⟨h1, h2⟩ := put_inv (x := a + r.l) I hr hm e1 (by omega) (fun b z => by rw [e2] at z; cases z)
      exact ⟨h1, h2, fun a2 z => by cases z; exact ⟨_, if_pos rfl, Int.le_refl _⟩⟩
    | some b =>
      by_cases hb : a + r.l < b
      · simp only [hb, if_true]
        obtain ⟨h1, h2⟩ := put_inv (x := a + r.l) I hr hm e1 (by omega) (fun b' z => by rw [e2] at z; cases z; exact hb)
        exact ⟨h1, h2, fun a2 z => by cases z; exact ⟨_, if_pos rfl, Int.le_refl _⟩⟩
      · simp only [hb, if_false]
        exact ⟨I, .refl _, fun a2 z => by cases z; exact ⟨b, e2, by omega⟩⟩
def rnd (S : IF → IF) (l : List R4) (g : IF) : IF := l.foldl (fun g r => rlx (S g) g r) g
theorem rnd_inv {S : IF → IF} {f : IF} (hS : ∀ g, Le g f → Le g (S g) ∧ Le (S g) f) : ∀ (l : List R4) (g : IF), (∀ r ∈ l, r ∈ rs ∧ RoadOk n r) → IInv n rs root g → Le g f →
    IInv n rs root (rnd S l g) ∧ Le (rnd S l g) g ∧ ∀ r ∈ l, ∀ a, f r.s = some a → ∃ b, rnd S l g r.e = some b ∧ b ≤ a + r.l
  | [], g, _, I, _ => ⟨I, .refl _, fun r h => by cases h⟩
  | r :: l, g, hl, I, hf => by
    obtain ⟨s1, s2⟩ := hS g hf
    obtain ⟨i1, i2, i3⟩ := rlx_inv I (hl r (List.mem_cons_self ..)).2 (hl r (List.mem_cons_self ..)).1 s1
    obtain ⟨j1, j2, j3⟩ := rnd_inv hS l (rlx (S g) g r) (fun q h => hl q (List.mem_cons_of_mem _ h)) i1 (i2.trans hf)
    refine ⟨j1, j2.trans i2, fun q hq a ha => ?_⟩
    rcases List.mem_cons.mp hq with rfl | hq
    · obtain ⟨a', e, le⟩ := s2 _ _ ha
      obtain ⟨b, e2, le2⟩ := i3 a' e
      obtain ⟨c, e3, le3⟩ := j2 _ _ e2
      exact ⟨c, e3, by omega⟩
    · exact j3 q hq a ha
def iter (F : IF → IF) : Nat → IF → IF
  | 0, f => f
  | k + 1, f => F (iter F k f)
theorem half {D f : IF} (hok : ∀ r ∈ rs, RoadOk n r) (c : Closed rs D) (d0 : D root = some 0) (I : IInv n rs root f) : Le D f := by
  have key : ∀ (N : Nat) (v b : Int), f v = some b → b.toNat < N → ∃ c, D v = some c ∧ c ≤ b := by
    intro N
    induction N with
    | zero => intro v b _ h; omega
    | succ N ih =>
      intro v b e hb
      have h0 := (I.rng v b e).2.2
      rcases I.wt v b e with rfl | ⟨r, hm, rfl, a, e2, le⟩
      · exact ⟨0, d0, h0⟩
      · have hl := (hok r hm).l0
        have ha := (I.rng _ _ e2).2.2
        obtain ⟨x, e3, l3⟩ := ih r.s a e2 (by omega)
        obtain ⟨y, e4, l4⟩ := c r hm x e3
        exact ⟨y, e4, by omega⟩
  exact fun v b e => key (b.toNat + 1) v b e (by omega)
theorem two_same {f g : IF} (hok : ∀ r ∈ rs, RoadOk n r) (cf : Closed rs f) (If : IInv n rs root f) (cg : Closed rs g) (Ig : IInv n rs root g) : f = g := by
  have h1 := half hok cf If.rt0 Ig
  have h2 := half hok cg Ig.rt0 If
  funext v
  cases e : f v with
  | none =>
    cases e2 : g v with
    | none => rfl
    | some b => obtain ⟨c, e3, _⟩ := h1 v b e2; rw [e] at e3; cases e3
  | some a =>
    obtain ⟨b, e2, l2⟩ := h2 v a e
    obtain ⟨c, e3, l3⟩ := h1 v b e2
    rw [e] at e3
    cases e3
    rw [e2]
    have : a = b := by omega
    rw [this]
theorem countP_lt {α : Type} {p q : α → Bool} : ∀ {l : List α}, (∀ x ∈ l, p x = true → q x = true) → (∃ x ∈ l, q x = true ∧ ¬ p x = true) → l.countP p < l.countP q
  | [], _, h => by obtain ⟨x, hx, _⟩ := h; cases hx
  | y :: l, h, hx => by
    have hm : l.countP p ≤ l.countP q := List.countP_mono_left (fun x hx => h x (List.mem_cons_of_mem _ hx))
    obtain ⟨x, hx, hq, hp⟩ := hx
    rw [List.countP_cons, List.countP_cons]
    rcases List.mem_cons.mp hx with rfl | hx
    · rw [if_pos hq, if_neg hp]; omega
    · have ih := countP_lt (fun x hx => h x (List.mem_cons_of_mem _ hx)) ⟨x, hx, hq, hp⟩
      have := h y (List.mem_cons_self ..)
      by_cases hy : p y = true
      · rw [if_pos hy, if_pos (this hy)]; omega
      · rw [if_neg hy]
        split <;> omega
variable {F : IF → IF} {f0 : IF}
def Turns (n : Int) (rs : List R4) (root : Int) (F : IF → IF) : Prop := ∀ f, IInv n rs root f → IInv n rs root (F f) ∧ Le (F f) f ∧ ∀ r ∈ rs, ∀ a, f r.s = some a → ∃ b, F f r.e = some b ∧ b ≤ a + r.l
theorem iter_inv (hF : Turns n rs root F) (I0 : IInv n rs root f0) : ∀ k, IInv n rs root (iter F k f0)
  | 0 => I0
  | k + 1 => (hF _ (iter_inv hF I0 k)).1
theorem iter_le (hF : Turns n rs root F) (I0 : IInv n rs root f0) (k : Nat) : ∀ j, Le (iter F (k + j) f0) (iter F k f0)
  | 0 => .refl _
  | j + 1 => ((hF _ (iter_inv hF I0 (k + j))).2.1).trans (iter_le hF I0 k j)
theorem stab (hF : Turns n rs root F) (I0 : IInv n rs root f0) (v : Int) : ∃ K, ∀ k, K ≤ k → iter F k f0 v = iter F K f0 v := by
  have key : ∀ (N k : Nat) (m : Int), iter F k f0 v = some m → m.toNat < N → ∃ K, ∀ k, K ≤ k → iter F k f0 v = iter F K f0 v := by
    intro N
    induction N with
    | zero => intro k m _ h; omega
    | succ N ih =>
      intro k m e hm
      by_cases hh : ∀ j, k ≤ j → iter F j f0 v = some m
      · exact ⟨k, fun j hj => by rw [hh j hj, e]⟩
      · have ⟨j, hj⟩ := Classical.not_forall.mp hh
        have ⟨hk, hj⟩ := Classical.not_imp.mp hj
        obtain ⟨d, rfl⟩ := Nat.exists_eq_add_of_le hk
        obtain ⟨b, e2, l2⟩ := iter_le hF I0 k d v m e
        have hb := ((iter_inv hF I0 (k + d)).rng _ _ e2).2.2
        have : b ≠ m := fun z => hj (by rw [e2, z])
        exact ih (k + d) b e2 (by omega)
  by_cases h : ∃ k m, iter F k f0 v = some m
  · obtain ⟨k, m, e⟩ := h
    exact key (m.toNat + 1) k m e (by omega)
  · have none : ∀ k, iter F k f0 v = none := fun k => by
      cases e : iter F k f0 v with
      | none => rfl
      | some m => exact absurd ⟨k, m, e⟩ h
    exact ⟨0, fun k _ => by rw [none k, none 0]⟩
theorem stab_all (hF : Turns n rs root F) (I0 : IInv n rs root f0) : ∀ N : Nat, ∃ K, ∀ (i : Nat), i < N → ∀ k, K ≤ k → iter F k f0 (i : Int) = iter F K f0 (i : Int)
  | 0 => ⟨0, fun i h => by omega⟩
  | N + 1 => by
    obtain ⟨K1, h1⟩ := stab_all hF I0 N
    obtain ⟨K2, h2⟩ := stab hF I0 (N : Int)
    refine ⟨max K1 K2, fun i hi k hk => ?_⟩
    have a1 : K1 ≤ max K1 K2 := Nat.le_max_left ..
    have a2 : K2 ≤ max K1 K2 := Nat.le_max_right ..
    by_cases hi' : i = N
    · subst hi'
      rw [h2 k (by omega), h2 _ a2]
    · rw [h1 i (by omega) k (by omega), h1 i (by omega) _ a1]
theorem limit (hF : Turns n rs root F) (I0 : IInv n rs root f0) : ∃ D, IInv n rs root D ∧ Closed rs D := by
  obtain ⟨K, h⟩ := stab_all hF I0 n.toNat
  have same : iter F (K + 1) f0 = iter F K f0 := by
    funext v
    by_cases hv : 0 ≤ v ∧ v < n
    · obtain ⟨i, rfl⟩ := Int.eq_ofNat_of_zero_le hv.1
      exact h i (by omega) (K + 1) (by omega)
    · have none : ∀ k, iter F k f0 v = none := fun k => by
        cases e : iter F k f0 v with
        | none => rfl
        | some m =>
          have := (iter_inv hF I0 k).rng _ _ e
          exact absurd ⟨this.1, this.2.1⟩ hv
      rw [none, none]
  refine ⟨_, iter_inv hF I0 K, fun r hr a ha => ?_⟩
  obtain ⟨b, e, l⟩ := (hF _ (iter_inv hF I0 K)).2.2 r hr a ha
  exact ⟨b, by rw [← same]; exact e, l⟩
theorem conv (hok : ∀ r ∈ rs, RoadOk n r) (hF : Turns n rs root F) (I0 : IInv n rs root f0) : Closed rs (iter F n.toNat f0) := by
  obtain ⟨D, ID, cD⟩ := limit hF I0
  have low : ∀ k, Le D (iter F k f0) := fun k => half hok cD ID.rt0 (iter_inv hF I0 k)
  have stay : ∀ k v b, D v = some b → iter F k f0 v = some b → iter F (k + 1) f0 v = some b := fun k v b hd e => by
    obtain ⟨c, e1, l1⟩ := (hF _ (iter_inv hF I0 k)).2.1 v b e
    obtain ⟨c', e2, l2⟩ := low (k + 1) v c e1
    rw [hd] at e2
    cases e2
    have : c = b := by omega
    rw [← this]; exact e1
  have prog : ∀ (k N : Nat) (v b : Int), D v = some b → b.toNat < N → iter F k f0 v ≠ some b → ∃ v' b', D v' = some b' ∧ iter F k f0 v' ≠ some b' ∧ iter F (k + 1) f0 v' = some b' := by
    intro k N
    induction N with
    | zero => intro v b _ h; omega
    | succ N ih =>
      intro v b hd hb hne
      rcases ID.wt v b hd with rfl | ⟨r, hm, rfl, a, e2, le⟩
      · rw [ID.rt0] at hd
        cases hd
        exact absurd (iter_inv hF I0 k).rt0 hne
      · have hl := (hok r hm).l0
        have ha := (ID.rng _ _ e2).2.2
        by_cases hs : iter F k f0 r.s = some a
        · obtain ⟨b', e3, l3⟩ := (hF _ (iter_inv hF I0 k)).2.2 r hm a hs
          obtain ⟨c, e4, l4⟩ := low (k + 1) r.e b' e3
          rw [hd] at e4
          cases e4
          have : b' = b := by omega
          exact ⟨r.e, b, hd, hne, by rw [← this]; exact e3⟩
        · exact ih r.s a e2 (by omega) hs
  let fin : Nat → Nat → Bool := fun k i => decide (iter F k f0 (i : Int) = D (i : Int)) && (D (i : Int)).isSome
  have hn : ∀ v b, D v = some b → ∃ i : Nat, v = (i : Int) ∧ i ∈ List.range n.toNat := fun v b e => by
    have := ID.rng v b e
    obtain ⟨i, rfl⟩ := Int.eq_ofNat_of_zero_le this.1
    exact ⟨i, rfl, List.mem_range.mpr (by omega)⟩
  have main : ∀ k, (∀ v b, D v = some b → iter F k f0 v = some b) ∨ k + 1 ≤ (List.range n.toNat).countP (fin k) := by
    intro k
    induction k with
    | zero =>
      obtain ⟨i, hi, hm⟩ := hn root 0 ID.rt0
      refine .inr (List.countP_pos_iff.mpr ⟨i, hm, ?_⟩)
      show (decide (f0 (i : Int) = D (i : Int)) && (D (i : Int)).isSome) = true
      rw [← hi, I0.rt0, ID.rt0]
      rfl
    | succ k ih =>
      rcases ih with h | h
      · exact .inl fun v b e => stay k v b e (h v b e)
      · by_cases all : ∀ v b, D v = some b → iter F k f0 v = some b
        · exact .inl fun v b e => stay k v b e (all v b e)
        · refine .inr (Nat.lt_of_le_of_lt h (countP_lt (fun i _ hi => ?_) ?_))
          · have hi' := Bool.and_eq_true_iff.mp hi
            have h1 := of_decide_eq_true hi'.1
            obtain ⟨b, e⟩ := Option.isSome_iff_exists.mp hi'.2
            have := stay k i b e (h1.trans e)
            exact Bool.and_eq_true_iff.mpr ⟨decide_eq_true (this.trans e.symm), hi'.2⟩
          · have ⟨v, hv⟩ := Classical.not_forall.mp all
            have ⟨b, hb⟩ := Classical.not_forall.mp hv
            have ⟨hd, hne⟩ := Classical.not_imp.mp hb
            obtain ⟨v', b', d', n', e'⟩ := prog k (b.toNat + 1) v b hd (by omega) hne
            obtain ⟨i, rfl, hm⟩ := hn v' b' d'
            refine ⟨i, hm, Bool.and_eq_true_iff.mpr ⟨decide_eq_true (e'.trans d'.symm), by rw [d']; rfl⟩, fun z => ?_⟩
            exact n' ((of_decide_eq_true (Bool.and_eq_true_iff.mp z).1).trans d')
  have fin' : ∀ v b, D v = some b → iter F n.toNat f0 v = some b := by
    rcases main n.toNat with h | h
    · exact h
    · have := List.countP_le_length (p := fin n.toNat) (l := List.range n.toNat)
      rw [List.length_range] at this
      omega
  have eq : iter F n.toNat f0 = D := by
    funext v
    cases e : D v with
    | some b => exact fin' v b e
    | none =>
      cases e2 : iter F n.toNat f0 v with
      | none => rfl
      | some b => obtain ⟨c, e3, _⟩ := low n.toNat v b e2; rw [e] at e3; cases e3
  rw [eq]; exact cD
/-- the two ways of going through -/
theorem turns_at (hok : ∀ r ∈ rs, RoadOk n r) : Turns n rs root (fun f => rnd id rs f) := fun f I => by
  obtain ⟨h1, h2, h3⟩ := rnd_inv (S := id) (f := f) (n := n) (rs := rs) (root := root) (fun g h => ⟨.refl _, h⟩) rs f (fun r h => ⟨h, hok r h⟩) I (.refl _)
  exact ⟨h1, h2, h3⟩
theorem turns_by (hok : ∀ r ∈ rs, RoadOk n r) : Turns n rs root (fun f => rnd (fun _ => f) rs f) := fun f I => by
  obtain ⟨h1, h2, h3⟩ := rnd_inv (S := fun _ => f) (f := f) (n := n) (rs := rs) (root := root) (fun g h => ⟨h, .refl _⟩) rs f (fun r h => ⟨h, hok r h⟩) I (.refl _)
  exact ⟨h1, h2, h3⟩
def ini (root : Int) : IF := put (fun _ => none) root 0
theorem ini_inv (h0 : 0 ≤ root) (h1 : root < n) : IInv n rs root (ini root) := by
  refine ⟨if_pos rfl, fun v a e => ?_, fun v b e => ?_⟩
  · unfold ini put at e
    by_cases hv : v = root
    · rw [if_pos hv] at e; cases e; subst hv; exact ⟨h0, h1, Int.le_refl _⟩
    · rw [if_neg hv] at e; cases e
  · unfold ini put at e
    by_cases hv : v = root
    · exact .inl hv
    · rw [if_neg hv] at e; cases e
end
/-- what is found -/
def due (n : Int) (rs : List R4) (root : Int) : IF := iter (fun f => rnd id rs f) n.toNat (ini root)
theorem due_inv {n root : Int} {rs : List R4} (hok : ∀ r ∈ rs, RoadOk n r) (h0 : 0 ≤ root) (h1 : root < n) : IInv n rs root (due n rs root) := iter_inv (turns_at hok) (ini_inv h0 h1) _
theorem due_closed {n root : Int} {rs : List R4} (hok : ∀ r ∈ rs, RoadOk n r) (h0 : 0 ≤ root) (h1 : root < n) : Closed rs (due n rs root) := conv hok (turns_at hok) (ini_inv h0 h1)
theorem due_by {n root : Int} {rs : List R4} (hok : ∀ r ∈ rs, RoadOk n r) (h0 : 0 ≤ root) (h1 : root < n) : iter (fun f => rnd (fun _ => f) rs f) n.toNat (ini root) = due n rs root :=
  two_same hok (conv hok (turns_by hok) (ini_inv h0 h1)) (iter_inv (turns_by hok) (ini_inv h0 h1) _) (due_closed hok h0 h1) (due_inv hok h0 h1)
end HK

set_option Elab.async false
set_option linter.all false
set_option maxRecDepth 100000
set_option maxHeartbeats 2000000
namespace HK
open PySem PySem.Spec PyProof.Rows L2 GAl GxR
/-! ### a dict of whole numbers by whole numbers -/
structure DI (kvs : List (Key × V)) (f : IF) : Prop where
  nd : (kvs.map (·.1)).Nodup
  ks : ∀ p ∈ kvs, ∃ i x : Int, p = (Sum.inl i, V.int x)
  val : ∀ i : Int, valV kvs (Sum.inl i) = (f i).map V.int
theorem valV_mem {κ : Type} [DecidableEq κ] : ∀ {kvs : List (κ × V)} {p : κ × V}, (kvs.map (·.1)).Nodup → p ∈ kvs → valV kvs p.1 = some p.2
  | q :: r, p, nd, h => by
    have nd' := List.nodup_cons.mp nd
    rcases List.mem_cons.mp h with rfl | h
    · exact valV_pos rfl
    · have : ¬ q.1 = p.1 := fun z => nd'.1 (List.mem_map.mpr ⟨p, h, z.symm⟩)
      rw [valV_neg this]
      exact valV_mem nd'.2 h
theorem DI.at_ {kvs : List (Key × V)} {f : IF} (h : DI kvs f) {p : Key × V} (hp : p ∈ kvs) : ∃ i x : Int, p = (Sum.inl i, V.int x) ∧ f i = some x := by
  obtain ⟨i, x, rfl⟩ := h.ks p hp
  have e := valV_mem h.nd hp
  rw [h.val] at e
  cases e2 : f i with
  | none => rw [e2] at e; cases e
  | some y => rw [e2] at e; cases e; exact ⟨i, _, rfl, e2⟩
theorem DI.mem {kvs : List (Key × V)} {f : IF} (h : DI kvs f) (i : Int) : (Sum.inl i : Key) ∈ kvs.map (·.1) ↔ (f i).isSome = true := by
  constructor
  · intro hm
    obtain ⟨p, hp, e⟩ := List.mem_map.mp hm
    obtain ⟨j, x, rfl, e2⟩ := h.at_ hp
    have e : (Sum.inl j : Key) = Sum.inl i := e
    cases e
    rw [e2]; rfl
  · intro hs
    obtain ⟨x, e⟩ := Option.isSome_iff_exists.mp hs
    exact valV_in (v := .int x) (by rw [h.val, e]; rfl)
theorem DI.put {kvs : List (Key × V)} {f : IF} (h : DI kvs f) (i x : Int) : DI (putK kvs (Sum.inl i) (.int x)) (HK.put f i x) := by
  refine ⟨?_, fun p hp => ?_, fun j => ?_⟩
  · cases e : valV kvs (Sum.inl i) with
    | none => exact nd_putK _ h.nd e
    | some v =>
      unfold putK
      rw [valV_any, e]
      simp only [Option.isSome_some, if_true]
      have : (kvs.map fun kv => if kv.1 = (Sum.inl i : Key) then (kv.1, V.int x) else kv).map (·.1) = kvs.map (·.1) := by
        rw [List.map_map]
        exact List.map_congr_left fun p _ => by
          show (if p.1 = (Sum.inl i : Key) then (p.1, V.int x) else p).1 = p.1
          split <;> rfl
      rw [this]; exact h.nd
  · unfold putK at hp
    split at hp
    · obtain ⟨q, hq, rfl⟩ := List.mem_map.mp hp
      obtain ⟨j, y, rfl⟩ := h.ks q hq
      by_cases e : (Sum.inl j : Key) = Sum.inl i
      · exact ⟨j, x, by simp only [e, if_true]⟩
      · exact ⟨j, y, by simp only [e, if_false]⟩
    · rcases List.mem_append.mp hp with hp | hp
      · exact h.ks p hp
      · exact ⟨i, x, List.mem_singleton.mp hp⟩
  · rw [valV_put, h.val]
    unfold HK.put
    by_cases e : j = i
    · subst e; simp
    · simp [e]
theorem DI.one (root : Int) : DI (mergeK [] [(Sum.inl root, V.int 0)]) (ini root) := by
  have h0 : DI [] (fun _ => none) := ⟨List.nodup_nil, fun p hp => (by cases hp), fun i => rfl⟩
  exact h0.put root 0
theorem DI.same {ks ls : List (Key × V)} {f : IF} (h : DI ks f) (g : DI ls f) : ks.length = ls.length ∧ ∀ p ∈ ks, valV ls p.1 = some p.2 ∧ flatB p.2 = true := by
  constructor
  · have : (ks.map (·.1)).Perm (ls.map (·.1)) := (List.perm_ext_iff_of_nodup h.nd g.nd).mpr fun k => by
      cases k with
      | inl i => rw [h.mem, g.mem]
      | inr s =>
        constructor
        · intro hm
          obtain ⟨p, hp, e⟩ := List.mem_map.mp hm
          obtain ⟨j, x, rfl⟩ := h.ks p hp
          cases e
        · intro hm
          obtain ⟨p, hp, e⟩ := List.mem_map.mp hm
          obtain ⟨j, x, rfl⟩ := g.ks p hp
          cases e
    have := this.length_eq
    rwa [List.length_map, List.length_map] at this
  · intro p hp
    obtain ⟨i, x, rfl, e⟩ := h.at_ hp
    exact ⟨by show valV ls (Sum.inl i) = _; rw [g.val, e]; rfl, rfl⟩
theorem DI.pair {kvs : List (Key × V)} {f : IF} (h : DI kvs f) {v x : Int} (e : f v = some x) : (Sum.inl v, V.int x) ∈ kvs := by
  have := (h.mem v).mpr (by rw [e]; rfl)
  obtain ⟨pp, hpp, ep⟩ := List.mem_map.mp this
  obtain ⟨j, z, rfl, ej⟩ := h.at_ hpp
  cases ep
  rw [e] at ej
  cases ej
  exact hpp
theorem rnd_take {S : IF → IF} {rs : List R4} {g : IF} {j : Nat} {r : R4} (h : rs[j]? = some r) : rnd S (rs.take (j + 1)) g = rlx (S (rnd S (rs.take j) g)) (rnd S (rs.take j) g) r := by
  have : rs.take (j + 1) = rs.take j ++ [r] := by rw [List.take_add_one, h]; rfl
  rw [this]
  unfold rnd
  rw [List.foldl_append]
  rfl
/-! ### a good net is one -/
def pr (r : R4) : List Int := [r.s, r.e]
theorem pairs_map (rs : List R4) : (rs.map R4.d).map pairD = rs.map pr := by rw [List.map_map]; rfl
abbrev nt (m : PyData) (ds : List PyData) : PyData := .tuple [m, .tuple ds]
theorem lex_fore {a b : R4} (h : a.lt b) : HT.lexLt (pr a) (pr b) = true := by
  have h : a.s < b.s ∨ (a.s = b.s ∧ a.e < b.e) := h
  simp only [pr, HT.lexLt]
  rcases h with h | ⟨h, h2⟩
  · rw [if_neg (by omega)]
    exact decide_eq_true (by omega)
  · rw [if_pos h, if_neg (by omega)]
    exact decide_eq_true (by omega)
/-- a good net is one -/
theorem road_yes {n : Int} {r : R4} (h : RoadOk n r) : isRoadD n r.d = true := by
  obtain ⟨h1, h2, h3, h4, h5, h6, h7, h8, h9⟩ := h
  have a1 : r.s ≤ n - 1 := by omega
  have a2 : r.e ≤ n - 1 := by omega
  simp [R4.d, isRoadD, withinD, neD, h1, a1, h3, a2, h5, h6, h7, h8, h9]
theorem net_yes {n : Int} {rs : List R4} (G : Good n rs) : isNetD (nt (.int n) (rs.map R4.d)) = true := by
  show ((decide (1 ≤ n) && decide (n ≤ 12)) && (((rs.map R4.d).all (isRoadD n)) && risesB ((rs.map R4.d).map pairD))) = true
  rw [decide_eq_true G.n1, decide_eq_true G.n2, pairs_map]
  have h1 : (rs.map R4.d).all (isRoadD n) = true := by
    rw [List.all_map, List.all_eq_true]
    exact fun r hr => road_yes (G.ok r hr)
  have h2 : risesB (rs.map pr) = true := risesB_yes fun j hj => by
    rw [List.length_map] at hj
    have hp := List.pairwise_iff_getElem.mp G.up j (j + 1) (by omega) (by omega) (by omega)
    have e1 : (rs.map pr).getD j [] = pr rs[j] := by simp [List.getD_eq_getElem?_getD, List.getElem?_eq_getElem (show j < rs.length by omega)]
    have e2 : (rs.map pr).getD (j + 1) [] = pr rs[j + 1] := by simp [List.getD_eq_getElem?_getD, List.getElem?_eq_getElem (show j + 1 < rs.length by omega)]
    rw [e1, e2]
    exact lex_fore hp
  rw [h1, h2]
  rfl
theorem NetAt.k0 {K : PySem.W.Frag} {H H' : Hp} {a : Addr} {n : Int} {rs : List R4} (h : NetAt K H a n rs) (k : K0 H H') : NetAt K H' a n rs := h.kt (k.kt (t := 0))
theorem NetAt.ans {K : PySem.W.Frag} {H : Hp} {a : Addr} {n : Int} {rs : List R4} (h : NetAt K H a n rs) (G : Good n rs) (hl : rs.length ≤ 156) : NetAns K H (.ref a) true := by
  obtain ⟨r, xs, o, h1, h2, hc, hd, h3⟩ := h
  refine .inl ⟨nt (.int n) (rs.map R4.d), .tup h1 (.cons (.int _) (.cons (.tup (h2) h3) .nil)), fun m rs' e => ?_, (net_yes G).symm⟩
  cases e
  rw [List.length_map]; omega
end HK

set_option Elab.async false
set_option linter.all false
set_option maxRecDepth 100000
set_option maxHeartbeats 2000000
namespace HK
open PySem PySem.Spec PyProof.Rows L2 GAl GxR
abbrev sIsPlace : Stmt := topS 16
abbrev sNeedNet : Stmt := topS 19
abbrev sNeedPlace : Stmt := topS 20
theorem scIsPlace : FnScope ["net", "thing"] ["net", "thing"] (defScope sIsPlace) := ⟨rfl, rfl, rfl, by decide +kernel, rfl, by decide +kernel, by decide +kernel⟩
theorem scNeedNet : FnScope ["net"] ["net"] (defScope sNeedNet) := ⟨rfl, rfl, rfl, by decide +kernel, rfl, by decide +kernel, by decide +kernel⟩
theorem scNeedPlace : FnScope ["net", "place"] ["net", "place"] (defScope sNeedPlace) := ⟨rfl, rfl, rfl, by decide +kernel, rfl, by decide +kernel, by decide +kernel⟩
theorem K0.lock {H H' : Hp} {p : Addr} {u : HO} {od : Obj} (h : H p = some u) (nt : ∀ ps, u ≠ .tbl ps) (k : K0 (upd H p (.frz od u)) H') : K0 H (upd H' p u) := by
  refine ⟨fun b o e m => ?_, fun P hP => ?_, fun b e => ?_⟩
  · by_cases hb : b = p
    · subst hb
      rw [h] at e
      cases e
      exact upd_same
    · rw [upd_ne hb]
      exact k.oth b o (by rw [upd_ne hb]; exact e) m
  · obtain ⟨ps, e, ht⟩ := hP
    have hb : P ≠ p := fun z => by
      rw [z, h] at e
      exact nt ps (Option.some.inj e)
    obtain ⟨ps', e', ht'⟩ := k.tab P ⟨ps, by rw [upd_ne hb]; exact e, ht⟩
    exact ⟨ps', by rw [upd_ne hb]; exact e', ht'⟩
  · by_cases hb : b = p
    · rw [hb, upd_same] at e; cases e
    · rw [upd_ne hb] at e
      have := k.dom b e
      rwa [upd_ne hb] at this
section
variable {P : Program} {w : World} {K : PySem.W.Frag} {mg : Str → Option Value} {base : Heap}
def spIsPlace (K : PySem.W.Frag) : Sp := fun vs H Q _ => ∃ (a : Addr) (n : Int) (rs : List R4) (v : Int), vs = [.ref a, .int v] ∧ NetAt K H a n rs ∧ Q (.bl (decide (0 ≤ v) && decide (v ≤ n - 1))) H
theorem ok_isplace {f fW : Addr} {fd fdW : FuncData} (F : Fun K "is_place" "is_place" sIsPlace f fd)
    (kW : PySem.W.keepIn K (.ref fW) = true) (bW : Binds K fdW ["thing", "least", "greatest"] []) (gW : mg "is_within" = some (.ref fW)) (GW : FnOk P w K mg base CX0 2 fW fdW ["thing", "least", "greatest"] (spWithin K)) :
    FnOk P w K mg base CX0 3 f fd ["net", "thing"] (spIsPlace K) := by
  refine F.ok scIsPlace (fun vs H Q E h => ?_) (fun cdv A outer s H vs Q E hr h => ?_)
  · obtain ⟨a, n, rs, v, rfl, _⟩ := h
    rfl
  · obtain ⟨a, n, rs, v, rfl, hN, q⟩ := h
    obtain ⟨r, xs, o, h1, h2, hc, hd, h3⟩ := hN
    refine ⟨_, pss_one (ps_ret (pe_call GW hr (by rfl) gW kW bW .nil pass0 (pa_cons (pv 1) (pa_cons pe_int (pa_cons (pe_op op_sub (pe_ix ix_tup (pv 0) pe_int (fun _ _ => rfl)) pe_int) pa_nil))))), ?_⟩
    exact ⟨_, rfl, _, rfl, a, _, _, _, rfl, rfl, h1, atI_nat (j := 0) rfl, _, _, rfl, rfl, .int v, .int v, 0, n - 1, rfl, .int _, q⟩
def spNeedNet (K : PySem.W.Frag) (Pn Pr : Addr) : Sp := fun vs H Q _ => ∃ (a : Addr) (n : Int) (rs : List R4), vs = [.ref a] ∧ NetAt K H a n rs ∧ Good n rs ∧ rs.length ≤ 156 ∧ TabG H Pn ∧ TabG H Pr ∧ ∀ H', K0 H H' → Q .non H'
theorem ok_neednet {f fN Pn Pr : Addr} {fd fdN : FuncData} (F : Fun K "need_net" "need_net" sNeedNet f fd)
    (kN : PySem.W.keepIn K (.ref fN) = true) (bN : Binds K fdN ["thing"] []) (gN : mg "is_net" = some (.ref fN)) (GN : FnOk P w K mg base CX0 5 fN fdN ["thing"] (spIsNet K Pn Pr)) :
    FnOk P w K mg base CX0 6 f fd ["net"] (spNeedNet K Pn Pr) := by
  refine F.ok scNeedNet (fun vs H Q E h => ?_) (fun cdv A outer s H vs Q E hr h => ?_)
  · obtain ⟨a, n, rs, rfl, _⟩ := h
    rfl
  · obtain ⟨a, n, rs, rfl, hN, hG, hl, tn, tr, q⟩ := h
    refine ⟨_, pss_one (ps_if (pt_not (pt_val (pe_call GN hr (by rfl) gN kN bN .nil pass0 (pa_cons (pv 0) pa_nil)))) pss_never pss_nil), ?_⟩
    exact ⟨_, rfl, .ref a, true, rfl, hN.ans hG hl, tn, tr, fun H' k => ⟨_, rfl, iteF (q H' k)⟩⟩
def spNeedPlace (K : PySem.W.Frag) : Sp := fun vs H Q _ => ∃ (a : Addr) (n : Int) (rs : List R4) (v : Int), vs = [.ref a, .int v] ∧ NetAt K H a n rs ∧ 0 ≤ v ∧ v < n ∧ Q .non H
theorem ok_needplace {f fN : Addr} {fd fdN : FuncData} (F : Fun K "need_place" "need_place" sNeedPlace f fd)
    (kN : PySem.W.keepIn K (.ref fN) = true) (bN : Binds K fdN ["net", "thing"] []) (gN : mg "is_place" = some (.ref fN)) (GN : FnOk P w K mg base CX0 3 fN fdN ["net", "thing"] (spIsPlace K)) :
    FnOk P w K mg base CX0 4 f fd ["net", "place"] (spNeedPlace K) := by
  refine F.ok scNeedPlace (fun vs H Q E h => ?_) (fun cdv A outer s H vs Q E hr h => ?_)
  · obtain ⟨a, n, rs, v, rfl, _⟩ := h
    rfl
  · obtain ⟨a, n, rs, v, rfl, hN, h0, h1, q⟩ := h
    refine ⟨_, pss_one (ps_if (pt_not (pt_val (pe_call GN hr (by rfl) gN kN bN .nil pass0 (pa_cons (pv 0) (pa_cons (pv 1) pa_nil))))) pss_never pss_nil), ?_⟩
    refine ⟨_, rfl, _, rfl, a, n, rs, v, rfl, hN, _, rfl, ?_⟩
    rw [decide_eq_true h0, decide_eq_true (show v ≤ n - 1 by omega)]
    exact iteF q
theorem road_at {H : Hp} {xs : List V} {rs : List R4} {j : Nat} {x : V} (h3 : Roads K H xs rs) (hx : xs[j]? = some x) : ∃ (t : R4) (q1 : Addr), rs[j]? = some t ∧ x = .ref q1 ∧ SqT K H q1 t.vs := by
  obtain ⟨d, e1, e2⟩ := dpAll_get h3 hx
  obtain ⟨t, rfl, hrd⟩ : ∃ t : R4, d = t.d ∧ rs[j]? = some t := by
    rw [List.getElem?_map] at e1
    cases e3 : rs[j]? with
    | none => rw [e3] at e1; cases e1
    | some t => rw [e3] at e1; cases e1; exact ⟨t, rfl, rfl⟩
  obtain ⟨q1, rfl, hs⟩ := dp_r4 e2
  exact ⟨t, q1, hrd, rfl, hs⟩
theorem dget {H : Hp} {p : Addr} {kvs : List (Key × V)} {g : IF} {v x : Int} (hk : H p = some (.dK kvs)) (hD : DI kvs g) (e : g v = some x) : DGet H p (.int v) (some (.int x)) := by
  have := DGet.k (k := Sum.inl v) hk
  rw [hD.val, e] at this
  exact this
theorem inV_mem {i : Int} {js : List Int} (h : i ∈ js) : inV (.int i) (js.map V.int) = true := by
  unfold inV
  rw [List.any_map, List.any_eq_true]
  exact ⟨i, h, by simp [eqV]⟩
theorem upd_back {H : Hp} {p : Addr} {o : HO} (h : H p = some o) : upd H p o = H := by
  funext b
  by_cases e : b = p
  · rw [e, upd_same, h]
  · rw [upd_ne e]
theorem sqT_lock {H : Hp} {a p : Addr} {xs : List V} {kvs : List (Key × V)} {o : HO} (h : SqT K H a xs) (hp : H p = some (.dK kvs)) : SqT K (upd H p o) a xs := by
  rcases h with (h | ⟨o', h⟩) | h
  · exact .inl (.inl (by rw [upd_ne (ne_of h hp (fun z => by cases z))]; exact h))
  · exact .inl (.inr ⟨o', by rw [upd_ne (ne_of h hp (fun z => by cases z))]; exact h⟩)
  · exact .inr h
end
end HK

set_option Elab.async false
set_option linter.all false
set_option maxRecDepth 100000
set_option maxHeartbeats 4000000
namespace HK
open PySem PySem.Spec PyProof.Rows L2 GAl GxR
open Evl (pss_cut)
theorem dgetR {H : Hp} {p : Addr} {kvs : List (Key × V)} {g : IF} (hk : Rd H p (.dK kvs)) (hD : DI kvs g) (v : Int) : DGet H p (.int v) ((g v).map V.int) := .inl ⟨kvs, Sum.inl v, hk, rfl, by rw [hD.val]⟩
theorem K0.rd {H H' : Hp} {p : Addr} {kvs : List (Key × V)} (k : K0 H H') (h : Rd H p (.dK kvs)) : Rd H' p (.dK kvs) := by
  rcases h with h | ⟨o, h⟩
  · exact .inl (k.oth p _ h (fun _ z => by cases z))
  · exact .inr ⟨o, k.oth p _ h (fun _ z => by cases z)⟩
section
variable {P : Program} {w : World} {K : PySem.W.Frag} {mg : Str → Option Value} {base : Heap}
theorem tabG_lock {H : Hp} {p : Addr} {u o : HO} {Pp : Addr} (h : H p = some u) (nt : ∀ ps, u ≠ .tbl ps) (hT : TabG H Pp) : TabG (upd H p o) Pp := by
  obtain ⟨ps, e, ht⟩ := hT
  exact ⟨ps, by rw [upd_ne (fun z => by rw [z, h] at e; exact nt ps (Option.some.inj e))]; exact e, ht⟩
theorem netAt_lock {H : Hp} {a p : Addr} {n : Int} {rs : List R4} {kvs : List (Key × V)} {od : Obj} (h : NetAt K H a n rs) (hp : H p = some (.dK kvs)) : NetAt K (upd H p (.frz od (.dK kvs))) a n rs := by
  obtain ⟨r, xs, o, h1, h2, hc, hd, h3⟩ := h
  refine ⟨r, xs, o, sqT_lock h1 hp, sqT_lock h2 hp, hc, hd, ?_⟩
  clear h1 h2
  unfold Roads at h3 ⊢
  induction rs generalizing xs with
  | nil => cases h3; exact .nil
  | cons r rs ih =>
    cases h3 with
    | cons a b =>
      refine .cons ?_ (ih _ b)
      obtain ⟨q, rfl, h⟩ := dp_r4 (r := r) a
      exact r4_dp (r := r) (sqT_lock h hp)
end
end HK

set_option Elab.async false
set_option linter.all false
set_option maxRecDepth 100000
set_option maxHeartbeats 4000000
namespace HK
open PySem PySem.Spec PyProof.Rows L2 GAl GxR
theorem sub_len {l ks : List Int} (nl : l.Nodup) (nk : ks.Nodup) (h : ∀ x ∈ l, x ∈ ks) : l.length ≤ ks.length := by
  have pm : (ks.filter fun x => decide (x ∈ l)).Perm l := (List.perm_ext_iff_of_nodup (List.Nodup.sublist List.filter_sublist nk) nl).mpr fun x => by
    rw [List.mem_filter]
    exact ⟨fun z => of_decide_eq_true z.2, fun z => ⟨h x z, decide_eq_true z⟩⟩
  rw [← pm.length_eq]
  exact List.length_filter_le _ _
/-- the tables of generator expressions -/
def TbL (H : Hp) (l : List Addr) : Prop := ∀ P ∈ l, TabG H P
theorem TbL.kt {t : Addr} {H H' : Hp} {l : List Addr} (h : TbL H l) (k : Kt t H H') : TbL H' l := fun P hP => k.tab P (h P hP)
theorem TbL.k0 {H H' : Hp} {l : List Addr} (h : TbL H l) (k : K0 H H') : TbL H' l := fun P hP => k.tab P (h P hP)
end HK

set_option Elab.async false
set_option linter.all false
set_option maxRecDepth 100000
set_option maxHeartbeats 4000000
namespace HK
open PySem PySem.Spec PyProof.Rows L2 GAl GxR
/-! ### trees as partial functions -/
def stp (g : IF) (v : Int) : Int := (g v).getD v
def clm (g : IF) : Nat → Int → Int
  | 0, v => v
  | n + 1, v => stp g (clm g n v)
theorem stp_none {g : IF} {v : Int} (h : g v = none) : stp g v = v := by unfold stp; rw [h]; rfl
theorem stp_some {g : IF} {v x : Int} (h : g v = some x) : stp g v = x := by unfold stp; rw [h]; rfl
theorem clm_fix {g : IF} {v : Int} {i : Nat} (h : g (clm g i v) = none) : ∀ k, clm g (i + k) v = clm g i v
  | 0 => rfl
  | k + 1 => by
    show stp g (clm g (i + k) v) = _
    rw [clm_fix h k, stp_none h]
theorem clm_root {g : IF} {v root : Int} {i : Nat} (hr : g root = none) (h : clm g i v = root) (k : Nat) : clm g (i + k) v = root := by
  rw [clm_fix (by rw [h]; exact hr), h]
theorem DI.keys {kvs : List (Key × V)} {f : IF} (h : DI kvs f) : ∃ ks : List Int, ks.Nodup ∧ ks.length = kvs.length ∧ (∀ i, i ∈ ks ↔ (f i).isSome = true) ∧ kvs.map (·.1) = ks.map Sum.inl := by
  have aux : ∀ {l : List (Key × V)}, (∀ p ∈ l, ∃ i x : Int, p = (Sum.inl i, V.int x)) → ∃ ks : List Int, l.map (·.1) = ks.map Sum.inl := fun {l} => by
    induction l with
    | nil => exact fun _ => ⟨[], rfl⟩
    | cons p r ih =>
      intro hl
      obtain ⟨ks, e⟩ := ih fun q hq => hl q (List.mem_cons_of_mem _ hq)
      obtain ⟨i, x, rfl⟩ := hl p (List.mem_cons_self ..)
      exact ⟨i :: ks, by rw [List.map_cons, List.map_cons, e]⟩
  obtain ⟨ks, e⟩ := aux h.ks
  have nd := h.nd
  rw [e] at nd
  refine ⟨ks, (List.pairwise_map.mp nd).imp fun hne z => hne (by rw [z]), ?_, fun i => ?_, e⟩
  · have := congrArg List.length e
    rw [List.length_map, List.length_map] at this
    exact this.symm
  · rw [← h.mem i, e, List.mem_map]
    exact ⟨fun z => ⟨i, z, rfl⟩, fun ⟨j, hj, ej⟩ => by cases ej; exact hj⟩
/-- a way to the root takes no more steps than there are keys -/
theorem clm_len {kvs : List (Key × V)} {g : IF} {root v : Int} {m : Nat} (hD : DI kvs g) (hr : g root = none) (h : clm g m v = root) : clm g kvs.length v = root := by
  obtain ⟨ks, nk, lk, mk, _⟩ := hD.keys
  refine Decidable.byContradiction fun hn => ?_
  have absb : ∀ i, i ≤ kvs.length → clm g i v ≠ root := fun i hi z => hn (by
    have := clm_root hr z (kvs.length - i)
    rwa [show i + (kvs.length - i) = kvs.length by omega] at this)
  have lt : kvs.length < m := by
    refine Nat.lt_of_not_le fun z => absb m z h
  have dom : ∀ i, i ≤ kvs.length → (g (clm g i v)).isSome = true := fun i hi => by
    cases e : g (clm g i v) with
    | some x => rfl
    | none =>
      have := clm_fix e (m - i)
      rw [show i + (m - i) = m by omega, h] at this
      exact absurd this.symm (absb i hi)
  by_cases hd : ∀ i j, i < j → j ≤ kvs.length → clm g i v ≠ clm g j v
  · have nl : ((List.range (kvs.length + 1)).map fun i => clm g i v).Nodup := List.pairwise_map.mpr
      (List.Pairwise.imp_of_mem (fun {a b} _ hb lt => hd a b lt (by have := List.mem_range.mp hb; omega)) List.pairwise_lt_range)
    have := sub_len nl nk fun x hx => by
      obtain ⟨i, hi, rfl⟩ := List.mem_map.mp hx
      exact (mk _).mpr (dom i (by have := List.mem_range.mp hi; omega))
    rw [List.length_map, List.length_range] at this
    omega
  · obtain ⟨i, z⟩ := Classical.not_forall.mp hd
    obtain ⟨j, z⟩ := Classical.not_forall.mp z
    obtain ⟨hij, z⟩ := Classical.not_imp.mp z
    obtain ⟨hj, z⟩ := Classical.not_imp.mp z
    have e := Decidable.not_not.mp z
    have per : ∀ t, ∃ s, s ≤ kvs.length ∧ i ≤ s ∧ s < j ∧ clm g (i + t) v = clm g s v := fun t => by
      induction t with
      | zero => exact ⟨i, by omega, Nat.le_refl _, hij, rfl⟩
      | succ t ih =>
        obtain ⟨s, h1, h2, h3, h4⟩ := ih
        have e5 : clm g (i + (t + 1)) v = clm g (s + 1) v := by
          show stp g (clm g (i + t) v) = stp g (clm g s v)
          rw [h4]
        by_cases hs : s + 1 < j
        · exact ⟨s + 1, by omega, by omega, hs, e5⟩
        · exact ⟨i, by omega, Nat.le_refl _, hij, by rw [e5, show s + 1 = j by omega, e]⟩
    obtain ⟨s, h1, _, _, h4⟩ := per (m - i)
    rw [show i + (m - i) = m by omega, h] at h4
    exact absb s h1 h4.symm
/-- going ahead one stays in the tree -/
theorem clm_in {g : IF} {root v : Int} {m : Nat} (hr : g root = none) (h : clm g m v = root) (k : Nat) : clm g k v = root ∨ ∃ x, g (clm g k v) = some x := by
  by_cases hk : clm g k v = root
  · exact .inl hk
  · refine .inr ?_
    cases e : g (clm g k v) with
    | some x => exact ⟨x, rfl⟩
    | none =>
      refine absurd ?_ hk
      by_cases hm : m ≤ k
      · have := clm_root hr h (k - m)
        rwa [show m + (k - m) = k by omega] at this
      · have := clm_fix e (m - k)
        rw [show k + (m - k) = m by omega, h] at this
        exact this.symm
/-! ### the road of a pair -/
def road (rs : List R4) (a b : Int) : Option R4 := rs.find? fun r => decide (r.s = a ∧ r.e = b)
theorem road_some {rs : List R4} {a b : Int} {r : R4} (h : road rs a b = some r) : r ∈ rs ∧ r.s = a ∧ r.e = b := by
  have h2 := List.find?_some h
  exact ⟨List.mem_of_find?_eq_some h, of_decide_eq_true h2⟩
theorem road_none {rs : List R4} {a b : Int} (h : road rs a b = none) : ∀ r ∈ rs, ¬ (r.s = a ∧ r.e = b) := fun r hr z => by
  have := List.find?_eq_none.mp h r hr
  exact this (decide_eq_true z)
theorem lt_uniq {rs : List R4} (up : rs.Pairwise R4.lt) {i j : Nat} {r t : R4} (hi : rs[i]? = some r) (hj : rs[j]? = some t) (e : r.s = t.s ∧ r.e = t.e) : i = j := by
  obtain ⟨li, rfl⟩ := List.getElem?_eq_some_iff.mp hi
  obtain ⟨lj, rfl⟩ := List.getElem?_eq_some_iff.mp hj
  refine Decidable.byContradiction fun ne => ?_
  rcases Nat.lt_or_gt_of_ne ne with l | l
  · have : rs[i].s < rs[j].s ∨ (rs[i].s = rs[j].s ∧ rs[i].e < rs[j].e) := List.pairwise_iff_getElem.mp up i j li lj l
    omega
  · have : rs[j].s < rs[i].s ∨ (rs[j].s = rs[i].s ∧ rs[j].e < rs[i].e) := List.pairwise_iff_getElem.mp up j i lj li l
    omega
theorem road_of {rs : List R4} (up : rs.Pairwise R4.lt) {r : R4} (h : r ∈ rs) : road rs r.s r.e = some r := by
  cases e : road rs r.s r.e with
  | none => exact absurd ⟨rfl, rfl⟩ (road_none e r h)
  | some t =>
    obtain ⟨ht, hs⟩ := road_some e
    obtain ⟨i, hi⟩ := List.getElem?_of_mem ht
    obtain ⟨j, hj⟩ := List.getElem?_of_mem h
    have := lt_uniq up hi hj hs
    subst this
    rw [hi] at hj
    exact hj
theorem road_snoc {rs : List R4} {t : R4} (a b : Int) : road (rs ++ [t]) a b = (road rs a b).or (if t.s = a ∧ t.e = b then some t else none) := by
  unfold road
  rw [List.find?_append]
  congr 1
  by_cases h : t.s = a ∧ t.e = b
  · rw [if_pos h]
    simp [h]
  · rw [if_neg h]
    simp only [List.find?_cons, decide_eq_false h, List.find?_nil]
/-- what a dict makes a tree -/
def TreeP (rs : List R4) (root : Int) (g : IF) (m : Nat) : Prop := g root = none ∧ (∀ v x, g v = some x → (road rs x v).isSome = true) ∧ ∀ v x, g v = some x → clm g m v = root
/-- a dict from pairs to what a road has -/
def TabP (sel : R4 → Int) (rs : List R4) (kvs : List (List Key × V)) : Prop := kvs.length ≤ rs.length ∧ ∀ a b : Int, valV kvs [Sum.inl a, Sum.inl b] = (road rs a b).map fun r => V.int (sel r)
theorem TabP.put {sel : R4 → Int} {rs : List R4} {t : R4} {kvs : List (List Key × V)} (up : (rs ++ [t]).Pairwise R4.lt) (h : TabP sel rs kvs) : TabP sel (rs ++ [t]) (putK kvs [Sum.inl t.s, Sum.inl t.e] (.int (sel t))) := by
  refine ⟨?_, fun a b => ?_⟩
  · have := length_putK kvs [Sum.inl t.s, Sum.inl t.e] (V.int (sel t))
    have := h.1
    rw [List.length_append, List.length_singleton]
    omega
  · rw [valV_put, road_snoc]
    by_cases e : t.s = a ∧ t.e = b
    · obtain ⟨rfl, rfl⟩ := e
      have hno : road rs t.s t.e = none := by
        cases e : road rs t.s t.e with
        | none => rfl
        | some r =>
          obtain ⟨hr, hs⟩ := road_some e
          obtain ⟨i, hi⟩ := List.getElem?_of_mem hr
          have hlt : i < rs.length := (List.getElem?_eq_some_iff.mp hi).1
          have := lt_uniq up (i := i) (j := rs.length) (by rw [List.getElem?_append_left hlt]; exact hi) (by rw [List.getElem?_append_right (Nat.le_refl _)]; simp) hs
          omega
      rw [if_pos rfl, hno, if_pos ⟨rfl, rfl⟩]
      rfl
    · rw [if_neg (fun z => e (by simp at z; exact ⟨z.1.symm, z.2.symm⟩)), if_neg e, h.2]
      cases road rs a b <;> rfl
end HK

set_option Elab.async false
set_option linter.all false
set_option maxRecDepth 100000
set_option maxHeartbeats 4000000
namespace HK
open PySem PySem.Spec PyProof.Rows L2 GAl GxR
abbrev sPairs : Stmt := topS 18
theorem scPairs : FnScope ["thing", "key", "number"] ["thing"] (defScope sPairs) := ⟨rfl, rfl, rfl, by decide +kernel, rfl, by decide +kernel, by decide +kernel⟩
section
variable {P : Program} {w : World} {K : PySem.W.Frag} {mg : Str → Option Value} {base : Heap}
def spPairs (K : PySem.W.Frag) (Pp : Addr) : Sp := fun vs H Q _ => ∃ (p : Addr) (kvs : List (Key × V)) (g : IF), vs = [.ref p] ∧ H p = some (.dK kvs) ∧ DI kvs g ∧ TabG H Pp ∧ ∀ H', K0 H H' → Q (.bl true) H'
theorem ok_pairs {f c fW Pp : Addr} {fd fdW : FuncData} (F : FunC K "are_whole_pairs" "are_whole_pairs" sPairs f fd c) (TB : TabB base mg c Pp)
    (kW : PySem.W.keepIn K (.ref fW) = true) (bW : Binds K fdW ["thing"] []) (gW : mg "is_whole" = some (.ref fW)) (GW : FnOk P w K mg base CX0 1 fW fdW ["thing"] (spWhole K))
    (mi : mg "isinstance" = none) (mD : mg "dict" = none) (ma : mg "all" = none) : FnOk P w K mg base CX0 3 f fd ["thing"] (spPairs K Pp) := by
  refine F.ok scPairs (fun vs H Q E h => ?_) (fun A outer s H vs Q E hr h => ?_)
  · obtain ⟨p, kvs, g, rfl, _⟩ := h
    rfl
  · obtain ⟨p, kvs, g, rfl, hp, hD, hT, q⟩ := h
    refine ⟨_, pss_cons (ps_if (pt_not (pt_val (pe_callB call_isi (by rfl) mi boot_isinstance (pa_cons (pv 0) (pa_cons (pe_bltn (v := .ty "dict") (by rfl) mD (by decide +kernel) rfl) pa_nil))))) (pss_one (ps_ret pe_bl)) pss_nil)
      (pss_one (ps_ret (pe_lock (pe_allG (own := [("key", 1), ("number", 2)]) (k := 1) (g := gTup K 2 (gCons (gName 1) (gCons (gName 2) gNil))) (tt := tYes) (te := tAndV (tCall (spWhole K) [] E0 (tCons (tVar 1) tNil)) (tCall (spWhole K) [] E0 (tCons (tVar 2) tNil))) hr (by rfl) ma rfl scPairs.nd TB rfl (gsc_by (N := ["thing", "key", "number"]) (sc := defScope sPairs) (by decide +kernel))
          (pi_items (pv 0)) (fun A' hr' _ _ _ _ _ _ => pg_tup rfl (pgs_cons (pg_name (i := 1) scPairs.nd rfl (.inl rfl)) (pgs_cons (pg_name (i := 2) scPairs.nd rfl (.inl rfl)) pgs_nil))) (fun A' hr' _ _ _ _ _ _ => pts_nil)
          (fun A' hr' _ _ _ _ _ _ => pe_and (pe_call GW hr' (by rfl) gW kW bW .nil pass0 (pa_cons (pv 1) pa_nil)) (pe_one (pe_call GW hr' (by rfl) gW kW bW .nil pass0 (pa_cons (pv 2) pa_nil)))))))), ?_⟩
    refine ⟨_, rfl, .ref p, .ty "dict", .type "dict", _, true, rfl, .ty "dict", .base (.dK hp), kit_ty (tys_dict (by decide)), _, rfl, iteF ?_⟩
    refine ⟨p, _, hp, trivial, fun od => ⟨_, rfl, p, od, kvs, rfl, upd_same, tabG_lock hp (fun _ z => by cases z) hT, fun H2 hT2 => ?_⟩⟩
    have k2 : K0 (upd H p (.frz od (.dK kvs))) H2 := K0.tbd (tabG_lock hp (fun _ z => by cases z) hT) hT2
    refine ⟨fun i m H3 => i + m = kvs.length ∧ K0 (upd H p (.frz od (.dK kvs))) H3, ⟨kvs.length, by omega, k2⟩, fun i m H3 hW => ?_⟩
    obtain ⟨em, k3⟩ := hW
    have hp3 : H3 p = some (.frz od (.dK kvs)) := k3.oth p _ upd_same (fun _ z => by cases z)
    by_cases hi : i < kvs.length
    · refine .inr ⟨⟨hp3, hi⟩, fun H' => K0 (upd H p (.frz od (.dK kvs))) H', fun H' hN => ⟨m - 1, by omega, by omega, hN⟩, fun x H' hy => ?_⟩
      obtain ⟨T, k, v, hkv, rfl, nT, rfl⟩ := hy
      obtain ⟨j, z, e, e2⟩ := hD.at_ (List.mem_of_getElem? hkv)
      cases e
      refine ⟨T, _, rfl, .inl (.inl upd_same), rfl, _, _, rfl, _, _, rfl, rfl, rfl, tyes ?_⟩
      exact ⟨_, rfl, .int j, .int j, rfl, .int j, _, rfl, iteT ⟨_, rfl, .int z, .int z, rfl, .int z, _, rfl, iteT (k3.mut (k3.dom T nT))⟩⟩
    · exact .inl ⟨⟨hp3, by omega⟩, hp3, q _ (K0.lock hp (fun _ z => by cases z) k3)⟩
end
end HK

set_option Elab.async false
set_option linter.all false
set_option maxRecDepth 100000
set_option maxHeartbeats 2000000
/-! A comprehension that makes a dict, keys of either kind: what is put is told by DPut. The rule for ints and texts as keys is the library's pe_dc; its loop (compLoop_anyD) and its block (block_start) serve here too. -/
namespace DTu
open PySem PySem.Spec PyProof.Rows L2
section
variable {X : Cx} {pins : List (Addr × Obj)} {σ : L2.St} {H H' : Hp} {s : Shared} {a : Addr} {y v : V} {u r : Value} {E : Value → Shared → Prop} {Q : Unit → Shared → Prop}
/-- one pair is put -/
theorem dset (hu : X.A.units < cLine) (I : Inv X pins σ H s) (g : DPut H a y v H') (ry : RelV y u) (rv : RelV v r) (h : ∀ s', Inv X pins σ H' s' → Q () s') : wpAny (model X.prog X.w) X.A (dictSet a u r) Q E s := by
  rcases g with ⟨kvs, k, e, rfl, l, rfl⟩ | ⟨kvs, k, b, e, rfl, eb, l, rfl⟩
  · exact d_dictSet I e l ry rv h
  · have := length_putK kvs k v
    cases (show u = Value.ref b from ry)
    obtain ⟨z, nm, xs, rel, dd⟩ := dt_of I.hok e
    refine wpAny_dictSet_heap (hsz := (by rw [← Paired.length rel]; exact z)) (knd := tupleKind (mixKind X.prog X.w)) hu (key_of I.hok eb) dd fun h2 ⟨q, es, ep, c1, c2, c3, c4, _, c5⟩ sb => h _ ?_
    exact d_write I (by rw [e]; trivial) sb ⟨q, c1⟩ ⟨by omega, nm, _, (rel.put k eb rv).keeps fun c ys ec => (upd_ne (ne_of ec e (fun z => nomatch z))).trans ec, q, es, ep, c1, c2, c3, c4, c5⟩
end
section
variable {X : Cx}
/-- {k: v for target in iter if ..} with tuples as keys -/
def tDcT (wi : TI) (g : TG) (tt : TT) (tk tv : TE) (vs : List Nat) : TE := fun σ H Q => wi σ H fun J H1 => ∀ D, H1 D = none → ∃ W : Nat → Nat → Hp → Prop, (∃ m, W 0 m (upd H1 D (.dT []))) ∧ ∀ i m H, W i m H →
  (J.stop i H ∧ Q (.ref D) H) ∨ (J.go i H ∧ ∃ Nx : Hp → Prop, (∀ H', Nx H' → ∃ m', m' < m ∧ W (i + 1) m' H') ∧ ∀ x H', J.yld i H x H' → g x (wipe σ vs) H' fun σ2 H2 => wipe σ2 vs = wipe σ vs ∧ tt σ2 H2 fun b H3 =>
    if b = true then tk σ2 H3 fun y H4 => tv σ2 H4 fun z H5 => ∃ H6, DPut H5 D y z H6 ∧ Nx H6 else Nx H3)
theorem pe_dcT {kx vx tg iter : Expr} {ifs : List Expr} {scope : Scope} {own : List (Str × Nat)} {pos : Pos} {wi : TI} {g : TG} {tt : TT} {tk tv : TE} (hu : X.A.units < cLine) (calm : X.calm = true) (nd : X.N.Nodup) (hi : PI X tg iter wi) (ok : BlkOk X.N X.env.scope scope own)
    (hg : ∀ s H C cl fp, PG (X.blk s H scope (compEnvC scope cl C X.env) fp) tg g) (ht : ∀ s H C cl fp, PTs (X.blk s H scope (compEnvC scope cl C X.env) fp) ifs tt)
    (hk : ∀ s H C cl fp, PE (X.blk s H scope (compEnvC scope cl C X.env) fp) kx tk) (he : ∀ s H C cl fp, PE (X.blk s H scope (compEnvC scope cl C X.env) fp) vx tv)
    (hf : ∀ x, foldedSetIterable iter X.env x = pure x := by intro _; rfl) : PE X (.DictComp kx vx [⟨tg, iter, ifs, 0⟩] scope pos) (tDcT wi g tt tk tv (own.map (·.2))) := by
  refine ⟨fun pins s σ H Q I h => ?_⟩
  rw [arm_eval_DictComp]
  refine wpAny_comprehension_free rfl hf (closure_ok fun y hy e => (ok.free y hy e).elim (fun k => I.ok.has _ (.inl k)) (fun k => I.ok.has _ (.inr k))) ok.kind (fun y hy e => by rw [ok.uniq y hy, e]) ?_
  refine thn (hi.run pins s σ H _ I h) fun _ _ hx => thn hx fun _ s2 ⟨it, fp, tn, J, H2, e, I2, T, st2, f2, q⟩ => ?_
  subst e
  refine wpAny_newObj_type (newEnv_comp ?_)
  -- the new dict stands at D
  generalize hD : s2.heap.objs.size = D
  obtain ⟨W, ⟨m0, w0⟩, turn⟩ := q D (I2.hok.fresh (Nat.le_of_eq hD))
  obtain ⟨s3, hs3⟩ : ∃ s3 : Shared, s3 = { s2 with heap := s2.heap.push { cls := .type "dict", data := .dict #[] } } := ⟨_, rfl⟩
  have up : ∀ b o, s2.heap.get? b = some o → s3.heap.get? b = some o := fun b o e => by rw [hs3]; exact Heap.get?_push_of_some _ e
  have I3 : Inv X pins σ (upd H2 D (.dT [])) s3 := by
    subst hs3 hD
    exact I2.laid (t' := s2.toks) (fun _ _ e => Heap.get?_push_of_some _ e) (Nat.le_refl _) (dt_empty s2.heap I2.big)
  have f3 : ∀ b ∈ fp, FpOk X pins (upd H2 D (.dT [])) b ∧ b < s3.heap.objs.size := fun b hb => by
    obtain ⟨o, eo, _⟩ := T.obj _ _ st2 b hb
    have lt := Heap.lt_size eo
    exact ⟨⟨(upd_ne (by rw [← hD]; exact Nat.ne_of_lt lt)).trans (f2 b hb).1, (f2 b hb).2⟩, Heap.lt_size (up b o eo)⟩
  have I4 := block_start I3 ok nd f3
  rw [← hs3]
  -- the block's letters
  generalize hC : s3.heap.objs.size = C at I4 ⊢
  generalize hcl : cellsFrom (C + 1) scope.names (cloFrom X.env.cells scope.names []) = cl at I4 ⊢
  generalize hH3 : upd H2 D (.dT []) = H3 at I3 I4 f3 w0
  have G := hg s3 H3 C cl fp
  have Te := ht s3 H3 C cl fp
  have Ke := hk s3 H3 C cl fp
  have Ve := he s3 H3 C cl fp
  show codeAny _ _ (.compStart (.DictComp kx vx [⟨tg, iter, ifs, 0⟩] scope pos) 0 (.ref it) (.ref D) (compEnvC scope cl C X.env)) _ _
  obtain ⟨s4, hs4⟩ : ∃ s4 : Shared, s4 = { s3 with heap := pushCells (s3.heap.push { cls := .type "dict", data := .dict #[] }) scope.names } := ⟨_, rfl⟩
  rw [← hs4] at I4
  have st4 : tn 0 s4.heap := T.keep _ _ _ st2 fun b _ o e => by rw [hs4]; exact pushCells_keeps _ _ _ _ (Heap.get?_push_of_some _ (up b o e))
  have fpB : ∀ {σ' : L2.St} {H' : Hp} {s' : Shared}, Inv (X.blk s3 H3 scope (compEnvC scope cl C X.env) fp) [] σ' H' s' → (∀ b ∈ fp, H' b = none) → ∀ b ∈ fp, FpOk (X.blk s3 H3 scope (compEnvC scope cl C X.env) fp) [] H' b :=
    fun I' n b hb => ⟨n b hb, (I'.ok.exf b hb).1, I'.ok.exfs b hb, .inl hb, (I'.ok.exf b hb).2, fun p hp => by cases (show p ∈ ([] : List (Addr × Obj)) from hp)⟩
  have loop : codeAny (model X.prog X.w) X.A (.compLoop (.DictComp kx vx [⟨tg, iter, ifs, 0⟩] scope pos) 0 (.ref it) (.ref D) (compEnvC scope cl C X.env)) (compPost (model X.prog X.w) X.A X.xe none (fun u s' => ∃ y H', Inv X pins σ H' s' ∧ RelV y u ∧ Q y H') (.ref D) C) s4 := by
    refine compLoop_anyD (fun n s' => ∃ i H', Inv (X.blk s3 H3 scope (compEnvC scope cl C X.env) fp) [] (wipe σ (own.map (·.2))) H' s' ∧ tn i s'.heap ∧ (∀ b ∈ fp, H' b = none) ∧ W i n H') ?_ m0 ⟨0, H3, I4, st4, fun b hb => (f3 b hb).1.1, w0⟩
    rintro n s5 ⟨i, H5, I5, st5, n5, w5⟩
    rcases turn i n H5 w5 with ⟨stop, qq⟩ | ⟨go, Nx, hNx, step⟩
    · refine thnF (T.done (X.blk s3 H3 scope (compEnvC scope cl C X.env) fp) rfl rfl rfl calm i [] s5 _ H5 (fun _ _ => False) I5 (fpB I5 n5) st5 stop) fun r s6 ⟨hr, I6⟩ => ?_
      subst hr
      have I7 : Inv X pins σ H5 s6 := I3.call' (ch := fp) I6.os I6.base I6.hok I6.bare fun b hb => ⟨(f3 b hb).1.2.2.2.1, (f3 b hb).1.2.1, (f3 b hb).1.2.2.2.2.1, (f3 b hb).1.2.2.2.2.2⟩
      obtain ⟨m, hn, _⟩ := I6.loc
      have hfree : H5 C = none := I6.free
      have F := I3.fpOk (Nat.le_of_eq hC) hfree
      exact ⟨m, hn, fun h2 sb => ⟨.ref D, H5, I7.turned (t' := s6.toks) (fun b o hb e => (sb.2 b hb).trans e) F.1 F.2.1 F.2.2.2.1 F.2.2.2.2.1 F.2.2.2.2.2, rfl, qq⟩⟩
    · refine thnF (T.item (X.blk s3 H3 scope (compEnvC scope cl C X.env) fp) rfl rfl rfl calm i [] s5 _ H5 (fun _ _ => False) I5 (fpB I5 n5) st5 go) fun r s6 ⟨uv, hr, h6⟩ => ?_
      subst hr
      refine thnF h6 fun _ s7 ⟨x, H7, I7, r7, y7, st7, n7⟩ => ?_
      refine thnF (G.run _ s7 _ H7 x uv _ (I7.pinned (fpB I7 n7) (T.obj _ _ st7)) r7 (step x H7 y7)) fun _ s8 ⟨σ8, H8, I8, w8, q8⟩ => ?_
      refine thnF (Te.run _ s8 σ8 H8 _ I8 q8) fun b s9 ⟨H9, I9, q9⟩ => ?_
      have fin : ∀ {s' : Shared} {H' : Hp}, Inv (X.blk s3 H3 scope (compEnvC scope cl C X.env) fp) ([] ++ pinsAt fp s7.heap) σ8 H' s' → Nx H' → ∃ m, m < n ∧ ∃ i H', Inv (X.blk s3 H3 scope (compEnvC scope cl C X.env) fp) [] (wipe σ (own.map (·.2))) H' s' ∧ tn i s'.heap ∧ (∀ b ∈ fp, H' b = none) ∧ W i m H' := fun {s' H'} I' nx => by
        obtain ⟨m', lt, w'⟩ := hNx H' nx
        have pn : ∀ b ∈ fp, ∀ o, s7.heap.get? b = some o → s'.heap.get? b = some o ∧ H' b = none := fun b hb o e => by
          have z := I'.pin (b, o) (List.mem_append_right _ (List.mem_append_right _ (mem_pinsAt hb e)))
          exact ⟨z.1, z.2.1⟩
        refine ⟨m', lt, i + 1, H', (I'.unpinned (pins := [])).weak (by rw [← w8, wipe_length]) (fun j v e => (wipe_some (by rw [w8]; exact e)).1), T.keep _ _ _ st7 fun b hb o e => (pn b hb o e).1, fun b hb => ?_, w'⟩
        obtain ⟨o, e, _⟩ := T.obj _ _ st7 b hb
        exact (pn b hb o e).2
      cases b with
      | false => exact fin I9 q9
      | true =>
        refine thnF (Ke.run _ s9 σ8 H9 _ I9 q9) fun kv s10 ⟨yk, H10, I10, r10, q10⟩ => ?_
        refine thnF (Ve.run _ s10 σ8 H10 _ I10 q10) fun vv s11 ⟨yv, H11, I11, r11, H12, put, nx⟩ => ?_
        exact dset (X := X.blk s3 H3 scope (compEnvC scope cl C X.env) fp) hu I11 put r10 r11 fun s12 I12 => fin I12 nx
  rw [hs4] at st4 loop
  exact codeAny_compStart_dict loop (T.self X.A 0 _ _ _ st4 loop)
end
end DTu

set_option Elab.async false
set_option linter.all false
set_option maxRecDepth 100000
set_option maxHeartbeats 4000000
namespace HK
open PySem PySem.Spec PyProof.Rows L2 GAl GxR DTu
open Evl (pss_cut)
abbrev sGrows : Stmt := topS 23
abbrev sLeads : Stmt := topS 24
abbrev sPrices : Stmt := topS 25
theorem scGrows : FnScope ["net", "root", "ahead", "prices", "end", "start", "place"] ["net", "root", "ahead"] (defScope sGrows) := ⟨rfl, rfl, rfl, by decide +kernel, rfl, by decide +kernel, by decide +kernel⟩
theorem scLeads : FnScope ["root", "ahead", "place", "step"] ["root", "ahead", "place"] (defScope sLeads) := ⟨rfl, rfl, rfl, by decide +kernel, rfl, by decide +kernel, by decide +kernel⟩
theorem scPrices : FnScope ["net", "start", "end", "cost", "late"] ["net"] (defScope sPrices) := ⟨rfl, rfl, rfl, by decide +kernel, rfl, by decide +kernel, by decide +kernel⟩
theorem call_lenR {X : Cx} : CallR X (.builtin "len") (fun xs H Q => ∃ a kvs, xs = [V.ref a] ∧ Rd H a (.dK kvs) ∧ Q (.int kvs.length) H) := by
  intro pins s σ H xs us Q I r ⟨a, kvs, e, ha, q⟩
  subst e
  obtain ⟨u, rfl, ru⟩ := vals1 r
  cases ru
  exact d_len I ha fun t s' I' => ⟨.int kvs.length, H, I', ⟨t, rfl⟩, q⟩
section
variable {P : Program} {w : World} {K : PySem.W.Frag} {mg : Str → Option Value} {base : Heap}
theorem NetAt.mut {H H' : Hp} {a p : Addr} {n : Int} {rs : List R4} {o : HO} (h : NetAt K H a n rs) (k : K0 H H') (np : H p = none) : NetAt K (upd H' p o) a n rs := h.k0 (k.mut np)
/-- the tables of roads -/
def spTab (sel : R4 → Int) (K : PySem.W.Frag) : Sp := fun vs H Q _ => ∃ (a : Addr) (n : Int) (rs : List R4), vs = [.ref a] ∧ NetAt K H a n rs ∧ Good n rs ∧ rs.length ≤ 156 ∧
  ∀ (D : Addr) (kvs : List (List Key × V)) (H' : Hp), K0 H H' → H D = none → H' D = some (.dT kvs) → TabP sel rs kvs → Q (.ref D) H'
theorem ok_prices {f : Addr} {fd : FuncData} (F : Fun K "road_prices" "road_prices" sPrices f fd) : FnOk P w K mg base CX0 1 f fd ["net"] (spTab (·.c) K) := by
  refine F.ok scPrices (fun vs H Q E h => ?_) (fun cdv A outer s H vs Q E hr h => ?_)
  · obtain ⟨a, n, rs, rfl, _⟩ := h
    rfl
  · obtain ⟨a, n, rs, rfl, hN, G, hl, q⟩ := h
    have hu := hu_of hr
    refine ⟨_, pss_one (ps_ret (pe_dcT (own := [("start", 1), ("end", 2), ("cost", 3), ("late", 4)]) (g := gTup K 4 (gCons (gName 1) (gCons (gName 2) (gCons (gName 3) (gCons (gName 4) gNil))))) (tt := tYes) (tk := tTup (tCons (tVar 1) (tCons (tVar 2) tNil))) (tv := tVar 3) (Nat.lt_of_succ_lt hu) rfl scPrices.nd (pi_tup (pe_ix ix_tup (pv 0) pe_int (fun _ _ => rfl)))
      (blkOk_by (N := ["net", "start", "end", "cost", "late"]) (sc := defScope sPrices) (by decide +kernel))
      (fun _ _ _ _ _ => pg_tup rfl (pgs_cons (pg_name (i := 1) scPrices.nd rfl (.inl rfl)) (pgs_cons (pg_name (i := 2) scPrices.nd rfl (.inl rfl)) (pgs_cons (pg_name (i := 3) scPrices.nd rfl (.inl rfl)) (pgs_cons (pg_name (i := 4) scPrices.nd rfl (.inl rfl)) pgs_nil)))))
      (fun _ _ _ _ _ => pts_nil) (fun _ _ _ _ _ => pe_tup (pa_cons (pv 1) (pa_cons (pv 2) pa_nil))) (fun _ _ _ _ _ => pv 3))), ?_⟩
    obtain ⟨r, xs, o, h1, h2, hc, hd, h3⟩ := hN
    have hxs : SqT K H r xs := h2
    have hrl : xs.length = rs.length := h3.len
    refine ⟨_, rfl, a, _, 1, .ref r, rfl, rfl, h1, atI_nat (j := 1) rfl, r, rfl, ⟨xs, hxs⟩, fun D nD => ?_⟩
    refine ⟨fun i m H' => i + m = xs.length ∧ K0 H H' ∧ ∃ kvs, H' D = some (.dT kvs) ∧ TabP (·.c) (rs.take i) kvs, ⟨xs.length, by omega, K0.new nD, [], upd_same, by rw [List.take_zero]; exact ⟨Nat.le_refl _, fun _ _ => rfl⟩⟩, fun i m H' hW => ?_⟩
    obtain ⟨em, k3, kvs, hD, hT⟩ := hW
    have hY : SqT K H' r xs := k3.sqT hxs
    by_cases hi : i < xs.length
    · have g1 : xs[i]? = some xs[i] := List.getElem?_eq_getElem hi
      obtain ⟨t, q1, hrd, hx, hs⟩ := road_at h3 g1
      have htk : rs.take (i + 1) = rs.take i ++ [t] := by rw [List.take_add_one, hrd]; rfl
      refine .inr ⟨⟨_, _, hY, g1⟩, fun H' => K0 H H' ∧ ∃ kvs, H' D = some (.dT kvs) ∧ TabP (·.c) (rs.take (i + 1)) kvs, fun H' hN => ⟨m - 1, by omega, by omega, hN⟩, fun x' H2 hy => ?_⟩
      obtain ⟨rfl, fx⟩ := hy
      have ex : x' = xs[i] := Option.some.inj ((fx _ hY).symm.trans g1)
      rw [hx] at ex
      subst ex
      refine ⟨q1, _, rfl, k3.sqT hs, rfl, _, _, rfl, _, _, rfl, _, _, rfl, _, _, rfl, rfl, rfl, tyes ?_⟩
      refine ⟨_, rfl, _, rfl, by show 2 ≤ sizeLine; decide, fun kt nkt => ⟨_, rfl, ?_⟩⟩
      have hne : D ≠ kt := fun z => by rw [z, nkt] at hD; cases hD
      have hD2 : upd H2 kt (.tup [.int t.s, .int t.e]) D = some (.dT kvs) := by rw [upd_ne hne]; exact hD
      have hll : kvs.length < sizeLine := Nat.lt_of_le_of_lt (m := 5000) (by have := hT.1; have := List.length_take_le i rs; omega) (by decide)
      refine ⟨_, DPut.t (k := [Sum.inl t.s, Sum.inl t.e]) hD2 upd_same hll, (k3.mut (k3.dom kt nkt)).mut nD, _, upd_same, ?_⟩
      rw [htk]
      refine TabP.put ?_ hT
      rw [← htk]
      exact List.Pairwise.sublist (List.take_sublist _ _) G.up
    · refine .inl ⟨⟨_, hY, by omega⟩, q D kvs H' k3 nD hD ?_⟩
      rwa [List.take_of_length_le (by omega)] at hT
/-- does a way lead to the root? -/
def spLeads (K : PySem.W.Frag) : Sp := fun vs H Q _ => ∃ (root : Int) (p : Addr) (kvs : List (Key × V)) (g : IF) (v : Int), vs = [.int root, .ref p, .int v] ∧ Rd H p (.dK kvs) ∧ DI kvs g ∧ kvs.length ≤ 5000 ∧ Q (.bl (decide (clm g kvs.length v = root))) H
theorem ok_leads {f : Addr} {fd : FuncData} (F : Fun K "leads_to" "leads_to" sLeads f fd) (mr : mg "range" = none) (ml : mg "len" = none) : FnOk P w K mg base CX0 1 f fd ["root", "ahead", "place"] (spLeads K) := by
  refine F.ok scLeads (fun vs H Q E h => ?_) (fun cdv A outer s H vs Q E hr h => ?_)
  · obtain ⟨a, p, kvs, g, v, rfl, _⟩ := h
    rfl
  · obtain ⟨root, p, kvs, g, v, rfl, hp, hD, hl, q⟩ := h
    have hu := hu_of hr
    refine ⟨_, pss_cons (ps_for PassesOwn.never rfl (pi_range1 (by rfl) mr (pa_cons (pe_callB call_lenR (by rfl) ml PySem.boot_len (pa_cons (pv 1) pa_nil)) pa_nil)) (pg_name (i := 3) scLeads.nd rfl (.inl rfl))
        (pss_one (ps_if (pt_cmp (pc_din hu (pv 2) (pv 1))) (pss_one (ps_set (i := 2) scLeads.nd rfl (.inl rfl) (pe_dget hu (pv 1) (pv 2) (fun _ _ => rfl)))) pss_nil)))
      (pss_one (ps_ret (pe_cmpR op_eq (pv 2) (pv 0) (nomark _)))), ?_⟩
    refine ⟨_, rfl, p, kvs, rfl, hp, _, rfl, by omega, by omega, for_range (lo := 0) (n := kvs.length) (fun i σ' H' => ∃ y3, σ' = [some (.int root), some (.ref p), some (.int (clm g i v)), y3] ∧ H' = H)
      ⟨none, rfl, rfl⟩ (fun i σ' H' hi h => ?_) (fun σ' H' h => ?_)⟩
    · obtain ⟨y3, rfl, rfl⟩ := h
      have ds := dgetR hp hD (clm g i v)
      refine ⟨_, rfl, _, rfl, p, _, rfl, ds, _, rfl, ?_⟩
      show if ((g (clm g i v)).map V.int).isSome = true then _ else _
      cases e : g (clm g i v) with
      | none => exact ⟨_, by rw [show clm g (i + 1) v = clm g i v from stp_none e]; rfl, rfl⟩
      | some x =>
        rw [e] at ds
        exact iteT ⟨_, rfl, _, rfl, p, _, rfl, ds, _, by rw [show clm g (i + 1) v = x from stp_some e]; rfl, rfl⟩
    · obtain ⟨y3, rfl, rfl⟩ := h
      refine ⟨_, rfl, _, rfl, rfl, ?_⟩
      refine qeq q ?_
      by_cases e : clm g kvs.length v = root
      · rw [e, decide_eq_true rfl, decide_eq_true rfl]
      · rw [decide_eq_false e, decide_eq_false (fun z => e (by cases z; rfl))]
end
end HK

set_option Elab.async false
set_option linter.all false
set_option maxRecDepth 100000
set_option maxHeartbeats 4000000
namespace HK
open PySem PySem.Spec PyProof.Rows L2 GAl GxR DTu
open Evl (pss_cut)
section
variable {P : Program} {w : World} {K : PySem.W.Frag} {mg : Str → Option Value} {base : Heap}
def spGrows (K : PySem.W.Frag) (Pp Pg : Addr) : Sp := fun vs H Q _ => ∃ (a : Addr) (n : Int) (rs : List R4) (root : Int) (p : Addr) (kvs : List (Key × V)) (g : IF), vs = [.ref a, .int root, .ref p] ∧ NetAt K H a n rs ∧ Good n rs ∧ rs.length ≤ 156 ∧
  H p = some (.dK kvs) ∧ DI kvs g ∧ kvs.length ≤ 5000 ∧ TabG H Pp ∧ TabG H Pg ∧ ∀ (H' : Hp) (b : Bool), K0 H H' → (b = true ↔ TreeP rs root g kvs.length) → Q (.bl b) H'
theorem ok_grows {f c fW fR fL Pp Pg : Addr} {fd fdW fdR fdL : FuncData} (F : FunC K "grows" "grows" sGrows f fd c) (TB : TabB base mg c Pg)
    (kW : PySem.W.keepIn K (.ref fW) = true) (bW : Binds K fdW ["thing"] []) (gW : mg "are_whole_pairs" = some (.ref fW)) (GW : FnOk P w K mg base CX0 3 fW fdW ["thing"] (spPairs K Pp))
    (kR : PySem.W.keepIn K (.ref fR) = true) (bR : Binds K fdR ["net"] []) (gR : mg "road_prices" = some (.ref fR)) (GR : FnOk P w K mg base CX0 1 fR fdR ["net"] (spTab (·.c) K))
    (kL : PySem.W.keepIn K (.ref fL) = true) (bL : Binds K fdL ["root", "ahead", "place"] []) (gL : mg "leads_to" = some (.ref fL)) (GL : FnOk P w K mg base CX0 1 fL fdL ["root", "ahead", "place"] (spLeads K))
    (mall : mg "all" = none) : FnOk P w K mg base CX0 4 f fd ["net", "root", "ahead"] (spGrows K Pp Pg) := by
  refine F.ok scGrows (fun vs H Q E h => ?_) (fun A outer s H vs Q E hr h => ?_)
  · obtain ⟨a, n, rs, v, p, kvs, g, rfl, _⟩ := h
    rfl
  · obtain ⟨a, n, rs, root, p, kvs, g, rfl, hN, hG, hl, hp, hD, hkl, tp, tg, q⟩ := h
    have hu := hu_of hr
    refine ⟨_, pss_cons (ps_if (PW.pt (pw_or (pt_not (pt_val (pe_call GW hr (by rfl) gW kW bW .nil pass0 (pa_cons (pv 2) pa_nil)))) (pw_or1 (pt_cmp (pc_din hu (pv 1) (pv 2)))))) (pss_one (ps_ret pe_bl)) pss_nil)
      (pss_cons (ps_set (i := 3) scGrows.nd rfl (.inr rfl) (pe_call GR (hr.mono (by decide)) (by rfl) gR kR bR .nil pass0 (pa_cons (pv 0) pa_nil)))
      (pss_cons (ps_if (pt_not (pt_val (pe_lock (pe_allG (own := [("end", 4), ("start", 5)]) (k := 2) (g := gTup K 2 (gCons (gName 4) (gCons (gName 5) gNil))) (tt := tYes) (te := tDIn (tTup (tCons (tVar 5) (tCons (tVar 4) tNil))) (tVar 3)) hr (by rfl) mall rfl scGrows.nd TB rfl (gsc_by (N := ["net", "root", "ahead", "prices", "end", "start", "place"]) (sc := defScope sGrows) (by decide +kernel))
          (pi_items (pv 2)) (fun A' hr' _ _ _ _ _ _ => pg_tup rfl (pgs_cons (pg_name (i := 4) scGrows.nd rfl (.inl rfl)) (pgs_cons (pg_name (i := 5) scGrows.nd rfl (.inl rfl)) pgs_nil))) (fun A' hr' _ _ _ _ _ _ => pts_nil)
          (fun A' hr' _ _ _ _ _ _ => pe_cmp (pc_din (hu_of hr') (pe_tup (pa_cons (pv 5) (pa_cons (pv 4) pa_nil))) (pv 3))))))) (pss_one (ps_ret pe_bl)) pss_nil)
      (pss_one (ps_ret (pe_lock (pe_allG (own := [("place", 6)]) (k := 2) (g := gName 6) (tt := tYes) (te := tCall (spLeads K) [] E0 (tCons (tVar 1) (tCons (tVar 2) (tCons (tVar 6) tNil)))) hr (by rfl) mall rfl scGrows.nd TB rfl (gsc_by (N := ["net", "root", "ahead", "prices", "end", "start", "place"]) (sc := defScope sGrows) (by decide +kernel))
          (pi_keys (pv 2)) (fun A' hr' _ _ _ _ _ _ => pg_name (i := 6) scGrows.nd rfl (.inl rfl)) (fun A' hr' _ _ _ _ _ _ => pts_nil)
          (fun A' hr' _ _ _ _ _ _ => pe_call GL (hr'.mono (by decide)) (by rfl) gL kL bL .nil pass0 (pa_cons (pv 1) (pa_cons (pv 2) (pa_cons (pv 6) pa_nil)))))))))), ?_⟩
    refine ⟨_, rfl, p, kvs, g, rfl, hp, hD, tp, fun H1 k1 => ⟨_, rfl, iteF ?_⟩⟩
    have hp1 := k1.oth p _ hp (fun _ z => by cases z)
    refine ⟨_, rfl, _, rfl, p, _, rfl, dgetR (.inl hp1) hD root, _, rfl, ?_⟩
    cases er : g root with
    | some x => exact iteT (q _ false k1 ⟨fun z => by (cases z), fun z => by rw [z.1] at er; cases er⟩)
    | none =>
    refine iteF ?_
    refine ⟨_, rfl, a, n, rs, rfl, hN.k0 k1, hG, hl, fun D ts H2 k2 nD hD2 hT => ?_⟩
    have k12 := k1.trans k2
    have hp2 := k12.oth p _ hp (fun _ z => by cases z)
    have hpD : p ≠ D := fun z => by rw [z, nD] at hp1; cases hp1
    -- all the roads
    refine ⟨p, _, hp2, trivial, fun od => ⟨_, rfl, p, od, kvs, rfl, upd_same, tabG_lock hp2 (fun _ z => by cases z) (k12.tab _ tg), fun H3 hT3 => ?_⟩⟩
    have k3 : K0 (upd H2 p (.frz od (.dK kvs))) H3 := K0.tbd (tabG_lock hp2 (fun _ z => by cases z) (k12.tab _ tg)) hT3
    refine ⟨fun i m H4 => i + m = kvs.length ∧ K0 (upd H2 p (.frz od (.dK kvs))) H4 ∧ ∀ e ∈ kvs.take i, ∀ v x, e = (Sum.inl v, V.int x) → (road rs x v).isSome = true, ⟨kvs.length, by omega, k3, fun e he => by rw [List.take_zero] at he; cases he⟩, fun i m H4 hW => ?_⟩
    obtain ⟨em, k4, hyes⟩ := hW
    have hp4 : H4 p = some (.frz od (.dK kvs)) := k4.oth p _ upd_same (fun _ z => by cases z)
    have hD4 : H4 D = some (.dT ts) := k4.oth D _ (by rw [upd_ne hpD.symm]; exact hD2) (fun _ z => by cases z)
    have kend : ∀ {H7}, K0 (upd H2 p (.frz od (.dK kvs))) H7 → K0 H (upd H7 p (.dK kvs)) := fun k => k12.trans (K0.lock hp2 (fun _ z => by cases z) k)
    by_cases hi : i < kvs.length
    · have g2 : kvs[i]? = some kvs[i] := List.getElem?_eq_getElem hi
      obtain ⟨j, z, e, e2⟩ := hD.at_ (List.mem_of_getElem? g2)
      rw [e] at g2
      have htk : kvs.take (i + 1) = kvs.take i ++ [(Sum.inl j, V.int z)] := by rw [List.take_add_one, g2]; rfl
      refine .inr ⟨⟨hp4, hi⟩, fun H' => K0 (upd H2 p (.frz od (.dK kvs))) H' ∧ (road rs z j).isSome = true, fun H' hN => ⟨m - 1, by omega, by omega, hN.1, fun e' he' => ?_⟩, fun x' H' hy => ?_⟩
      · rw [htk] at he'
        rcases List.mem_append.mp he' with he' | he'
        · exact hyes e' he'
        · have := List.mem_singleton.mp he'
          subst this
          intro v x ee
          cases ee
          exact hN.2
      · obtain ⟨T, k, v, hkv, rfl, nT, rfl⟩ := hy
        rw [g2] at hkv
        cases hkv
        have kT := k4.mut (o := .tup [.int j, .int z]) (k4.dom T nT)
        have hDT : upd H4 T (.tup [.int j, .int z]) D = some (.dT ts) := by rw [upd_ne (ne_of_none hD4 nT)]; exact hD4
        refine ⟨T, _, rfl, .inl (.inl upd_same), rfl, _, _, rfl, _, _, rfl, rfl, rfl, tyes ?_⟩
        refine ⟨_, rfl, _, rfl, by show 2 ≤ sizeLine; decide, fun kt nkt => ?_⟩
        have kk := kT.mut (o := .tup [.int z, .int j]) (kT.dom kt nkt)
        have hDk : upd (upd H4 T (.tup [.int j, .int z])) kt (.tup [.int z, .int j]) D = some (.dT ts) := by rw [upd_ne (ne_of_none hDT nkt)]; exact hDT
        refine ⟨_, rfl, D, _, rfl, DGet.t (k := [Sum.inl z, Sum.inl j]) hDk upd_same, _, rfl, ?_⟩
        rw [hT.2 z j]
        cases eo : road rs z j with
        | some r => exact iteT ⟨kk, by first | rfl | (rw [eo]; rfl)⟩
        | none =>
          have hp5 := kk.oth p _ upd_same (fun _ z => by cases z)
          refine iteF ⟨hp5, _, rfl, iteT (q _ false (kend kk) ⟨fun z => by (cases z), fun z => ?_⟩)⟩
          have := z.2.1 _ _ e2
          rw [eo] at this
          cases this
    · rw [List.take_of_length_le (by omega)] at hyes
      refine .inl ⟨⟨hp4, by omega⟩, hp4, _, rfl, iteF ?_⟩
      have k14 := kend k4
      have hroads : ∀ v x, g v = some x → (road rs x v).isSome = true := fun v x e => hyes (Sum.inl v, .int x) (by
        have := (hD.mem v).mpr (by rw [e]; rfl)
        obtain ⟨pp, hpp, ep⟩ := List.mem_map.mp this
        obtain ⟨j, z, rfl, ej⟩ := hD.at_ hpp
        cases ep
        rw [e] at ej
        cases ej
        exact hpp) v x rfl
      -- all the ways
      have hp5 : upd H4 p (.dK kvs) p = some (.dK kvs) := upd_same
      generalize hH5 : upd H4 p (.dK kvs) = H5 at k14 hp5
      refine ⟨p, _, hp5, trivial, fun od2 => ⟨_, rfl, p, od2, rfl, .inl ⟨kvs, upd_same, tabG_lock hp5 (fun _ z => by cases z) (k14.tab _ tg), fun H6 hT6 => ?_⟩⟩⟩
      have k6 : K0 (upd H5 p (.frz od2 (.dK kvs))) H6 := K0.tbd (tabG_lock hp5 (fun _ z => by cases z) (k14.tab _ tg)) hT6
      refine ⟨fun i m H7 => i + m = kvs.length ∧ K0 (upd H5 p (.frz od2 (.dK kvs))) H7 ∧ ∀ e ∈ kvs.take i, ∀ v x, e = (Sum.inl v, V.int x) → clm g kvs.length v = root, ⟨kvs.length, by omega, k6, fun e he => by rw [List.take_zero] at he; cases he⟩, fun i m H7 hW => ?_⟩
      obtain ⟨em, k7, hyes2⟩ := hW
      have hp7 : H7 p = some (.frz od2 (.dK kvs)) := k7.oth p _ upd_same (fun _ z => by cases z)
      have kend2 : ∀ {H8}, K0 (upd H5 p (.frz od2 (.dK kvs))) H8 → K0 H (upd H8 p (.dK kvs)) := fun k => k14.trans (K0.lock hp5 (fun _ z => by cases z) k)
      by_cases hi2 : i < kvs.length
      · have g2 : kvs[i]? = some kvs[i] := List.getElem?_eq_getElem hi2
        obtain ⟨j, z, e, e2⟩ := hD.at_ (List.mem_of_getElem? g2)
        rw [e] at g2
        have htk : kvs.take (i + 1) = kvs.take i ++ [(Sum.inl j, V.int z)] := by rw [List.take_add_one, g2]; rfl
        refine .inr ⟨⟨hp7, hi2⟩, fun H' => K0 (upd H5 p (.frz od2 (.dK kvs))) H' ∧ clm g kvs.length j = root, fun H' hN => ⟨m - 1, by omega, by omega, hN.1, fun e' he' => ?_⟩, fun x' H' hy => ?_⟩
        · rw [htk] at he'
          rcases List.mem_append.mp he' with he' | he'
          · exact hyes2 e' he'
          · have := List.mem_singleton.mp he'
            subst this
            intro v x ee
            cases ee
            exact hN.2
        · obtain ⟨rfl, k, v, hkv, rfl⟩ := hy
          rw [g2] at hkv
          cases hkv
          refine ⟨rfl, tyes ⟨_, rfl, _, rfl, _, rfl, root, p, kvs, g, j, rfl, .inr ⟨od2, hp7⟩, hD, hkl, _, rfl, ?_⟩⟩
          by_cases ec : clm g kvs.length j = root
          · rw [decide_eq_true ec]
            exact iteT ⟨k7, ec⟩
          · rw [decide_eq_false ec]
            exact iteF ⟨hp7, q _ false (kend2 k7) ⟨fun z => by (cases z), fun z => absurd (z.2.2 _ _ e2) ec⟩⟩
      · rw [List.take_of_length_le (by omega)] at hyes2
        refine .inl ⟨⟨hp7, by omega⟩, hp7, q _ true (kend2 k7) ⟨fun _ => ⟨er, hroads, fun v x e => ?_⟩, fun _ => rfl⟩⟩
        refine hyes2 (Sum.inl v, .int x) ?_ v x rfl
        have := (hD.mem v).mpr (by rw [e]; rfl)
        obtain ⟨pp, hpp, ep⟩ := List.mem_map.mp this
        obtain ⟨j, z, rfl, ej⟩ := hD.at_ hpp
        cases ep
        rw [e] at ej
        cases ej
        exact hpp
end
end HK


set_option Elab.async false
set_option linter.all false
set_option maxRecDepth 100000
set_option maxHeartbeats 4000000
namespace HK
open PySem PySem.Spec PyProof.Rows L2 GAl GxR
/-! ### walks by roads, what they cost -/
inductive Wk (S : Int → Prop) (rs : List R4) : List Int → Int → Prop
  | src {v : Int} : S v → Wk S rs [v] 0
  | step {l : List Int} {x : Int} {r : R4} : Wk S rs (r.s :: l) x → r ∈ rs → Wk S rs (r.e :: r.s :: l) (x + r.c)
section
variable {n : Int} {rs : List R4} {S : Int → Prop}
theorem Wk.nonneg (hok : ∀ r ∈ rs, RoadOk n r) {l : List Int} {x : Int} (h : Wk S rs l x) : 0 ≤ x := by
  induction h with
  | src => exact Int.le_refl _
  | step _ hr ih => have := (hok _ hr).c0; omega
theorem Wk.range (hok : ∀ r ∈ rs, RoadOk n r) (hS : ∀ v, S v → 0 ≤ v ∧ v < n) {l : List Int} {x : Int} (h : Wk S rs l x) : ∀ v ∈ l, 0 ≤ v ∧ v < n := by
  induction h with
  | src hv => intro v h; rw [List.mem_singleton.mp h]; exact hS _ hv
  | step _ hr ih =>
    intro v h
    rcases List.mem_cons.mp h with rfl | h
    · exact ⟨(hok _ hr).e0, (hok _ hr).e1⟩
    · exact ih v h
theorem Wk.suffix (hok : ∀ r ∈ rs, RoadOk n r) {v : Int} {b : List Int} : ∀ (a : List Int) {x : Int}, Wk S rs (a ++ v :: b) x → ∃ y, y ≤ x ∧ Wk S rs (v :: b) y
  | [], x, h => ⟨x, Int.le_refl _, h⟩
  | u :: a, x, h => by
    generalize hl : (u :: a) ++ v :: b = l at h
    cases h with
    | src hs =>
      have := congrArg List.length hl
      simp at this
    | step h' hr =>
      have e : a ++ v :: b = _ := (List.cons.inj hl).2
      rw [← e] at h'
      obtain ⟨y, hy, hw⟩ := Wk.suffix hok a h'
      have := (hok _ hr).c0
      exact ⟨y, by omega, hw⟩
theorem Wk.simple (hok : ∀ r ∈ rs, RoadOk n r) {l : List Int} {x : Int} (h : Wk S rs l x) : ∀ {v : Int} {t : List Int}, l = v :: t → ∃ t' y, y ≤ x ∧ Wk S rs (v :: t') y ∧ (v :: t').Nodup := by
  induction h with
  | src hv =>
    intro v t e
    cases e
    exact ⟨[], 0, Int.le_refl _, .src hv, List.pairwise_singleton ..⟩
  | @step l x r h' hr ih =>
    intro v t e
    cases e
    obtain ⟨t', y, hy, hw, hn⟩ := ih rfl
    by_cases hm : r.e ∈ r.s :: t'
    · obtain ⟨a, b, hab⟩ := List.append_of_mem hm
      rw [hab] at hw hn
      obtain ⟨z, hz, hw'⟩ := Wk.suffix hok a hw
      have := (hok _ hr).c0
      exact ⟨b, z, by omega, hw', hn.sublist (List.sublist_append_right _ _)⟩
    · exact ⟨_, y + r.c, by omega, .step hw hr, List.nodup_cons.mpr ⟨hm, hn⟩⟩
theorem nodup_len {l : List Int} (nd : l.Nodup) (h : ∀ v ∈ l, 0 ≤ v ∧ v < n) : l.length ≤ n.toNat := by
  have := sub_len (ks := (List.range n.toNat).map fun (i : Nat) => (i : Int)) nd (List.pairwise_map.mpr (List.pairwise_lt_range.imp fun a z => by omega)) fun x hx => by
    obtain ⟨h0, h1⟩ := h x hx
    exact List.mem_map.mpr ⟨x.toNat, List.mem_range.mpr (by omega), by omega⟩
  simpa using this
/-- one road looked at -/
def rlxC (g : IF) (r : R4) : IF := match g r.s with
  | none => g
  | some a => match g r.e with
    | none => put g r.e (a + r.c)
    | some b => if a + r.c < b then put g r.e (a + r.c) else g
def rndC (l : List R4) (g : IF) : IF := l.foldl rlxC g
def Att (S : Int → Prop) (rs : List R4) (f : IF) : Prop := ∀ v b, f v = some b → ∃ l, Wk S rs (v :: l) b
def UpTo (S : Int → Prop) (rs : List R4) (k : Nat) (f : IF) : Prop := ∀ l v x, Wk S rs (v :: l) x → l.length ≤ k → ∃ b, f v = some b ∧ b ≤ x
def ClosedC (rs : List R4) (f : IF) : Prop := ∀ r ∈ rs, ∀ a, f r.s = some a → ∃ b, f r.e = some b ∧ b ≤ a + r.c
theorem put_same {g : IF} {v x : Int} : put g v x v = some x := if_pos rfl
theorem put_ne {g : IF} {v x u : Int} (h : u ≠ v) : put g v x u = g u := if_neg h
theorem rlxC_le (g : IF) (r : R4) : Le (rlxC g r) g := fun v b e => by
  unfold rlxC
  cases es : g r.s with
  | none => exact ⟨b, e, Int.le_refl _⟩
  | some a =>
    cases ee : g r.e with
    | none =>
      by_cases hv : v = r.e
      · rw [hv, ee] at e; cases e
      · exact ⟨b, (put_ne hv).trans e, Int.le_refl _⟩
    | some c =>
      show ∃ b', (if a + r.c < c then put g r.e (a + r.c) else g) v = some b' ∧ b' ≤ b
      by_cases h : a + r.c < c
      · rw [if_pos h]
        by_cases hv : v = r.e
        · subst hv
          rw [ee] at e
          cases e
          exact ⟨_, put_same, by omega⟩
        · exact ⟨b, (put_ne hv).trans e, Int.le_refl _⟩
      · rw [if_neg h]
        exact ⟨b, e, Int.le_refl _⟩
theorem rlxC_att {g : IF} {r : R4} (hr : r ∈ rs) (h : Att S rs g) : Att S rs (rlxC g r) := by
  have hput : ∀ a, g r.s = some a → Att S rs (put g r.e (a + r.c)) := fun a es v b e => by
    by_cases hv : v = r.e
    · subst hv
      rw [put_same] at e
      cases e
      obtain ⟨l, hl⟩ := h _ _ es
      exact ⟨_, .step hl hr⟩
    · rw [put_ne hv] at e
      exact h v b e
  unfold rlxC
  cases es : g r.s with
  | none => exact h
  | some a =>
    cases ee : g r.e with
    | none => exact hput a es
    | some c =>
      show Att S rs (if a + r.c < c then put g r.e (a + r.c) else g)
      by_cases hc : a + r.c < c
      · rw [if_pos hc]; exact hput a es
      · rw [if_neg hc]; exact h
theorem rlxC_end {g : IF} {r : R4} {a : Int} (hs : g r.s = some a) : ∃ b, rlxC g r r.e = some b ∧ b ≤ a + r.c := by
  unfold rlxC
  rw [hs]
  cases ee : g r.e with
  | none => exact ⟨_, put_same, Int.le_refl _⟩
  | some c =>
    show ∃ b, (if a + r.c < c then put g r.e (a + r.c) else g) r.e = some b ∧ b ≤ a + r.c
    by_cases hc : a + r.c < c
    · rw [if_pos hc]; exact ⟨_, put_same, Int.le_refl _⟩
    · rw [if_neg hc]; exact ⟨c, ee, by omega⟩
theorem rndC_le : ∀ (l : List R4) (g : IF), Le (rndC l g) g
  | [], g => Le.refl g
  | r :: l, g => (rndC_le l (rlxC g r)).trans (rlxC_le g r)
theorem rndC_att : ∀ (l : List R4) {g : IF}, (∀ r ∈ l, r ∈ rs) → Att S rs g → Att S rs (rndC l g)
  | [], _, _, h => h
  | r :: l, _, hl, h => rndC_att l (fun r' hr' => hl r' (List.mem_cons_of_mem _ hr')) (rlxC_att (hl r (List.mem_cons_self ..)) h)
theorem rndC_end {r : R4} : ∀ (l : List R4) {g : IF} {a : Int}, r ∈ l → g r.s = some a → ∃ b, rndC l g r.e = some b ∧ b ≤ a + r.c
  | r0 :: l, g, a, hm, hs => by
    rcases List.mem_cons.mp hm with rfl | hm
    · obtain ⟨b, e, hb⟩ := rlxC_end hs
      obtain ⟨b', e', hb'⟩ := rndC_le l (rlxC g r) _ _ e
      exact ⟨b', e', by omega⟩
    · obtain ⟨a', e, ha⟩ := rlxC_le g r0 _ _ hs
      obtain ⟨b, e', hb⟩ := rndC_end l hm e
      exact ⟨b, e', by omega⟩
theorem rndC_up {k : Nat} {g : IF} (h : UpTo S rs k g) : UpTo S rs (k + 1) (rndC rs g) := fun l v x hw hl => by
  cases hw with
  | src hv =>
    obtain ⟨b, e, hb⟩ := h [] v 0 (.src hv) (Nat.zero_le _)
    obtain ⟨b', e', hb'⟩ := rndC_le rs g _ _ e
    exact ⟨b', e', by omega⟩
  | @step l' x' r h' hr =>
    obtain ⟨a, e, ha⟩ := h l' r.s x' h' (by rw [List.length_cons] at hl; omega)
    obtain ⟨b, e', hb⟩ := rndC_end rs hr e
    exact ⟨b, e', by omega⟩
theorem iterC {f0 : IF} (ha : Att S rs f0) (h0 : ∀ v, S v → f0 v = some 0) : ∀ k, Att S rs (iter (rndC rs) k f0) ∧ UpTo S rs k (iter (rndC rs) k f0)
  | 0 => ⟨ha, fun l v x hw hl => by
    cases hw with
    | src hv => exact ⟨0, h0 v hv, Int.le_refl _⟩
    | step _ _ => exact absurd hl (by simp)⟩
  | k + 1 => by
    obtain ⟨a, u⟩ := iterC ha h0 k
    exact ⟨rndC_att rs (fun _ h => h) a, rndC_up u⟩
theorem closed_of (hok : ∀ r ∈ rs, RoadOk n r) (hS : ∀ v, S v → 0 ≤ v ∧ v < n) {f : IF} (ha : Att S rs f) (hu : UpTo S rs n.toNat f) : ClosedC rs f := fun r hr a e => by
  obtain ⟨l, hl⟩ := ha _ _ e
  obtain ⟨t, y, hy, hw, hn⟩ := (Wk.step hl hr).simple hok rfl
  have hlen := nodup_len hn (hw.range hok hS)
  rw [List.length_cons] at hlen
  obtain ⟨b, eb, hb⟩ := hu t r.e y hw (by omega)
  exact ⟨b, eb, by omega⟩
open Classical in
/-- noughts at some places -/
noncomputable def zeroF (S : Int → Prop) : IF := fun v => if S v then some 0 else none
theorem zeroF_put {S : Int → Prop} {v : Int} : put (zeroF S) v 0 = zeroF (fun u => S u ∨ u = v) := by
  funext u
  unfold put zeroF
  by_cases h : u = v
  · rw [if_pos h, if_pos (Or.inr h)]
  · rw [if_neg h]
    by_cases hs : S u
    · rw [if_pos hs, if_pos (Or.inl hs)]
    · rw [if_neg hs, if_neg (fun z => z.elim hs h)]
theorem zeroF_congr {S T : Int → Prop} (h : ∀ v, S v ↔ T v) : zeroF S = zeroF T := by
  funext v
  unfold zeroF
  by_cases hs : S v
  · rw [if_pos hs, if_pos ((h v).mp hs)]
  · rw [if_neg hs, if_neg (fun z => hs ((h v).mpr z))]
theorem zeroF_some {S : Int → Prop} {v b : Int} : zeroF S v = some b ↔ S v ∧ b = 0 := by
  unfold zeroF
  by_cases hs : S v
  · rw [if_pos hs]; exact ⟨fun e => ⟨hs, (Option.some.inj e).symm⟩, fun e => by rw [e.2]⟩
  · rw [if_neg hs]; exact ⟨fun e => (by cases e), fun e => absurd e.1 hs⟩
def InT (root : Int) (g : IF) (v : Int) : Prop := v = root ∨ (g v).isSome = true
noncomputable def cheapF (n : Int) (rs : List R4) (root : Int) (g : IF) : IF := iter (rndC rs) n.toNat (zeroF (InT root g))
/-- what the numbers of a graft are -/
def PricesP (n : Int) (rs : List R4) (root : Int) (g f : IF) : Prop := (∀ v x, f v = some x → 0 ≤ v ∧ v < n ∧ 0 ≤ x) ∧ (∀ v, InT root g v → f v = some 0) ∧ ClosedC rs f
theorem cheap_ok {root : Int} {g : IF} (hok : ∀ r ∈ rs, RoadOk n r) (hS : ∀ v, InT root g v → 0 ≤ v ∧ v < n) : PricesP n rs root g (cheapF n rs root g) := by
  have h0 : Att (InT root g) rs (zeroF (InT root g)) := fun v b e => by
    obtain ⟨h1, h2⟩ := zeroF_some.mp e
    subst h2
    exact ⟨[], .src h1⟩
  obtain ⟨a, u⟩ := iterC h0 (fun v hv => zeroF_some.mpr ⟨hv, rfl⟩) n.toNat
  refine ⟨fun v x e => ?_, fun v hv => ?_, closed_of hok hS a u⟩
  · obtain ⟨l, hl⟩ := a v x e
    have := hl.range hok hS v (List.mem_cons_self ..)
    exact ⟨this.1, this.2, hl.nonneg hok⟩
  · obtain ⟨b, e, hb⟩ := u [] v 0 (.src hv) (Nat.zero_le _)
    obtain ⟨l, hl⟩ := a v b e
    have := hl.nonneg hok
    have hb0 : b = 0 := by omega
    subst hb0
    exact e
end
end HK

set_option Elab.async false
set_option linter.all false
set_option maxRecDepth 100000
set_option maxHeartbeats 4000000
namespace HK
open PySem PySem.Spec PyProof.Rows L2 GAl GxR
theorem valV_drop {κ : Type} [DecidableEq κ] (k j : κ) : ∀ kvs : List (κ × V), valV (dropK kvs k) j = if j = k then none else valV kvs j
  | [] => by split <;> rfl
  | p :: r => by
    by_cases e : p.1 = k
    · rw [dropK_pos e, valV_drop k j r]
      by_cases ej : j = k
      · rw [if_pos ej, if_pos ej]
      · rw [if_neg ej, if_neg ej, valV_neg (fun z => ej (by rw [← z, e]))]
    · rw [dropK_neg e]
      by_cases ep : p.1 = j
      · rw [valV_pos ep, valV_pos ep, if_neg (fun z => e (by rw [ep, z]))]
      · rw [valV_neg ep, valV_neg ep, valV_drop k j r]
def drp (f : IF) (i : Int) : IF := fun j => if j = i then none else f j
theorem DI.drop {kvs : List (Key × V)} {f : IF} (h : DI kvs f) (i : Int) : DI (dropK kvs (Sum.inl i)) (drp f i) := by
  refine ⟨?_, fun p hp => h.ks p (dropK_mem hp), fun j => ?_⟩
  · exact List.Nodup.sublist (List.Sublist.map _ List.filter_sublist) h.nd
  · rw [valV_drop, h.val]
    unfold drp
    by_cases e : j = i
    · subst e; simp
    · simp [e]
theorem ints_of : ∀ {kvs : List (Key × V)}, (∀ p ∈ kvs, ∃ i x : Int, p = (Sum.inl i, V.int x)) → ∃ ks : List Int, kvs.map (·.1) = ks.map Sum.inl
  | [], _ => ⟨[], rfl⟩
  | p :: r, h => by
    obtain ⟨ks, e⟩ := ints_of (kvs := r) (fun q hq => h q (List.mem_cons_of_mem _ hq))
    obtain ⟨i, x, rfl⟩ := h p (List.mem_cons_self ..)
    exact ⟨i :: ks, by rw [List.map_cons, List.map_cons, e]⟩
theorem DI.ints {kvs : List (Key × V)} {f : IF} (h : DI kvs f) : ∃ ks : List Int, kvs.map (·.1) = ks.map Sum.inl ∧ ks.Nodup ∧ ∀ i, i ∈ ks ↔ (f i).isSome = true := by
  obtain ⟨ks, e⟩ := ints_of h.ks
  refine ⟨ks, e, ?_, fun i => ?_⟩
  · have := h.nd
    rw [e] at this
    have this : (ks.map (Sum.inl : Int → Key)).Pairwise (· ≠ ·) := this
    rw [List.pairwise_map] at this
    exact this.imp fun h z => h (by rw [z])
  · rw [← h.mem, e]
    constructor
    · exact fun hi => List.mem_map.mpr ⟨i, hi, rfl⟩
    · intro hi
      obtain ⟨j, hj, z⟩ := List.mem_map.mp hi
      cases z; exact hj
theorem DI.small {kvs : List (Key × V)} {f : IF} (h : DI kvs f) (hr : ∀ v x, f v = some x → 0 ≤ v ∧ v < 12) : kvs.length ≤ 12 := by
  obtain ⟨ks, e, nd, hm⟩ := h.ints
  have hl : kvs.length = ks.length := by
    have := congrArg List.length e
    rwa [List.length_map, List.length_map] at this
  have L : ([0, 1, 2, 3, 4, 5, 6, 7, 8, 9, 10, 11] : List Int).Nodup := by decide
  have pm : (([0, 1, 2, 3, 4, 5, 6, 7, 8, 9, 10, 11] : List Int).filter fun i => (f i).isSome).Perm ks := (List.perm_ext_iff_of_nodup (List.Nodup.sublist List.filter_sublist L) nd).mpr fun i => by
    rw [List.mem_filter, hm i]
    constructor
    · exact fun h => h.2
    · intro hi
      refine ⟨?_, hi⟩
      obtain ⟨x, ex⟩ := Option.isSome_iff_exists.mp hi
      have := hr i x ex
      have : i = 0 ∨ i = 1 ∨ i = 2 ∨ i = 3 ∨ i = 4 ∨ i = 5 ∨ i = 6 ∨ i = 7 ∨ i = 8 ∨ i = 9 ∨ i = 10 ∨ i = 11 := by omega
      rcases this with rfl | rfl | rfl | rfl | rfl | rfl | rfl | rfl | rfl | rfl | rfl | rfl <;> decide
  rw [hl, ← pm.length_eq]
  exact Nat.le_trans (List.length_filter_le _ _) (by decide)
theorem Kt.over {t q : Addr} {H H' H'' : Hp} (k : Kt t H H') (k' : Kt q H' H'') (n : H q = none) : Kt t H H'' := ⟨fun b u e => k'.tup b u (k.tup b u e), fun b o u e => k'.frz b o u (k.frz b o u e), fun b o e m m' => k'.oth b o (k.oth b o e m m') (ne_of_none e n) m', fun P h => k'.tab P (k.tab P h), fun b e => k.dom b (k'.dom b e)⟩
theorem Kt.setD {q : Addr} {X Y : Hp} {ls ms : List (Key × V)} (k : Kt q X Y) (h : Y q = some (.dK ls)) : Kt q X (upd Y q (.dK ms)) := by
  refine ⟨fun b u e => ?_, fun b o u e => ?_, fun b o e m m' => ?_, fun P hP => ?_, fun b e => k.dom b (upd_none e)⟩
  · have e' := k.tup b u e
    rw [upd_ne (ne_of e' h (fun z => by cases z))]; exact e'
  · have e' := k.frz b o u e
    rw [upd_ne (ne_of e' h (fun z => by cases z))]; exact e'
  · rw [upd_ne m]; exact k.oth b o e m m'
  · obtain ⟨ps, e, ht⟩ := k.tab P hP
    exact ⟨ps, by rw [upd_ne (ne_of e h (fun z => by cases z))]; exact e, ht⟩
theorem Kt.lock {q p : Addr} {H H' : Hp} {kvs : List (Key × V)} {od : Obj} (h : H p = some (.dK kvs)) (k : Kt q (upd H p (.frz od (.dK kvs))) H') : Kt q H (upd H' p (.dK kvs)) := by
  refine ⟨fun b u e => ?_, fun b o u e => ?_, fun b o e m m' => ?_, fun P hP => ?_, fun b e => ?_⟩
  · have hb := ne_of e h (fun z => by cases z)
    rw [upd_ne hb]
    exact k.tup b u (by rw [upd_ne hb]; exact e)
  · have hb := ne_of e h (fun z => by cases z)
    rw [upd_ne hb]
    exact k.frz b o u (by rw [upd_ne hb]; exact e)
  · by_cases hb : b = p
    · subst hb
      rw [h] at e
      cases e
      exact upd_same
    · rw [upd_ne hb]
      exact k.oth b o (by rw [upd_ne hb]; exact e) m m'
  · obtain ⟨ps, e, ht⟩ := hP
    have hb := ne_of e h (fun z => by cases z)
    obtain ⟨ps', e', ht'⟩ := k.tab P ⟨ps, by rw [upd_ne hb]; exact e, ht⟩
    exact ⟨ps', by rw [upd_ne hb]; exact e', ht'⟩
  · by_cases hb : b = p
    · rw [hb, upd_same] at e; cases e
    · rw [upd_ne hb] at e
      have := k.dom b e
      rwa [upd_ne hb] at this
theorem pick2 {d : Int} (h0 : 0 ≤ d) (h1 : d < 2) (a b : Int) : ∃ y : Int, atI [V.int a, .int b] d = some (.int y) := by
  obtain ⟨k, rfl⟩ := Int.eq_ofNat_of_zero_le h0
  match k, h1 with
  | 0, _ => exact ⟨a, atI_nat rfl⟩
  | 1, _ => exact ⟨b, atI_nat rfl⟩
  | k + 2, h => exact absurd h (by omega)
theorem pick4 {d : Int} (h0 : 0 ≤ d) (h1 : d < 4) (a b c e : Int) : ∃ y : Int, atI [V.int a, .int b, .int c, .int e] d = some (.int y) := by
  obtain ⟨k, rfl⟩ := Int.eq_ofNat_of_zero_le h0
  match k, h1 with
  | 0, _ => exact ⟨a, atI_nat rfl⟩
  | 1, _ => exact ⟨b, atI_nat rfl⟩
  | 2, _ => exact ⟨c, atI_nat rfl⟩
  | 3, _ => exact ⟨e, atI_nat rfl⟩
  | k + 4, h => exact absurd h (by omega)
section
variable {P : Program} {w : World} {K : PySem.W.Frag} {mg : Str → Option Value} {base : Heap}
/-- between the statements: all but the tape as it was, the tape a tape -/
structure Sf (K : PySem.W.Frag) (H : Hp) (t sc : Addr) (ns : List Int) (H' : Hp) : Prop where
  kt : Kt t H H'
  tp : Tape K H' t sc ns
theorem Sf.k0 {H H' H2 : Hp} {t sc : Addr} {ns : List Int} (h : Sf K H t sc ns H') (k : K0 H' H2) : Sf K H t sc ns H2 := ⟨h.kt.trans k.kt, h.tp.k0 k⟩
theorem Sf.go {H H' H2 : Hp} {t sc : Addr} {ns : List Int} (h : Sf K H t sc ns H') (k : Kt t H' H2) (tp : Tape K H2 t sc ns) : Sf K H t sc ns H2 := ⟨h.kt.trans k, tp⟩
theorem Sf.over {H H' H2 : Hp} {t sc q : Addr} {ns : List Int} (h : Sf K H t sc ns H') (h0 : Tape K H t sc ns) (k : Kt q H' H2) (n : H q = none) : Sf K H t sc ns H2 := by
  have kk := h.kt.over k n
  obtain ⟨⟨p, v, e, r⟩, _⟩ := h.tp
  have ht : t ≠ q := fun z => by
    obtain ⟨_, _, e, _⟩ := h0.v
    rw [z, n] at e; cases e
  exact ⟨kk, ⟨p, v, k.oth t _ e ht (fun _ z => by cases z), r⟩, h0.scr.kt kk⟩
theorem Sf.put {H H' : Hp} {t sc q : Addr} {ns : List Int} {ls ms : List (Key × V)} (h : Sf K H t sc ns H') (h0 : Tape K H t sc ns) (n : H q = none) (hk : H' q = some (.dK ls)) : Sf K H t sc ns (upd H' q (.dK ms)) := h.over h0 ((Kt.refl q H').setD hk) n
theorem or_eq {σ : L2.St} {H : Hp} {Q' : Bool → Hp → Prop} {d c c' : Int} {i : Nat} (h : σ[i]? = some (some (.int d))) (q : Q' (decide (d = c ∨ d = c')) H) : tOr (tTest (tOp rEq (tVar i) (tC (.int c)))) (tTest (tOp rEq (tVar i) (tC (.int c')))) σ H Q' := by
  refine ⟨_, h, rfl, _, rfl, ?_⟩
  by_cases e : d = c
  · rw [decide_eq_true (show V.int d = V.int c by rw [e])]
    rw [decide_eq_true (Or.inl e)] at q
    exact q
  · rw [decide_eq_false (show ¬ V.int d = V.int c from fun z => e (by cases z; rfl))]
    refine ⟨_, h, rfl, _, rfl, ?_⟩
    by_cases e' : d = c'
    · rw [decide_eq_true (Or.inr e')] at q
      rw [decide_eq_true (show V.int d = V.int c' by rw [e'])]
      exact q
    · rw [decide_eq_false (show ¬ (d = c ∨ d = c') from fun z => z.elim e e')] at q
      rw [decide_eq_false (show ¬ V.int d = V.int c' from fun z => e' (by cases z; rfl))]
      exact q
/-- dicts of whole numbers -/
def DsAt (H : Hp) (xs : List V) : Prop := ∀ x ∈ xs, ∃ q ls f, x = .ref q ∧ H q = some (.dK ls) ∧ DI ls f ∧ ls.length ≤ 3000
theorem DsAt.kt {t sc : Addr} {ns : List Int} {H H' : Hp} {xs : List V} (h : DsAt H xs) (tp : Tape K H t sc ns) (k : Kt t H H') : DsAt H' xs := fun x hx => by
  obtain ⟨q, ls, f, e, hq, r⟩ := h x hx
  refine ⟨q, ls, f, e, k.oth q _ hq (fun z => ?_) (fun _ z => by cases z), r⟩
  obtain ⟨_, _, e, _⟩ := tp.v
  rw [← z, hq] at e; cases e
theorem DsAt.k0 {H H' : Hp} {xs : List V} (h : DsAt H xs) (k : K0 H H') : DsAt H' xs := fun x hx => by
  obtain ⟨q, ls, f, e, hq, r⟩ := h x hx
  exact ⟨q, ls, f, e, k.oth q _ hq (fun _ z => by cases z), r⟩
theorem DsAt.lst {H : Hp} {xs ys zs : List V} {l : Addr} (h : DsAt H xs) (hl : H l = some (.lst ys)) : DsAt (upd H l (.lst zs)) xs := fun x hx => by
  obtain ⟨q, ls, f, e, hq, r⟩ := h x hx
  exact ⟨q, ls, f, e, by rw [upd_ne (ne_of hq hl (fun z => by cases z))]; exact hq, r⟩
theorem DsAt.cons {H : Hp} {xs : List V} {q : Addr} {ls : List (Key × V)} {f : IF} (hq : H q = some (.dK ls)) (hD : DI ls f) (hl : ls.length ≤ 3000) (h : DsAt H xs) : DsAt H (.ref q :: xs) := fun x hx => by
  rcases List.mem_cons.mp hx with rfl | hx
  · exact ⟨q, ls, f, rfl, hq, hD, hl⟩
  · exact h x hx
theorem DsAt.snoc {H : Hp} {xs : List V} {q : Addr} {ls : List (Key × V)} {f : IF} (h : DsAt H xs) (hq : H q = some (.dK ls)) (hD : DI ls f) (hl : ls.length ≤ 3000) : DsAt H (xs ++ [.ref q]) := fun x hx => by
  rcases List.mem_append.mp hx with hx | hx
  · exact h x hx
  · exact ⟨q, ls, f, List.mem_singleton.mp hx, hq, hD, hl⟩
theorem Sf.lst {H H' : Hp} {t sc l : Addr} {ns : List Int} {zs : List V} (h : Sf K H t sc ns H') (h0 : Tape K H t sc ns) (n : H l = none) : Sf K H t sc ns (upd H' l (.lst zs)) := ⟨h.kt.mut n, h.tp.mut h0.scr h.kt n (h0.ne n)⟩
end
end HK

set_option Elab.async false
set_option linter.all false
set_option maxRecDepth 100000
set_option maxHeartbeats 4000000
namespace HK
open PySem PySem.Spec PyProof.Rows L2 GAl GxR
/-! ### the ways out of a tree, as they are lessened -/
section
variable {n : Int} {rs : List R4} {S : Int → Prop}
theorem putK_new {kvs : List (Key × V)} {f : IF} (h : DI kvs f) {v : Int} {x : V} (e : f v = none) : (putK kvs (Sum.inl v) x).length = kvs.length + 1 := by
  unfold putK
  rw [valV_any, h.val, e]
  simp
theorem putK_old {kvs : List (Key × V)} {f : IF} (h : DI kvs f) {v y : Int} {x : V} (e : f v = some y) : (putK kvs (Sum.inl v) x).length = kvs.length := by
  unfold putK
  rw [valV_any, h.val, e]
  simp
theorem DI.few {kvs : List (Key × V)} {f : IF} (h : DI kvs f) (hr : ∀ v x, f v = some x → 0 ≤ v ∧ v < n) : kvs.length ≤ n.toNat := by
  obtain ⟨ks, eks, ksn, ksm⟩ := h.ints
  have : ks.length = kvs.length := by
    have := congrArg List.length eks
    rw [List.length_map, List.length_map] at this
    exact this.symm
  rw [← this]
  exact nodup_len ksn fun v hv => by
    obtain ⟨x, e⟩ := Option.isSome_iff_exists.mp ((ksm v).mp hv)
    exact hr v x e
/-- the way back to the tree -/
inductive Back (p : IF) (S : Int → Prop) : Int → List Int → Prop
  | here {v : Int} : S v → Back p S v []
  | up {v u : Int} {l : List Int} : p v = some u → Back p S u l → Back p S v (v :: l)
/-- numbers and ways back, while they are lessened -/
structure Lsn (n : Int) (rs : List R4) (S : Int → Prop) (f p : IF) (k : Nat) : Prop where
  att : Att S rs f
  zero : ∀ v, S v → f v = some 0
  top : ∀ v x, f v = some x → x ≤ 1000 * (k : Int)
  off : ∀ v u, p v = some u → ¬ S v
  way : ∀ v u, p v = some u → ∃ r ∈ rs, r.s = u ∧ r.e = v ∧ ∃ x y, f u = some x ∧ f v = some y ∧ x + r.c ≤ y
  back : ∀ v x, f v = some x → ∃ l, Back p S v l
theorem Lsn.le {f p : IF} {k : Nat} (h : Lsn n rs S f p k) (hok : ∀ r ∈ rs, RoadOk n r) {v u x : Int} (e : p v = some u) (ev : f v = some x) : ∃ y, f u = some y ∧ y ≤ x := by
  obtain ⟨r, hr, _, _, a, b, h1, h2, h3⟩ := h.way v u e
  rw [ev] at h2
  cases h2
  have := (hok r hr).c0
  exact ⟨a, h1, by omega⟩
theorem Lsn.same {f p : IF} {k : Nat} (h : Lsn n rs S f p k) (hok : ∀ r ∈ rs, RoadOk n r) {e s : Int} {v : Int} {l : List Int} (b : Back p S v l) : ∀ {x}, f v = some x → (∀ b, f e = some b → x < b) → Back (put p e s) S v l := by
  induction b with
  | here hv => intros; exact .here hv
  | @up v u l ep _ ih =>
    intro x ev hlt
    obtain ⟨y, eu, hy⟩ := h.le hok ep ev
    have hne : v ≠ e := fun z => by
      subst z
      have := hlt x ev
      omega
    exact .up (by rw [put_ne hne]; exact ep) (ih eu fun b hb => by have := hlt b hb; omega)
theorem Lsn.step {f p : IF} {k k' : Nat} (h : Lsn n rs S f p k) (hok : ∀ r ∈ rs, RoadOk n r) {r : R4} (hr : r ∈ rs) {x : Int} (es : f r.s = some x) (hlt : ∀ b, f r.e = some b → x + r.c < b) (hk : k ≤ k') (hk' : f r.e = none → k' = k + 1) : Lsn n rs S (put f r.e (x + r.c)) (put p r.e r.s) k' := by
  have c0 := (hok r hr).c0
  have c1 := (hok r hr).c1
  have hne : r.s ≠ r.e := (hok r hr).ne
  have hx : x ≤ 1000 * (k : Int) := h.top _ _ es
  have hx0 : 0 ≤ x := by
    obtain ⟨l, hl⟩ := h.att _ _ es
    exact hl.nonneg hok
  have nS : ¬ S r.e := fun z => by
    have := hlt 0 (h.zero _ z)
    omega
  refine ⟨?_, fun v hv => ?_, fun v y e => ?_, fun v u e => ?_, fun v u e => ?_, fun v y e => ?_⟩
  · intro v b e
    by_cases hv : v = r.e
    · subst hv
      rw [put_same] at e
      cases e
      obtain ⟨l, hl⟩ := h.att _ _ es
      exact ⟨_, .step hl hr⟩
    · rw [put_ne hv] at e
      exact h.att v b e
  · rw [put_ne (u := v) (v := r.e) (fun z => nS (by rw [← z]; exact hv))]
    exact h.zero v hv
  · by_cases hv : v = r.e
    · subst hv
      rw [put_same] at e
      cases e
      cases ee : f r.e with
      | none => have := hk' ee; omega
      | some b =>
        have h1 := hlt b ee
        have h2 := h.top _ _ ee
        omega
    · rw [put_ne hv] at e
      have := h.top v y e
      omega
  · by_cases hv : v = r.e
    · rw [hv]; exact nS
    · rw [put_ne hv] at e
      exact h.off v u e
  · by_cases hv : v = r.e
    · subst hv
      rw [put_same] at e
      cases e
      exact ⟨r, hr, rfl, rfl, x, x + r.c, by rw [put_ne hne]; exact es, put_same, Int.le_refl _⟩
    · rw [put_ne hv] at e
      obtain ⟨r', hr', e1, e2, a, b, h1, h2, h3⟩ := h.way v u e
      by_cases hu : u = r.e
      · refine ⟨r', hr', e1, e2, x + r.c, b, by rw [hu]; exact put_same, by rw [put_ne hv]; exact h2, ?_⟩
        have := hlt a (by rw [← hu]; exact h1)
        omega
      · exact ⟨r', hr', e1, e2, a, b, by rw [put_ne hu]; exact h1, by rw [put_ne hv]; exact h2, h3⟩
  · -- ways back
    obtain ⟨ls, hls⟩ := h.back _ _ es
    have bs : Back (put p r.e r.s) S r.s ls := h.same hok hls es fun b hb => by have := hlt b hb; omega
    have be : Back (put p r.e r.s) S r.e (r.e :: ls) := .up put_same bs
    have all : ∀ {v l}, Back p S v l → ∃ l', Back (put p r.e r.s) S v l' := fun {v l} b => by
      induction b with
      | here hv => exact ⟨[], .here hv⟩
      | @up v u l ep _ ih =>
        by_cases hv : v = r.e
        · rw [hv]; exact ⟨_, be⟩
        · obtain ⟨l', hl'⟩ := ih
          exact ⟨_, .up (by rw [put_ne hv]; exact ep) hl'⟩
    by_cases hv : v = r.e
    · rw [hv]; exact ⟨_, be⟩
    · rw [put_ne hv] at e
      obtain ⟨l, hl⟩ := h.back v y e
      exact all hl
/-- what is left to lessen -/
def vlu (f : IF) (v : Int) : Nat := match f v with
  | none => 20000
  | some x => x.toNat
def msr (f : IF) : Nat → Nat
  | 0 => 0
  | k + 1 => msr f k + vlu f k
theorem msr_far {f : IF} {e x : Int} : ∀ k : Nat, (k : Int) ≤ e → msr (put f e x) k = msr f k
  | 0, _ => rfl
  | k + 1, h => by
    show msr (put f e x) k + vlu (put f e x) k = msr f k + vlu f k
    rw [msr_far k (by omega)]
    unfold vlu
    rw [put_ne (by omega)]
theorem msr_lt {f : IF} {e x : Int} (e0 : 0 ≤ e) (h : x.toNat < vlu f e) : ∀ k : Nat, e < k → msr (put f e x) k < msr f k
  | 0, z => by omega
  | k + 1, z => by
    show msr (put f e x) k + vlu (put f e x) k < msr f k + vlu f k
    by_cases hk : e = k
    · rw [msr_far k (by omega), ← hk]
      have : vlu (put f e x) e = x.toNat := by unfold vlu; rw [put_same]
      omega
    · have := msr_lt e0 h k (by omega)
      have e2 : vlu (put f e x) k = vlu f k := by unfold vlu; rw [put_ne (by omega)]
      omega
/-- what holds numbers that no road undercuts any more -/
theorem closed_le {f : IF} (hz : ∀ v, S v → f v = some 0) (hc : ClosedC rs f) {l : List Int} {x : Int} (h : Wk S rs l x) : ∀ {v t}, l = v :: t → ∃ b, f v = some b ∧ b ≤ x := by
  induction h with
  | src hv =>
    intro v t e
    cases e
    exact ⟨0, hz _ hv, Int.le_refl _⟩
  | @step l x r h' hr ih =>
    intro v t e
    cases e
    obtain ⟨a, ea, ha⟩ := ih rfl
    obtain ⟨b, eb, hb⟩ := hc r hr a ea
    exact ⟨b, eb, by omega⟩
theorem least_eq {f f' : IF} (ha : Att S rs f) (ha' : Att S rs f') (hz : ∀ v, S v → f v = some 0) (hz' : ∀ v, S v → f' v = some 0) (hc : ClosedC rs f) (hc' : ClosedC rs f') : f = f' := by
  funext v
  cases e : f v with
  | none =>
    cases e' : f' v with
    | none => rfl
    | some b =>
      obtain ⟨l, hl⟩ := ha' v b e'
      obtain ⟨c, ec, _⟩ := closed_le hz hc hl rfl
      rw [e] at ec
      cases ec
  | some a =>
    obtain ⟨l, hl⟩ := ha v a e
    obtain ⟨b, eb, hb⟩ := closed_le hz' hc' hl rfl
    obtain ⟨l', hl'⟩ := ha' v b eb
    obtain ⟨c, ec, hcc⟩ := closed_le hz hc hl' rfl
    rw [e] at ec
    cases ec
    rw [eb]
    have : a = b := by omega
    rw [this]
theorem cheap_att {root : Int} {g : IF} : Att (InT root g) rs (cheapF n rs root g) := by
  have h0 : Att (InT root g) rs (zeroF (InT root g)) := fun v b e => by
    obtain ⟨h1, h2⟩ := zeroF_some.mp e
    subst h2
    exact ⟨[], .src h1⟩
  exact (iterC h0 (fun v hv => zeroF_some.mpr ⟨hv, rfl⟩) n.toNat).1
/-! the way back, without a place twice -/
theorem Back.uniq {p : IF} (off : ∀ v u, p v = some u → ¬ S v) {v : Int} {l : List Int} (h : Back p S v l) : ∀ {l'}, Back p S v l' → l = l' := by
  induction h with
  | here hv =>
    intro l' h'
    cases h' with
    | here _ => rfl
    | up e _ => exact absurd hv (off _ _ e)
  | up e _ ih =>
    intro l' h'
    cases h' with
    | here hv => exact absurd hv (off _ _ e)
    | up e' h'' =>
      rw [e] at e'
      cases e'
      rw [ih h'']
theorem Back.at_ {p : IF} {v : Int} {l : List Int} (h : Back p S v l) : ∀ u ∈ l, ∃ t, Back p S u (u :: t) ∧ t.length < l.length := by
  induction h with
  | here => intro u hu; cases hu
  | @up v w l e h' ih =>
    intro u hu
    rcases List.mem_cons.mp hu with rfl | hu
    · exact ⟨l, .up e h', by simp⟩
    · obtain ⟨t, ht, hl⟩ := ih u hu
      exact ⟨t, ht, by rw [List.length_cons]; omega⟩
theorem Back.nodup {p : IF} (off : ∀ v u, p v = some u → ¬ S v) {v : Int} {l : List Int} (h : Back p S v l) : l.Nodup := by
  induction h with
  | here => exact List.nodup_nil
  | @up v w l e h' ih =>
    refine List.nodup_cons.mpr ⟨fun hm => ?_, ih⟩
    obtain ⟨t, ht, hl⟩ := h'.at_ v hm
    have := Back.uniq off (Back.up e h') ht
    have := (List.cons.inj this).2
    rw [this] at hl
    omega
theorem Back.in_ {p : IF} {v : Int} {l : List Int} (h : Back p S v l) : ∀ u ∈ l, ∃ w, p u = some w := by
  induction h with
  | here => intro u hu; cases hu
  | @up v w l e h' ih =>
    intro u hu
    rcases List.mem_cons.mp hu with rfl | hu
    · exact ⟨w, e⟩
    · exact ih u hu
/-- a tree with a way put to it -/
def addF (p g : IF) (l : List Int) : IF := fun v => if v ∈ l then p v else g v
theorem addF_put {p g : IF} {l : List Int} {v u : Int} (e : p v = some u) : HK.put (addF p g l) v u = addF p g (l ++ [v]) := by
  funext w
  unfold HK.put addF
  by_cases h : w = v
  · subst h
    rw [if_pos rfl, if_pos (by simp), e]
  · rw [if_neg h]
    by_cases hl : w ∈ l
    · rw [if_pos hl, if_pos (by simp [hl])]
    · rw [if_neg hl, if_neg (by simp [hl, h])]
end
end HK

set_option Elab.async false
set_option linter.all false
set_option maxRecDepth 100000
set_option maxHeartbeats 2000000
namespace GAl
open PySem PySem.Spec PyProof.Rows L2 GxR
open Sem (wp)
/-! ### generator expressions whose consumer keeps a record S of its own -/

theorem Inv.kallS {X : Cx} {ps : List (Addr × Obj)} {S : Addr} {oS oS' : Obj} {σ : L2.St} {H : Hp} {s s'' : Shared} (I : Inv X (ps ++ [(S, oS)]) σ H s) (hy : S ∈ X.ex ∨ X.s_0.heap.objs.size ≤ S) (hps : ∀ p ∈ X.pn ++ ps, p.1 ≠ S)
    (ho : s''.os = s.os) (hb : AllBare s''.gens) (k : ∀ b o, b ≠ S → s.heap.get? b = some o → s''.heap.get? b = some o) (hS : s''.heap.get? S = some oS') (hd : ∀ v, oS'.data ≠ .cell v) : Inv X (ps ++ [(S, oS')]) σ H s'' := by
  obtain ⟨h1, h2, h3, h4, h5⟩ := I.pin (S, oS) (List.mem_append_right _ (List.mem_append_right _ (List.mem_singleton.mpr rfl)))
  have hcell : ∀ x c, X.env.cells.lookup x = some c → c ≠ S := fun x c e z => by
    obtain ⟨v, o, q, d⟩ := I.cell x c e
    have h1 : s.heap.get? S = some oS := h1
    rw [z, h1] at q
    cases q
    exact h5 _ d
  have I' : Inv X ps σ H s := I.unpinned
  have I1 := I'.turned (it := S) (h' := s''.heap) (t' := s.toks) k h2 h3 hy hcell hps
  have I2 : Inv X ps σ H s'' := Inv.kall I1 ho hb (fun _ _ e => e)
  refine I2.pins_of fun p hp => ?_
  rcases List.mem_append.mp hp with hp | hp
  · exact I2.pin p (List.mem_append_right _ hp)
  · have := List.mem_singleton.mp hp
    subst this
    exact ⟨hS, h2, h3, h4, hd⟩

section
variable {G : Type}
def REndS (XG : Cx) (a : Addr) (oa : Obj) (S : Addr) (Rep : Obj → G → Prop) (σw : L2.St) (Qd : G → Hp → Prop) : Nat → Shared → Shared → Prop := fun _ s₀ s₁ =>
  ∃ γ oS H4, s₀.heap.get? S = some oS ∧ Rep oS γ ∧ Inv XG ([(a, oa)] ++ [(S, oS)]) σw H4 s₁ ∧ Qd γ H4
def YOutS (XG : Cx) (a : Addr) (oa : Obj) (S : Addr) (Rep : Obj → G → Prop) (stp : G → V → Hp → (G → Prop) → Prop) : Protocol := fun _ s₀ v s kap =>
  ∃ γ oS y H4 σ4, s₀.heap.get? S = some oS ∧ Rep oS γ ∧ Inv XG ([(a, oa)] ++ [(S, oS)]) σ4 H4 s ∧ RelV y v ∧
    stp γ y H4 (fun γ' => ∀ (s'' : Shared) (oS' : Obj), s''.os = s.os → AllBare s''.gens → (∀ b o, b ≠ S → s.heap.get? b = some o → s''.heap.get? b = some o) → s''.heap.get? S = some oS' → Rep oS' γ' → (∀ v, oS'.data ≠ .cell v) → kap (.send .none) s'')
/-- what a turn asks -/
def GTurnS (J : It) (g : TG) (tt : TT) (te : TE) (vs : List Nat) (σw : L2.St) (Qd : Nat → G → Hp → Prop) (stp : G → V → Hp → (G → Prop) → Prop) (W : Nat → Nat → G → Hp → Prop) : Prop :=
  ∀ i m γ H, W i m γ H → (J.stop i H ∧ Qd m γ H) ∨ (J.go i H ∧ ∃ Nx : G → Hp → Prop, (∀ γ' H', Nx γ' H' → ∃ m', m' < m ∧ W (i + 1) m' γ' H') ∧ ∀ x H', J.yld i H x H' → g x σw H' fun σ2 H2 => wipe σ2 vs = σw ∧ tt σ2 H2 fun b H3 =>
    if b = true then te σ2 H3 fun y H4 => stp γ y H4 (fun γ' => Nx γ' H4) else Nx γ H3)
/-- one turn of the last clause -/
@[reducible] def turnOf (tg iter : Expr) (ifs : List Expr) (elt : Expr) (it : Value) (cenv : Env) (c : Code) : Sem Fin := do
  standAt iter.pos
  match ← pyNext it with
  | none => pure (.done .next)
  | some v =>
    letOwnedTupleGo tg it v
    assign tg cenv v
    let mut ok := true
    for c in ifs do
      if ok then ok ← isTrue c cenv (eval c cenv)
    if ok then
      (do let v ← eval elt cenv; standAt elt.pos; let _ ← yieldOut cenv v)
    again c
/-- what the iterator's objects are, whatever stands in the heap -/
def FpSt (X : Cx) (b : Addr) : Prop := b ≠ X.env.locals ∧ b ∉ X.fs ∧ (b ∈ X.ex ∨ X.s_0.heap.objs.size ≤ b) ∧ (∀ x c, X.env.cells.lookup x = some c → c ≠ b)
end

section
variable {G : Type} {X XG XI : Cx} {elt tg iter : Expr} {ifs : List Expr} {it a S : Addr} {oa : Obj} {fp : List Addr} {cenv : Env} {AG : Around} {c : Code} {fs : List Frame} {lv : Value → Sem Unit} {J : It} {tn : Nat → Heap → Prop} {R : GenEnd} {ps : List (Addr × Obj)}
  {g : TG} {tt : TT} {te : TE} {vs : List Nat} {σw : L2.St} {Qd : Nat → G → Hp → Prop} {Rep : Obj → G → Prop} {stp : G → V → Hp → (G → Prop) → Prop} {W : Nat → Nat → G → Hp → Prop}

theorem gen_loopS (hA : XI.A = AG.over c fs) (hP : XI.prog = X.prog) (hw : XI.w = X.w) (hK : XI.K = X.K) (hcalm : XI.calm = true) (henv : XI.env = cenv) (hxe : XI.xe = fun _ _ => False) (hpn : XI.pn = [])
    (hden : (model X.prog X.w).den c = (turnOf tg iter ifs elt (.ref it) cenv c).onRaise lv) (hcq : c.quiet = true) (hfs : splitAtGen fs = none) (hfg : fs.any Frame.guarded = false)
    (hco : cenv.scope.isCoroutine = false) (T : Turn X.prog X.w X.K tg J fp it tn) (hst : ∀ b ∈ fp, FpSt XI b) (hSy : S ∈ XI.ex ∨ XI.s_0.heap.objs.size ≤ S) (hSfp : ∀ b ∈ fp, S ≠ b) (hpsS : ∀ p ∈ ps, p.1 ≠ S) (hpsf : ∀ p ∈ ps, ∀ b ∈ fp, p.1 ≠ b) (haps : (a, oa) ∈ ps)
    (hmono : ∀ γ y H (p q : G → Prop), (∀ γ', p γ' → q γ') → stp γ y H p → stp γ y H q)
    (htr : ∀ ps σ H s, Inv XI ps σ H s → Inv XG ps σ H s)
    (hend : ∀ m n γ oS s₀ s H, m < n → s₀.heap.get? S = some oS → Rep oS γ → Inv XI (ps ++ [(S, oS)]) σw H s → Qd m γ H → Seg (model X.prog X.w) AG R (YOutS XG a oa S Rep stp) n s₀ c (leafOf (.ok .next)) fs s)
    (pg : PG XI tg g) (pt : PTs XI ifs tt) (pe : PE XI elt te) (hW : GTurnS J g tt te vs σw Qd stp W) :
    ∀ (m n i : Nat) (γ : G) (oS : Obj) (s₀ s : Shared) (H : Hp), m < n → W i m γ H → s₀.heap.get? S = some oS → Rep oS γ → Inv XI (ps ++ [(S, oS)]) σw H s → tn i s.heap → (∀ b ∈ fp, H b = none) →
      Seg (model X.prog X.w) AG R (YOutS XG a oa S Rep stp) n s₀ c ((model X.prog X.w).den c) fs s := by
  have stat : ∀ {oS : Obj} {σ' : L2.St} {H' : Hp} {s' : Shared}, Inv XI (ps ++ [(S, oS)]) σ' H' s' → (∀ b ∈ fp, H' b = none) → ∀ b ∈ fp, FpOk XI (ps ++ [(S, oS)]) H' b := fun {oS σ' H' s'} I' hn b hb =>
    ⟨hn b hb, (hst b hb).1, (hst b hb).2.1, (hst b hb).2.2.1, (hst b hb).2.2.2, fun p hp => by
      rw [hpn, List.nil_append] at hp
      rcases List.mem_append.mp hp with hp | hp
      · exact hpsf p hp b hb
      · have := List.mem_singleton.mp hp
        subst this
        exact hSfp b hb⟩
  have hpsS' : ∀ p ∈ XI.pn ++ ps, p.1 ≠ S := by rw [hpn]; exact hpsS
  intro m
  induction m using Nat.strongRecOn with
  | ind m ih =>
    intro n i γ oS s₀ s H hmn w hS0 hRep I st nH
    rw [hden, Sem.onRaise_eq_wrap]
    refine seg_bind_wrap (wpAny_standAt ?_)
    rcases hW i m γ H w with ⟨stop, qq⟩ | ⟨go, Nx, hNx, step⟩
    · have td := T.done XI hP hw hK hcalm i _ s _ H (fun _ _ => False) I (stat I nH) st stop
      rw [hA] at td
      refine seg_bind_wrap (thnF td fun r s1 ⟨hr, I1⟩ => ?_)
      subst hr
      exact hend m n γ oS s₀ s1 H hmn hS0 hRep I1 qq
    · have ti := T.item XI hP hw hK hcalm i _ s _ H (fun _ _ => False) I (stat I nH) st go
      rw [hA] at ti
      refine seg_bind_wrap (thnF ti fun r s1 ⟨u, hr, h1⟩ => ?_)
      subst hr
      refine seg_bind_wrap (thnF h1 fun _ s2 ⟨x, H2, I2, r2, y2, st2, n2⟩ => ?_)
      have I2' := I2.pinned (stat I2 n2) (T.obj _ _ st2)
      have rg := pg.run _ s2 _ H2 x u _ I2' r2 (step x H2 y2)
      rw [hA, hP, hw, henv, hxe] at rg
      refine seg_bind_wrap (thnF rg fun _ s3 ⟨σ3, H3, I3, hw3, q3⟩ => ?_)
      have rt := pt.run _ s3 σ3 H3 _ I3 q3
      rw [hA, hP, hw, henv, hxe] at rt
      refine seg_bind_wrap (thnF rt fun b s5 ⟨H5, I5, q5⟩ => ?_)
      have hl : σw.length = σ3.length := by rw [← hw3, wipe_length]
      have pin' : ∀ {H' : Hp} {s' : Shared} {σ' : L2.St}, Inv XI ((ps ++ [(S, oS)]) ++ pinsAt fp s2.heap) σ' H' s' → ∀ b ∈ fp, ∀ o, s2.heap.get? b = some o → s'.heap.get? b = some o ∧ H' b = none := fun {H' s' σ'} I' b hb o e =>
        let z := I'.pin (b, o) (List.mem_append_right _ (List.mem_append_right _ (mem_pinsAt hb e)))
        ⟨z.1, z.2.1⟩
      cases b with
      | false =>
        simp only [Bool.false_eq_true, if_false] at q5 ⊢
        obtain ⟨m', hm, w'⟩ := hNx γ H5 q5
        refine seg_again hcq (ih m' hm n (i + 1) γ oS s₀ s5 H5 (by omega) w' hS0 hRep ((I5.unpinned (pins := ps ++ [(S, oS)])).weak hl (fun j v e => ?_)) (T.keep _ _ _ st2 fun b hb o e => (pin' I5 b hb o e).1) (fun b hb => ?_))
        · rw [← hw3] at e
          exact (wipe_some e).1
        · obtain ⟨o, e, _⟩ := T.obj _ _ st2 b hb
          exact (pin' I5 b hb o e).2
      | true =>
        simp only [if_true] at q5 ⊢
        have hy : ∀ v, yieldOut cenv v = yieldValue v := fun v => by simp only [yieldOut, hco, Bool.false_eq_true, if_false]
        simp only [hy]
        rw [Sem.bind_eq_wrap', Sem.bind_eq_wrap', Sem.wrap_wrap, Sem.wrap_wrap]
        have re := pe.run _ s5 σ3 H5 _ I5 q5
        rw [hA, hP, hw, henv, hxe] at re
        refine seg_wrap (thnF re fun z s6 ⟨yv, H6, I6, r6, q6⟩ => ?_)
        cases n with
        | zero => exact absurd hmn (Nat.not_lt_zero _)
        | succ n =>
          have I6' : Inv XI (ps ++ [(S, oS)]) σ3 H6 s6 := I6.unpinned
          have I6w : Inv XI (ps ++ [(S, oS)]) σw H6 s6 := I6'.weak hl (fun j v e => by rw [← hw3] at e; exact (wipe_some e).1)
          refine seg_at (seg_yield hfs rfl hfg ⟨γ, oS, yv, H6, σ3, hS0, hRep, htr _ _ _ _ (I6'.pins_of fun p hp => I6'.pin p (List.mem_append_right _ ?_)), r6, hmono _ _ _ _ _ (fun γ' nx s'' oS' e1 e2 e3 e4 e5 e6 => ?_) q6⟩)
          · rcases List.mem_append.mp hp with hp | hp
            · have := List.mem_singleton.mp hp
              subst this
              exact List.mem_append_left _ haps
            · exact List.mem_append_right _ hp
          · obtain ⟨m', hm, w'⟩ := hNx γ' H6 nx
            refine seg_again hcq (ih m' hm n (i + 1) γ' oS' s'' s'' H6 (by omega) w' e4 e5 (Inv.kallS I6w hSy hpsS' e1 e2 e3 e4 e6) (T.keep _ _ _ st2 fun b hb o e => e3 b o (fun z => hSfp b hb z.symm) (pin' I6 b hb o e).1) (fun b hb => ?_))
            obtain ⟨o, e, _⟩ := T.obj _ _ st2 b hb
            exact (pin' I6 b hb o e).2
end
end GAl

set_option Elab.async false
set_option linter.all false
set_option maxRecDepth 100000
set_option maxHeartbeats 2000000
namespace GAl
open PySem PySem.Spec PyProof.Rows L2 GxR
open Sem (wp)
section
variable {G : Type} {X : Cx} {elt tg iter : Expr} {ifs : List Expr} {scope : Scope} {pos : Pos} {it a S : Addr} {oa : Obj} {fp : List Addr} {cenv : Env} {AG : Around} {s4 : Shared} {Hs : Hp} {J : It} {tn : Nat → Heap → Prop}
  {g : TG} {tt : TT} {te : TE} {vs : List Nat} {σw : L2.St} {Qd : G → Hp → Prop} {Rep : Obj → G → Prop} {stp : G → V → Hp → (G → Prop) → Prop} {W : Nat → Nat → G → Hp → Prop}
theorem gen_beginS (hc : X.calm = true) (hco : cenv.scope.isCoroutine = false) (T : Turn X.prog X.w X.K tg J fp it tn) (hafp : ∀ b ∈ fp, a ≠ b) (hSfp : ∀ b ∈ fp, S ≠ b) (haS : a ≠ S) (hSy : s4.heap.objs.size ≤ S)
    (hmono : ∀ γ y H (p q : G → Prop), (∀ γ', p γ' → q γ') → stp γ y H p → stp γ y H q)
    (pg : PG (gcx X (AG.over (.compLoop (.GeneratorExp elt [⟨tg, iter, ifs, 0⟩] scope pos) 0 (.ref it) .none cenv) []) s4 Hs cenv fp) tg g)
    (pt : PTs (gcx X (AG.over (.compLoop (.GeneratorExp elt [⟨tg, iter, ifs, 0⟩] scope pos) 0 (.ref it) .none cenv) []) s4 Hs cenv fp) ifs tt)
    (pe : PE (gcx X (AG.over (.compLoop (.GeneratorExp elt [⟨tg, iter, ifs, 0⟩] scope pos) 0 (.ref it) .none cenv) []) s4 Hs cenv fp) elt te)
    (hW : GTurnS J g tt te vs σw (fun _ => Qd) stp W) (m : Nat) (γ : G) (oS : Obj) (s₀ s : Shared) (H : Hp) (w : W 0 m γ H) (hS0 : s₀.heap.get? S = some oS) (hRep : Rep oS γ)
    (I : Inv (gcx X (AG.over (.compLoop (.GeneratorExp elt [⟨tg, iter, ifs, 0⟩] scope pos) 0 (.ref it) .none cenv) []) s4 Hs cenv fp) ([(a, oa)] ++ [(S, oS)]) σw H s) (st : tn 0 s.heap) (nH : ∀ b ∈ fp, H b = none) :
      Seg (model X.prog X.w) AG (fun n s₀ r s₁ => r = .ok .next ∧ REndS (gcx X (AG.over (.compLoop (.GeneratorExp elt [⟨tg, iter, ifs, 0⟩] scope pos) 0 (.ref it) .none cenv) []) s4 Hs cenv fp) a oa S Rep σw Qd n s₀ s₁)
        (YOutS (gcx X (AG.over (.compLoop (.GeneratorExp elt [⟨tg, iter, ifs, 0⟩] scope pos) 0 (.ref it) .none cenv) []) s4 Hs cenv fp) a oa S Rep stp) (m + 1) s₀
        (.compStart (.GeneratorExp elt [⟨tg, iter, ifs, 0⟩] scope pos) 0 (.ref it) .none cenv)
        ((model X.prog X.w).den (.compStart (.GeneratorExp elt [⟨tg, iter, ifs, 0⟩] scope pos) 0 (.ref it) .none cenv)) [] s := by
  have hst : ∀ b ∈ fp, FpSt (gcx X (AG.over (.compLoop (.GeneratorExp elt [⟨tg, iter, ifs, 0⟩] scope pos) 0 (.ref it) .none cenv) []) s4 Hs cenv fp) b := fun b hb =>
    ⟨(I.ok.exf b hb).1, I.ok.exfs b hb, .inl hb, fun x c e => (I.ok.exf b hb).2 x c e⟩
  have loop := gen_loopS (a := a) (oa := oa) (S := S) (ps := [(a, oa)]) (R := fun n s₀ r s₁ => r = .ok .next ∧ REndS (gcx X (AG.over (.compLoop (.GeneratorExp elt [⟨tg, iter, ifs, 0⟩] scope pos) 0 (.ref it) .none cenv) []) s4 Hs cenv fp) a oa S Rep σw Qd n s₀ s₁) (Rep := Rep) (Qd := fun _ => Qd)
    (c := .compLoop (.GeneratorExp elt [⟨tg, iter, ifs, 0⟩] scope pos) 0 (.ref it) .none cenv) (fs := []) (cenv := cenv) (iter := iter) (lv := leaving cenv) (X := X) (AG := AG)
    (XG := gcx X (AG.over (.compLoop (.GeneratorExp elt [⟨tg, iter, ifs, 0⟩] scope pos) 0 (.ref it) .none cenv) []) s4 Hs cenv fp)
    (XI := gcx X (AG.over (.compLoop (.GeneratorExp elt [⟨tg, iter, ifs, 0⟩] scope pos) 0 (.ref it) .none cenv) []) s4 Hs cenv fp)
    rfl rfl rfl rfl hc rfl rfl rfl rfl rfl rfl rfl hco T hst (.inr hSy) hSfp
    (fun p hp => by have := List.mem_singleton.mp hp; subst this; exact haS) (fun p hp b hb => by have := List.mem_singleton.mp hp; subst this; exact hafp b hb) (List.mem_singleton.mpr rfl)
    hmono (fun _ _ _ _ I => I) (fun m n γ oS s₀ s H _ e1 e2 I q => seg_end (.ok .next) ⟨rfl, γ, oS, H, e1, e2, I, q⟩) pg pt pe hW m (m + 1) 0 γ oS s₀ s H (Nat.lt_succ_self _) w hS0 hRep I st nH
  show Seg _ AG _ _ _ s₀ _ ((compStart (.GeneratorExp elt [⟨tg, iter, ifs, 0⟩] scope pos) 0 (.ref it) .none cenv).onRaise (leaving cenv)) [] s
  unfold compStart
  rw [Sem.onRaise_eq_wrap]
  show Seg _ AG _ _ _ s₀ _ ((ask >>= _).wrap _ _ _ _) [] s
  refine seg_bind_wrap (wpAny_askSetting ?_)
  split
  · exact seg_again rfl loop
  · first
      | exact seg_bind_wrap (wpAny_rule (seg_bind_wrap (wpAny_standAt (seg_bind_wrap (T.self _ 0 s _ _ st (seg_again rfl loop))))))
      | (refine seg_bind_wrap (wpAny_rule ?_); show Seg _ AG _ _ _ s₀ _ ((standAt iter.pos >>= _).wrap _ _ _ _) [] s; exact seg_bind_wrap (wpAny_standAt (seg_bind_wrap (T.self _ 0 s _ _ st (seg_again rfl loop)))))
end

/-- what a consumed generator expression asks: the walked thing, the def's table, the turns -/
def tGenS {G : Type} (P : Addr) (wi : TI) (g : TG) (tt : TT) (te : TE) (vs : List Nat) (stp : G → V → Hp → (G → Prop) → Prop) (γ0 : G) (Qd : G → Hp → Prop) : L2.St → Hp → Prop := fun σ H =>
  wi σ H fun J H1 => TabG H1 P ∧ ∀ H2, Tabbed P H1 H2 → ∃ W : Nat → Nat → G → Hp → Prop, (∃ m, W 0 m γ0 H2) ∧ GTurnS J g tt te vs (wipe σ vs) (fun _ => Qd) stp W

section
variable {G : Type} {X : Cx} {pins : List (Addr × Obj)} {σ : L2.St} {H : Hp} {s : Shared}
theorem gen_makeS {c P : Addr} {elt tg iter : Expr} {ifs : List Expr} {gpos : Pos} {scope : Scope} {own : List (Str × Nat)} {wi : TI} {g : TG} {tt : TT} {te : TE} {k : Nat} {stp : G → V → Hp → (G → Prop) → Prop} {Rep : Obj → G → Prop} {γ0 : G} {Qd : G → Hp → Prop} {Q' : Value → Shared → Prop}
    (hr : Room (k + 1) X.A) (hc : X.calm = true) (hN : X.N.Nodup) (TB : TabB X.base X.mg c P) (hcode : X.env.code = .ref c) (SC : GSc X.N X.env.scope scope own) (hi : PI X tg iter wi)
    (hg : ∀ (A' : Around), Room k A' → ∀ (s : Shared) (H : Hp) (cl : List (Str × Addr)) (C : Addr) (code : Value) (fp : List Addr), PG (gcx X A' s H (genEnv scope cl C code builtinsNs X.env) fp) tg g)
    (ht : ∀ (A' : Around), Room k A' → ∀ (s : Shared) (H : Hp) (cl : List (Str × Addr)) (C : Addr) (code : Value) (fp : List Addr), PTs (gcx X A' s H (genEnv scope cl C code builtinsNs X.env) fp) ifs tt)
    (he : ∀ (A' : Around), Room k A' → ∀ (s : Shared) (H : Hp) (cl : List (Str × Addr)) (C : Addr) (code : Value) (fp : List Addr), PE (gcx X A' s H (genEnv scope cl C code builtinsNs X.env) fp) elt te)
    (hmono : ∀ γ y H (p q : G → Prop), (∀ γ', p γ' → q γ') → stp γ y H p → stp γ y H q)
    (hs : ∀ v, genFold iter X.env v = pure v) (I : Inv X pins σ H s) (h : tGenS P wi g tt te (own.map (·.2)) stp γ0 Qd σ H)
    (hQ : ∀ (XG : Cx) (a : Addr) (oa : Obj) (gn n : Nat) (σw : L2.St) (s5 : Shared) (gs : GenState), XG.prog = X.prog → XG.w = X.w → XG.pn = [] → s5.heap.get? a = some oa → s5.heap.IsGen a gn → s5.gens[gn]? = some gs → s5.heap.NoLimit → AllBare s5.gens →
      (∀ (S : Addr) (s'' : Shared) (oS : Obj), s5.heap.objs.size ≤ S → s''.os = s5.os → AllBare s''.gens → (∀ b o, s5.heap.get? b = some o → s''.heap.get? b = some o) → s''.heap.get? S = some oS → Rep oS γ0 → (∀ v, oS.data ≠ .cell v) →
        gs.Goes (model X.prog X.w) X.A.in1.in1 (fun n s₀ r s₁ => r = .ok .next ∧ REndS XG a oa S Rep σw Qd n s₀ s₁) (YOutS XG a oa S Rep stp) n (.send .none) s'') →
      (∀ S, s5.heap.objs.size ≤ S → XG.s_0.heap.objs.size ≤ S) → (∀ s' ps σ' H', Inv XG ps σ' H' s' → Inv X pins σ H' s') → Q' (.ref a) s5) :
    wpAny (model X.prog X.w) X.A (eval (.GeneratorExp elt [⟨tg, iter, ifs, 0⟩] scope gpos) X.env) Q' X.xe s := by
  have ok := SC.blk
  have hfree : ∀ y ∈ scope.names, y.2 = .free → ∃ c, X.env.cells.lookup y.1 = some c := fun y hy e => by
    rcases ok.free y hy e with k | k
    · exact I.ok.has _ (.inl k)
    · exact I.ok.has _ (.inr k)
  refine wpAny_GeneratorExp_make SC.co (closure_ok hfree) SC.cell SC.dot ok.kind (by have := hr.dp; omega) ?_ hs
  refine thn (hi.run pins s σ H _ I h) fun xv s1 hx => thn hx fun itv s2 h2 => ?_
  obtain ⟨it, fp, tn, J, H2, e, I2, T, st2, f2, ⟨ps, hP, hts⟩, q⟩ := h2
  subst e
  have hPs : s2.heap.get? P = some { cls := .none, data := .fields ps } := I2.hok P _ hP
  have cd : PySem.W.CodeHd s2.heap c P := TB.code.keeps fun b u e => I2.bk b u e
  have nP : ∀ b ∈ fp, b ≠ P := fun b hb z => by
    have := (f2 b hb).1
    rw [z, hP] at this; cases this
  have sz2 : ∀ b ∈ fp, b < s2.heap.objs.size := fun b hb => by
    obtain ⟨o, e, _⟩ := T.obj _ _ st2 b hb
    exact Heap.lt_size e
  have cont : ∀ (code : Value) (h3 : Heap) (tk : Nat) (ps' : Array Value), Heap.ExtBut P s2.heap h3 → s2.heap.objs.size ≤ h3.objs.size → h3.get? P = some { cls := .none, data := .fields ps' } → (∃ more, ps' = ps ++ more) → TriplesOk ps'.toList →
      wpAny (model X.prog X.w) X.A (builtinsFor X.env.globals X.env.builtins) (fun bi s₄ =>
        ∀ h', h'.Ns s₄.heap.objs.size (fun y => if y = ".0" then some (.ref it) else none) → Heap.SameBut s₄.heap.objs.size (s₄.heap.push { cls := .type "frame", data := .dict #[] }) h' →
          Q' (.ref h'.objs.size) { s₄ with
            gens := s₄.gens.push (.fresh (.compStart (.GeneratorExp elt [⟨tg, iter, ifs, 0⟩] scope gpos) 0 (.ref it) .none (genEnv scope (cloFrom X.env.cells scope.names []) s₄.heap.objs.size code bi X.env))),
            toks := s₄.toks + 1 + 1 + 1,
            heap := h'.push { cls := .type "generator", data := .fields #[.int s₄.gens.size 0, .str "<genexpr>" (s₄.toks + 1), .str (X.env.qual ++ "<genexpr>") (s₄.toks + 1 + 1)] } }) X.xe { s2 with heap := h3, toks := tk } := by
    intro code h3 tk ps' hx hsz hP3 hmore ht3
    obtain ⟨bm, ob, e1, e2, e3, e4, e5, e6, e7, e8⟩ := TB.bm
    have keep3 : ∀ b u, b ≠ P → s2.heap.get? b = some u → h3.get? b = some u := fun b u hb e => hx b u hb e
    refine wpAny_builtinsFor (m := X.mg) (by rw [I2.ok.glob]; exact (I2.mod.glob.keeps I2.bk).extBut hx TB.gP) e1 e2 (keep3 _ _ e4 (I2.bk _ _ e5)) e6 e7 e8 ?_
    intro h' hn' hs'
    obtain ⟨more, em⟩ := hmore
    have I3 : Inv X pins σ (upd H2 P (.tbl (ps ++ more))) { s2 with heap := h3, toks := tk } :=
      inv_tab (more := more) (h' := h3) (g' := s2.gens) (d' := s2.drawn) (t' := tk) I2 hP keep3 (by rw [← em]; exact hP3) I2.bare
    obtain ⟨W, ⟨m0, w0⟩, turn⟩ := q (upd H2 P (.tbl (ps ++ more))) ⟨⟨ps ++ more, upd_same, by rw [← em]; exact ht3⟩, fun b hb => upd_ne hb⟩
    generalize hH3 : upd H2 P (.tbl (ps ++ more)) = H3 at I3 w0
    generalize hs4 : ({ s2 with heap := h3, toks := tk } : Shared) = s4 at I3 hn' hs' ⊢
    have hh4 : s4.heap = h3 := by rw [← hs4]
    have st4 : tn 0 s4.heap := T.keep _ _ _ st2 fun b hb o e => by rw [hh4]; exact keep3 b o (nP b hb) e
    have f3 : ∀ b ∈ fp, FpOk X pins H3 b ∧ b < s4.heap.objs.size := fun b hb => by
      refine ⟨⟨?_, (f2 b hb).2⟩, by rw [hh4]; exact Nat.lt_of_lt_of_le (sz2 b hb) hsz⟩
      rw [← hH3, upd_ne (nP b hb)]
      exact (f2 b hb).1
    have hszh : h'.objs.size = s4.heap.objs.size + 1 := by rw [hs'.1, Heap.size_push]
    have keep' : ∀ b o, s4.heap.get? b = some o → h'.get? b = some o := fun b o e => hs'.extBut b o (Nat.ne_of_lt (Heap.lt_size e)) (Heap.get?_push_of_some _ e)
    generalize hoa : ({ cls := .type "generator", data := .fields #[.int s4.gens.size 0, .str "<genexpr>" (s4.toks + 1), .str (X.env.qual ++ "<genexpr>") (s4.toks + 1 + 1)] } : Obj) = oa
    have ga : (h'.push oa).get? h'.objs.size = some oa := Heap.get?_push_size _ (by rw [← hoa]; rfl)
    have isg : (h'.push oa).IsGen h'.objs.size s4.gens.size := by rw [← hoa]; exact ⟨_, _, _, Heap.get?_push_size _ rfl, rfl, rfl, rfl⟩
    generalize hce : genEnv scope (cloFrom X.env.cells scope.names []) s4.heap.objs.size code builtinsNs X.env = cenv
    generalize hA' : X.A.in1.in1.over (.compLoop (.GeneratorExp elt [⟨tg, iter, ifs, 0⟩] scope gpos) 0 (.ref it) .none cenv) [] = A'
    have hfr : A'.frames = some (cenv :: X.stack) := by
      rw [← hA']
      show pushEnvs [cenv] (pushEnvs [] X.A.frames) = _
      rw [I2.ok.frames]
      rfl
    have hdp : A'.depth = X.A.depth + 1 := by rw [← hA']; rfl
    have hun : A'.units = X.A.units + 5 := by rw [← hA']; rfl
    have hhd : A'.handled = none := by rw [← hA']; exact hr.hd
    have hr' : Room k A' := ⟨hhd, by rw [hdp]; have := hr.dp; omega, by rw [hun]; have := hr.un; omega⟩
    have bare5 : AllBare (s4.gens.push (.fresh (.compStart (.GeneratorExp elt [⟨tg, iter, ifs, 0⟩] scope gpos) 0 (.ref it) .none cenv))) := I3.bare.push rfl
    have I5 := gen_start (A' := A') (cenv := cenv) (code := code) (m := fun y => if y = ".0" then some (.ref it) else none) (h5 := h'.push oa) (g' := s4.gens.push (.fresh (.compStart (.GeneratorExp elt [⟨tg, iter, ifs, 0⟩] scope gpos) 0 (.ref it) .none cenv)))
      (t5 := s4.toks + 1 + 1 + 1) (a := h'.objs.size) (oa := oa) I3 ok SC.cell hN f3 hce.symm hfr hhd (hn'.push _) (fun b o e => Heap.get?_push_of_some _ (keep' b o e)) bare5 ga (by omega) (by rw [← hoa]; intro v z; cases z)
    have back : ∀ s' ps' σ' H', Inv (gcx X A' s4 H3 cenv fp) ps' σ' H' s' → Inv X pins σ H' s' := fun s' ps' σ' H' I' =>
      I3.call' (ch := fp) I'.os I'.base I'.hok I'.bare fun b hb => ⟨(f3 b hb).1.2.2.2.1, (f3 b hb).1.2.1, (f3 b hb).1.2.2.2.2.1, (f3 b hb).1.2.2.2.2.2⟩
    have pg : PG (gcx X A' s4 H3 cenv fp) tg g := by rw [← hce]; exact hg A' hr' _ _ _ _ _ _
    have pt : PTs (gcx X A' s4 H3 cenv fp) ifs tt := by rw [← hce]; exact ht A' hr' _ _ _ _ _ _
    have pe : PE (gcx X A' s4 H3 cenv fp) elt te := by rw [← hce]; exact he A' hr' _ _ _ _ _ _
    refine hQ (gcx X A' s4 H3 cenv fp) h'.objs.size oa s4.gens.size (m0 + 1) (wipe σ (own.map (·.2))) _ _ rfl rfl rfl ga isg (Array.getElem?_push_size ..) I5.nolimit bare5 (fun S s'' oS hS e1 e2 e3 e4 e5 e6 => ?_) (fun S hS => Nat.le_trans I5.sz hS) back
    refine ⟨rfl, ?_⟩
    have hS : h'.objs.size + 1 ≤ S := by
      have hS : (h'.push oa).objs.size ≤ S := hS
      rwa [Heap.size_push] at hS
    have fS := I5.fpOk (b := S) (H' := H3) (by show (h'.push oa).objs.size ≤ S; rw [Heap.size_push]; exact hS) (I5.hok.fresh (by show (h'.push oa).objs.size ≤ S; rw [Heap.size_push]; exact hS))
    have I6 : Inv (gcx X A' s4 H3 cenv fp) ([(h'.objs.size, oa)] ++ [(S, oS)]) (wipe σ (own.map (·.2))) H3 s'' := by
      have I6 := Inv.kall I5 e1 e2 e3
      refine I6.pins_of fun p hp => ?_
      rcases List.mem_append.mp hp with hp | hp
      · exact I6.pin p (List.mem_append_right _ hp)
      · have := List.mem_singleton.mp hp
        subst this
        exact ⟨e4, fS.1, fS.2.1, fS.2.2.1, e6⟩
    subst hA'
    refine gen_beginS hc (by rw [← hce]; exact SC.co) T (fun b hb => Nat.ne_of_gt (Nat.lt_trans (f3 b hb).2 (by omega))) (fun b hb => Nat.ne_of_gt (Nat.lt_of_lt_of_le (f3 b hb).2 (by omega))) (Nat.ne_of_lt hS) (by omega) hmono pg pt pe turn m0 γ0 oS _ _ H3 w0 e4 e5 I6 ?_ (fun b hb => (f3 b hb).1.1)
    exact T.keep _ _ _ st4 fun b hb o e => e3 b o (Heap.get?_push_of_some _ (keep' b o e))
  refine ⟨I2.nolimit, ?_⟩
  cases hf : codeAmong gpos ps.toList with
  | none =>
    refine wpAny_genexprCodeX hcode (cd.code hPs hts) (cd.tab hPs) hf fun c' h' tk hx hge hlt hco' _ htab' _ => ?_
    obtain ⟨o1, vs, f1, tf, fl, tg', inF, tx, tt', op, _, _, _, _, _, _, _, _, _, htr, _⟩ := hco'
    exact cont _ h' tk _ hx (Nat.le_trans hge (Nat.le_of_lt hlt)) htab'.2 ⟨_, rfl⟩ htr
  | some cv =>
    refine wpAny_genexprCode_hit hcode (cd.code hPs hts) hf ?_
    exact cont cv s2.heap s2.toks ps (Heap.ExtBut.refl _ _) (Nat.le_refl _) hPs ⟨#[], by simp⟩ hts
end
end GAl

set_option Elab.async false
set_option linter.all false
set_option maxRecDepth 100000
set_option maxHeartbeats 2000000
namespace GAl
open PySem PySem.Spec PyProof.Rows L2 GxR
open Sem (wp)
/-! ### sum of a generator expression of whole numbers -/
abbrev sumObj (T : Int) (t : Tok) (c : Nat) : Obj := { cls := .type "list", dict := none, data := .seq #[.int T t] c, slots := #[] }
def RepSum : Obj → Int → Prop := fun o T => ∃ t c, o = sumObj T t c
def stpSum : Int → V → Hp → (Int → Prop) → Prop := fun T y _ N => ∃ k, y = .int k ∧ N (T + k)
theorem stpSum_mono : ∀ γ y H (p q : Int → Prop), (∀ γ', p γ' → q γ') → stpSum γ y H p → stpSum γ y H q := fun _ _ _ _ _ h ⟨k, e, n⟩ => ⟨k, e, h _ n⟩
theorem repSum_uniq {o : Obj} {T T' : Int} (h : RepSum o T) (h' : RepSum o T') : T = T' := by
  obtain ⟨t, c, rfl⟩ := h
  obtain ⟨t', c', e⟩ := h'
  simp only [sumObj, Obj.mk.injEq, true_and] at e
  have e := e.1
  simp at e
  exact e.1.1
section
variable {X XG : Cx} {A : Around} {a S : Addr} {oa : Obj} {g : Nat} {σw : L2.St} {Qd : Int → Hp → Prop} {R : Result → Shared → Prop}
theorem sum_loop (hh : A.handled = none) (hroom : A.depth < recursionLimit) (hpn : XG.pn = []) (hSy : S ∈ XG.ex ∨ XG.s_0.heap.objs.size ≤ S)
    (hfin : ∀ s' ps σ' H' T t, Inv XG ps σ' H' s' → Qd T H' → R (.ok (.ret (.int T t))) s') :
    ∀ (n : Nat) (s : Shared) (st : Int) (T : Int) (oS : Obj), (st = 0 ∨ st = 2) → s.heap.get? a = some oa → s.heap.get? S = some oS → RepSum oS T → a ≠ S →
      GSt (model X.prog X.w) A.in1.in1 (REndS XG a oa S RepSum σw Qd) (YOutS XG a oa S RepSum stpSum) a g n s → codeAny (model X.prog X.w) A (.builtin "sum.loop" ⟨[.ref a, .ref S, rawInt st, rawInt 0], []⟩) R s := by
  intro n
  induction n with
  | zero =>
    intro s st T oS hst2 hoa hS hRep haS ⟨hg, hl, gs, hgs, hgo⟩
    obtain ⟨tA, c, eS⟩ := hRep
    have hS2 := hS
    rw [eS] at hS2
    refine codeAny_builtin F.entry_sum_loop ?_
    rw [Around.under_plainId F.plain_sum_loop _]
    show wpAny _ A.in1 (seqItems? (.ref S) >>= _) _ _ s
    refine wpAny_bind (wpAny_seqItems hS2 rfl ?_)
    show wpAny _ A.in1 (tryCatch (pyNext (.ref a)) _ >>= _) _ _ s
    refine wpAny_bind (wpAny_tryCatch (next_sz (A := A.in1) hh hl hroom hg hgs hgo (fun v s₁ gs' hsz hb hv => ?_) (fun s₁ hsz hp h' hk => ?_)))
    · obtain ⟨γ, oS', y, H4, σ4, e1, e2, I4, r, k, rfl, nn⟩ := hv
      have e1 : s.heap.get? S = some oS' := e1
      rw [hS] at e1; cases e1
      have eγ : γ = T := repSum_uniq e2 ⟨tA, c, eS⟩
      subst eγ
      obtain ⟨t, rfl⟩ := r
      have hS' : s₁.heap.get? S = some (sumObj γ tA c) := by rw [← eS]; exact (I4.pin (S, oS) (by rw [hpn]; simp)).1
      have ha : s₁.heap.get? a = some oa := (I4.pin (a, oa) (by rw [hpn]; simp)).1
      obtain ⟨x, hx⟩ := gens_some hgs hsz rfl
      have fin : ∀ (h2 : Heap) (tk : Nat) (st' : Int), (st' = 0 ∨ st' = 2) → (∀ b o, b ≠ S → s₁.heap.get? b = some o → h2.get? b = some o) → (∃ t' c', h2.get? S = some (sumObj (γ + k) t' c')) →
          codeAny (model X.prog X.w) A (.builtin "sum.loop" ⟨[.ref a, .ref S, rawInt st', rawInt 0], []⟩) R { s₁.setGen g gs' with heap := h2, toks := tk } := fun h2 tk st' hst' hk ⟨t', c', hS3⟩ => by
        exact False.elim (nn { s₁.setGen g gs' with heap := h2, toks := tk } _ rfl (bare_set I4.bare hb) hk hS3 ⟨t', c', rfl⟩ (fun v z => by cases z))
      rcases hst2 with rfl | rfl
      · show wpAny _ A.in1 (if (_ : Bool) = true then (mkInt (γ + k) >>= _) else _) _ _ _
        split
        · refine wpAny_bind (wpAny_mkInt ?_)
          show wpAny _ A.in1 (updateSeq S (fun _ => #[.int (γ + k) s₁.toks]) >>= _) _ _ _
          refine wpAny_bind (wpAny_updateSeq hS' rfl (wpAny_pure ⟨plainId_quiet F.plain_sum_loop _, fin _ _ 0 (.inl rfl) (fun b o hb e => ?_) ⟨_, _, Heap.get?_update_self _ hS' rfl⟩⟩))
          exact (Heap.get?_update_other _ _ (Ne.symm hb)).trans e
        · refine wpAny_bind (wpAny_rule ?_)
          refine wpAny_bind (wpAny_attempt (wpAny_holding (wpAny_add_int ?_)))
          show wpAny _ A.in1 (updateSeq S (fun _ => #[.int (γ + k) s₁.toks]) >>= _) _ _ _
          refine wpAny_bind (wpAny_updateSeq hS' rfl ?_)
          have hS₂ := Heap.get?_update_self (Obj.mapSeq fun _ => #[Value.int (γ + k) s₁.toks]) hS' rfl
          refine wpAny_bind (wpAny_letGo ?_)
          refine wpAny_bind (wpAny_updateSeq hS₂ rfl (wpAny_pure ⟨plainId_quiet F.plain_sum_loop _, fin _ _ 2 (.inr rfl) (fun b o hb e => ?_) ⟨_, _, Heap.get?_update_self _ hS₂ rfl⟩⟩))
          exact (Heap.get?_update_other _ _ (Ne.symm hb)).trans ((Heap.get?_update_other _ _ (Ne.symm hb)).trans e)
      · show wpAny _ A.in1 ((holding [Value.int k t] (binaryOp .Add (.int γ tA) (.int k t))).attempt >>= _) _ _ _
        refine wpAny_bind (wpAny_attempt (wpAny_holding (wpAny_add_int ?_)))
        show wpAny _ A.in1 (updateSeq S (fun _ => #[.int (γ + k) s₁.toks]) >>= _) _ _ _
        refine wpAny_bind (wpAny_updateSeq hS' rfl ?_)
        have hS₂ := Heap.get?_update_self (Obj.mapSeq fun _ => #[Value.int (γ + k) s₁.toks]) hS' rfl
        refine wpAny_bind (wpAny_letGo ?_)
        refine wpAny_bind (wpAny_updateSeq hS₂ rfl (wpAny_pure ⟨plainId_quiet F.plain_sum_loop _, fin _ _ 2 (.inr rfl) (fun b o hb e => ?_) ⟨_, _, Heap.get?_update_self _ hS₂ rfl⟩⟩))
        exact (Heap.get?_update_other _ _ (Ne.symm hb)).trans ((Heap.get?_update_other _ _ (Ne.symm hb)).trans e)
    · obtain ⟨γ, oS', H4, e1, e2, I4, q⟩ := hp
      have e1 : s.heap.get? S = some oS' := e1
      rw [hS] at e1; cases e1
      have eγ : γ = T := repSum_uniq e2 ⟨tA, c, eS⟩
      subst eγ
      exact wpAny_pure (hfin _ _ σw H4 _ _ (Inv.kall I4 rfl (bare_set I4.bare rfl) hk) q)
  | succ n ih =>
    intro s st T oS hst2 hoa hS hRep haS ⟨hg, hl, gs, hgs, hgo⟩
    obtain ⟨tA, c, eS⟩ := hRep
    have hS2 := hS
    rw [eS] at hS2
    refine codeAny_builtin F.entry_sum_loop ?_
    rw [Around.under_plainId F.plain_sum_loop _]
    show wpAny _ A.in1 (seqItems? (.ref S) >>= _) _ _ s
    refine wpAny_bind (wpAny_seqItems hS2 rfl ?_)
    show wpAny _ A.in1 (tryCatch (pyNext (.ref a)) _ >>= _) _ _ s
    refine wpAny_bind (wpAny_tryCatch (next_sz (A := A.in1) hh hl hroom hg hgs hgo (fun v s₁ gs' hsz hb hv => ?_) (fun s₁ hsz hp h' hk => ?_)))
    · obtain ⟨γ, oS', y, H4, σ4, e1, e2, I4, r, k, rfl, nn⟩ := hv
      have e1 : s.heap.get? S = some oS' := e1
      rw [hS] at e1; cases e1
      have eγ : γ = T := repSum_uniq e2 ⟨tA, c, eS⟩
      subst eγ
      obtain ⟨t, rfl⟩ := r
      have hS' : s₁.heap.get? S = some (sumObj γ tA c) := by rw [← eS]; exact (I4.pin (S, oS) (by rw [hpn]; simp)).1
      have ha : s₁.heap.get? a = some oa := (I4.pin (a, oa) (by rw [hpn]; simp)).1
      obtain ⟨x, hx⟩ := gens_some hgs hsz rfl
      have fin : ∀ (h2 : Heap) (tk : Nat) (st' : Int), (st' = 0 ∨ st' = 2) → (∀ b o, b ≠ S → s₁.heap.get? b = some o → h2.get? b = some o) → (∃ t' c', h2.get? S = some (sumObj (γ + k) t' c')) →
          codeAny (model X.prog X.w) A (.builtin "sum.loop" ⟨[.ref a, .ref S, rawInt st', rawInt 0], []⟩) R { s₁.setGen g gs' with heap := h2, toks := tk } := fun h2 tk st' hst' hk ⟨t', c', hS3⟩ => by
        refine ih _ st' (γ + k) _ hst' (hk a oa haS ha) hS3 ⟨t', c', rfl⟩ haS ⟨isgen_of hg hoa (hk a oa haS ha), ?_, gs', setGen_self hx, ?_⟩
        · exact (Inv.kallS (ps := [(a, oa)]) (s'' := { s₁.setGen g gs' with heap := h2, toks := tk }) I4 hSy (by rw [hpn]; intro p hp; have := List.mem_singleton.mp hp; subst this; exact haS) rfl (bare_set I4.bare hb) hk hS3 (fun v z => by cases z)).nolimit
        · exact nn (Shared.setGen { s₁.setGen g gs' with heap := h2, toks := tk } g .running) _ rfl (bare_set (bare_set I4.bare hb) rfl) hk hS3 ⟨t', c', rfl⟩ (fun v z => by cases z)
      rcases hst2 with rfl | rfl
      · show wpAny _ A.in1 (if (_ : Bool) = true then (mkInt (γ + k) >>= _) else _) _ _ _
        split
        · refine wpAny_bind (wpAny_mkInt ?_)
          show wpAny _ A.in1 (updateSeq S (fun _ => #[.int (γ + k) s₁.toks]) >>= _) _ _ _
          refine wpAny_bind (wpAny_updateSeq hS' rfl (wpAny_pure ⟨plainId_quiet F.plain_sum_loop _, fin _ _ 0 (.inl rfl) (fun b o hb e => ?_) ⟨_, _, Heap.get?_update_self _ hS' rfl⟩⟩))
          exact (Heap.get?_update_other _ _ (Ne.symm hb)).trans e
        · refine wpAny_bind (wpAny_rule ?_)
          refine wpAny_bind (wpAny_attempt (wpAny_holding (wpAny_add_int ?_)))
          show wpAny _ A.in1 (updateSeq S (fun _ => #[.int (γ + k) s₁.toks]) >>= _) _ _ _
          refine wpAny_bind (wpAny_updateSeq hS' rfl ?_)
          have hS₂ := Heap.get?_update_self (Obj.mapSeq fun _ => #[Value.int (γ + k) s₁.toks]) hS' rfl
          refine wpAny_bind (wpAny_letGo ?_)
          refine wpAny_bind (wpAny_updateSeq hS₂ rfl (wpAny_pure ⟨plainId_quiet F.plain_sum_loop _, fin _ _ 2 (.inr rfl) (fun b o hb e => ?_) ⟨_, _, Heap.get?_update_self _ hS₂ rfl⟩⟩))
          exact (Heap.get?_update_other _ _ (Ne.symm hb)).trans ((Heap.get?_update_other _ _ (Ne.symm hb)).trans e)
      · show wpAny _ A.in1 ((holding [Value.int k t] (binaryOp .Add (.int γ tA) (.int k t))).attempt >>= _) _ _ _
        refine wpAny_bind (wpAny_attempt (wpAny_holding (wpAny_add_int ?_)))
        show wpAny _ A.in1 (updateSeq S (fun _ => #[.int (γ + k) s₁.toks]) >>= _) _ _ _
        refine wpAny_bind (wpAny_updateSeq hS' rfl ?_)
        have hS₂ := Heap.get?_update_self (Obj.mapSeq fun _ => #[Value.int (γ + k) s₁.toks]) hS' rfl
        refine wpAny_bind (wpAny_letGo ?_)
        refine wpAny_bind (wpAny_updateSeq hS₂ rfl (wpAny_pure ⟨plainId_quiet F.plain_sum_loop _, fin _ _ 2 (.inr rfl) (fun b o hb e => ?_) ⟨_, _, Heap.get?_update_self _ hS₂ rfl⟩⟩))
        exact (Heap.get?_update_other _ _ (Ne.symm hb)).trans ((Heap.get?_update_other _ _ (Ne.symm hb)).trans e)
    · obtain ⟨γ, oS', H4, e1, e2, I4, q⟩ := hp
      have e1 : s.heap.get? S = some oS' := e1
      rw [hS] at e1; cases e1
      have eγ : γ = T := repSum_uniq e2 ⟨tA, c, eS⟩
      subst eγ
      exact wpAny_pure (hfin _ _ σw H4 _ _ (Inv.kall I4 rfl (bare_set I4.bare rfl) hk) q)

def tSumG (P : Addr) (wi : TI) (g : TG) (tt : TT) (te : TE) (vs : List Nat) : TE := fun σ H Q => tGenS P wi g tt te vs stpSum (0 : Int) (fun T H' => Q (.int T) H') σ H
theorem pe_sumG {c P : Addr} {elt tg iter : Expr} {ifs : List Expr} {p pos gpos : Pos} {scope : Scope} {own : List (Str × Nat)} {wi : TI} {g : TG} {tt : TT} {te : TE} {k : Nat}
    (hr : Room (k + 1) X.A) (hgl : Gl X "sum") (hm : X.mg "sum" = none) (hc : X.calm = true) (hN : X.N.Nodup) (TB : TabB X.base X.mg c P) (hcode : X.env.code = .ref c) (S : GSc X.N X.env.scope scope own) (hi : PI X tg iter wi)
    (hg : ∀ (A' : Around), Room k A' → ∀ (s : Shared) (H : Hp) (cl : List (Str × Addr)) (C : Addr) (code : Value) (fp : List Addr), PG (gcx X A' s H (genEnv scope cl C code builtinsNs X.env) fp) tg g)
    (ht : ∀ (A' : Around), Room k A' → ∀ (s : Shared) (H : Hp) (cl : List (Str × Addr)) (C : Addr) (code : Value) (fp : List Addr), PTs (gcx X A' s H (genEnv scope cl C code builtinsNs X.env) fp) ifs tt)
    (he : ∀ (A' : Around), Room k A' → ∀ (s : Shared) (H : Hp) (cl : List (Str × Addr)) (C : Addr) (code : Value) (fp : List Addr), PE (gcx X A' s H (genEnv scope cl C code builtinsNs X.env) fp) elt te)
    (hs : ∀ v, genFold iter X.env v = pure v := by intro _; rfl)
    (hst : starEach [.GeneratorExp elt [⟨tg, iter, ifs, 0⟩] scope gpos] X.env = (false, eval (.GeneratorExp elt [⟨tg, iter, ifs, 0⟩] scope gpos) X.env) :: starEach [] X.env := by rfl)
    (hb : bootBuiltins "sum" = some (.builtin "sum") := by decide +kernel) :
    PE X (.Call (.Name "sum" p) [.GeneratorExp elt [⟨tg, iter, ifs, 0⟩] scope gpos] [] pos) (tSumG P wi g tt te (own.map (·.2))) := by
  refine ⟨fun pins s σ H Q I h => ?_⟩
  refine wpAny_Call_Name_kw (ld_blt I hgl hm hb ?_)
  refine PyProof.Rows.callWith_builtin1 ?_ hst (by rfl)
  rw [hst]
  show wpAny _ _ (spliced ((false, eval (.GeneratorExp elt [⟨tg, iter, ifs, 0⟩] scope gpos) X.env) :: backTo pos (starEach [] X.env))) _ _ s
  refine Calls.spliced_cons (gen_makeS (Rep := RepSum) hr hc hN TB hcode S hi hg ht he stpSum_mono hs I h fun XG a oa gn n σw s5 gs eP eW epn ha hG hgs hnl hb5 go hy back => ?_)
  refine Calls.spliced_nil ?_
  refine call_function_tree F.kind_sum F.plain_sum F.entry_sum (F.args_sum1 _) ?_
  unfold Builtin.«sum»
  simp only [List.length_cons, List.length_nil]
  rw [if_neg (by decide)]
  refine wpAny_bind (wpAny_of_eq (show Builtin.Builtins.bindParams "sum" ["start"] 0 { } = pure [none] from rfl) ?_)
  refine wpAny_bind (wpAny_pyIter_gen hG ?_)
  refine wpAny_bind (wpAny_mkInt ?_)
  refine wpAny_bind (wpAny_pure ?_)
  simp only [List.forIn_cons, List.forIn_nil]
  refine wpAny_bind (wpAny_bind (wpAny_bind (wpAny_isInstance (T := "int") (b := false) (typeIs_int _ _ _) PySem.sub_int_str ?_)))
  simp only [Bool.false_eq_true, if_false]
  refine wpAny_pure (wpAny_bind (wpAny_bind (wpAny_isInstance (T := "int") (b := false) (typeIs_int _ _ _) PySem.sub_int_bytes ?_)))
  simp only [Bool.false_eq_true, if_false]
  refine wpAny_pure (wpAny_bind (wpAny_bind (wpAny_isInstance (T := "int") (b := false) (typeIs_int _ _ _) PySem.sub_int_bytearray ?_)))
  simp only [Bool.false_eq_true, if_false]
  refine wpAny_pure (wpAny_pure ?_)
  refine wpAny_bind (wpAny_newObj_type ?_)
  have hS : (s5.heap.push (sumObj 0 s5.toks 0)).get? s5.heap.objs.size = some (sumObj 0 s5.toks 0) := Heap.get?_push_size _ rfl
  have keep : ∀ b o, s5.heap.get? b = some o → (s5.heap.push (sumObj 0 s5.toks 0)).get? b = some o := fun b o e => Heap.get?_push_of_some _ e
  refine wpAny_pure ⟨plainId_quiet F.plain_sum_loop _, sum_loop (X := X) (XG := XG) (oa := oa) (g := gn) (σw := σw) (Qd := fun T H' => Q (.int T) H') hr.hd (by have := hr.dp; omega) epn (.inr (hy _ (Nat.le_refl _))) (fun s' ps σ' H' T t I' q => ?_) n _ 0 0 _ (.inl rfl) (keep _ _ ha) hS ⟨_, _, rfl⟩ (Nat.ne_of_lt (Heap.lt_size ha)) ⟨isgen_of hG ha (keep _ _ ha), hnl.keeps keep, gs, hgs, ?_⟩⟩
  · exact ⟨.int T, H', back s' _ σ' H' I', ⟨t, rfl⟩, q⟩
  · exact go _ (Shared.setGen _ gn .running) _ (Nat.le_refl _) rfl (bare_set hb5 rfl) keep hS ⟨_, _, rfl⟩ (fun v z => by cases z)
end
end GAl

set_option Elab.async false
set_option linter.all false
set_option maxRecDepth 100000
set_option maxHeartbeats 4000000
namespace HK
open PySem PySem.Spec PyProof.Rows L2 GAl GxR DTu
abbrev sNeedTree : Stmt := topS 22
theorem scNeedTree : FnScope ["net", "root", "ahead"] ["net", "root", "ahead"] (defScope sNeedTree) := ⟨rfl, rfl, rfl, by decide +kernel, rfl, by decide +kernel, by decide +kernel⟩
section
variable {P : Program} {w : World} {K : PySem.W.Frag} {mg : Str → Option Value} {base : Heap}
def spNeedTree (K : PySem.W.Frag) (Pp Pg : Addr) : Sp := fun vs H Q _ => ∃ (a : Addr) (n : Int) (rs : List R4) (root : Int) (p : Addr) (kvs : List (Key × V)) (g : IF), vs = [.ref a, .int root, .ref p] ∧ NetAt K H a n rs ∧ Good n rs ∧ rs.length ≤ 156 ∧
  H p = some (.dK kvs) ∧ DI kvs g ∧ kvs.length ≤ 5000 ∧ TreeP rs root g kvs.length ∧ TabG H Pp ∧ TabG H Pg ∧ ∀ (H' : Hp), K0 H H' → Q .non H'
theorem ok_needtree {f fG Pp Pg : Addr} {fd fdG : FuncData} (F : Fun K "need_tree" "need_tree" sNeedTree f fd)
    (kG : PySem.W.keepIn K (.ref fG) = true) (bG : Binds K fdG ["net", "root", "ahead"] []) (gG : mg "grows" = some (.ref fG)) (GG : FnOk P w K mg base CX0 4 fG fdG ["net", "root", "ahead"] (spGrows K Pp Pg)) :
    FnOk P w K mg base CX0 5 f fd ["net", "root", "ahead"] (spNeedTree K Pp Pg) := by
  refine F.ok scNeedTree (fun vs H Q E h => ?_) (fun cdv A outer s H vs Q E hr h => ?_)
  · obtain ⟨a, n, rs, v, p, kvs, g, rfl, _⟩ := h
    rfl
  · obtain ⟨a, n, rs, root, p, kvs, g, rfl, hN, hG, hl, hp, hD, hkl, hT, tp, tg, q⟩ := h
    refine ⟨_, pss_one (ps_if (pt_not (pt_val (pe_call GG hr (by rfl) gG kG bG .nil pass0 (pa_cons (pv 0) (pa_cons (pv 1) (pa_cons (pv 2) pa_nil)))))) pss_never pss_nil), ?_⟩
    refine ⟨_, rfl, _, rfl, _, rfl, a, n, rs, root, p, kvs, g, rfl, hN, hG, hl, hp, hD, hkl, tp, tg, fun H' b k hb => ?_⟩
    have : b = true := hb.mpr hT
    subst this
    exact ⟨_, rfl, iteF (q H' k)⟩
end
end HK

set_option Elab.async false
set_option linter.all false
set_option maxRecDepth 100000
set_option maxHeartbeats 4000000
namespace HK
open PySem PySem.Spec PyProof.Rows L2 GAl GxR
abbrev sUnder : Stmt := topS 34
theorem scUnder : FnScope ["numbers", "start", "end", "more"] ["numbers", "start", "end", "more"] (defScope sUnder) := ⟨rfl, rfl, rfl, by decide +kernel, rfl, by decide +kernel, by decide +kernel⟩
def undB (f : IF) (s e m : Int) : Bool := match f s with
  | none => false
  | some x => match f e with
    | none => true
    | some b => decide (x + m < b)
section
variable {P : Program} {w : World} {K : PySem.W.Frag} {mg : Str → Option Value} {base : Heap}
def spUnder (K : PySem.W.Frag) : Sp := fun vs H Q _ => ∃ (p : Addr) (kvs : List (Key × V)) (g : IF) (a b c : Int), vs = [.ref p, .int a, .int b, .int c] ∧ Rd H p (.dK kvs) ∧ DI kvs g ∧ Q (.bl (undB g a b c)) H
theorem ok_under {f : Addr} {fd : FuncData} (F : Fun K "undercuts" "undercuts" sUnder f fd) : FnOk P w K mg base CX0 1 f fd ["numbers", "start", "end", "more"] (spUnder K) := by
  refine F.ok scUnder (fun vs H Q E h => ?_) (fun cdv A outer s H vs Q E hr h => ?_)
  · obtain ⟨p, kvs, g, a, b, c, rfl, _⟩ := h
    rfl
  · obtain ⟨p, kvs, g, a, b, c, rfl, hp, hD, q⟩ := h
    have hu := hu_of hr
    refine ⟨_, pss_one (ps_ret (pe_and (pe_cmp (pc_din hu (pv 1) (pv 0))) (pe_one (pe_or (pe_cmp (pc_dnotin hu (pv 2) (pv 0))) (pe_one (pe_cmpR op_lt (pe_op op_add (pe_dget hu (pv 0) (pv 1) (fun _ _ => rfl)) (pv 3)) (pe_dget hu (pv 0) (pv 2) (fun _ _ => rfl)) (nomark _))))))), ?_⟩
    unfold undB at q
    have ds := dgetR hp hD a
    have de := dgetR hp hD b
    refine ⟨_, rfl, _, rfl, p, _, rfl, ds, _, rfl, ?_⟩
    cases es : g a with
    | none => rw [es] at q; exact iteF q
    | some x =>
      rw [es] at q ds
      refine iteT ⟨_, rfl, _, rfl, p, _, rfl, de, _, rfl, ?_⟩
      cases ee : g b with
      | none => rw [ee] at q; exact iteT q
      | some y =>
        rw [ee] at q de
        exact iteF ⟨_, rfl, _, rfl, p, _, rfl, ds, _, rfl, x, c, rfl, rfl, _, rfl, _, rfl, p, _, rfl, de, x + c, y, rfl, rfl, q⟩
end
end HK

set_option Elab.async false
set_option linter.all false
set_option maxRecDepth 100000
set_option maxHeartbeats 4000000
namespace HK
open PySem PySem.Spec PyProof.Rows L2 GAl GxR
open Evl (pss_cut)
abbrev sCheap : Stmt := topS 44
abbrev N_scCheap : List Str := ["net", "root", "ahead", "found", "place", "turn", "i", "j", "pay", "late"]
theorem scCheap : FnScope N_scCheap ["net", "root", "ahead"] (defScope sCheap) := ⟨rfl, rfl, rfl, by decide +kernel, rfl, by decide +kernel, by decide +kernel⟩
theorem und_iff {f : IF} {s e m : Int} : undB f s e m = true ↔ ∃ a, f s = some a ∧ ∀ b, f e = some b → a + m < b := by
  unfold undB
  cases es : f s with
  | none => exact ⟨fun z => (by cases z), fun ⟨a, h, _⟩ => by cases h⟩
  | some a =>
    cases ee : f e with
    | none => exact ⟨fun _ => ⟨a, rfl, fun b h => by cases h⟩, fun _ => rfl⟩
    | some b =>
      show decide _ = true ↔ _
      rw [decide_eq_true_iff]
      exact ⟨fun h => ⟨a, rfl, fun b' e => by cases e; exact h⟩, fun ⟨a', h1, h2⟩ => by cases h1; exact h2 b rfl⟩
theorem closedC_iff {rs : List R4} {f : IF} : ClosedC rs f ↔ ∀ r ∈ rs, undB f r.s r.e r.c = false := by
  constructor
  · intro h r hr
    rw [Bool.eq_false_iff]
    intro z
    obtain ⟨a, e, hb⟩ := und_iff.mp z
    obtain ⟨b, eb, hle⟩ := h r hr a e
    have := hb b eb
    omega
  · intro h r hr a e
    cases ee : f r.e with
    | none =>
      have := h r hr
      rw [Bool.eq_false_iff] at this
      exact absurd (und_iff.mpr ⟨a, e, fun b z => by rw [ee] at z; cases z⟩) this
    | some b =>
      refine ⟨b, rfl, ?_⟩
      refine Int.not_lt.mp fun hlt => ?_
      have := h r hr
      rw [Bool.eq_false_iff] at this
      exact this (und_iff.mpr ⟨a, e, fun b' z => by rw [ee] at z; cases z; exact hlt⟩)
end HK

set_option Elab.async false
set_option linter.all false
set_option maxRecDepth 100000
set_option maxHeartbeats 4000000
namespace HK
open PySem PySem.Spec PyProof.Rows L2 GAl GxR
open Evl (pss_cut)
theorem rndC_take {rs : List R4} {g : IF} {j : Nat} {r : R4} (h : rs[j]? = some r) : rndC (rs.take (j + 1)) g = rlxC (rndC (rs.take j) g) r := by
  unfold rndC
  rw [List.take_add_one, h, List.foldl_append]
  rfl
section
variable {P : Program} {w : World} {K : PySem.W.Frag} {mg : Str → Option Value} {base : Heap}
def spCheap (K : PySem.W.Frag) : Sp := fun vs H Q _ => ∃ (a : Addr) (n : Int) (rs : List R4) (root : Int) (d : Addr) (kvs : List (Key × V)) (g : IF), vs = [.ref a, .int root, .ref d] ∧ NetAt K H a n rs ∧ Good n rs ∧ rs.length ≤ 156 ∧ 0 ≤ root ∧ root < n ∧
  H d = some (.dK kvs) ∧ DI kvs g ∧ kvs.length ≤ 5000 ∧ ∀ (q : Addr) (ls : List (Key × V)) (H' : Hp), K0 H H' → H q = none → H' q = some (.dK ls) → DI ls (cheapF n rs root g) → ls.length ≤ 8000 → Q (.ref q) H'
theorem ok_cheap {f : Addr} {fd : FuncData} (F : Fun K "_law_b_cheap" "_law_b_cheap" sCheap f fd) (m_range : mg "range" = none) : FnOk P w K mg base CX0 1 f fd ["net", "root", "ahead"] (spCheap K) := by
  refine F.ok scCheap (fun vs H Q E h => ?_) (fun cdv A outer s H vs Q E hr h => ?_)
  · obtain ⟨a, n, rs, root, d, kvs, g, rfl, _⟩ := h
    rfl
  · obtain ⟨a, n, rs, root, d, kvs, g, rfl, hN, G, hl, r0, r1, hd, hD, hkl, q⟩ := h
    have hu := hu_of hr
    have n1 := G.n1
    have n2 := G.n2
    refine ⟨_, (pss_cons (ps_set (i := 3) scCheap.nd rfl (.inl rfl) (pe_disp (pps_cons (pv 1) pe_int pps_nil) rfl rfl (fun z => by cases z) (by decide)))
      (pss_cut (ps_lock (ps_for PassesOwn.never rfl (pi_keys (pv 2)) (pg_name (i := 4) scCheap.nd rfl (.inl rfl))
      (pss_one (ps_dput hu (pv 3) (pv 4) pe_int rfl))))
      (pss_cons (ps_for PassesOwn.never rfl (pi_range1 (by rfl) m_range (pa_cons (pe_ix ix_tup (pv 0) pe_int (fun _ _ => rfl)) pa_nil)) (pg_name (i := 5) scCheap.nd rfl (.inl rfl))
      (pss_one (ps_for PassesOwn.never rfl (pi_tup (pe_ix ix_tup (pv 0) pe_int (fun _ _ => rfl))) (pg_tup rfl (pgs_cons (pg_name (i := 6) scCheap.nd rfl (.inl rfl)) (pgs_cons (pg_name (i := 7) scCheap.nd rfl (.inl rfl)) (pgs_cons (pg_name (i := 8) scCheap.nd rfl (.inl rfl)) (pgs_cons (pg_name (i := 9) scCheap.nd rfl (.inl rfl)) pgs_nil)))))
      (pss_one (ps_if (PW.pt (pw_and (pt_cmp (pc_din hu (pv 6) (pv 3))) (pw_and1 (PW.pt (pw_or (pt_cmp (pc_dnotin hu (pv 7) (pv 3))) (pw_or1 (pt_cmpR op_gt (pe_dget hu (pv 3) (pv 7) (fun _ _ => rfl)) (pe_op op_add (pe_dget hu (pv 3) (pv 6) (fun _ _ => rfl)) (pv 8)) (nomark _)))))))) (pss_one (ps_dput hu (pv 3) (pv 7) (pe_op op_add (pe_dget hu (pv 3) (pv 6) (fun _ _ => rfl)) (pv 8)) rfl)) pss_nil)))))
      (pss_one (ps_ret (pv 3)))))), ?_⟩
    refine fun t nt => ⟨_, rfl, ⟨upd_same, [(Sum.inl root, .int 0)], rfl, (by show 1 ≤ 15; decide), ?_⟩⟩
    rw [upd_upd]
    have k1 : K0 H (upd H t (.dK (mergeK [] [(Sum.inl root, .int 0)]))) := K0.new nt
    have ht1 : upd H t (.dK (mergeK [] [(Sum.inl root, .int 0)])) t = some (.dK (mergeK [] [(Sum.inl root, .int 0)])) := upd_same
    generalize hH1 : upd H t (.dK (mergeK [] [(Sum.inl root, .int 0)])) = H1 at k1 ht1
    have htd : t ≠ d := fun z => by rw [z, hd] at nt; cases nt
    have hd1 := k1.oth d _ hd (fun _ z => by cases z)
    have dini : DI (mergeK [] [(Sum.inl root, .int 0)]) (zeroF (fun u => u = root)) := by
      have := DI.one root
      have e : ini root = zeroF (fun u => u = root) := by
        funext u
        unfold ini put zeroF
        by_cases h : u = root
        · rw [if_pos h, if_pos h]
        · rw [if_neg h, if_neg h]
      rwa [e] at this
    refine ⟨fun σ' H' => ∃ y4, σ' = [some (.ref a), some (.int root), some (.ref d), some (.ref t), y4, none, none, none, none, none] ∧ K0 H H' ∧ ∃ ls, H' t = some (.dK ls) ∧ DI ls (zeroF (InT root g)) ∧ ls.length ≤ 1 + kvs.length, ?_, ?_⟩
    · refine ⟨d, _, hd1, trivial, fun od => ⟨_, rfl, d, od, rfl, .inl ⟨kvs, upd_same, ?_⟩⟩⟩
      refine for_it walk_keys (fun i σ' H' => ∃ y4, σ' = [some (.ref a), some (.int root), some (.ref d), some (.ref t), y4, none, none, none, none, none] ∧ Kt t (upd H1 d (.frz od (.dK kvs))) H' ∧ ∃ ls, H' t = some (.dK ls) ∧ DI ls (zeroF (fun u => u = root ∨ (Sum.inl u : Key) ∈ (kvs.take i).map (·.1))) ∧ ls.length ≤ 1 + i)
        ⟨none, rfl, Kt.refl _ _, _, by rw [upd_ne htd]; exact ht1, by
          rw [zeroF_congr (T := fun u => u = root)]
          · exact dini
          · intro u
            rw [List.take_zero]
            exact ⟨fun z => z.elim id (fun z => by cases z), .inl⟩, Nat.le_refl _⟩ (fun i σ' H' _ h => ?_) (fun i x σ' H' H2 hi h y => ?_) (fun σ' H' h => ?_)
      · obtain ⟨_, _, k, _⟩ := h
        exact k.frz _ _ _ upd_same
      · obtain ⟨rfl, k, v, hkv, rfl⟩ := y
        obtain ⟨j, z, e, e2⟩ := hD.at_ (List.mem_of_getElem? hkv)
        cases e
        obtain ⟨y4, rfl, k5, ls, hls, hDI, hll⟩ := h
        refine ⟨_, rfl, _, rfl, t, _, rfl, DPut.k (k := Sum.inl j) hls (Nat.lt_of_le_of_lt (m := 6000) (by omega) (by decide)), ?_⟩
        refine ⟨_, rfl, k5.setD hls, _, upd_same, ?_, Nat.le_trans (length_putK _ _ _) (by omega)⟩
        have := hDI.put j 0
        rw [zeroF_put] at this
        rw [zeroF_congr (T := fun u => (u = root ∨ (Sum.inl u : Key) ∈ (kvs.take i).map (·.1)) ∨ u = j)]
        · exact this
        · intro u
          rw [List.take_add_one, hkv, List.map_append, List.mem_append]
          constructor
          · rintro (h | h | h)
            · exact .inl (.inl h)
            · exact .inl (.inr h)
            · exact .inr (by have := List.mem_singleton.mp h; cases this; rfl)
          · rintro ((h | h) | h)
            · exact .inl h
            · exact .inr (.inl h)
            · exact .inr (.inr (List.mem_singleton.mpr (by rw [h])))
      · obtain ⟨y4, rfl, k5, ls, hls, hDI, hll⟩ := h
        rw [List.take_of_length_le (Nat.le_refl _)] at hDI
        have kk : Kt t H1 (upd H' d (.dK kvs)) := Kt.lock hd1 k5
        refine ⟨k5.frz _ _ _ upd_same, _, rfl, ⟨fun b o e m => kk.oth b o (k1.oth b o e m) (ne_of_none e nt) m, fun P hP => kk.tab P (k1.tab P hP), fun b e => k1.dom b (kk.dom b e)⟩, ls, by rw [upd_ne htd]; exact hls, ?_, hll⟩
        rw [zeroF_congr (T := fun u => u = root ∨ (Sum.inl u : Key) ∈ kvs.map (·.1))]
        · exact hDI
        · intro u
          show (u = root ∨ (g u).isSome = true) ↔ _
          rw [hD.mem]
    rintro σ' H2 ⟨y4, rfl, k2, ls, hls, hDI, hll⟩
    have hN2 := hN.k0 k2
    obtain ⟨r, xs, o, h1, h2, hc, hdd, h3⟩ := hN2
    have hxs : SqT K H2 r xs := h2
    have hrl : xs.length = rs.length := h3.len
    refine ⟨_, rfl, a, _, 0, .int n, rfl, rfl, h1, atI_nat (j := 0) rfl, n, rfl, by omega, by omega, for_range (lo := 0) (n := n.toNat) (fun i σ' H' => ∃ y5 y6 y7 y8 y9, σ' = [some (.ref a), some (.int root), some (.ref d), some (.ref t), y4, y5, y6, y7, y8, y9] ∧ Kt t H2 H' ∧
        ∃ ls, H' t = some (.dK ls) ∧ DI ls (iter (rndC rs) i (zeroF (InT root g))) ∧ ls.length ≤ 1 + kvs.length + 156 * i)
      ⟨none, none, none, none, none, rfl, Kt.refl _ _, ls, hls, hDI, by omega⟩ (fun i σ' H' hi h => ?_) (fun σ' H' h => ?_)⟩
    · obtain ⟨y5, y6, y7, y8, y9, rfl, k3, ls, hls, hDI, hll⟩ := h
      have h1' := k3.sqT h1
      refine ⟨_, rfl, a, _, 1, .ref r, rfl, rfl, h1', atI_nat (j := 1) rfl, r, rfl, ⟨xs, k3.sqT hxs⟩, for_tup (xs := xs) (fun j σ' H' => ∃ y6 y7 y8 y9, σ' = [some (.ref a), some (.int root), some (.ref d), some (.ref t), y4, some (.int (0 + (i : Int))), y6, y7, y8, y9] ∧ Kt t H2 H' ∧
          ∃ ls, H' t = some (.dK ls) ∧ DI ls (rndC (rs.take j) (iter (rndC rs) i (zeroF (InT root g)))) ∧ ls.length ≤ 1 + kvs.length + 156 * i + j)
        ⟨_, _, _, _, rfl, k3, ls, hls, by rw [List.take_zero]; exact hDI, by omega⟩ (fun j σ' H' _ h => ?_) (fun j x σ' H' hx h => ?_) (fun σ' H' h => ?_)⟩
      · obtain ⟨_, _, _, _, _, k, _⟩ := h
        exact k.sqT hxs
      · obtain ⟨y6, y7, y8, y9, rfl, k4, ls, hls, hDI, hll⟩ := h
        obtain ⟨rd, q1, hrd, rfl, hs⟩ := road_at h3 hx
        have hjl : j < rs.length := (List.getElem?_eq_some_iff.mp hrd).1
        rw [rndC_take hrd]
        generalize rndC (rs.take j) (iter (rndC rs) i (zeroF (InT root g))) = ff at hDI
        have ds := dgetR (.inl hls) hDI rd.s
        refine ⟨q1, _, rfl, k4.sqT hs, rfl, _, _, rfl, _, _, rfl, _, _, rfl, _, _, rfl, rfl, ?_⟩
        refine ⟨_, rfl, _, rfl, t, _, rfl, ds, _, rfl, ?_⟩
        cases es : ff rd.s with
        | none => exact iteF (iteF ⟨_, _, _, _, rfl, k4, ls, hls, by unfold rlxC; rw [es]; exact hDI, by omega⟩)
        | some b =>
          rw [es] at ds
          have de := dgetR (.inl hls) hDI rd.e
          have putIt : rlxC ff rd = put ff rd.e (b + rd.c) → (tDGet (tVar 3) (tVar 6)) [some (.ref a), some (.int root), some (.ref d), some (.ref t), y4, some (.int (0 + (i : Int))), some (.int rd.s), some (.int rd.e), some (.int rd.c), some (.int rd.l)] H' (fun x H1 => x = .int b ∧ H1 = H') := fun _ => ⟨_, rfl, _, rfl, t, _, rfl, ds, rfl, rfl⟩
          have fin : rlxC ff rd = put ff rd.e (b + rd.c) → ∃ ls', upd H' t (.dK (putK ls (Sum.inl rd.e) (.int (b + rd.c)))) t = some (.dK ls') ∧ DI ls' (rlxC ff rd) ∧ ls'.length ≤ 1 + kvs.length + 156 * i + (j + 1) := fun e => ⟨_, upd_same, by rw [e]; exact hDI.put _ _, Nat.le_trans (length_putK _ _ _) (by omega)⟩
          have hsz : ls.length < sizeLine := Nat.lt_of_le_of_lt (m := 8000) (by omega) (by decide)
          refine iteT ⟨_, rfl, _, rfl, t, _, rfl, de, _, rfl, ?_⟩
          cases ee : ff rd.e with
          | none =>
            refine iteT (iteT ⟨_, rfl, _, rfl, t, _, rfl, ds, _, rfl, _, _, rfl, rfl, _, rfl, _, rfl, t, _, rfl, DPut.k (k := Sum.inl rd.e) hls hsz, ?_⟩)
            obtain ⟨ls', h5, h6, h7⟩ := fin (by unfold rlxC; rw [es, ee])
            exact ⟨_, _, _, _, rfl, k4.setD hls, ls', h5, h6, h7⟩
          | some c =>
            rw [ee] at de
            refine iteF ⟨_, rfl, _, rfl, t, _, rfl, de, _, rfl, _, rfl, t, _, rfl, ds, _, rfl, _, _, rfl, rfl, _, _, rfl, rfl, _, rfl, ?_⟩
            by_cases hlt : b + rd.c < c
            · rw [decide_eq_true hlt]
              refine iteT ⟨_, rfl, _, rfl, t, _, rfl, ds, _, rfl, _, _, rfl, rfl, _, rfl, _, rfl, t, _, rfl, DPut.k (k := Sum.inl rd.e) hls hsz, ?_⟩
              obtain ⟨ls', h5, h6, h7⟩ := fin (by unfold rlxC; rw [es, ee]; exact if_pos hlt)
              exact ⟨_, _, _, _, rfl, k4.setD hls, ls', h5, h6, h7⟩
            · rw [decide_eq_false hlt]
              exact iteF ⟨_, _, _, _, rfl, k4, ls, hls, by rw [show rlxC ff rd = ff by unfold rlxC; rw [es, ee]; exact if_neg hlt]; exact hDI, by omega⟩
      · obtain ⟨y6, y7, y8, y9, rfl, k4, ls, hls, hDI, hll⟩ := h
        rw [hrl, List.take_of_length_le (Nat.le_refl _)] at hDI
        exact ⟨_, _, _, _, _, rfl, k4, ls, hls, hDI, by omega⟩
    · obtain ⟨y5, y6, y7, y8, y9, rfl, k3, ls, hls, hDI, hll⟩ := h
      refine ⟨_, rfl, q t ls _ ?_ nt hls hDI (by omega)⟩
      exact ⟨fun b o e m => k3.oth b o (k2.oth b o e m) (ne_of_none e nt) m, fun P hP => k3.tab P (k2.tab P hP), fun b e => k2.dom b (k3.dom b e)⟩
end
end HK

set_option Elab.async false
set_option linter.all false
set_option maxRecDepth 100000
set_option maxHeartbeats 2000000
namespace HkL
open PySem PySem.Spec L2 PySem.W
section
variable {X : Cx}
/-- a name set by a comprehension of a dict, on one line -/
theorem ps_setDc {i : Nat} {y : Str} {py : Pos} {kx vx tg iter : Expr} {ifs : List Expr} {scope : Scope} {own : List (Str × Nat)} {pos spos : Pos} {wi : TI} {g : TG} {tt : TT} {tk tv : TE} (hc : X.calm = true) (hN : X.N.Nodup) (hy : X.N[i]? = some y) (hyl : X.env.scope.names.lookup y = some .local)
    (hsw : swapsWith (.DictComp kx vx [⟨tg, iter, ifs, 0⟩] scope pos) (some (.Name y py)) spos.line X.env = pure true) (hi : PI X tg iter wi) (ok : BlkOk X.N X.env.scope scope own)
    (hg : ∀ (s : Shared) (H : Hp) (C : Addr) (cl : List (Str × Addr)) (fp : List Addr), PG (X.blk s H scope (compEnvC scope cl C X.env) fp) tg g) (ht : ∀ (s : Shared) (H : Hp) (C : Addr) (cl : List (Str × Addr)) (fp : List Addr), PTs (X.blk s H scope (compEnvC scope cl C X.env) fp) ifs tt)
    (hk : ∀ (s : Shared) (H : Hp) (C : Addr) (cl : List (Str × Addr)) (fp : List Addr), PE (X.blk s H scope (compEnvC scope cl C X.env) fp) kx tk)
    (he : ∀ (s : Shared) (H : Hp) (C : Addr) (cl : List (Str × Addr)) (fp : List Addr), PE (X.blk s H scope (compEnvC scope cl C X.env) fp) vx tv) (hs : ∀ x, foldedSetIterable iter X.env x = pure x := by intro _; rfl) :
    PS X (.Assign [.Name y py] (.DictComp kx vx [⟨tg, iter, ifs, 0⟩] scope pos) spos) (tAsg (tDc wi g tt tk tv (own.map (·.2))) (gName i)) := by
  refine ⟨fun pins s σ H D I h => ?_⟩
  rw [exec_Assign_Name_used _ _ _ _ hsw]
  refine wpAny_bind (wpAny_standAt (wpAny_bind ?_))
  show wpAny _ X.A (do let _ ← comprehension (.DictComp kx vx [⟨tg, iter, ifs, 0⟩] scope pos) scope X.env (firstIterPos [⟨tg, iter, ifs, 0⟩] pos) newDict false (eval iter X.env) (some (assign (.Name y py) X.env))) _ _ s
  have h : tDc wi g tt tk tv (own.map (·.2)) σ H (fun x H1 => gName i x σ H1 D.nx) := h
  refine wpAny_bind (thn (dc_core (Qf := fun _ s' => SP X pins D .next s') hc hN I hi ok hg ht hk he hs h fun L C s' m H' I' q hn f => ?_) fun _ s' hq => wpAny_pure (wpAny_pure hq))
  show wpAny _ _ (assign (.Name y py) X.env (.ref L)) _ _ _
  refine wpAny_assign_Name (store_ok2 (v := V.ref L) I' hN hy (.inl hyl) rfl (fun s2 I2 ⟨a, sb, ha⟩ => ?_) (.inr hyl))
  obtain ⟨f0, f1, f2, f3, f4, f5⟩ := f
  have haC : C ≠ a := by
    rcases ha with z | z
    · rw [z]; exact f1
    · exact fun e => f4 y a z e.symm
  refine ⟨m, hn.sameBut sb haC, fun h3 sb3 => ?_⟩
  exact ⟨_, H', I2.turned (t' := s2.toks) (fun b o hb e => (sb3.2 b hb).trans e) f0 f1 f3 f4 f5, q⟩
theorem swd_true {kx vx : Expr} {gs : List Comprehension} {scope : Scope} {pos py : Pos} {y : Str} {l : Nat} {env : Env} (hk : env.scope.kind = .function) (hy : env.scope.names.lookup y = some .local) (hl : (py.line == pos.line) = true)
    (ha : (scope.names.any fun (n, k) => n == y && (k == .local || k == .cell)) = false) : swapsWith (.DictComp kx vx gs scope pos) (some (.Name y py)) l env = pure true := by
  have ky : env.kindOf y = some .local := hy
  have hb : env.blockKind = .function := by unfold Env.blockKind; rw [hk]; rfl
  unfold swapsWith
  simp only [hb, ky, ha, Expr.pos, hl]
  rfl
end
end HkL

set_option Elab.async false
set_option linter.all false
set_option maxRecDepth 100000
set_option maxHeartbeats 4000000
namespace HK
open PySem PySem.Spec PyProof.Rows L2 GAl GxR
open Evl (pss_cut)
abbrev sWft : Stmt := topS 37
abbrev N_scWft : List Str := ["net", "root", "ahead", "numbers", "before", "lessened", "start", "end", "cost", "late", "place"]
theorem scWft : FnScope N_scWft ["net", "root", "ahead"] (defScope sWft) := ⟨rfl, rfl, rfl, by decide +kernel, rfl, by decide +kernel, by decide +kernel⟩
abbrev sGraft : Stmt := topS 36
abbrev N_scGraft : List Str := ["net", "root", "ahead", "place", "numbers", "before", "grown", "at"]
theorem scGraft : FnScope N_scGraft ["net", "root", "ahead", "place"] (defScope sGraft) := ⟨rfl, rfl, rfl, by decide +kernel, rfl, by decide +kernel, by decide +kernel⟩
section
variable {P : Program} {w : World} {K : PySem.W.Frag} {mg : Str → Option Value} {base : Heap}
def spWft (K : PySem.W.Frag) : Sp := fun vs H Q _ => ∃ (a : Addr) (n : Int) (rs : List R4) (root : Int) (d : Addr) (kvs : List (Key × V)) (g : IF), vs = [.ref a, .int root, .ref d] ∧ NetAt K H a n rs ∧ Good n rs ∧ rs.length ≤ 156 ∧ (∀ v, InT root g v → 0 ≤ v ∧ v < n) ∧
  H d = some (.dK kvs) ∧ DI kvs g ∧ kvs.length ≤ 5000 ∧ ∀ (t q b : Addr) (ls bs : List (Key × V)) (f p : IF) (H' : Hp), K0 H H' → H q = none → H b = none → q ≠ b → H' t = some (.tup [.ref q, .ref b]) → H' q = some (.dK ls) → H' b = some (.dK bs) → DI ls f → DI bs p → Lsn n rs (InT root g) f p ls.length → ClosedC rs f → Q (.ref t) H'
theorem ok_wft {f : Addr} {fd : FuncData} {f_under : Addr} {fd_under : FuncData} (F : Fun K "ways_from_tree" "ways_from_tree" sWft f fd) (k_under : PySem.W.keepIn K (.ref f_under) = true) (b_under : Binds K fd_under ["numbers", "start", "end", "more"] []) (g_under : mg "undercuts" = some (.ref f_under)) (G_under : FnOk P w K mg base CX0 1 f_under fd_under ["numbers", "start", "end", "more"] (spUnder K)) : FnOk P w K mg base CX0 2 f fd ["net", "root", "ahead"] (spWft K) := by
  refine F.ok scWft (fun vs H Q E h => ?_) (fun cdv A outer s H vs Q E hr h => ?_)
  · obtain ⟨a, n, rs, root, d, kvs, g, rfl, _⟩ := h
    rfl
  · obtain ⟨a, n, rs, root, d, kvs, g, rfl, hN, G, hl, hIn, hd, hD, hkl, q⟩ := h
    have hu := hu_of hr
    have n1 := G.n1
    have n2 := G.n2
    refine ⟨_, (pss_cut (ps_lock (HkL.ps_setDc (i := 3) (own := [("place", 10)]) (g := (gName 10)) (tt := tYes) (tk := (tVar 10)) (tv := (tC (.int 0))) rfl scWft.nd rfl rfl (HkL.swd_true rfl rfl rfl rfl) (pi_keys (pv 2)) (blkOk_by (N := N_scWft) (sc := defScope sWft) (by decide +kernel)) (fun _ _ _ _ _ => (pg_name (i := 10) scWft.nd rfl (.inl rfl))) (fun _ _ _ _ _ => pts_nil) (fun _ _ _ _ _ => (pv 10)) (fun _ _ _ _ _ => pe_int)))
      (pss_cons (ps_dput hu (pv 3) (pv 1) pe_int rfl)
      (pss_cons (ps_set (i := 4) scWft.nd rfl (.inl rfl) pe_dnewK)
      (pss_cons (ps_set (i := 5) scWft.nd rfl (.inl rfl) pe_bl)
      (pss_cut (ps_while PassesOwn.never (pt_val (pv 5))
      (pss_cons (ps_set (i := 5) scWft.nd rfl (.inl rfl) pe_bl)
      (pss_one (ps_for PassesOwn.never rfl (pi_tup (pe_ix ix_tup (pv 0) pe_int (fun _ _ => rfl))) (pg_tup rfl (pgs_cons (pg_name (i := 6) scWft.nd rfl (.inl rfl)) (pgs_cons (pg_name (i := 7) scWft.nd rfl (.inl rfl)) (pgs_cons (pg_name (i := 8) scWft.nd rfl (.inl rfl)) (pgs_cons (pg_name (i := 9) scWft.nd rfl (.inl rfl)) pgs_nil)))))
      (pss_one (ps_if (pt_val (pe_call G_under (hr.mono (by decide)) (by rfl) g_under k_under b_under .nil pass0 (pa_cons (pv 3) (pa_cons (pv 6) (pa_cons (pv 7) (pa_cons (pv 8) pa_nil)))))) (pss_cons (ps_dput hu (pv 3) (pv 7) (pe_op op_add (pe_dget hu (pv 3) (pv 6) (fun _ _ => rfl)) (pv 8)) rfl)
      (pss_cons (ps_dput hu (pv 4) (pv 7) (pv 6) rfl)
      (pss_one (ps_set (i := 5) scWft.nd rfl (.inl rfl) pe_bl)))) pss_nil))))))
      (pss_one (ps_ret (pe_tup (pa_cons (pv 3) (pa_cons (pv 4) pa_nil)))))))))), ?_⟩
    have hok := G.ok
    refine ⟨fun σ' H' => ∃ q1 ls, σ' = [some (.ref a), some (.int root), some (.ref d), some (.ref q1), none, none, none, none, none, none, none] ∧ K0 H H' ∧ H q1 = none ∧ H' q1 = some (.dK ls) ∧ DI ls (zeroF (fun u => (g u).isSome = true)) ∧ ls.length ≤ kvs.length, ?_, ?_⟩
    · refine ⟨d, _, hd, trivial, fun od => ⟨_, rfl, d, od, rfl, .inl ⟨kvs, upd_same, fun D nD => ?_⟩⟩⟩
      have nHD : H D = none := by
        by_cases e : D = d
        · rw [e, upd_same] at nD; cases nD
        · rwa [upd_ne e] at nD
      have hDd : D ≠ d := fun z => by rw [z, hd] at nHD; cases nHD
      refine ⟨fun i m H' => i + m = kvs.length ∧ K0 (upd H d (.frz od (.dK kvs))) H' ∧ ∃ ls, H' D = some (.dK ls) ∧ DI ls (zeroF (fun u => (Sum.inl u : Key) ∈ (kvs.take i).map (·.1))) ∧ ls.length ≤ i, ⟨kvs.length, by omega, K0.new nD, [], upd_same, ?_, Nat.le_refl _⟩, fun i m H' hW => ?_⟩
      · refine ⟨List.nodup_nil, fun p hp => (by cases hp), fun i => ?_⟩
        rw [List.take_zero]
        unfold zeroF
        simp
        rfl
      · obtain ⟨em, k1, ls, hls, hDI, hll⟩ := hW
        have hd1 : H' d = some (.frz od (.dK kvs)) := k1.oth d _ upd_same (fun _ z => by cases z)
        by_cases hi : i < kvs.length
        · refine .inr ⟨⟨hd1, hi⟩, fun H2 => K0 (upd H d (.frz od (.dK kvs))) H2 ∧ ∃ ls, H2 D = some (.dK ls) ∧ DI ls (zeroF (fun u => (Sum.inl u : Key) ∈ (kvs.take (i + 1)).map (·.1))) ∧ ls.length ≤ i + 1, fun H2 h2 => ⟨m - 1, by omega, by omega, h2⟩, fun x H2 y => ?_⟩
          obtain ⟨rfl, k, v, hkv, rfl⟩ := y
          obtain ⟨j, z, e, e2⟩ := hD.at_ (List.mem_of_getElem? hkv)
          cases e
          refine ⟨rfl, tyes ⟨_, rfl, ls, Sum.inl j, rfl, hls, Nat.lt_of_le_of_lt (m := 6000) (by omega) (by decide), k1.mut nD, _, upd_same, ?_, Nat.le_trans (length_putK _ _ _) (by omega)⟩⟩
          have := hDI.put j 0
          rw [zeroF_put] at this
          rw [zeroF_congr (T := fun u => (Sum.inl u : Key) ∈ (kvs.take i).map (·.1) ∨ u = j)]
          · exact this
          · intro u
            rw [List.take_add_one, hkv, List.map_append, List.mem_append]
            constructor
            · rintro (h | h)
              · exact .inl h
              · exact .inr (by have := List.mem_singleton.mp h; cases this; rfl)
            · rintro (h | h)
              · exact .inl h
              · exact .inr (List.mem_singleton.mpr (by rw [h]))
        · rw [List.take_of_length_le (by omega)] at hDI
          refine .inl ⟨⟨hd1, by omega⟩, hd1, D, ls, rfl, K0.lock hd (fun _ z => by cases z) k1, nHD, by rw [upd_ne hDd]; exact hls, ?_, by omega⟩
          rw [zeroF_congr (T := fun u => (Sum.inl u : Key) ∈ kvs.map (·.1))]
          · exact hDI
          · intro u
            rw [hD.mem]
    rintro σ' H1 ⟨q1, ls1, rfl, k1, nq1, hq1, hD1, hl1⟩
    refine ⟨_, rfl, _, rfl, q1, _, rfl, DPut.k (k := Sum.inl root) hq1 (Nat.lt_of_le_of_lt (m := 6000) (by omega) (by decide)), ?_⟩
    have k2 := k1.mut (o := .dK (putK ls1 (Sum.inl root) (.int 0))) nq1
    have hD2 : DI (putK ls1 (Sum.inl root) (.int 0)) (zeroF (InT root g)) := by
      have := hD1.put root 0
      rw [zeroF_put] at this
      rw [zeroF_congr (T := fun u => (g u).isSome = true ∨ u = root)]
      · exact this
      · exact fun u => ⟨fun z => z.elim .inr .inl, fun z => z.elim .inr .inl⟩
    have hq2 : upd H1 q1 (.dK (putK ls1 (Sum.inl root) (.int 0))) q1 = some (.dK (putK ls1 (Sum.inl root) (.int 0))) := upd_same
    generalize putK ls1 (Sum.inl root) (.int 0) = ls2 at k2 hD2 hq2
    generalize upd H1 q1 (.dK ls2) = H2 at k2 hq2
    refine fun b nb => ?_
    have nHb := k2.dom b nb
    have hqb : q1 ≠ b := fun z => by rw [← z, hq2] at nb; cases nb
    have k3 := k2.mut (o := .dK []) nHb
    have hq3 : upd H2 b (.dK []) q1 = some (.dK ls2) := by rw [upd_ne hqb]; exact hq2
    have hb3 : upd H2 b (.dK []) b = some (.dK []) := upd_same
    generalize upd H2 b (.dK []) = H3 at k3 hq3 hb3
    have L0 : Lsn n rs (InT root g) (zeroF (InT root g)) (fun _ => none) ls2.length := by
      refine ⟨fun v x e => ?_, fun v hv => zeroF_some.mpr ⟨hv, rfl⟩, fun v x e => ?_, fun v u e => (by cases e), fun v u e => (by cases e), fun v x e => ⟨[], .here (zeroF_some.mp e).1⟩⟩
      · obtain ⟨h1, h2⟩ := zeroF_some.mp e
        subst h2
        exact ⟨[], .src h1⟩
      · obtain ⟨h1, h2⟩ := zeroF_some.mp e
        omega
    refine ⟨fun σ' H' => ∃ y6 y7 y8 y9 ls bs f p, σ' = [some (.ref a), some (.int root), some (.ref d), some (.ref q1), some (.ref b), some (.bl false), y6, y7, y8, y9, none] ∧ K0 H H' ∧ H' q1 = some (.dK ls) ∧ H' b = some (.dK bs) ∧ DI ls f ∧ DI bs p ∧ Lsn n rs (InT root g) f p ls.length ∧ ClosedC rs f, ?_, ?_⟩
    · refine ⟨fun m σ' H' => ∃ c y6 y7 y8 y9 ls bs f p, σ' = [some (.ref a), some (.int root), some (.ref d), some (.ref q1), some (.ref b), some (.bl c), y6, y7, y8, y9, none] ∧ K0 H H' ∧ H' q1 = some (.dK ls) ∧ H' b = some (.dK bs) ∧ DI ls f ∧ DI bs p ∧ Lsn n rs (InT root g) f p ls.length ∧ (c = true → msr f n.toNat < m) ∧ (c = false → ClosedC rs f),
        ⟨msr (zeroF (InT root g)) n.toNat + 1, true, none, none, none, none, ls2, [], _, _, rfl, k3, hq3, hb3, hD2, ⟨List.nodup_nil, fun p hp => (by cases hp), fun i => rfl⟩, L0, fun _ => by omega, fun z => by cases z⟩, ?_⟩
      rintro m σ' H' ⟨c, y6, y7, y8, y9, ls, bs, f, p, rfl, k4, hq4, hb4, hD4, hB4, L4, hm, hcl⟩
      refine ⟨_, rfl, c, rfl, ?_⟩
      cases c with
      | false => exact ⟨_, _, _, _, _, _, _, _, rfl, k4, hq4, hb4, hD4, hB4, L4, hcl rfl⟩
      | true =>
        have hm := hm rfl
        refine ⟨fun σ' H' => ∃ c y6 y7 y8 y9 ls bs f' p, σ' = [some (.ref a), some (.int root), some (.ref d), some (.ref q1), some (.ref b), some (.bl c), y6, y7, y8, y9, none] ∧ K0 H H' ∧ H' q1 = some (.dK ls) ∧ H' b = some (.dK bs) ∧ DI ls f' ∧ DI bs p ∧ Lsn n rs (InT root g) f' p ls.length ∧ (c = true → msr f' n.toNat < msr f n.toNat) ∧ (c = false → ClosedC rs f'), ?_, ?_⟩
        · rintro σ' H' ⟨c, y6, y7, y8, y9, ls, bs, f', p, rfl, k4, hq4, hb4, hD4, hB4, L4, hm', hcl'⟩
          cases c with
          | true => exact ⟨msr f' n.toNat + 1, by have := hm' rfl; omega, true, _, _, _, _, _, _, _, _, rfl, k4, hq4, hb4, hD4, hB4, L4, fun _ => by omega, fun z => by cases z⟩
          | false => exact ⟨0, by omega, false, _, _, _, _, _, _, _, _, rfl, k4, hq4, hb4, hD4, hB4, L4, fun z => (by cases z), fun _ => hcl' rfl⟩
        · obtain ⟨r, xs, o, h1, h2, hc, hdd, h3⟩ := hN
          have hxs : SqT K H r xs := h2
          have hrl : xs.length = rs.length := h3.len
          refine ⟨_, rfl, a, _, 1, .ref r, rfl, rfl, k4.sqT h1, atI_nat (j := 1) rfl, r, rfl, ⟨xs, k4.sqT hxs⟩, for_tup (xs := xs) (fun j σ' H2 => ∃ c y6 y7 y8 y9 ls bs f' p, σ' = [some (.ref a), some (.int root), some (.ref d), some (.ref q1), some (.ref b), some (.bl c), y6, y7, y8, y9, none] ∧ K0 H H2 ∧ H2 q1 = some (.dK ls) ∧ H2 b = some (.dK bs) ∧ DI ls f' ∧ DI bs p ∧ Lsn n rs (InT root g) f' p ls.length ∧ (c = true → msr f' n.toNat < msr f n.toNat) ∧ (c = false → f' = f ∧ ∀ rd ∈ rs.take j, undB f rd.s rd.e rd.c = false))
            ⟨false, y6, y7, y8, y9, ls, bs, f, p, rfl, k4, hq4, hb4, hD4, hB4, L4, fun z => (by cases z), fun _ => ⟨rfl, fun rd hrd => (by rw [List.take_zero] at hrd; cases hrd)⟩⟩ (fun j σ' H2 _ h => ?_) (fun j x σ' H2 hx h => ?_) (fun σ' H2 h => ?_)⟩
          · obtain ⟨_, _, _, _, _, _, _, _, _, _, k, _⟩ := h
            exact k.sqT hxs
          · obtain ⟨c, y6, y7, y8, y9, ls, bs, f', p, rfl, k5, hq5, hb5, hD5, hB5, L5, hm5, hc5⟩ := h
            obtain ⟨rd, r1, hrd, rfl, hs⟩ := road_at h3 hx
            have hrm : rd ∈ rs := List.mem_of_getElem? hrd
            have ok := hok rd hrm
            refine ⟨r1, _, rfl, k5.sqT hs, rfl, _, _, rfl, _, _, rfl, _, _, rfl, _, _, rfl, rfl, ?_⟩
            refine ⟨_, rfl, _, rfl, _, rfl, _, rfl, q1, ls, f', rd.s, rd.e, rd.c, rfl, .inl hq5, hD5, _, rfl, ?_⟩
            cases hb : undB f' rd.s rd.e rd.c with
            | false =>
              refine iteF ⟨c, _, _, _, _, ls, bs, f', p, rfl, k5, hq5, hb5, hD5, hB5, L5, hm5, fun z => ?_⟩
              obtain ⟨h1, h2⟩ := hc5 z
              refine ⟨h1, fun u hu => ?_⟩
              rw [List.take_add_one, hrd] at hu
              rcases List.mem_append.mp hu with hu | hu
              · exact h2 u hu
              · rw [List.mem_singleton.mp hu, ← h1]; exact hb
            | true =>
              obtain ⟨x, es, hlt⟩ := und_iff.mp hb
              have ds := dgetR (.inl hq5) hD5 rd.s
              rw [es] at ds
              have hf : ∀ v x, f' v = some x → 0 ≤ v ∧ v < n := fun v x e => by
                obtain ⟨l, hl⟩ := L5.att v x e
                exact hl.range hok hIn v (List.mem_cons_self ..)
              have hp : ∀ v x, p v = some x → 0 ≤ v ∧ v < n := fun v x e => by
                obtain ⟨r', hr', _, e2, _⟩ := L5.way v x e
                have := hok r' hr'
                exact ⟨e2 ▸ this.e0, e2 ▸ this.e1⟩
              have f1 := hD5.few hf
              have f2 := hB5.few hp
              refine iteT ⟨_, rfl, _, rfl, q1, _, rfl, ds, _, rfl, _, _, rfl, rfl, _, rfl, _, rfl, q1, _, rfl, DPut.k (k := Sum.inl rd.e) hq5 (Nat.lt_of_le_of_lt (m := 100) (by omega) (by decide)), ?_⟩
              have hb6 : upd H2 q1 (.dK (putK ls (Sum.inl rd.e) (.int (x + rd.c)))) b = some (.dK bs) := by rw [upd_ne (Ne.symm hqb)]; exact hb5
              refine ⟨_, rfl, _, rfl, _, rfl, b, _, rfl, DPut.k (k := Sum.inl rd.e) hb6 (Nat.lt_of_le_of_lt (m := 100) (by omega) (by decide)), ?_⟩
              have hx : x ≤ 1000 * (ls.length : Int) := L5.top _ _ es
              have hlow : msr (HK.put f' rd.e (x + rd.c)) n.toNat < msr f' n.toNat := by
                have c1 := ok.c1
                have e1 := ok.e1
                have e0 := ok.e0
                refine msr_lt ok.e0 ?_ _ (by omega)
                unfold vlu
                cases ee : f' rd.e with
                | none => show (x + rd.c).toNat < 20000; omega
                | some y =>
                  have := hlt y ee
                  have c0 := ok.c0
                  obtain ⟨l, hl⟩ := L5.att _ _ es
                  have := hl.nonneg hok
                  show (x + rd.c).toNat < y.toNat
                  omega
              refine ⟨true, _, _, _, _, _, _, _, _, rfl, (k5.mut nq1).mut nHb, by rw [upd_ne hqb]; exact upd_same, upd_same, hD5.put _ _, hB5.put _ _, L5.step hok hrm es hlt ?_ ?_, fun _ => ?_, fun z => (by cases z)⟩
              · cases ee : f' rd.e with
                | none => rw [putK_new hD5 ee]; omega
                | some y => rw [putK_old hD5 ee]; exact Nat.le_refl _
              · exact fun ee => putK_new hD5 ee
              · cases c with
                | true => have := hm5 rfl; omega
                | false => rw [← (hc5 rfl).1]; exact hlow
          · obtain ⟨c, y6, y7, y8, y9, ls, bs, f', p, rfl, k5, hq5, hb5, hD5, hB5, L5, hm5, hc5⟩ := h
            refine ⟨c, _, _, _, _, ls, bs, f', p, rfl, k5, hq5, hb5, hD5, hB5, L5, hm5, fun z => ?_⟩
            obtain ⟨h1, h2⟩ := hc5 z
            rw [hrl, List.take_of_length_le (Nat.le_refl _)] at h2
            rw [h1]
            exact closedC_iff.mpr h2
    rintro σ' H4 ⟨y6, y7, y8, y9, ls, bs, f, p, rfl, k4, hq4, hb4, hD4, hB4, L4, hcl⟩
    refine ⟨_, rfl, _, rfl, by show 2 ≤ sizeLine; decide, fun t nt => ?_⟩
    have hqt : q1 ≠ t := fun z => by rw [← z, hq4] at nt; cases nt
    have hbt : b ≠ t := fun z => by rw [← z, hb4] at nt; cases nt
    exact q t q1 b ls bs f p _ (k4.mut (k4.dom t nt)) nq1 nHb hqb upd_same (by rw [upd_ne hqt]; exact hq4) (by rw [upd_ne hbt]; exact hb4) hD4 hB4 L4 hcl
end
end HK

set_option Elab.async false
set_option linter.all false
set_option maxRecDepth 100000
set_option maxHeartbeats 4000000
namespace HK
open PySem PySem.Spec PyProof.Rows L2 GAl GxR
open Evl (pss_cut)
/-- a way back by cheapest roads -/
structure Cheap (rs : List R4) (S : Int → Prop) (f p : IF) : Prop where
  zero : ∀ v, S v → f v = some 0
  off : ∀ v u, p v = some u → ¬ S v
  way : ∀ v u, p v = some u → ∃ r ∈ rs, r.s = u ∧ r.e = v ∧ ∃ x y, f u = some x ∧ f v = some y ∧ x + r.c = y
theorem Lsn.cheap {n : Int} {rs : List R4} {S : Int → Prop} {f p : IF} {k : Nat} (h : Lsn n rs S f p k) (hc : ClosedC rs f) : Cheap rs S f p := ⟨h.zero, h.off, fun v u e => by
  obtain ⟨r, hr, e1, e2, x, y, h1, h2, h3⟩ := h.way v u e
  obtain ⟨b, eb, hb⟩ := hc r hr x (by rw [e1]; exact h1)
  rw [e2, h2] at eb
  cases eb
  exact ⟨r, hr, e1, e2, x, y, h1, h2, by omega⟩⟩
section
variable {P : Program} {w : World} {K : PySem.W.Frag} {mg : Str → Option Value} {base : Heap}
/-- what a graft tells -/
def GraftT (H H' : Hp) (n : Int) (rs : List R4) (root : Int) (kvs : List (Key × V)) (g : IF) (place : Int) (t : Addr) : Prop := ∃ (q : Addr) (ls : List (Key × V)), H q = none ∧ H' q = some (.dK ls) ∧ DI ls (cheapF n rs root g) ∧ ls.length ≤ 12 ∧
  ((cheapF n rs root g place = none ∧ H' t = some (.tup [.non, .non, .ref q])) ∨
   ∃ (b : Addr) (ws : List (Key × V)) (x : Int) (l : List Int) (p : IF), H b = none ∧ b ≠ q ∧ H' b = some (.dK ws) ∧ DI ws (addF p g l) ∧ ws.length = kvs.length + l.length ∧ l.length ≤ 12 ∧ cheapF n rs root g place = some x ∧ Back p (InT root g) place l ∧ Cheap rs (InT root g) (cheapF n rs root g) p ∧ H' t = some (.tup [.ref b, .int x, .ref q]))
def spGraft (K : PySem.W.Frag) (Pn Pr Pp Pg : Addr) : Sp := fun vs H Q _ => ∃ (a : Addr) (n : Int) (rs : List R4) (root : Int) (d : Addr) (kvs : List (Key × V)) (g : IF) (place : Int), vs = [.ref a, .int root, .ref d, .int place] ∧ NetAt K H a n rs ∧ Good n rs ∧ rs.length ≤ 156 ∧ 0 ≤ root ∧ root < n ∧ 0 ≤ place ∧ place < n ∧
  H d = some (.dK kvs) ∧ DI kvs g ∧ kvs.length ≤ 5000 ∧ TreeP rs root g kvs.length ∧ (∀ v, InT root g v → 0 ≤ v ∧ v < n) ∧ TbL H [Pn, Pr, Pp, Pg] ∧ ∀ (t : Addr) (H' : Hp), K0 H H' → H t = none → GraftT H H' n rs root kvs g place t → Q (.ref t) H'
theorem ok_graft {f Pn Pr Pp Pg : Addr} {fd : FuncData} {f_neednet f_needplace f_needtree f_wft : Addr} {fd_neednet fd_needplace fd_needtree fd_wft : FuncData} (F : Fun K "graft" "graft" sGraft f fd)
    (k_neednet : PySem.W.keepIn K (.ref f_neednet) = true) (b_neednet : Binds K fd_neednet ["net"] []) (g_neednet : mg "need_net" = some (.ref f_neednet)) (G_neednet : FnOk P w K mg base CX0 6 f_neednet fd_neednet ["net"] (spNeedNet K Pn Pr))
    (k_needplace : PySem.W.keepIn K (.ref f_needplace) = true) (b_needplace : Binds K fd_needplace ["net", "place"] []) (g_needplace : mg "need_place" = some (.ref f_needplace)) (G_needplace : FnOk P w K mg base CX0 4 f_needplace fd_needplace ["net", "place"] (spNeedPlace K))
    (k_needtree : PySem.W.keepIn K (.ref f_needtree) = true) (b_needtree : Binds K fd_needtree ["net", "root", "ahead"] []) (g_needtree : mg "need_tree" = some (.ref f_needtree)) (G_needtree : FnOk P w K mg base CX0 5 f_needtree fd_needtree ["net", "root", "ahead"] (spNeedTree K Pp Pg))
    (k_wft : PySem.W.keepIn K (.ref f_wft) = true) (b_wft : Binds K fd_wft ["net", "root", "ahead"] []) (g_wft : mg "ways_from_tree" = some (.ref f_wft)) (G_wft : FnOk P w K mg base CX0 2 f_wft fd_wft ["net", "root", "ahead"] (spWft K))
    (m_dict : mg "dict" = none) : FnOk P w K mg base CX0 7 f fd ["net", "root", "ahead", "place"] (spGraft K Pn Pr Pp Pg) := by
  refine F.ok scGraft (fun vs H Q E h => ?_) (fun cdv A outer s H vs Q E hr h => ?_)
  · obtain ⟨a, n, rs, root, d, kvs, g, place, rfl, _⟩ := h
    rfl
  · obtain ⟨a, n, rs, root, d, kvs, g, place, rfl, hN, hG, hl, r0, r1, p0, p1, hd, hD, hkl, hT, hIn, tb, q⟩ := h
    have hu := hu_of hr
    have n1 := hG.n1
    have n2 := hG.n2
    have hok := hG.ok
    refine ⟨_, (pss_cons (ps_expr (pe_call G_neednet (hr.mono (by decide)) (by rfl) g_neednet k_neednet b_neednet .nil pass0 (pa_cons (pv 0) pa_nil)))
      (pss_cons (ps_expr (pe_call G_needplace (hr.mono (by decide)) (by rfl) g_needplace k_needplace b_needplace .nil pass0 (pa_cons (pv 0) (pa_cons (pv 1) pa_nil))))
      (pss_cons (ps_expr (pe_call G_needplace (hr.mono (by decide)) (by rfl) g_needplace k_needplace b_needplace .nil pass0 (pa_cons (pv 0) (pa_cons (pv 3) pa_nil))))
      (pss_cons (ps_expr (pe_call G_needtree (hr.mono (by decide)) (by rfl) g_needtree k_needtree b_needtree .nil pass0 (pa_cons (pv 0) (pa_cons (pv 1) (pa_cons (pv 2) pa_nil)))))
      (pss_cons (ps_asg (pe_call G_wft (hr.mono (by decide)) (by rfl) g_wft k_wft b_wft .nil pass0 (pa_cons (pv 0) (pa_cons (pv 1) (pa_cons (pv 2) pa_nil)))) (pg_tup rfl (pgs_cons (pg_name (i := 4) scGraft.nd rfl (.inl rfl)) (pgs_cons (pg_name (i := 5) scGraft.nd rfl (.inl rfl)) pgs_nil))))
      (pss_cons (ps_if (pt_cmp (pc_dnotin hu (pv 3) (pv 4))) (pss_one (ps_ret (pe_tup (pa_cons pe_non (pa_cons pe_non (pa_cons (pv 4) pa_nil)))))) pss_nil)
      (pss_cons (ps_set (i := 6) scGraft.nd rfl (.inl rfl) (pe_callTy call_dictD (by rfl) m_dict (by decide +kernel) (pa_cons (pv 2) pa_nil)))
      (pss_cons (ps_set (i := 7) scGraft.nd rfl (.inl rfl) (pv 3))
      (pss_cons (ps_while PassesOwn.never (pt_cmp (pc_din hu (pv 7) (pv 5)))
      (pss_cons (ps_dput hu (pv 6) (pv 7) (pe_dget hu (pv 5) (pv 7) (fun _ _ => rfl)) rfl)
      (pss_one (ps_set (i := 7) scGraft.nd rfl (.inl rfl) (pe_dget hu (pv 5) (pv 7) (fun _ _ => rfl))))))
      (pss_one (ps_ret (pe_tup (pa_cons (pv 6) (pa_cons (pe_dget hu (pv 4) (pv 3) (fun _ _ => rfl)) (pa_cons (pv 4) pa_nil))))))))))))))), ?_⟩
    refine ⟨_, rfl, a, n, rs, rfl, hN, hG, hl, tb Pn (by simp), tb Pr (by simp), fun H1 k1 => ?_⟩
    refine ⟨_, rfl, _, rfl, a, n, rs, root, rfl, hN.k0 k1, r0, r1, ?_⟩
    refine ⟨_, rfl, _, rfl, a, n, rs, place, rfl, hN.k0 k1, p0, p1, ?_⟩
    refine ⟨_, rfl, _, rfl, _, rfl, a, n, rs, root, d, kvs, g, rfl, hN.k0 k1, hG, hl, k1.oth d _ hd (fun _ z => by cases z), hD, hkl, hT, k1.tab _ (tb Pp (by simp)), k1.tab _ (tb Pg (by simp)), fun H2 k2 => ?_⟩
    have k12 := k1.trans k2
    have hd2 := k12.oth d _ hd (fun _ z => by cases z)
    refine ⟨_, rfl, _, rfl, _, rfl, a, n, rs, root, d, kvs, g, rfl, hN.k0 k12, hG, hl, hIn, hd2, hD, hkl, fun t q1 b ls bs f p H3 k3 nq nb hqb ht hq hb hDf hDp L hcl => ?_⟩
    have k13 := k12.trans k3
    have hPr := cheap_ok (root := root) hok hIn
    have ef : f = cheapF n rs root g := least_eq L.att cheap_att L.zero hPr.2.1 hcl hPr.2.2
    have C := L.cheap hcl
    have fin : ∀ v x, f v = some x → 0 ≤ v ∧ v < n := fun v x e => by
      obtain ⟨l, hl⟩ := L.att v x e
      exact hl.range hok hIn v (List.mem_cons_self ..)
    have hlen := hDf.few fin
    have dq := dgetR (.inl hq) hDf place
    have nHq := k12.dom q1 nq
    have nHb := k12.dom b nb
    refine ⟨t, _, rfl, .inl (.inl ht), rfl, _, _, rfl, _, _, rfl, rfl, ?_⟩
    refine ⟨_, rfl, _, rfl, q1, _, rfl, dq, _, rfl, ?_⟩
    cases ep : f place with
    | none =>
      refine iteT ⟨_, rfl, by show 3 ≤ sizeLine; decide, fun t2 nt2 => ?_⟩
      have hqt : q1 ≠ t2 := fun z => by rw [← z, hq] at nt2; cases nt2
      refine q t2 _ (k13.mut (k13.dom t2 nt2)) (k13.dom t2 nt2) ⟨q1, ls, nHq, by rw [upd_ne hqt]; exact hq, by rw [← ef]; exact hDf, by omega, .inl ⟨by rw [← ef]; exact ep, upd_same⟩⟩
    | some x =>
      obtain ⟨l, hbk⟩ := L.back _ _ ep
      have hnd := hbk.nodup L.off
      have hin := hbk.in_
      have hll : l.length ≤ n.toNat := nodup_len hnd fun v hv => by
        obtain ⟨u, e⟩ := hin v hv
        obtain ⟨r, hr, _, e2, _⟩ := L.way v u e
        have := hok r hr
        exact ⟨e2 ▸ this.e0, e2 ▸ this.e1⟩
      refine iteF ⟨_, rfl, d, kvs, rfl, .inl (k13.oth d _ hd (fun _ z => by cases z)), fun w nw => ?_⟩
      have hwq : w ≠ q1 := fun z => by rw [z, hq] at nw; cases nw
      refine ⟨_, rfl, fun m σ' H' => ∃ at_ l1 l2 ws, σ' = [some (.ref a), some (.int root), some (.ref d), some (.int place), some (.ref q1), some (.ref b), some (.ref w), some (.int at_)] ∧ K0 H3 H' ∧ l1 ++ l2 = l ∧ Back p (InT root g) at_ l2 ∧ H' w = some (.dK ws) ∧ DI ws (addF p g l1) ∧ ws.length = kvs.length + l1.length ∧ m = l2.length,
        ⟨l.length, place, [], l, kvs, rfl, K0.new nw, rfl, hbk, upd_same, ?_, rfl, rfl⟩, ?_⟩
      · have : addF p g [] = g := by funext v; unfold addF; simp
        rw [this]; exact hD
      · rintro m σ' H' ⟨at_, l1, l2, ws, rfl, k4, el, hbk2, hw, hDw, hwl, em⟩
        have hb4 := k4.oth b _ hb (fun _ z => by cases z)
        have da := dgetR (.inl hb4) hDp at_
        refine ⟨_, rfl, _, rfl, b, _, rfl, da, _, rfl, ?_⟩
        cases hbk2 with
        | here hS =>
          have pn : p at_ = none := by
            cases e : p at_ with
            | none => rfl
            | some u => exact absurd hS (L.off _ _ e)
          rw [pn]
          refine iteF ?_
          have hq4 := k4.oth q1 _ hq (fun _ z => by cases z)
          have dq4 := dgetR (.inl hq4) hDf place
          rw [ep] at dq4
          refine ⟨_, rfl, _, rfl, _, rfl, q1, _, rfl, dq4, _, rfl, by show 3 ≤ sizeLine; decide, fun t2 nt2 => ?_⟩
          have hqt : q1 ≠ t2 := fun z => by rw [← z, hq4] at nt2; cases nt2
          have hwt : w ≠ t2 := fun z => by rw [← z, hw] at nt2; cases nt2
          have k5 := k13.trans k4
          rw [List.append_nil] at el
          subst el
          exact q t2 _ (k5.mut (k5.dom t2 nt2)) (k5.dom t2 nt2) ⟨q1, ls, nHq, by rw [upd_ne hqt]; exact hq4, by rw [← ef]; exact hDf, by omega, .inr ⟨w, ws, x, l1, p, k13.dom w nw, hwq, by rw [upd_ne hwt]; exact hw, hDw, hwl, by omega, by rw [← ef]; exact ep, hbk, by rw [← ef]; exact C, upd_same⟩⟩
        | @up _ u l2' e hbk3 =>
          rw [e] at da
          rw [e]
          refine iteT ⟨fun σ' H' => ∃ at_ l1 l2 ws, σ' = [some (.ref a), some (.int root), some (.ref d), some (.int place), some (.ref q1), some (.ref b), some (.ref w), some (.int at_)] ∧ K0 H3 H' ∧ l1 ++ l2 = l ∧ Back p (InT root g) at_ l2 ∧ H' w = some (.dK ws) ∧ DI ws (addF p g l1) ∧ ws.length = kvs.length + l1.length ∧ l2 = l2', fun σ' H' ⟨at_, l1, l2, ws, e1, e2, e3, e4, e5, e6, e7, e8⟩ => ⟨l2'.length, by rw [em, List.length_cons]; omega, at_, l1, l2, ws, e1, e2, e3, e4, e5, e6, e7, by rw [e8]⟩, ?_⟩
          have hml : at_ ∈ l := by rw [← el]; simp
          have hn1 : at_ ∉ l1 := fun z => by
            rw [← el] at hnd
            exact (List.nodup_append.mp hnd).2.2 at_ z at_ (List.mem_cons_self ..) rfl
          have hnone : addF p g l1 at_ = none := by
            unfold addF
            rw [if_neg hn1]
            cases eg : g at_ with
            | none => rfl
            | some y => exact absurd (.inr (by rw [eg]; rfl)) (L.off _ _ e)
          have hl12 : l1.length ≤ l.length := by rw [← el, List.length_append]; omega
          refine ⟨_, rfl, _, rfl, b, _, rfl, da, _, rfl, _, rfl, w, _, rfl, DPut.k (k := Sum.inl at_) hw (Nat.lt_of_le_of_lt (m := 6000) (by omega) (by decide)), ?_⟩
          have hbw : b ≠ w := fun z => by rw [← z, hb] at nw; cases nw
          have da2 := dgetR (.inl (show upd H' w (.dK (putK ws (Sum.inl at_) (.int u))) b = some (.dK bs) by rw [upd_ne hbw]; exact hb4)) hDp at_
          rw [e] at da2
          refine ⟨_, rfl, _, rfl, b, _, rfl, da2, u, l1 ++ [at_], l2', _, rfl, k4.mut nw, ?_, hbk3, upd_same, ?_, ?_, rfl⟩
          · rw [List.append_assoc]; exact el
          · rw [← addF_put e]; exact hDw.put _ _
          · rw [putK_new hDw hnone, hwl, List.length_append]; rfl
end
end HK

set_option Elab.async false
set_option linter.all false
set_option maxRecDepth 100000
set_option maxHeartbeats 2000000
/-! list(d.values()); set(t) of a tuple of whole numbers -/
namespace HkL
open PySem PySem.Spec PyProof.Rows L2
section
variable {X : Cx} {e : Expr} {te : TE} {p apos cpos pos : Pos}
def tListVals (te : TE) : TE := fun σ H Q => te σ H fun x H1 => ∃ (d : Addr) (kvs : List (Key × V)), x = .ref d ∧ Rd H1 d (.dK kvs) ∧ kvs.length ≤ sizeLine ∧ ∀ q, H1 q = none → Q (.ref q) (upd H1 q (.lst (kvs.map (·.2))))
theorem dict_at {pins : List (Addr × Obj)} {σ : L2.St} {H : Hp} {s : Shared} {d : Addr} {kvs : List (Key × V)} (I : Inv X pins σ H s) (h : Rd H d (.dK kvs)) : ∃ vs ep, KV kvs vs ∧ s.heap.DictAt (mixKind X.prog X.w) d vs ep ∧ (d == sysModules) = false := by
  rcases h with h | ⟨o, h⟩
  · obtain ⟨z, lo, vs, rk, hd⟩ := (show ObjOk X.prog X.w H s.heap d (.dK kvs) from I.hok d _ h)
    obtain ⟨ep, hat⟩ := hd.dictAt
    exact ⟨vs, ep, rk, hat, lo⟩
  · obtain ⟨hs, hgd, hx, es, ep, vs, hdt, hsz, kv, hm⟩ := I.frzK h
    exact ⟨vs, ep, kv, hm, hs⟩
theorem pe_listVals (hc : X.calm = true) (he : PE X e te) (hg : Gl X "list") (hm : X.mg "list" = none) (hv : bootBuiltins "list" = some (.type "list")) (hbase : attributeBase e "values" X.env (eval e X.env) = eval e X.env := by rfl) (hline : (apos.endLine == cpos.line) = true := by rfl)
    (hs : starEach [.Call (.Attribute e "values" apos) [] [] cpos] X.env = (false, eval (.Call (.Attribute e "values" apos) [] [] cpos) X.env) :: starEach [] X.env := by rfl) :
    PE X (.Call (.Name "list" p) [.Call (.Attribute e "values" apos) [] [] cpos] [] pos) (tListVals te) := by
  refine ⟨fun pins s σ H Q I hq => ?_⟩
  refine wpAny_Call_Name_kw (ld_blt I hg hm hv ?_)
  refine PyProof.Rows.callWith_type1 ?_ hs rfl
  rw [hs]
  show wpAny _ _ (spliced ((false, eval (.Call (.Attribute e "values" apos) [] [] cpos) X.env) :: backTo pos (starEach [] X.env))) _ _ s
  refine Calls.spliced_cons ?_
  refine wpAny_Call_method (T := "dict") (id := "dict.values") hbase rfl hline F.plainAttrs_dict F.slot_dict_values F.type_dict_values (thn (he.run pins s σ H _ I hq) fun u s1 ⟨x, H1, I1, rx, d, kvs, ex, hd, hz, q⟩ => ?_)
  subst ex
  obtain rfl : u = Value.ref d := rx
  obtain ⟨vs, ep, kv, hat, hs0⟩ := dict_at I1 hd
  have hdo := hat.dictOf
  have lk : kvs.length = vs.length := Paired.length kv
  have I2 : Inv X pins σ H1 { s1 with heap := s1.heap.push { cls := .type "dict_values", data := .fields #[.ref d] } } := I1.kept (t' := s1.toks) fun b ob q => Heap.get?_push_of_some _ q
  refine ⟨hdo.typeIs, hdo.mapOf.noDict, ?_⟩
  show wpAny _ _ (callWith cpos (.builtin "dict.values") [.ref d] [] []) _ X.xe s1
  refine method_meetsIn F.slot_dict_values F.entry_dict_values rfl (PySem.evalArgs_none ⟨rfl, hdo.typeIs, F.args_dict_values_1 _, _, meets_dict_values (mixKind X.prog X.w) d hs0, ⟨vs, hdo⟩, ?_⟩)
  refine Calls.spliced_nil ?_
  refine PySem.W.kdl_call (PySem.W.kdl_values (knd := mixKind X.prog X.w) (kvs := vs) (ep := ep) (r := s1.heap.objs.size) (d := d)) (I1.ok.hd hc) ⟨⟨_, Heap.get?_push_size _ rfl, rfl, rfl⟩, hat.push _⟩ (by rw [← lk]; exact hz) fun h' tk acc' c' hkeep hS hacc => ?_
  refine ⟨.ref _, upd H1 _ (.lst (kvs.map (·.2))), I2.laid hkeep (Nat.le_refl _) (show ObjOk X.prog X.w _ _ _ (.lst (kvs.map (·.2))) from ⟨?_, acc'.toList, c', ?_, ?_⟩), rfl, q _ (I2.hok.fresh (Nat.le_refl _))⟩
  · rw [List.length_map]; exact hz
  · have el : acc'.toList.length = acc'.size := by simp
    refine vals_of_at (by rw [List.length_map, el, hacc.1, lk]) fun j x w h1 h2 => ?_
    obtain ⟨k, hky⟩ := hacc.2 j w (by rw [← Array.getElem?_toList]; exact h2)
    rw [List.getElem?_map] at h1
    cases e2 : kvs[j]? with
    | none => rw [e2] at h1; cases h1
    | some pk =>
      rw [e2] at h1
      cases h1
      obtain ⟨qv, g1, g2, g3⟩ := LiI.paired_get kv e2
      rw [hky] at g1
      cases g1
      exact g3
  · rw [Array.toArray_toList]; exact hS
/-- tuple(l), tuple(t) -/
def rTup (K : PySem.W.Frag) : List V → Hp → VK → Prop := fun xs H Q => ∃ p ys, xs = [.ref p] ∧ ((SqL K H p ys ∧ ∀ l, H l = none → Q (.ref l) (upd H l (.tup ys))) ∨ (SqT K H p ys ∧ Q (.ref p) H))
theorem call_tupR : CallR X (.type "tuple") (rTup X.K) := call_tuple_of
/-- set(t) -/
def rSetT (K : PySem.W.Frag) (w : World) : List V → Hp → VK → Prop := fun vs H Q => ∃ (l : Addr) (ns : List Int), vs = [.ref l] ∧ SqT K H l (ns.map V.int) ∧ ns.length ≤ 1000 ∧ ∀ (p : Addr) (c : Nat), H p = none → c ≤ ns.length → Q (.ref p) (upd H p (SetO w p (fun j => decide (j ∈ ns)) c))
theorem cr_setT (hc : X.calm = true) : CallR X (.type "set") (rSetT X.K X.w) := by
  intro pins s σ H vs us Q I r h
  obtain ⟨l, ns, rfl, hl, hb, q⟩ := h
  cases r with
  | cons r rr =>
    cases rr
    cases r
    obtain ⟨its, rv, pt, hz⟩ := I.tuple hl
    have hi : IntsAre its.toArray.toList ns := ints_of_vals rv
    refine call_set_tupI ns (I.ok.hd hc) (show s.heap.IsTuple l its.toArray from pt) hi (by unfold scanBound; omega) fun h' tk c R1 hcn k => ?_
    exact ⟨.ref _, upd H s.heap.objs.size (SetO X.w s.heap.objs.size (fun j => decide (j ∈ ns)) c), I.laid k (Nat.le_refl _) (setO_new R1), rfl, q _ c (I.hok.fresh (Nat.le_refl _)) hcn⟩
end
end HkL

set_option Elab.async false
set_option linter.all false
set_option maxRecDepth 100000
set_option maxHeartbeats 4000000
namespace HK
open PySem PySem.Spec PyProof.Rows L2 GAl GxR
open Evl (pss_cut)
abbrev sAreP : Stmt := topS 17
abbrev N_scAreP : List Str := ["net", "thing", "place"]
theorem scAreP : FnScope N_scAreP ["net", "thing"] (defScope sAreP) := ⟨rfl, rfl, rfl, by decide +kernel, rfl, by decide +kernel, by decide +kernel⟩
abbrev N_scRises : List Str := ["row", "low", "high"]
/-! ### rising tuples of places -/
def risI (l : List Int) : Bool := (List.range (l.length - 1)).all fun i => decide (l.getD i 0 < l.getD (i + 1) 0)
theorem risI_yes {l : List Int} (h : ∀ j, j < l.length - 1 → l.getD j 0 < l.getD (j + 1) 0) : risI l = true := by
  unfold risI
  rw [List.all_eq_true]
  exact fun j hj => decide_eq_true (h j (List.mem_range.mp hj))
theorem risI_no {l : List Int} {j : Nat} (hj : j < l.length - 1) (h : ¬ l.getD j 0 < l.getD (j + 1) 0) : risI l = false := by
  unfold risI
  rw [Bool.eq_false_iff]
  intro z
  exact h (of_decide_eq_true (List.all_eq_true.mp z j (List.mem_range.mpr hj)))
theorem risI_iff {l : List Int} : risI l = true ↔ l.Pairwise (· < ·) := by
  constructor
  · intro h
    have step : ∀ j, j < l.length - 1 → l.getD j 0 < l.getD (j + 1) 0 := fun j hj => by
      unfold risI at h
      exact of_decide_eq_true (List.all_eq_true.mp h j (List.mem_range.mpr hj))
    have far : ∀ d i, i + d + 1 < l.length → l.getD i 0 < l.getD (i + d + 1) 0 := fun d => by
      induction d with
      | zero => exact fun i hi => step i (by omega)
      | succ d ih =>
        intro i hi
        have h1 := ih i (by omega)
        have h2 := step (i + d + 1) (by omega)
        rw [show i + (d + 1) + 1 = i + d + 1 + 1 by omega]
        omega
    rw [List.pairwise_iff_getElem]
    intro i j hi hj hij
    have := far (j - i - 1) i (by omega)
    rw [show i + (j - i - 1) + 1 = j by omega] at this
    simpa [List.getD_eq_getElem?_getD, List.getElem?_eq_getElem hi, List.getElem?_eq_getElem hj] using this
  · intro h
    refine risI_yes fun j hj => ?_
    have := List.pairwise_iff_getElem.mp h j (j + 1) (by omega) (by omega) (by omega)
    simpa [List.getD_eq_getElem?_getD, List.getElem?_eq_getElem (show j < l.length by omega), List.getElem?_eq_getElem (show j + 1 < l.length by omega)] using this
def AreP (n : Int) (l : List Int) : Prop := (∀ v ∈ l, 0 ≤ v ∧ v < n) ∧ l.Pairwise (· < ·)
theorem AreP.len {n : Int} {l : List Int} (h : AreP n l) : l.length ≤ n.toNat := by
  have nd : l.Nodup := h.2.imp fun a => Int.ne_of_lt a
  have := sub_len (ks := (List.range n.toNat).map fun (i : Nat) => (i : Int)) nd (List.pairwise_map.mpr (List.pairwise_lt_range.imp fun a z => by omega)) fun x hx => by
    obtain ⟨h0, h1⟩ := h.1 x hx
    exact List.mem_map.mpr ⟨x.toNat, List.mem_range.mpr (by omega), by omega⟩
  simpa using this
theorem cut1' (xs : List V) : cutV xs (some 1) none = xs.drop 1 := cut1 xs
theorem getI {ns : List Int} {i : Nat} {x : V} (h : (ns.map V.int)[i]? = some x) : x = .int (ns.getD i 0) := by
  rw [List.getElem?_map] at h
  cases e : ns[i]? with
  | none => rw [e] at h; cases h
  | some v => rw [e] at h; cases h; rw [List.getD_eq_getElem?_getD, e]; rfl
section
variable {P : Program} {w : World} {K : PySem.W.Frag} {mg : Str → Option Value} {base : Heap}
def spRisesI (K : PySem.W.Frag) (Pr : Addr) : Sp := fun vs H Q _ => ∃ (a : Addr) (ns : List Int), vs = [.ref a] ∧ SqT K H a (ns.map V.int) ∧ TabG H Pr ∧ ∀ H', K0 H H' → Q (.bl (risI ns)) H'
theorem ok_risesI {f c Pr : Addr} {fd : FuncData} (F : FunC K "rises" "rises" sRises f fd c) (TB : TabB base mg c Pr) (m_zip : mg "zip" = none) (m_all : mg "all" = none) : FnOk P w K mg base CX0 2 f fd ["row"] (spRisesI K Pr) := by
  refine F.ok scRises (fun vs H Q E h => ?_) (fun A outer s H vs Q E hr h => ?_)
  · obtain ⟨a, ns, rfl, _⟩ := h
    rfl
  · obtain ⟨a, ns, rfl, hS, hP, q⟩ := h
    refine ⟨_, (pss_one (ps_ret (pe_allG (own := [("low", 1), ("high", 2)]) (k := 0) (g := (gTup K 2 (gCons (gName 1) (gCons (gName 2) gNil)))) (tt := tYes) (te := (tOp (rI0 fun i j => .bl (decide (i < j))) (tVar 1) (tVar 2))) (hr.mono (by decide)) (by rfl) m_all rfl scRises.nd TB rfl (gsc_by (N := N_scRises) (sc := defScope sRises) (by decide +kernel)) (RZ.pi_zipA (by rfl) m_zip (pa_cons (pv 0) (pa_cons (pe_slice sl_tupA (pv 0) (po_some pe_int) po_none) pa_nil))) (fun A' hr' _ _ _ _ _ _ => (pg_tup rfl (pgs_cons (pg_name (i := 1) scRises.nd rfl (.inl rfl)) (pgs_cons (pg_name (i := 2) scRises.nd rfl (.inl rfl)) pgs_nil)))) (fun A' hr' _ _ _ _ _ _ => pts_nil) (fun A' hr' _ _ _ _ _ _ => (pe_cmpR op_lt (pv 1) (pv 2) (nomark _)))))), ?_⟩
    have go : ∀ (c : Addr) (H1 : Hp), K0 H H1 → SqT K H1 c ((ns.map V.int).drop 1) → ∃ xs ys, xs = ns.map V.int ∧ SqT K H1 a xs ∧ SqT K H1 c ys ∧ TabG H1 Pr ∧ ∀ H2, Tabbed Pr H1 H2 → ∃ W : Nat → Nat → Hp → Prop, (∃ m, W 0 m H2) ∧
        GTurn (RZ.ItzT K a c) (gTup K 2 (gCons (gName 1) (gCons (gName 2) gNil))) tYes (tOp (rI0 fun i j => .bl (decide (i < j))) (tVar 1) (tVar 2)) [1, 2] [some (.ref a), none, none] (Q (.bl true)) (stpAll (Q (.bl false))) W := fun c H1 k1 hC1 => by
      refine ⟨_, _, rfl, k1.sqT hS, hC1, k1.tab _ hP, fun H2 hT2 => ?_⟩
      have kt := K0.tbd (k1.tab _ hP) hT2
      have k2 : K0 H H2 := k1.trans kt
      refine ⟨fun i m H3 => i + m = ns.length - 1 ∧ K0 H2 H3 ∧ ∀ j, j < i → ns.getD j 0 < ns.getD (j + 1) 0, ⟨ns.length - 1, by omega, K0.refl _, fun j hj => absurd hj (Nat.not_lt_zero _)⟩, fun i m H3 hW => ?_⟩
      obtain ⟨em, k3, hlt⟩ := hW
      have k13 := k2.trans k3
      have hA : SqT K H3 a (ns.map V.int) := k13.sqT hS
      have hC : SqT K H3 c ((ns.map V.int).drop 1) := (kt.trans k3).sqT hC1
      by_cases hi : i < ns.length - 1
      · have h1 : i < (ns.map V.int).length := by rw [List.length_map]; omega
        have h2 : i + 1 < (ns.map V.int).length := by rw [List.length_map]; omega
        have g1 : (ns.map V.int)[i]? = some (ns.map V.int)[i] := List.getElem?_eq_getElem h1
        have g2 : ((ns.map V.int).drop 1)[i]? = some (ns.map V.int)[i + 1] := by rw [List.getElem?_drop, Nat.add_comm 1 i]; exact List.getElem?_eq_getElem h2
        refine .inr ⟨⟨_, _, _, _, hA, hC, g1, g2⟩, fun H' => K0 H2 H' ∧ ns.getD i 0 < ns.getD (i + 1) 0, fun H' hN => ?_, fun x H' hy => ?_⟩
        · obtain ⟨k', hl'⟩ := hN
          refine ⟨m - 1, by omega, by omega, k', fun j hj => ?_⟩
          by_cases e : j = i
          · rw [e]; exact hl'
          · exact hlt j (by omega)
        · obtain ⟨T, x1, x2, rfl, nT, rfl, f1, f2⟩ := hy
          have ex1 : x1 = .int (ns.getD i 0) := getI (f1 _ hA)
          have ex2 : x2 = .int (ns.getD (i + 1) 0) := getI (by
            have := f2 _ hC
            rwa [List.getElem?_drop, Nat.add_comm 1 i] at this)
          subst ex1 ex2
          have kT : K0 H3 (upd H3 T (.tup [.int (ns.getD i 0), .int (ns.getD (i + 1) 0)])) := K0.new nT
          refine ⟨T, _, rfl, .inl (.inl upd_same), rfl, _, _, rfl, _, _, rfl, rfl, rfl, tyes ?_⟩
          refine ⟨_, rfl, _, rfl, _, _, rfl, rfl, _, rfl, ?_⟩
          by_cases hb : ns.getD i 0 < ns.getD (i + 1) 0
          · rw [decide_eq_true hb]
            exact iteT ⟨k3.trans kT, hb⟩
          · rw [decide_eq_false hb]
            exact iteF (qeq (q _ (k13.trans kT)) (risI_no hi hb))
      · refine .inl ⟨⟨_, _, hA, hC, .inr (by rw [List.length_drop, List.length_map]; omega)⟩, ?_⟩
        exact qeq (q _ k13) (risI_yes fun j hj => hlt j (by omega))
    refine ⟨.ref a, rfl, .ref a, rfl, 1, rfl, a, _, rfl, hS, fun z => ?_, fun _ c nc => ?_⟩
    · have e0 : (ns.map V.int).drop 1 = ns.map V.int := by
        cases ns with
        | nil => rfl
        | cons v r =>
          have := z.1
          rw [show HT.sIx ((v :: r).map V.int).length 0 (some 1) = min 1 ((v :: r).map V.int).length from HT.sIx_nat _ 0 1, List.length_map, List.length_cons] at this
          omega
      obtain ⟨xs, ys, e, h1, h2, h3⟩ := go a H (K0.refl H) (by rw [e0]; exact hS)
      exact ⟨a, a, xs, ys, rfl, .inr ⟨h1, h2, h3⟩⟩
    · obtain ⟨xs, ys, e, h1, h2, h3⟩ := go c _ (K0.new nc) (by rw [← cut1]; exact .inl (.inl upd_same))
      exact ⟨a, c, xs, ys, rfl, .inr ⟨h1, h2, h3⟩⟩
def spAreP (K : PySem.W.Frag) (Pr Pa : Addr) : Sp := fun vs H Q _ => ∃ (a : Addr) (n : Int) (rs : List R4) (p : Addr) (ns : List Int), vs = [.ref a, .ref p] ∧ NetAt K H a n rs ∧ SqT K H p (ns.map V.int) ∧ TabG H Pr ∧ TabG H Pa ∧ ∀ (H' : Hp) (b : Bool), K0 H H' → (b = true ↔ AreP n ns) → Q (.bl b) H'
theorem ok_arep {f c Pr Pa : Addr} {fd : FuncData} {f_isplace f_rises : Addr} {fd_isplace fd_rises : FuncData} (F : FunC K "are_places" "are_places" sAreP f fd c) (TB : TabB base mg c Pa)
    (k_isplace : PySem.W.keepIn K (.ref f_isplace) = true) (b_isplace : Binds K fd_isplace ["net", "thing"] []) (g_isplace : mg "is_place" = some (.ref f_isplace)) (G_isplace : FnOk P w K mg base CX0 3 f_isplace fd_isplace ["net", "thing"] (spIsPlace K))
    (k_rises : PySem.W.keepIn K (.ref f_rises) = true) (b_rises : Binds K fd_rises ["row"] []) (g_rises : mg "rises" = some (.ref f_rises)) (G_rises : FnOk P w K mg base CX0 2 f_rises fd_rises ["row"] (spRisesI K Pr))
    (m_isinstance : mg "isinstance" = none) (m_tuple : mg "tuple" = none) (m_all : mg "all" = none) : FnOk P w K mg base CX0 5 f fd ["net", "thing"] (spAreP K Pr Pa) := by
  refine F.ok scAreP (fun vs H Q E h => ?_) (fun A outer s H vs Q E hr h => ?_)
  · obtain ⟨a, n, rs, p, ns, rfl, _⟩ := h
    rfl
  · obtain ⟨a, n, rs, p, ns, rfl, hN, hS, tr, ta, q⟩ := h
    refine ⟨_, (pss_cons (ps_if (pt_not (pt_val (pe_callB call_isi (by rfl) m_isinstance boot_isinstance (pa_cons (pv 1) (pa_cons (pe_bltn (v := .ty "tuple") (by rfl) m_tuple (by decide +kernel) rfl) pa_nil))))) (pss_one (ps_ret pe_bl)) pss_nil)
      (pss_one (ps_ret (pe_and (pe_allG (own := [("place", 2)]) (k := 3) (g := (gName 2)) (tt := tYes) (te := (tCall (spIsPlace K) [] E0 (tCons (tVar 0) (tCons (tVar 2) tNil)))) (hr.mono (by decide)) (by rfl) m_all rfl scAreP.nd TB rfl (gsc_by (N := N_scAreP) (sc := defScope sAreP) (by decide +kernel)) (pi_tup (pv 1)) (fun A' hr' _ _ _ _ _ _ => (pg_name (i := 2) scAreP.nd rfl (.inl rfl))) (fun A' hr' _ _ _ _ _ _ => pts_nil) (fun A' hr' _ _ _ _ _ _ => (pe_call G_isplace (hr'.mono (by decide)) (by rfl) g_isplace k_isplace b_isplace .nil pass0 (pa_cons (pv 0) (pa_cons (pv 2) pa_nil))))) (pe_one (pe_call G_rises (hr.mono (by decide)) (by rfl) g_rises k_rises b_rises .nil pass0 (pa_cons (pv 1) pa_nil))))))), ?_⟩
    refine ⟨_, rfl, .ref p, .ty "tuple", .type "tuple", _, true, rfl, .ty "tuple", sqT_ty hS, kit_ty (tys_tuple (by decide)), _, rfl, iteF ?_⟩
    refine ⟨_, rfl, p, rfl, ⟨_, hS⟩, ta, fun H2 hT2 => ?_⟩
    have k2 : K0 H H2 := K0.tbd ta hT2
    refine ⟨fun i m H3 => i + m = ns.length ∧ K0 H H3 ∧ ∀ v ∈ ns.take i, 0 ≤ v ∧ v < n, ⟨ns.length, by omega, k2, fun v hv => by rw [List.take_zero] at hv; cases hv⟩, fun i m H3 hW => ?_⟩
    obtain ⟨em, k3, hall⟩ := hW
    have hA : SqT K H3 p (ns.map V.int) := k3.sqT hS
    by_cases hi : i < ns.length
    · have h1 : i < (ns.map V.int).length := by rw [List.length_map]; omega
      have g1 : (ns.map V.int)[i]? = some (ns.map V.int)[i] := List.getElem?_eq_getElem h1
      have g0 : ns[i]? = some ns[i] := List.getElem?_eq_getElem hi
      refine .inr ⟨⟨_, _, hA, g1⟩, fun H' => K0 H H' ∧ (0 ≤ ns[i] ∧ ns[i] < n), fun H' hN => ⟨m - 1, by omega, by omega, hN.1, fun v hv => ?_⟩, fun x H' hy => ?_⟩
      · rw [List.take_add_one, g0] at hv
        rcases List.mem_append.mp hv with hv | hv
        · exact hall v hv
        · have := List.mem_singleton.mp hv
          subst this
          exact hN.2
      · obtain ⟨rfl, fx⟩ := hy
        have ex : x = .int ns[i] := by
          have := fx _ hA
          rw [List.getElem?_map, g0] at this
          exact (Option.some.inj this).symm
        subst ex
        refine ⟨rfl, tyes ⟨_, rfl, _, rfl, a, n, rs, ns[i], rfl, hN.k0 k3, _, rfl, ?_⟩⟩
        by_cases hb : 0 ≤ ns[i] ∧ ns[i] < n
        · rw [decide_eq_true hb.1, decide_eq_true (show ns[i] ≤ n - 1 by omega)]
          exact iteT ⟨k3, hb⟩
        · have : (decide (0 ≤ ns[i]) && decide (ns[i] ≤ n - 1)) = false := by
            rw [Bool.eq_false_iff]
            intro z
            rw [Bool.and_eq_true, decide_eq_true_iff, decide_eq_true_iff] at z
            exact hb ⟨z.1, by omega⟩
          rw [this]
          exact iteF ⟨_, rfl, iteF (q _ false k3 ⟨fun z => by (cases z), fun z => absurd (z.1 _ (List.getElem_mem hi)) hb⟩)⟩
    · rw [List.take_of_length_le (by omega)] at hall
      refine .inl ⟨⟨_, hA, by rw [List.length_map]; omega⟩, _, rfl, iteT ?_⟩
      refine ⟨_, rfl, p, ns, rfl, hA, k3.tab _ tr, fun H4 k4 => ?_⟩
      exact q _ _ (k3.trans k4) ⟨fun z => ⟨hall, risI_iff.mp z⟩, fun z => risI_iff.mpr z.2⟩
end
end HK

set_option Elab.async false
set_option linter.all false
set_option maxRecDepth 100000
set_option maxHeartbeats 4000000
namespace HK
open PySem PySem.Spec PyProof.Rows L2 GAl GxR
open Evl (pss_cut)
abbrev sNeedH : Stmt := topS 21
abbrev N_scNeedH : List Str := ["net", "hearers"]
theorem scNeedH : FnScope N_scNeedH ["net", "hearers"] (defScope sNeedH) := ⟨rfl, rfl, rfl, by decide +kernel, rfl, by decide +kernel, by decide +kernel⟩
section
variable {P : Program} {w : World} {K : PySem.W.Frag} {mg : Str → Option Value} {base : Heap}
def spNeedH (K : PySem.W.Frag) (Pr Pa : Addr) : Sp := fun vs H Q _ => ∃ (a : Addr) (n : Int) (rs : List R4) (p : Addr) (ns : List Int), vs = [.ref a, .ref p] ∧ NetAt K H a n rs ∧ SqT K H p (ns.map V.int) ∧ AreP n ns ∧ TabG H Pr ∧ TabG H Pa ∧ ∀ (H' : Hp), K0 H H' → Q .non H'
theorem ok_needh {f Pr Pa : Addr} {fd : FuncData} {f_areplaces : Addr} {fd_areplaces : FuncData} (F : Fun K "need_hearers" "need_hearers" sNeedH f fd)
    (k_areplaces : PySem.W.keepIn K (.ref f_areplaces) = true) (b_areplaces : Binds K fd_areplaces ["net", "thing"] []) (g_areplaces : mg "are_places" = some (.ref f_areplaces)) (G_areplaces : FnOk P w K mg base CX0 5 f_areplaces fd_areplaces ["net", "thing"] (spAreP K Pr Pa)) : FnOk P w K mg base CX0 6 f fd ["net", "hearers"] (spNeedH K Pr Pa) := by
  refine F.ok scNeedH (fun vs H Q E h => ?_) (fun cdv A outer s H vs Q E hr h => ?_)
  · obtain ⟨a, n, rs, p, ns, rfl, _⟩ := h
    rfl
  · obtain ⟨a, n, rs, p, ns, rfl, hN, hS, hA, tr, ta, q⟩ := h
    refine ⟨_, (pss_one (ps_if (pt_not (pt_val (pe_call G_areplaces (hr.mono (by decide)) (by rfl) g_areplaces k_areplaces b_areplaces .nil pass0 (pa_cons (pv 0) (pa_cons (pv 1) pa_nil))))) pss_never pss_nil)), ?_⟩
    refine ⟨_, rfl, _, rfl, a, n, rs, p, ns, rfl, hN, hS, tr, ta, fun H' b k hb => ?_⟩
    have : b = true := hb.mpr hA
    subst this
    exact ⟨_, rfl, iteF (q H' k)⟩
end
end HK

set_option Elab.async false
set_option linter.all false
set_option maxRecDepth 100000
set_option maxHeartbeats 4000000
namespace HK
open PySem PySem.Spec PyProof.Rows L2 GAl GxR
open Evl (pss_cut)
abbrev sServes : Stmt := topS 28
abbrev N_scServes : List Str := ["root", "hearers", "ahead", "place"]
theorem scServes : FnScope N_scServes ["root", "hearers", "ahead"] (defScope sServes) := ⟨rfl, rfl, rfl, by decide +kernel, rfl, by decide +kernel, by decide +kernel⟩
/-! ### trim trees -/
def ServP (root : Int) (g : IF) (l : List Int) : Prop := ∀ v ∈ l, v = root ∨ (g v).isSome = true
def TrimP (rs : List R4) (root : Int) (g : IF) (m : Nat) (l : List Int) : Prop := TreeP rs root g m ∧ ServP root g l ∧ ∀ v x, g v = some x → v ∈ l ∨ ∃ u, g u = some v
theorem DI.vals {kvs : List (Key × V)} {f : IF} (h : DI kvs f) : ∃ xs : List Int, kvs.map (·.2) = xs.map V.int ∧ ∀ x, x ∈ xs ↔ ∃ v, f v = some x := by
  have aux : ∀ {l : List (Key × V)}, (∀ p ∈ l, ∃ i x : Int, p = (Sum.inl i, V.int x)) → ∃ xs : List Int, l.map (·.2) = xs.map V.int := fun {l} => by
    induction l with
    | nil => exact fun _ => ⟨[], rfl⟩
    | cons p r ih =>
      intro hl
      obtain ⟨xs, e⟩ := ih fun q hq => hl q (List.mem_cons_of_mem _ hq)
      obtain ⟨i, x, rfl⟩ := hl p (List.mem_cons_self ..)
      exact ⟨x :: xs, by rw [List.map_cons, List.map_cons, e]⟩
  obtain ⟨xs, e⟩ := aux h.ks
  refine ⟨xs, e, fun x => ⟨fun hx => ?_, fun ⟨v, ev⟩ => ?_⟩⟩
  · have : V.int x ∈ kvs.map (·.2) := by rw [e]; exact List.mem_map.mpr ⟨x, hx, rfl⟩
    obtain ⟨p, hp, ep⟩ := List.mem_map.mp this
    obtain ⟨i, y, rfl, e2⟩ := h.at_ hp
    cases ep
    exact ⟨i, e2⟩
  · have := (h.mem v).mpr (by rw [ev]; rfl)
    obtain ⟨p, hp, ep⟩ := List.mem_map.mp this
    obtain ⟨i, y, rfl, e2⟩ := h.at_ hp
    cases ep
    rw [ev] at e2
    cases e2
    have : V.int x ∈ kvs.map (·.2) := List.mem_map.mpr ⟨_, hp, rfl⟩
    rw [e] at this
    obtain ⟨y, hy, ey⟩ := List.mem_map.mp this
    cases ey
    exact hy
theorem flat_ints' (L : List Int) : (L.map V.int).all flatV = true := by
  rw [List.all_map, List.all_eq_true]
  exact fun _ _ => rfl
theorem inV_iff' (i : Int) (L : List Int) : inV (.int i) (L.map V.int) = decide (i ∈ L) := by
  rw [Bool.eq_iff_iff, decide_eq_true_iff]
  constructor
  · intro h
    unfold inV at h
    rw [List.any_map, List.any_eq_true] at h
    obtain ⟨j, hj, e⟩ := h
    have : j = i := by simpa [eqV] using e
    rw [← this]; exact hj
  · exact fun h => inV_mem h
section
variable {P : Program} {w : World} {K : PySem.W.Frag} {mg : Str → Option Value} {base : Heap}
def spServes (K : PySem.W.Frag) (Ps : Addr) : Sp := fun vs H Q _ => ∃ (root : Int) (p : Addr) (ns : List Int) (d : Addr) (kvs : List (Key × V)) (g : IF), vs = [.int root, .ref p, .ref d] ∧ SqT K H p (ns.map V.int) ∧ H d = some (.dK kvs) ∧ DI kvs g ∧ TabG H Ps ∧ ∀ (H' : Hp) (b : Bool), K0 H H' → (b = true ↔ ServP root g ns) → Q (.bl b) H'
theorem ok_serves {f c Ps : Addr} {fd : FuncData} (F : FunC K "serves" "serves" sServes f fd c) (TB : TabB base mg c Ps) (m_all : mg "all" = none) : FnOk P w K mg base CX0 2 f fd ["root", "hearers", "ahead"] (spServes K Ps) := by
  refine F.ok scServes (fun vs H Q E h => ?_) (fun A outer s H vs Q E hr h => ?_)
  · obtain ⟨root, p, ns, d, kvs, g, rfl, _⟩ := h
    rfl
  · obtain ⟨root, p, ns, d, kvs, g, rfl, hS, hd, hD, ts, q⟩ := h
    refine ⟨_, (pss_one (ps_ret (pe_allG (own := [("place", 3)]) (k := 0) (g := (gName 3)) (tt := tYes) (te := (tOrV (tOp rEq (tVar 3) (tVar 0)) (tDIn (tVar 3) (tVar 2)))) (hr.mono (by decide)) (by rfl) m_all rfl scServes.nd TB rfl (gsc_by (N := N_scServes) (sc := defScope sServes) (by decide +kernel)) (pi_tup (pv 1)) (fun A' hr' _ _ _ _ _ _ => (pg_name (i := 3) scServes.nd rfl (.inl rfl))) (fun A' hr' _ _ _ _ _ _ => pts_nil) (fun A' hr' _ _ _ _ _ _ => (pe_or (pe_cmpR op_eq (pv 3) (pv 0) (nomark _)) (pe_one (pe_cmp (pc_din (hu_of hr') (pv 3) (pv 2))))))))), ?_⟩
    refine ⟨_, rfl, p, rfl, ⟨_, hS⟩, ts, fun H2 hT2 => ?_⟩
    have k2 : K0 H H2 := K0.tbd ts hT2
    refine ⟨fun i m H3 => i + m = ns.length ∧ K0 H H3 ∧ ServP root g (ns.take i), ⟨ns.length, by omega, k2, fun v hv => by rw [List.take_zero] at hv; cases hv⟩, fun i m H3 hW => ?_⟩
    obtain ⟨em, k3, hall⟩ := hW
    have hA : SqT K H3 p (ns.map V.int) := k3.sqT hS
    by_cases hi : i < ns.length
    · have h1 : i < (ns.map V.int).length := by rw [List.length_map]; omega
      have g1 : (ns.map V.int)[i]? = some (ns.map V.int)[i] := List.getElem?_eq_getElem h1
      have g0 : ns[i]? = some ns[i] := List.getElem?_eq_getElem hi
      refine .inr ⟨⟨_, _, hA, g1⟩, fun H' => K0 H H' ∧ (ns[i] = root ∨ (g ns[i]).isSome = true), fun H' hN => ⟨m - 1, by omega, by omega, hN.1, fun v hv => ?_⟩, fun x H' hy => ?_⟩
      · rw [List.take_add_one, g0] at hv
        rcases List.mem_append.mp hv with hv | hv
        · exact hall v hv
        · have := List.mem_singleton.mp hv
          subst this
          exact hN.2
      · obtain ⟨rfl, fx⟩ := hy
        have ex : x = .int ns[i] := by
          have := fx _ hA
          rw [List.getElem?_map, g0] at this
          exact (Option.some.inj this).symm
        subst ex
        refine ⟨rfl, tyes ⟨_, rfl, _, rfl, rfl, _, rfl, ?_⟩⟩
        by_cases hb : ns[i] = root
        · rw [decide_eq_true (show V.int ns[i] = V.int root by rw [hb])]
          exact iteT ⟨_, rfl, iteT ⟨k3, .inl hb⟩⟩
        · rw [decide_eq_false (show ¬ V.int ns[i] = V.int root from fun z => hb (V.int.inj z))]
          refine iteF ⟨_, rfl, _, rfl, d, _, rfl, dgetR (.inl (k3.oth d _ hd (fun _ z => by cases z))) hD ns[i], _, rfl, ?_⟩
          cases eg : g ns[i] with
          | some y => exact iteT ⟨k3, .inr rfl⟩
          | none =>
            refine iteF (q _ false k3 ⟨fun z => by (cases z), fun z => ?_⟩)
            rcases z _ (List.getElem_mem hi) with z | z
            · exact absurd z hb
            · rw [eg] at z; cases z
    · rw [List.take_of_length_le (by omega)] at hall
      exact .inl ⟨⟨_, hA, by rw [List.length_map]; omega⟩, q _ true k3 ⟨fun _ => hall, fun _ => rfl⟩⟩
end
end HK

set_option Elab.async false
set_option linter.all false
set_option maxRecDepth 100000
set_option maxHeartbeats 4000000
namespace HK
open PySem PySem.Spec PyProof.Rows L2 GAl GxR
open Evl (pss_cut)
abbrev sTrimmed : Stmt := topS 29
abbrev N_scTrimmed : List Str := ["hearers", "ahead", "kept", "place", "at"]
theorem scTrimmed : FnScope N_scTrimmed ["hearers", "ahead"] (defScope sTrimmed) := ⟨rfl, rfl, rfl, by decide +kernel, rfl, by decide +kernel, by decide +kernel⟩
abbrev sCut : Stmt := topS 38
abbrev N_scCut : List Str := ["net", "root", "hearers", "ahead"]
theorem scCut : FnScope N_scCut ["net", "root", "hearers", "ahead"] (defScope sCut) := ⟨rfl, rfl, rfl, by decide +kernel, rfl, by decide +kernel, by decide +kernel⟩
/-! ### the part of a dict that lies on the ways of some -/
open Classical in
noncomputable def resF (S : Int → Prop) (g : IF) : IF := fun v => if S v then g v else none
theorem resF_put {S : Int → Prop} {g : IF} {v x : Int} (e : g v = some x) : HK.put (resF S g) v x = resF (fun u => S u ∨ u = v) g := by
  funext u
  unfold HK.put resF
  by_cases h : u = v
  · subst h
    rw [if_pos rfl, if_pos (Or.inr rfl), e]
  · rw [if_neg h]
    by_cases hs : S u
    · rw [if_pos hs, if_pos (Or.inl hs)]
    · rw [if_neg hs, if_neg (fun z => z.elim hs h)]
theorem resF_congr {S T : Int → Prop} {g : IF} (h : ∀ v x, g v = some x → (S v ↔ T v)) : resF S g = resF T g := by
  funext v
  unfold resF
  by_cases hs : S v
  · rw [if_pos hs]
    by_cases ht : T v
    · rw [if_pos ht]
    · rw [if_neg ht]
      cases e : g v with
      | none => rfl
      | some x => exact absurd ((h v x e).mp hs) ht
  · rw [if_neg hs]
    by_cases ht : T v
    · rw [if_pos ht]
      cases e : g v with
      | none => rfl
      | some x => exact absurd ((h v x e).mpr ht) hs
    · rw [if_neg ht]
theorem resF_none {S : Int → Prop} {g : IF} {v : Int} (h : g v = none) : resF S g v = none := by
  unfold resF
  rw [h]
  simp
theorem resF_some {S : Int → Prop} {g : IF} {v x : Int} : resF S g v = some x ↔ S v ∧ g v = some x := by
  unfold resF
  by_cases h : S v <;> simp [h]
def OnW (g : IF) (l : List Int) (u : Int) : Prop := ∃ h ∈ l, ∃ j, u = clm g j h
noncomputable def keptF (g : IF) (l : List Int) : IF := resF (OnW g l) g
theorem kept_nil {g : IF} : keptF g [] = fun _ => none := by
  funext v
  cases e : keptF g [] v with
  | none => rfl
  | some x =>
    obtain ⟨⟨h, hh, _⟩, _⟩ := resF_some.mp e
    cases hh
theorem clm_kept {g : IF} {l : List Int} {v : Int} (h : OnW g l v) : ∀ k, clm (keptF g l) k v = clm g k v ∧ OnW g l (clm g k v)
  | 0 => ⟨rfl, h⟩
  | k + 1 => by
    obtain ⟨ih, w⟩ := clm_kept h k
    have e : keptF g l (clm g k v) = g (clm g k v) := by
      unfold keptF resF
      simp [w]
    refine ⟨?_, ?_⟩
    · show stp (keptF g l) (clm (keptF g l) k v) = stp g (clm g k v)
      rw [ih]
      unfold stp
      rw [e]
    · obtain ⟨a, ha, j, ej⟩ := w
      exact ⟨a, ha, j + 1, by show stp g (clm g k v) = stp g (clm g j a); rw [ej]⟩
theorem onW_self {g : IF} {l : List Int} {h : Int} (hh : h ∈ l) : OnW g l h := ⟨h, hh, 0, rfl⟩
theorem onW_kept {g : IF} {l : List Int} {v : Int} : OnW (keptF g l) l v ↔ OnW g l v := by
  constructor
  · rintro ⟨h, hh, j, rfl⟩
    rw [(clm_kept (onW_self hh) j).1]
    exact (clm_kept (onW_self hh) j).2
  · rintro ⟨h, hh, j, rfl⟩
    exact ⟨h, hh, j, ((clm_kept (onW_self hh) j).1).symm⟩
theorem kept_kept {g : IF} {l : List Int} : keptF (keptF g l) l = keptF g l := by
  funext v
  cases e : keptF g l v with
  | none => exact resF_none e
  | some x => exact resF_some.mpr ⟨onW_kept.mpr (resF_some.mp e).1, e⟩
theorem DI.le {ls kvs : List (Key × V)} {f g : IF} (h : DI ls f) (h' : DI kvs g) (hs : ∀ v x, f v = some x → (g v).isSome = true) : ls.length ≤ kvs.length := by
  obtain ⟨ks, n1, l1, m1, _⟩ := h.keys
  obtain ⟨ks', n2, l2, m2, _⟩ := h'.keys
  rw [← l1, ← l2]
  refine sub_len n1 n2 fun x hx => (m2 x).mpr ?_
  obtain ⟨y, e⟩ := Option.isSome_iff_exists.mp ((m1 x).mp hx)
  exact hs x y e
/-- what is kept is a trim tree -/
theorem kept_trim {rs : List R4} {root : Int} {kvs ls : List (Key × V)} {g : IF} {l : List Int} (hD : DI kvs g) (hL : DI ls (keptF g l)) (hT : TreeP rs root g kvs.length) (hS : ServP root g l) : TrimP rs root (keptF g l) ls.length l := by
  obtain ⟨hr, hroads, hup⟩ := hT
  refine ⟨⟨resF_none hr, fun v x e => hroads v x (resF_some.mp e).2, fun v x e => ?_⟩, fun v hv => ?_, fun v x e => ?_⟩
  · obtain ⟨w, eg⟩ := resF_some.mp e
    have := hup v x eg
    refine clm_len hL (resF_none hr) (m := kvs.length) ?_
    rw [(clm_kept w _).1]
    exact this
  · rcases hS v hv with h | h
    · exact .inl h
    · obtain ⟨x, ex⟩ := Option.isSome_iff_exists.mp h
      exact .inr (by rw [show keptF g l v = some x from resF_some.mpr ⟨onW_self hv, ex⟩]; rfl)
  · obtain ⟨⟨h, hh, j, ej⟩, eg⟩ := resF_some.mp e
    subst ej
    clear e eg
    induction j with
    | zero => exact .inl hh
    | succ j ih =>
      cases eg : g (clm g j h) with
      | none =>
        rw [show clm g (j + 1) h = clm g j h from stp_none eg]
        exact ih
      | some y =>
        refine .inr ⟨clm g j h, ?_⟩
        rw [show clm g (j + 1) h = y from stp_some eg]
        exact resF_some.mpr ⟨⟨h, hh, j, rfl⟩, eg⟩
/-- each hearer's way ends -/
theorem serv_end {rs : List R4} {root : Int} {g : IF} {m : Nat} {l : List Int} (hT : TreeP rs root g m) (hS : ServP root g l) : ∀ h ∈ l, clm g m h = root := fun h hh => by
  rcases hS h hh with e | e
  · rw [e]
    have := clm_root (v := root) (i := 0) hT.1 rfl m
    rwa [Nat.zero_add] at this
  · obtain ⟨x, ex⟩ := Option.isSome_iff_exists.mp e
    exact hT.2.2 h x ex
section
variable {P : Program} {w : World} {K : PySem.W.Frag} {mg : Str → Option Value} {base : Heap}
def spTrimmed (K : PySem.W.Frag) : Sp := fun vs H Q _ => ∃ (p : Addr) (ns : List Int) (d : Addr) (kvs : List (Key × V)) (g : IF) (root : Int), vs = [.ref p, .ref d] ∧ SqT K H p (ns.map V.int) ∧ H d = some (.dK kvs) ∧ DI kvs g ∧ kvs.length ≤ 5000 ∧ g root = none ∧ (∀ h ∈ ns, clm g kvs.length h = root) ∧
  ∀ (q : Addr) (ls : List (Key × V)) (H' : Hp), K0 H H' → H q = none → H' q = some (.dK ls) → DI ls (keptF g ns) → ls.length ≤ kvs.length → Q (.ref q) H'
theorem ok_trimmed {f : Addr} {fd : FuncData} (F : Fun K "trimmed" "trimmed" sTrimmed f fd) : FnOk P w K mg base CX0 1 f fd ["hearers", "ahead"] (spTrimmed K) := by
  refine F.ok scTrimmed (fun vs H Q E h => ?_) (fun cdv A outer s H vs Q E hr h => ?_)
  · obtain ⟨p, ns, d, kvs, g, root, rfl, _⟩ := h
    rfl
  · obtain ⟨p, ns, d, kvs, g, root, rfl, hS, hd, hD, hkl, hroot, hend, q⟩ := h
    have hu := hu_of hr
    refine ⟨_, (pss_cons (ps_set (i := 2) scTrimmed.nd rfl (.inl rfl) pe_dnewK)
      (pss_cons (ps_for PassesOwn.never rfl (pi_tup (pv 0)) (pg_name (i := 3) scTrimmed.nd rfl (.inl rfl))
      (pss_cons (ps_set (i := 4) scTrimmed.nd rfl (.inl rfl) (pv 3))
      (pss_one (ps_while PassesOwn.never (pt_cmp (pc_din hu (pv 4) (pv 1)))
      (pss_cons (ps_dput hu (pv 2) (pv 4) (pe_dget hu (pv 1) (pv 4) (fun _ _ => rfl)) rfl)
      (pss_one (ps_set (i := 4) scTrimmed.nd rfl (.inl rfl) (pe_dget hu (pv 1) (pv 4) (fun _ _ => rfl)))))))))
      (pss_one (ps_ret (pv 2))))), ?_⟩
    refine fun t nt => ?_
    have k1 : K0 H (upd H t (.dK [])) := K0.new nt
    have d0 : DI [] (resF (fun _ => False) g) := ⟨List.nodup_nil, fun p hp => (by cases hp), fun i => by unfold resF; simp; rfl⟩
    have inc : ∀ {S : Int → Prop} {ls : List (Key × V)}, DI ls (resF S g) → ls.length ≤ kvs.length := fun {S ls} h => h.le hD fun v x e => by rw [(resF_some.mp e).2]; rfl
    refine ⟨_, rfl, p, rfl, ⟨_, k1.sqT hS⟩, for_tup (xs := ns.map V.int) (fun i σ' H' => ∃ y3 y4, σ' = [some (.ref p), some (.ref d), some (.ref t), y3, y4] ∧ K0 H H' ∧ ∃ ls, H' t = some (.dK ls) ∧ DI ls (resF (OnW g (ns.take i)) g))
      ⟨none, none, rfl, k1, [], upd_same, by rw [resF_congr (T := fun _ => False)]; exact d0; intro v x _; rw [List.take_zero]; exact ⟨fun ⟨h, hh, _⟩ => by (cases hh), fun z => z.elim⟩⟩ (fun i σ' H' _ h => ?_) (fun i x σ' H' hx h => ?_) (fun σ' H' h => ?_)⟩
    · obtain ⟨_, _, _, k, _⟩ := h
      exact k.sqT hS
    · obtain ⟨y3, y4, rfl, k2, ls, hls, hDI⟩ := h
      rw [List.getElem?_map] at hx
      cases ev : ns[i]? with
      | none => rw [ev] at hx; cases hx
      | some v =>
      rw [ev] at hx
      cases hx
      have hv := hend v (List.mem_of_getElem? ev)
      refine ⟨_, rfl, ?_⟩
      refine ⟨fun m σ' H' => ∃ k, σ' = [some (.ref p), some (.ref d), some (.ref t), some (.int v), some (.int (clm g k v))] ∧ K0 H H' ∧ k + m = kvs.length + 1 ∧ ∃ ls, H' t = some (.dK ls) ∧ DI ls (resF (fun u => OnW g (ns.take i) u ∨ ∃ j, j < k ∧ u = clm g j v) g), ⟨kvs.length + 1, 0, rfl, k2, by omega, ls, hls, by
        rw [resF_congr (T := OnW g (ns.take i))]
        · exact hDI
        · intro u x _
          exact ⟨fun z => z.elim id (fun ⟨j, hj, _⟩ => absurd hj (Nat.not_lt_zero _)), .inl⟩⟩, ?_⟩
      rintro m σ' H2 ⟨k, rfl, k3, em, ls, hls, hDI⟩
      have hd3 := k3.oth d _ hd (fun _ z => by cases z)
      have dg := dgetR (.inl hd3) hD (clm g k v)
      refine ⟨_, rfl, _, rfl, d, _, rfl, dg, _, rfl, ?_⟩
      cases eg : g (clm g k v) with
      | none =>
        refine ⟨_, _, rfl, k3, ls, hls, ?_⟩
        rw [resF_congr (T := fun u => OnW g (ns.take i) u ∨ ∃ j, j < k ∧ u = clm g j v)]
        · exact hDI
        · intro u x eu
          rw [List.take_add_one, ev]
          constructor
          · rintro ⟨h, hh, j, rfl⟩
            rcases List.mem_append.mp hh with hh | hh
            · exact .inl ⟨h, hh, j, rfl⟩
            · have := List.mem_singleton.mp hh
              subst this
              refine .inr ⟨j, Nat.lt_of_not_le fun hle => ?_, rfl⟩
              have := clm_fix eg (j - k)
              rw [show k + (j - k) = j by omega] at this
              rw [this, eg] at eu
              cases eu
          · rintro (⟨h, hh, j, rfl⟩ | ⟨j, _, rfl⟩)
            · exact ⟨h, List.mem_append_left _ hh, j, rfl⟩
            · exact ⟨v, List.mem_append_right _ (List.mem_singleton.mpr rfl), j, rfl⟩
      | some y =>
        rw [eg] at dg
        have hk : k < kvs.length := by
          refine Nat.lt_of_not_le fun hle => ?_
          have := clm_root hroot hv (k - kvs.length)
          rw [show kvs.length + (k - kvs.length) = k by omega] at this
          rw [this, hroot] at eg
          cases eg
        refine ⟨fun σ' H' => ∃ k', k' = k + 1 ∧ σ' = [some (.ref p), some (.ref d), some (.ref t), some (.int v), some (.int (clm g k' v))] ∧ K0 H H' ∧ ∃ ls, H' t = some (.dK ls) ∧ DI ls (resF (fun u => OnW g (ns.take i) u ∨ ∃ j, j < k' ∧ u = clm g j v) g), fun σ' H' ⟨k', e1, e2, e3, e4⟩ => ⟨m - 1, by omega, k', e2, e3, by omega, e4⟩, ?_⟩
        refine ⟨_, rfl, _, rfl, d, _, rfl, dg, _, rfl, _, rfl, t, _, rfl, DPut.k (k := Sum.inl (clm g k v)) hls (Nat.lt_of_le_of_lt (m := 5000) (Nat.le_trans (inc hDI) hkl) (by decide)), ?_⟩
        have k4 := k3.mut (p := t) (o := .dK (putK ls (Sum.inl (clm g k v)) (.int y))) nt
        have htd : d ≠ t := fun z => by rw [z, nt] at hd; cases hd
        have dg2 := dgetR (.inl (show upd H2 t (.dK (putK ls (Sum.inl (clm g k v)) (.int y))) d = some (.dK kvs) by rw [upd_ne htd]; exact hd3)) hD (clm g k v)
        rw [eg] at dg2
        refine ⟨_, rfl, _, rfl, d, _, rfl, dg2, k + 1, rfl, by rw [show clm g (k + 1) v = y from stp_some eg]; rfl, k4, _, upd_same, ?_⟩
        have := hDI.put (clm g k v) y
        rw [resF_put eg] at this
        rw [resF_congr (T := fun u => (OnW g (ns.take i) u ∨ ∃ j, j < k ∧ u = clm g j v) ∨ u = clm g k v)]
        · exact this
        · intro u x _
          constructor
          · rintro (h | ⟨j, hj, e⟩)
            · exact .inl (.inl h)
            · by_cases hjk : j = k
              · subst hjk; exact .inr e
              · exact .inl (.inr ⟨j, by omega, e⟩)
          · rintro ((h | ⟨j, hj, e⟩) | e)
            · exact .inl h
            · exact .inr ⟨j, by omega, e⟩
            · exact .inr ⟨k, by omega, e⟩
    · obtain ⟨y3, y4, rfl, k2, ls, hls, hDI⟩ := h
      rw [List.length_map, List.take_of_length_le (Nat.le_refl _)] at hDI
      exact ⟨_, rfl, q t ls _ k2 nt hls hDI (inc hDI)⟩
def spCut (K : PySem.W.Frag) (Pn Pr Pa Pp Pg Ps : Addr) : Sp := fun vs H Q _ => ∃ (a : Addr) (n : Int) (rs : List R4) (root : Int) (p : Addr) (ns : List Int) (d : Addr) (kvs : List (Key × V)) (g : IF), vs = [.ref a, .int root, .ref p, .ref d] ∧ NetAt K H a n rs ∧ Good n rs ∧ rs.length ≤ 156 ∧ 0 ≤ root ∧ root < n ∧
  SqT K H p (ns.map V.int) ∧ AreP n ns ∧ H d = some (.dK kvs) ∧ DI kvs g ∧ kvs.length ≤ 5000 ∧ TreeP rs root g kvs.length ∧ ServP root g ns ∧ TbL H [Pn, Pr, Pa, Pp, Pg, Ps] ∧
  ∀ (q : Addr) (ls : List (Key × V)) (H' : Hp), K0 H H' → H q = none → H' q = some (.dK ls) → DI ls (keptF g ns) → ls.length ≤ kvs.length → Q (.ref q) H'
theorem ok_cut {f Pn Pr Pa Pp Pg Ps : Addr} {fd : FuncData} {f_neednet f_needplace f_needhearers f_needtree f_serves f_trimmed : Addr} {fd_neednet fd_needplace fd_needhearers fd_needtree fd_serves fd_trimmed : FuncData} (F : Fun K "cut" "cut" sCut f fd)
    (k_neednet : PySem.W.keepIn K (.ref f_neednet) = true) (b_neednet : Binds K fd_neednet ["net"] []) (g_neednet : mg "need_net" = some (.ref f_neednet)) (G_neednet : FnOk P w K mg base CX0 6 f_neednet fd_neednet ["net"] (spNeedNet K Pn Pr))
    (k_needplace : PySem.W.keepIn K (.ref f_needplace) = true) (b_needplace : Binds K fd_needplace ["net", "place"] []) (g_needplace : mg "need_place" = some (.ref f_needplace)) (G_needplace : FnOk P w K mg base CX0 4 f_needplace fd_needplace ["net", "place"] (spNeedPlace K))
    (k_needhearers : PySem.W.keepIn K (.ref f_needhearers) = true) (b_needhearers : Binds K fd_needhearers ["net", "hearers"] []) (g_needhearers : mg "need_hearers" = some (.ref f_needhearers)) (G_needhearers : FnOk P w K mg base CX0 6 f_needhearers fd_needhearers ["net", "hearers"] (spNeedH K Pr Pa))
    (k_needtree : PySem.W.keepIn K (.ref f_needtree) = true) (b_needtree : Binds K fd_needtree ["net", "root", "ahead"] []) (g_needtree : mg "need_tree" = some (.ref f_needtree)) (G_needtree : FnOk P w K mg base CX0 5 f_needtree fd_needtree ["net", "root", "ahead"] (spNeedTree K Pp Pg))
    (k_serves : PySem.W.keepIn K (.ref f_serves) = true) (b_serves : Binds K fd_serves ["root", "hearers", "ahead"] []) (g_serves : mg "serves" = some (.ref f_serves)) (G_serves : FnOk P w K mg base CX0 2 f_serves fd_serves ["root", "hearers", "ahead"] (spServes K Ps))
    (k_trimmed : PySem.W.keepIn K (.ref f_trimmed) = true) (b_trimmed : Binds K fd_trimmed ["hearers", "ahead"] []) (g_trimmed : mg "trimmed" = some (.ref f_trimmed)) (G_trimmed : FnOk P w K mg base CX0 1 f_trimmed fd_trimmed ["hearers", "ahead"] (spTrimmed K)) : FnOk P w K mg base CX0 7 f fd ["net", "root", "hearers", "ahead"] (spCut K Pn Pr Pa Pp Pg Ps) := by
  refine F.ok scCut (fun vs H Q E h => ?_) (fun cdv A outer s H vs Q E hr h => ?_)
  · obtain ⟨a, n, rs, root, p, ns, d, kvs, g, rfl, _⟩ := h
    rfl
  · obtain ⟨a, n, rs, root, p, ns, d, kvs, g, rfl, hN, hG, hl, r0, r1, hS, hA, hd, hD, hkl, hT, hServ, tb, q⟩ := h
    refine ⟨_, (pss_cons (ps_expr (pe_call G_neednet (hr.mono (by decide)) (by rfl) g_neednet k_neednet b_neednet .nil pass0 (pa_cons (pv 0) pa_nil)))
      (pss_cons (ps_expr (pe_call G_needplace (hr.mono (by decide)) (by rfl) g_needplace k_needplace b_needplace .nil pass0 (pa_cons (pv 0) (pa_cons (pv 1) pa_nil))))
      (pss_cons (ps_expr (pe_call G_needhearers (hr.mono (by decide)) (by rfl) g_needhearers k_needhearers b_needhearers .nil pass0 (pa_cons (pv 0) (pa_cons (pv 2) pa_nil))))
      (pss_cons (ps_expr (pe_call G_needtree (hr.mono (by decide)) (by rfl) g_needtree k_needtree b_needtree .nil pass0 (pa_cons (pv 0) (pa_cons (pv 1) (pa_cons (pv 3) pa_nil)))))
      (pss_cons (ps_if (pt_not (pt_val (pe_call G_serves (hr.mono (by decide)) (by rfl) g_serves k_serves b_serves .nil pass0 (pa_cons (pv 1) (pa_cons (pv 2) (pa_cons (pv 3) pa_nil)))))) pss_never pss_nil)
      (pss_one (ps_ret (pe_call G_trimmed (hr.mono (by decide)) (by rfl) g_trimmed k_trimmed b_trimmed .nil pass0 (pa_cons (pv 2) (pa_cons (pv 3) pa_nil)))))))))), ?_⟩
    refine ⟨_, rfl, a, n, rs, rfl, hN, hG, hl, tb Pn (by simp), tb Pr (by simp), fun H1 k1 => ?_⟩
    refine ⟨_, rfl, _, rfl, a, n, rs, root, rfl, hN.k0 k1, r0, r1, ?_⟩
    refine ⟨_, rfl, _, rfl, a, n, rs, p, ns, rfl, hN.k0 k1, k1.sqT hS, hA, k1.tab _ (tb Pr (by simp)), k1.tab _ (tb Pa (by simp)), fun H2 k2 => ?_⟩
    have k12 := k1.trans k2
    refine ⟨_, rfl, _, rfl, _, rfl, a, n, rs, root, d, kvs, g, rfl, hN.k0 k12, hG, hl, k12.oth d _ hd (fun _ z => by cases z), hD, hkl, hT, k12.tab _ (tb Pp (by simp)), k12.tab _ (tb Pg (by simp)), fun H3 k3 => ?_⟩
    have k13 := k12.trans k3
    refine ⟨_, rfl, _, rfl, _, rfl, root, p, ns, d, kvs, g, rfl, k13.sqT hS, k13.oth d _ hd (fun _ z => by cases z), hD, k13.tab _ (tb Ps (by simp)), fun H4 b k4 hb => ?_⟩
    have hbt : b = true := hb.mpr hServ
    subst hbt
    have k14 := k13.trans k4
    refine ⟨_, rfl, iteF ?_⟩
    exact ⟨_, rfl, _, rfl, p, ns, d, kvs, g, root, rfl, k14.sqT hS, k14.oth d _ hd (fun _ z => by cases z), hD, hkl, hT.1, serv_end hT hServ, fun q1 ls H5 k5 nq hq hDI hll => q q1 ls H5 (k14.trans k5) (k14.dom q1 nq) hq hDI hll⟩
end
end HK

set_option Elab.async false
set_option linter.all false
set_option maxRecDepth 100000
set_option maxHeartbeats 4000000
namespace HK
open PySem PySem.Spec PyProof.Rows L2 GAl GxR
open Evl (pss_cut)
abbrev sIsTrim : Stmt := topS 27
abbrev N_scIsTrim : List Str := ["net", "root", "hearers", "ahead", "copying", "place"]
theorem scIsTrim : FnScope N_scIsTrim ["net", "root", "hearers", "ahead"] (defScope sIsTrim) := ⟨rfl, rfl, rfl, by decide +kernel, rfl, by decide +kernel, by decide +kernel⟩
section
variable {P : Program} {w : World} {K : PySem.W.Frag} {mg : Str → Option Value} {base : Heap}
def spIsTrim (K : PySem.W.Frag) (Pn Pr Pa Pp Pg Ps Pt : Addr) : Sp := fun vs H Q _ => ∃ (a : Addr) (n : Int) (rs : List R4) (root : Int) (p : Addr) (ns : List Int) (d : Addr) (kvs : List (Key × V)) (g : IF), vs = [.ref a, .int root, .ref p, .ref d] ∧ NetAt K H a n rs ∧ Good n rs ∧ rs.length ≤ 156 ∧ 0 ≤ root ∧ root < n ∧
  SqT K H p (ns.map V.int) ∧ AreP n ns ∧ H d = some (.dK kvs) ∧ DI kvs g ∧ kvs.length ≤ 5000 ∧ TbL H [Pn, Pr, Pa, Pp, Pg, Ps, Pt] ∧ ∀ (H' : Hp) (b : Bool), K0 H H' → (b = true ↔ TrimP rs root g kvs.length ns) → Q (.bl b) H'
theorem ok_istrim {f c Pn Pr Pa Pp Pg Ps Pt : Addr} {fd : FuncData} {f_neednet f_needplace f_needhearers f_grows f_serves : Addr} {fd_neednet fd_needplace fd_needhearers fd_grows fd_serves : FuncData} (F : FunC K "is_trim" "is_trim" sIsTrim f fd c) (TB : TabB base mg c Pt)
    (k_neednet : PySem.W.keepIn K (.ref f_neednet) = true) (b_neednet : Binds K fd_neednet ["net"] []) (g_neednet : mg "need_net" = some (.ref f_neednet)) (G_neednet : FnOk P w K mg base CX0 6 f_neednet fd_neednet ["net"] (spNeedNet K Pn Pr))
    (k_needplace : PySem.W.keepIn K (.ref f_needplace) = true) (b_needplace : Binds K fd_needplace ["net", "place"] []) (g_needplace : mg "need_place" = some (.ref f_needplace)) (G_needplace : FnOk P w K mg base CX0 4 f_needplace fd_needplace ["net", "place"] (spNeedPlace K))
    (k_needhearers : PySem.W.keepIn K (.ref f_needhearers) = true) (b_needhearers : Binds K fd_needhearers ["net", "hearers"] []) (g_needhearers : mg "need_hearers" = some (.ref f_needhearers)) (G_needhearers : FnOk P w K mg base CX0 6 f_needhearers fd_needhearers ["net", "hearers"] (spNeedH K Pr Pa))
    (k_grows : PySem.W.keepIn K (.ref f_grows) = true) (b_grows : Binds K fd_grows ["net", "root", "ahead"] []) (g_grows : mg "grows" = some (.ref f_grows)) (G_grows : FnOk P w K mg base CX0 4 f_grows fd_grows ["net", "root", "ahead"] (spGrows K Pp Pg))
    (k_serves : PySem.W.keepIn K (.ref f_serves) = true) (b_serves : Binds K fd_serves ["root", "hearers", "ahead"] []) (g_serves : mg "serves" = some (.ref f_serves)) (G_serves : FnOk P w K mg base CX0 2 f_serves fd_serves ["root", "hearers", "ahead"] (spServes K Ps))
    (m_list : mg "list" = none) (m_all : mg "all" = none) : FnOk P w K mg base CX0 7 f fd ["net", "root", "hearers", "ahead"] (spIsTrim K Pn Pr Pa Pp Pg Ps Pt) := by
  refine F.ok scIsTrim (fun vs H Q E h => ?_) (fun A outer s H vs Q E hr h => ?_)
  · obtain ⟨a, n, rs, root, p, ns, d, kvs, g, rfl, _⟩ := h
    rfl
  · obtain ⟨a, n, rs, root, p, ns, d, kvs, g, rfl, hN, hG, hl, r0, r1, hS, hA, hd, hD, hkl, tb, q⟩ := h
    have hu := hu_of hr
    refine ⟨_, (pss_cons (ps_expr (pe_call G_neednet (hr.mono (by decide)) (by rfl) g_neednet k_neednet b_neednet .nil pass0 (pa_cons (pv 0) pa_nil)))
      (pss_cons (ps_expr (pe_call G_needplace (hr.mono (by decide)) (by rfl) g_needplace k_needplace b_needplace .nil pass0 (pa_cons (pv 0) (pa_cons (pv 1) pa_nil))))
      (pss_cons (ps_expr (pe_call G_needhearers (hr.mono (by decide)) (by rfl) g_needhearers k_needhearers b_needhearers .nil pass0 (pa_cons (pv 0) (pa_cons (pv 2) pa_nil))))
      (pss_cons (ps_if (PW.pt (pw_or (pt_not (pt_val (pe_call G_grows (hr.mono (by decide)) (by rfl) g_grows k_grows b_grows .nil pass0 (pa_cons (pv 0) (pa_cons (pv 1) (pa_cons (pv 3) pa_nil)))))) (pw_or1 (pt_not (pt_val (pe_call G_serves (hr.mono (by decide)) (by rfl) g_serves k_serves b_serves .nil pass0 (pa_cons (pv 1) (pa_cons (pv 2) (pa_cons (pv 3) pa_nil))))))))) (pss_one (ps_ret pe_bl)) pss_nil)
      (pss_cons (ps_set (i := 4) scIsTrim.nd rfl (.inr rfl) (HkL.pe_listVals rfl (pv 3) (by rfl) m_list (by decide +kernel)))
      (pss_one (ps_ret (pe_lock (pe_allG (own := [("place", 5)]) (k := 5) (g := (gName 5)) (tt := tYes) (te := (tOrV (tOp (rIn K false) (tVar 5) (tVar 2)) (tOp (rIn K false) (tVar 5) (tVar 4)))) (hr.mono (by decide)) (by rfl) m_all rfl scIsTrim.nd TB rfl (gsc_by (N := N_scIsTrim) (sc := defScope sIsTrim) (by decide +kernel)) (pi_keys (pv 3)) (fun A' hr' _ _ _ _ _ _ => (pg_name (i := 5) scIsTrim.nd rfl (.inl rfl))) (fun A' hr' _ _ _ _ _ _ => pts_nil) (fun A' hr' _ _ _ _ _ _ => (pe_or (pe_cmpR op_in_seq (pv 5) (pv 2) rfl) (pe_one (pe_cmpR op_in_seq (pv 5) (pv 4) rfl))))))))))))), ?_⟩
    refine ⟨_, rfl, a, n, rs, rfl, hN, hG, hl, tb Pn (by simp), tb Pr (by simp), fun H1 k1 => ?_⟩
    refine ⟨_, rfl, _, rfl, a, n, rs, root, rfl, hN.k0 k1, r0, r1, ?_⟩
    refine ⟨_, rfl, _, rfl, a, n, rs, p, ns, rfl, hN.k0 k1, k1.sqT hS, hA, k1.tab _ (tb Pr (by simp)), k1.tab _ (tb Pa (by simp)), fun H2 k2 => ?_⟩
    have k12 := k1.trans k2
    refine ⟨_, rfl, _, rfl, _, rfl, a, n, rs, root, d, kvs, g, rfl, hN.k0 k12, hG, hl, k12.oth d _ hd (fun _ z => by cases z), hD, hkl, k12.tab _ (tb Pp (by simp)), k12.tab _ (tb Pg (by simp)), fun H3 b k3 hb => ⟨_, rfl, ?_⟩⟩
    have k13 := k12.trans k3
    cases b with
    | false => exact iteT (iteT (q _ false k13 ⟨fun z => by (cases z), fun z => absurd (hb.mpr z.1) (by decide)⟩))
    | true =>
    have hTree := hb.mp rfl
    refine iteF ⟨_, rfl, _, rfl, _, rfl, root, p, ns, d, kvs, g, rfl, k13.sqT hS, k13.oth d _ hd (fun _ z => by cases z), hD, k13.tab _ (tb Ps (by simp)), fun H4 b k4 hb => ⟨_, rfl, ?_⟩⟩
    have k14 := k13.trans k4
    cases b with
    | false => exact iteT (q _ false k14 ⟨fun z => by (cases z), fun z => absurd (hb.mpr z.2.1) (by decide)⟩)
    | true =>
    have hServ := hb.mp rfl
    refine iteF ?_
    have hd4 := k14.oth d _ hd (fun _ z => by cases z)
    refine ⟨_, rfl, d, kvs, rfl, .inl hd4, Nat.le_trans hkl (by decide), fun l nl => ?_⟩
    have k5 : K0 H4 (upd H4 l (.lst (kvs.map (·.2)))) := K0.new nl
    have k15 := k14.trans k5
    have hl5 : upd H4 l (.lst (kvs.map (·.2))) l = some (.lst (kvs.map (·.2))) := upd_same
    generalize hH5 : upd H4 l (.lst (kvs.map (·.2))) = H5 at k5 k15 hl5
    have hd5 := k15.oth d _ hd (fun _ z => by cases z)
    obtain ⟨vals, ev, hv⟩ := hD.vals
    have hld : l ≠ d := fun z => by rw [z, hd4] at nl; cases nl
    have tt5 : TabG H5 Pt := k15.tab _ (tb Pt (by simp))
    refine ⟨d, _, hd5, trivial, fun od => ⟨_, rfl, d, od, rfl, .inl ⟨kvs, upd_same, tabG_lock hd5 (fun _ z => by cases z) tt5, fun H6 hT6 => ?_⟩⟩⟩
    have k6 : K0 (upd H5 d (.frz od (.dK kvs))) H6 := K0.tbd (tabG_lock hd5 (fun _ z => by cases z) tt5) hT6
    refine ⟨fun i m H7 => i + m = kvs.length ∧ K0 (upd H5 d (.frz od (.dK kvs))) H7 ∧ ∀ e ∈ kvs.take i, ∀ v x, e = (Sum.inl v, V.int x) → v ∈ ns ∨ ∃ u, g u = some v, ⟨kvs.length, by omega, k6, fun e he => by rw [List.take_zero] at he; cases he⟩, fun i m H7 hW => ?_⟩
    obtain ⟨em, k7, hyes⟩ := hW
    have hd7 : H7 d = some (.frz od (.dK kvs)) := k7.oth d _ upd_same (fun _ z => by cases z)
    have hl7 : H7 l = some (.lst (vals.map V.int)) := by rw [← ev]; exact k7.oth l _ (by rw [upd_ne hld]; exact hl5) (fun _ z => by cases z)
    have hS7 : SqT K H7 p (ns.map V.int) := k7.sqT (sqT_lock (k15.sqT hS) hd5)
    have kend : ∀ {H8}, K0 (upd H5 d (.frz od (.dK kvs))) H8 → K0 H (upd H8 d (.dK kvs)) := fun k => k15.trans (K0.lock hd5 (fun _ z => by cases z) k)
    by_cases hi : i < kvs.length
    · have g2 : kvs[i]? = some kvs[i] := List.getElem?_eq_getElem hi
      obtain ⟨j, z, e, e2⟩ := hD.at_ (List.mem_of_getElem? g2)
      rw [e] at g2
      have htk : kvs.take (i + 1) = kvs.take i ++ [(Sum.inl j, V.int z)] := by rw [List.take_add_one, g2]; rfl
      refine .inr ⟨⟨hd7, hi⟩, fun H' => K0 (upd H5 d (.frz od (.dK kvs))) H' ∧ (j ∈ ns ∨ ∃ u, g u = some j), fun H' hN => ⟨m - 1, by omega, by omega, hN.1, fun e' he' => ?_⟩, fun x' H' hy => ?_⟩
      · rw [htk] at he'
        rcases List.mem_append.mp he' with he' | he'
        · exact hyes e' he'
        · have := List.mem_singleton.mp he'
          subst this
          intro v x ee
          cases ee
          exact hN.2
      · obtain ⟨rfl, k, v, hkv, rfl⟩ := hy
        rw [g2] at hkv
        cases hkv
        refine ⟨rfl, tyes ⟨_, rfl, _, rfl, p, _, rfl, .inr hS7, rfl, flat_ints' ns, _, rfl, ?_⟩⟩
        show if inV (V.int j) (ns.map V.int) = true then _ else _
        rw [inV_iff']
        by_cases hj : j ∈ ns
        · rw [decide_eq_true hj]
          exact iteT ⟨_, rfl, iteT ⟨k7, .inl hj⟩⟩
        · rw [decide_eq_false hj]
          refine iteF ⟨_, rfl, _, rfl, l, _, rfl, .inl (.inl (.inl hl7)), rfl, flat_ints' vals, _, rfl, ?_⟩
          show if inV (V.int j) (vals.map V.int) = true then _ else _
          rw [inV_iff']
          by_cases hjv : j ∈ vals
          · rw [decide_eq_true hjv]
            exact iteT ⟨k7, .inr ((hv j).mp hjv)⟩
          · rw [decide_eq_false hjv]
            refine iteF ⟨hd7, q _ false (kend k7) ⟨fun z => by (cases z), fun z => ?_⟩⟩
            rcases z.2.2 _ _ e2 with z | z
            · exact absurd z hj
            · exact absurd ((hv j).mpr z) hjv
    · rw [List.take_of_length_le (by omega)] at hyes
      exact .inl ⟨⟨hd7, by omega⟩, hd7, q _ true (kend k7) ⟨fun _ => ⟨hTree, hServ, fun v x e => hyes _ (hD.pair e) v x rfl⟩, fun _ => rfl⟩⟩
end
end HK

set_option Elab.async false
set_option linter.all false
set_option maxRecDepth 100000
set_option maxHeartbeats 4000000
namespace HK
open PySem PySem.Spec PyProof.Rows L2 GAl GxR DTu
open Evl (pss_cut)
/-! ### latenesses -/
abbrev sLates : Stmt := topS 26
abbrev sUp : Stmt := topS 32
abbrev sLateness : Stmt := topS 31
theorem scLates : FnScope ["net", "start", "end", "cost", "late"] ["net"] (defScope sLates) := ⟨rfl, rfl, rfl, by decide +kernel, rfl, by decide +kernel, by decide +kernel⟩
theorem scUp : FnScope ["lates", "root", "ahead", "place", "total"] ["lates", "root", "ahead", "place"] (defScope sUp) := ⟨rfl, rfl, rfl, by decide +kernel, rfl, by decide +kernel, by decide +kernel⟩
theorem scLateness : FnScope ["net", "root", "ahead", "lates", "told", "place"] ["net", "root", "ahead"] (defScope sLateness) := ⟨rfl, rfl, rfl, by decide +kernel, rfl, by decide +kernel, by decide +kernel⟩
def lsum (rs : List R4) (root : Int) (g : IF) : Nat → Int → Int
  | 0, _ => 0
  | k + 1, v => lsum rs root g k v + (if clm g k v = root then 0 else ((road rs (stp g (clm g k v)) (clm g k v)).map (·.l)).getD 0)
theorem lsum_stop {rs : List R4} {root : Int} {g : IF} (hr : g root = none) {v : Int} {k : Nat} (h : clm g k v = root) : ∀ j, lsum rs root g (k + j) v = lsum rs root g k v
  | 0 => rfl
  | j + 1 => by
    show lsum rs root g (k + j) v + _ = _
    rw [lsum_stop hr h j, if_pos (show clm g (k.add j) v = root from clm_root hr h j), Int.add_zero]
/-- what is told, key by key -/
def latF (rs : List R4) (root : Int) (g : IF) (m : Nat) (l : List (Key × V)) : IF := l.foldl (fun f p => match p.1 with | .inl v => put f v (lsum rs root g m v) | .inr _ => f) (ini root)
theorem latF_take {rs : List R4} {root : Int} {g : IF} {m : Nat} {kvs : List (Key × V)} {i : Nat} {v : Int} {x : V} (h : kvs[i]? = some (Sum.inl v, x)) : latF rs root g m (kvs.take (i + 1)) = put (latF rs root g m (kvs.take i)) v (lsum rs root g m v) := by
  unfold latF
  rw [List.take_add_one, h, List.foldl_append]
  rfl
section
variable {P : Program} {w : World} {K : PySem.W.Frag} {mg : Str → Option Value} {base : Heap}
theorem ok_lates {f : Addr} {fd : FuncData} (F : Fun K "road_lates" "road_lates" sLates f fd) : FnOk P w K mg base CX0 1 f fd ["net"] (spTab (·.l) K) := by
  refine F.ok scLates (fun vs H Q E h => ?_) (fun cdv A outer s H vs Q E hr h => ?_)
  · obtain ⟨a, n, rs, rfl, _⟩ := h
    rfl
  · obtain ⟨a, n, rs, rfl, hN, G, hl, q⟩ := h
    have hu := hu_of hr
    refine ⟨_, pss_one (ps_ret (pe_dcT (own := [("start", 1), ("end", 2), ("cost", 3), ("late", 4)]) (g := gTup K 4 (gCons (gName 1) (gCons (gName 2) (gCons (gName 3) (gCons (gName 4) gNil))))) (tt := tYes) (tk := tTup (tCons (tVar 1) (tCons (tVar 2) tNil))) (tv := tVar 4) (Nat.lt_of_succ_lt hu) rfl scLates.nd (pi_tup (pe_ix ix_tup (pv 0) pe_int (fun _ _ => rfl)))
      (blkOk_by (N := ["net", "start", "end", "cost", "late"]) (sc := defScope sLates) (by decide +kernel))
      (fun _ _ _ _ _ => pg_tup rfl (pgs_cons (pg_name (i := 1) scLates.nd rfl (.inl rfl)) (pgs_cons (pg_name (i := 2) scLates.nd rfl (.inl rfl)) (pgs_cons (pg_name (i := 3) scLates.nd rfl (.inl rfl)) (pgs_cons (pg_name (i := 4) scLates.nd rfl (.inl rfl)) pgs_nil)))))
      (fun _ _ _ _ _ => pts_nil) (fun _ _ _ _ _ => pe_tup (pa_cons (pv 1) (pa_cons (pv 2) pa_nil))) (fun _ _ _ _ _ => pv 4))), ?_⟩
    obtain ⟨r, xs, o, h1, h2, hc, hd, h3⟩ := hN
    have hxs : SqT K H r xs := h2
    have hrl : xs.length = rs.length := h3.len
    refine ⟨_, rfl, a, _, 1, .ref r, rfl, rfl, h1, atI_nat (j := 1) rfl, r, rfl, ⟨xs, hxs⟩, fun D nD => ?_⟩
    refine ⟨fun i m H' => i + m = xs.length ∧ K0 H H' ∧ ∃ kvs, H' D = some (.dT kvs) ∧ TabP (·.l) (rs.take i) kvs, ⟨xs.length, by omega, K0.new nD, [], upd_same, by rw [List.take_zero]; exact ⟨Nat.le_refl _, fun _ _ => rfl⟩⟩, fun i m H' hW => ?_⟩
    obtain ⟨em, k3, kvs, hD, hT⟩ := hW
    have hY : SqT K H' r xs := k3.sqT hxs
    by_cases hi : i < xs.length
    · have g1 : xs[i]? = some xs[i] := List.getElem?_eq_getElem hi
      obtain ⟨t, q1, hrd, hx, hs⟩ := road_at h3 g1
      have htk : rs.take (i + 1) = rs.take i ++ [t] := by rw [List.take_add_one, hrd]; rfl
      refine .inr ⟨⟨_, _, hY, g1⟩, fun H' => K0 H H' ∧ ∃ kvs, H' D = some (.dT kvs) ∧ TabP (·.l) (rs.take (i + 1)) kvs, fun H' hN => ⟨m - 1, by omega, by omega, hN⟩, fun x' H2 hy => ?_⟩
      obtain ⟨rfl, fx⟩ := hy
      have ex : x' = xs[i] := Option.some.inj ((fx _ hY).symm.trans g1)
      rw [hx] at ex
      subst ex
      refine ⟨q1, _, rfl, k3.sqT hs, rfl, _, _, rfl, _, _, rfl, _, _, rfl, _, _, rfl, rfl, rfl, tyes ?_⟩
      refine ⟨_, rfl, _, rfl, by show 2 ≤ sizeLine; decide, fun kt nkt => ⟨_, rfl, ?_⟩⟩
      have hne : D ≠ kt := fun z => by rw [z, nkt] at hD; cases hD
      have hD2 : upd H2 kt (.tup [.int t.s, .int t.e]) D = some (.dT kvs) := by rw [upd_ne hne]; exact hD
      have hll : kvs.length < sizeLine := Nat.lt_of_le_of_lt (m := 5000) (by have := hT.1; have := List.length_take_le i rs; omega) (by decide)
      refine ⟨_, DPut.t (k := [Sum.inl t.s, Sum.inl t.e]) hD2 upd_same hll, (k3.mut (k3.dom kt nkt)).mut nD, _, upd_same, ?_⟩
      rw [htk]
      refine TabP.put ?_ hT
      rw [← htk]
      exact List.Pairwise.sublist (List.take_sublist _ _) G.up
    · refine .inl ⟨⟨_, hY, by omega⟩, q D kvs H' k3 nD hD ?_⟩
      rwa [List.take_of_length_le (by omega)] at hT
/-- the latenesses of one way -/
def spUp (K : PySem.W.Frag) : Sp := fun vs H Q _ => ∃ (D : Addr) (ts : List (List Key × V)) (rs : List R4) (root : Int) (p : Addr) (kvs : List (Key × V)) (g : IF) (v : Int), vs = [.ref D, .int root, .ref p, .int v] ∧ H D = some (.dT ts) ∧ TabP (·.l) rs ts ∧ Rd H p (.dK kvs) ∧ DI kvs g ∧
  g root = none ∧ (∀ v x, g v = some x → (road rs x v).isSome = true) ∧ clm g kvs.length v = root ∧ ∀ H', K0 H H' → Q (.int (lsum rs root g kvs.length v)) H'
theorem ok_up {f : Addr} {fd : FuncData} (F : Fun K "lateness_up" "lateness_up" sUp f fd) : FnOk P w K mg base CX0 1 f fd ["lates", "root", "ahead", "place"] (spUp K) := by
  refine F.ok scUp (fun vs H Q E h => ?_) (fun cdv A outer s H vs Q E hr h => ?_)
  · obtain ⟨D, ts, rs, root, p, kvs, g, v, rfl, _⟩ := h
    rfl
  · obtain ⟨D, ts, rs, root, p, kvs, g, v, rfl, hD, hTP, hp, hDI, hroot, hroads, hend, q⟩ := h
    have hu := hu_of hr
    refine ⟨_, pss_cons (ps_set (i := 4) scUp.nd rfl (.inl rfl) pe_int)
      (pss_cons (ps_while PassesOwn.never (pt_cmpR op_ne (pv 3) (pv 1) (nomark _))
        (pss_cons (ps_aug (i := 4) scUp.nd rfl (.inl rfl) (pe_dget hu (pv 0) (pe_tup (pa_cons (pe_dget hu (pv 2) (pv 3) (fun _ _ => rfl)) (pa_cons (pv 3) pa_nil))) (fun _ _ => rfl)) ip_add)
        (pss_one (ps_set (i := 3) scUp.nd rfl (.inl rfl) (pe_dget hu (pv 2) (pv 3) (fun _ _ => rfl))))))
      (pss_one (ps_ret (pv 4)))), ?_⟩
    refine ⟨fun m σ' H' => ∃ k, σ' = [some (.ref D), some (.int root), some (.ref p), some (.int (clm g k v)), some (.int (lsum rs root g k v))] ∧ K0 H H' ∧ k + m = kvs.length, ⟨kvs.length, 0, rfl, K0.refl _, by omega⟩, ?_⟩
    rintro m σ' H' ⟨k, rfl, k1, em⟩
    refine ⟨_, rfl, _, rfl, rfl, _, rfl, ?_⟩
    by_cases hc : clm g k v = root
    · rw [decide_eq_true (show V.int (clm g k v) = V.int root by rw [hc])]
      refine ⟨_, rfl, ?_⟩
      have := lsum_stop (rs := rs) hroot hc (kvs.length - k)
      rw [show k + (kvs.length - k) = kvs.length by omega] at this
      rw [← this]
      exact q _ k1
    · rw [decide_eq_false (show ¬ V.int (clm g k v) = V.int root from fun z => hc (V.int.inj z))]
      obtain ⟨x, ex⟩ := (clm_in hroot hend k).resolve_left hc
      have hkl : k < kvs.length := by
        refine Nat.lt_of_not_le fun hle => hc ?_
        have := clm_root hroot hend (k - kvs.length)
        rwa [show kvs.length + (k - kvs.length) = k by omega] at this
      obtain ⟨r, er⟩ := Option.isSome_iff_exists.mp (hroads _ _ ex)
      have dg := dgetR (k1.rd hp) hDI (clm g k v)
      rw [ex] at dg
      have hD1 := k1.oth D _ hD (fun _ z => by cases z)
      refine ⟨fun σ' H' => ∃ k', k' = k + 1 ∧ σ' = [some (.ref D), some (.int root), some (.ref p), some (.int (clm g k' v)), some (.int (lsum rs root g k' v))] ∧ K0 H H', fun σ' H' ⟨k', e1, e2, e3⟩ => ⟨m - 1, by omega, k', e2, e3, by omega⟩, ?_⟩
      refine ⟨_, rfl, _, rfl, _, rfl, _, rfl, p, _, rfl, dg, _, rfl, by show 2 ≤ sizeLine; decide, fun kt nkt => ?_⟩
      have kk := k1.mut (o := .tup [.int x, .int (clm g k v)]) (k1.dom kt nkt)
      have hDk : upd H' kt (.tup [.int x, .int (clm g k v)]) D = some (.dT ts) := by rw [upd_ne (ne_of_none hD1 nkt)]; exact hD1
      have dt := DGet.t (k := [Sum.inl x, Sum.inl (clm g k v)]) hDk upd_same
      rw [hTP.2, er] at dt
      refine ⟨D, _, rfl, dt, _, _, rfl, rfl, ?_⟩
      have dg2 := dgetR (kk.rd hp) hDI (clm g k v)
      rw [ex] at dg2
      refine ⟨_, rfl, _, rfl, p, _, rfl, dg2, k + 1, rfl, ?_, kk⟩
      have e1 : clm g (k + 1) v = x := stp_some ex
      have e2 : lsum rs root g (k + 1) v = lsum rs root g k v + r.l := by
        show lsum rs root g k v + (if clm g k v = root then 0 else _) = _
        rw [if_neg hc, stp_some ex, er]
        rfl
      rw [e1, e2]
      rfl
end
end HK

set_option Elab.async false
set_option linter.all false
set_option maxRecDepth 100000
set_option maxHeartbeats 4000000
namespace HK
open PySem PySem.Spec PyProof.Rows L2 GAl GxR DTu
open Evl (pss_cut)
section
variable {P : Program} {w : World} {K : PySem.W.Frag} {mg : Str → Option Value} {base : Heap}
def spLateness (K : PySem.W.Frag) (Pn Pr Pp Pg : Addr) : Sp := fun vs H Q _ => ∃ (a : Addr) (n : Int) (rs : List R4) (root : Int) (p : Addr) (kvs : List (Key × V)) (g : IF), vs = [.ref a, .int root, .ref p] ∧ NetAt K H a n rs ∧ Good n rs ∧ rs.length ≤ 156 ∧ 0 ≤ root ∧ root < n ∧
  H p = some (.dK kvs) ∧ DI kvs g ∧ kvs.length ≤ 5000 ∧ TreeP rs root g kvs.length ∧ TbL H [Pn, Pr, Pp, Pg] ∧ ∀ (q : Addr) (ls : List (Key × V)) (H' : Hp), K0 H H' → H q = none → H' q = some (.dK ls) → DI ls (latF rs root g kvs.length kvs) → ls.length ≤ 1 + kvs.length → Q (.ref q) H'
theorem ok_lateness {f fN fP fT fR fU Pn Pr Pp Pg : Addr} {fd fdN fdP fdT fdR fdU : FuncData} (F : Fun K "lateness" "lateness" sLateness f fd)
    (kN : PySem.W.keepIn K (.ref fN) = true) (bN : Binds K fdN ["net"] []) (gN : mg "need_net" = some (.ref fN)) (GN : FnOk P w K mg base CX0 6 fN fdN ["net"] (spNeedNet K Pn Pr))
    (kP : PySem.W.keepIn K (.ref fP) = true) (bP : Binds K fdP ["net", "place"] []) (gP : mg "need_place" = some (.ref fP)) (GP : FnOk P w K mg base CX0 4 fP fdP ["net", "place"] (spNeedPlace K))
    (kT : PySem.W.keepIn K (.ref fT) = true) (bT : Binds K fdT ["net", "root", "ahead"] []) (gT : mg "need_tree" = some (.ref fT)) (GT : FnOk P w K mg base CX0 5 fT fdT ["net", "root", "ahead"] (spNeedTree K Pp Pg))
    (kR : PySem.W.keepIn K (.ref fR) = true) (bR : Binds K fdR ["net"] []) (gR : mg "road_lates" = some (.ref fR)) (GR : FnOk P w K mg base CX0 1 fR fdR ["net"] (spTab (·.l) K))
    (kU : PySem.W.keepIn K (.ref fU) = true) (bU : Binds K fdU ["lates", "root", "ahead", "place"] []) (gU : mg "lateness_up" = some (.ref fU)) (GU : FnOk P w K mg base CX0 1 fU fdU ["lates", "root", "ahead", "place"] (spUp K)) :
    FnOk P w K mg base CX0 7 f fd ["net", "root", "ahead"] (spLateness K Pn Pr Pp Pg) := by
  refine F.ok scLateness (fun vs H Q E h => ?_) (fun cdv A outer s H vs Q E hr h => ?_)
  · obtain ⟨a, n, rs, v, p, kvs, g, rfl, _⟩ := h
    rfl
  · obtain ⟨a, n, rs, root, p, kvs, g, rfl, hN, hG, hl, r0, r1, hp, hD, hkl, hT, tb, q⟩ := h
    have hu := hu_of hr
    refine ⟨_, pss_cons (ps_expr (pe_call GN hr (by rfl) gN kN bN .nil pass0 (pa_cons (pv 0) pa_nil)))
      (pss_cons (ps_expr (pe_call GP (hr.mono (by decide)) (by rfl) gP kP bP .nil pass0 (pa_cons (pv 0) (pa_cons (pv 1) pa_nil))))
      (pss_cons (ps_expr (pe_call GT (hr.mono (by decide)) (by rfl) gT kT bT .nil pass0 (pa_cons (pv 0) (pa_cons (pv 1) (pa_cons (pv 2) pa_nil)))))
      (pss_cons (ps_set (i := 3) scLateness.nd rfl (.inl rfl) (pe_call GR (hr.mono (by decide)) (by rfl) gR kR bR .nil pass0 (pa_cons (pv 0) pa_nil)))
      (pss_cons (ps_set (i := 4) scLateness.nd rfl (.inl rfl) (pe_disp (pps_cons (pv 1) pe_int pps_nil) rfl rfl (fun z => by cases z) (by decide)))
      (pss_cons (ps_lock (ps_for PassesOwn.never rfl (pi_keys (pv 2)) (pg_name (i := 5) scLateness.nd rfl (.inl rfl))
        (pss_one (ps_dput hu (pv 4) (pv 5) (pe_call GU (hr.mono (by decide)) (by rfl) gU kU bU .nil pass0 (pa_cons (pv 3) (pa_cons (pv 1) (pa_cons (pv 2) (pa_cons (pv 5) pa_nil))))) rfl))))
      (pss_one (ps_ret (pv 4)))))))), ?_⟩
    refine ⟨_, rfl, a, n, rs, rfl, hN, hG, hl, tb Pn (by simp), tb Pr (by simp), fun H1 k1 => ?_⟩
    refine ⟨_, rfl, _, rfl, a, n, rs, root, rfl, hN.k0 k1, r0, r1, ?_⟩
    refine ⟨_, rfl, _, rfl, _, rfl, a, n, rs, root, p, kvs, g, rfl, hN.k0 k1, hG, hl, k1.oth p _ hp (fun _ z => by cases z), hD, hkl, hT, k1.tab _ (tb Pp (by simp)), k1.tab _ (tb Pg (by simp)), fun H2 k2 => ?_⟩
    have k12 := k1.trans k2
    refine ⟨_, rfl, a, n, rs, rfl, hN.k0 k12, hG, hl, fun D ts H3 k3 nD hD3 hTP => ?_⟩
    have k13 := k12.trans k3
    refine fun t nt => ⟨_, rfl, ⟨upd_same, [(Sum.inl root, .int 0)], rfl, (by show 1 ≤ 15; decide), ?_⟩⟩
    rw [upd_upd]
    have nHt := k13.dom t nt
    have k4 : K0 H3 (upd H3 t (.dK (mergeK [] [(Sum.inl root, .int 0)]))) := K0.new nt
    have k14 := k13.trans k4
    have ht4 : upd H3 t (.dK (mergeK [] [(Sum.inl root, .int 0)])) t = some (.dK (mergeK [] [(Sum.inl root, .int 0)])) := upd_same
    have hD4 := k4.oth D _ hD3 (fun _ z => by cases z)
    have hp4 := k14.oth p _ hp (fun _ z => by cases z)
    generalize hH4 : upd H3 t (.dK (mergeK [] [(Sum.inl root, .int 0)])) = H4 at k4 k14 ht4 hD4 hp4
    have htp : t ≠ p := fun z => by rw [z, hp] at nHt; cases nHt
    have hDp : D ≠ p := fun z => by rw [z, hp4] at hD4; cases hD4
    refine ⟨p, _, hp4, trivial, fun od => ⟨_, rfl, p, od, rfl, .inl ⟨kvs, upd_same, ?_⟩⟩⟩
    refine for_it walk_keys (fun i σ' H' => ∃ y5, σ' = [some (.ref a), some (.int root), some (.ref p), some (.ref D), some (.ref t), y5] ∧ Kt t (upd H4 p (.frz od (.dK kvs))) H' ∧ ∃ ls, H' t = some (.dK ls) ∧ DI ls (latF rs root g kvs.length (kvs.take i)) ∧ ls.length ≤ 1 + i)
      ⟨none, rfl, Kt.refl _ _, _, by rw [upd_ne htp]; exact ht4, by rw [List.take_zero]; exact DI.one root, Nat.le_refl _⟩ (fun i σ' H' _ h => ?_) (fun i x σ' H' H2 hi h y => ?_) (fun σ' H' h => ?_)
    · obtain ⟨_, _, k, _⟩ := h
      exact k.frz _ _ _ upd_same
    · obtain ⟨rfl, k, v, hkv, rfl⟩ := y
      obtain ⟨j, z, e, e2⟩ := hD.at_ (List.mem_of_getElem? hkv)
      cases e
      obtain ⟨y5, rfl, k5, ls, hls, hDI, hll⟩ := h
      have hD5 : H2 D = some (.dT ts) := k5.oth D _ (by rw [upd_ne hDp]; exact hD4) (ne_of hD4 ht4 (fun z => by cases z)) (fun _ z => by cases z)
      refine ⟨_, rfl, _, rfl, _, rfl, _, rfl, D, ts, rs, root, p, kvs, g, j, rfl, hD5, hTP, .inr ⟨od, k5.frz _ _ _ upd_same⟩, hD, hT.1, hT.2.1, hT.2.2 _ _ e2, fun H6 k6 => ?_⟩
      have hls6 := k6.oth t _ hls (fun _ z => by cases z)
      refine ⟨_, rfl, _, rfl, t, _, rfl, DPut.k (k := Sum.inl j) hls6 (Nat.lt_of_le_of_lt (m := 6000) (by omega) (by decide)), ?_⟩
      refine ⟨_, rfl, (k5.trans k6.kt).setD hls6, _, upd_same, ?_, Nat.le_trans (length_putK _ _ _) (by omega)⟩
      rw [latF_take hkv]
      exact hDI.put _ _
    · obtain ⟨y5, rfl, k5, ls, hls, hDI, hll⟩ := h
      rw [List.take_of_length_le (Nat.le_refl _)] at hDI
      have kk : Kt t H4 (upd H' p (.dK kvs)) := Kt.lock hp4 k5
      refine ⟨k5.frz _ _ _ upd_same, _, rfl, q t ls _ ?_ nHt (by rw [upd_ne htp]; exact hls) hDI hll⟩
      refine ⟨fun b o e m => ?_, fun P hP => kk.tab P (k14.tab P hP), fun b e => k14.dom b (kk.dom b e)⟩
      exact kk.oth b o (k14.oth b o e m) (ne_of_none e nHt) m
end
end HK

set_option Elab.async false
set_option linter.all false
set_option maxRecDepth 100000
set_option maxHeartbeats 4000000
namespace HK
open PySem PySem.Spec PyProof.Rows L2 GAl GxR DTu
open Evl (pss_cut)
abbrev sPrice : Stmt := topS 30
abbrev Nprice : List Str := ["net", "root", "ahead", "prices", "end", "start"]
theorem scPrice : FnScope Nprice ["net", "root", "ahead"] (defScope sPrice) := ⟨rfl, rfl, rfl, by decide +kernel, rfl, by decide +kernel, by decide +kernel⟩
/-- what a road of a tree has -/
def cst (sel : R4 → Int) (rs : List R4) : Key × V → Int
  | (.inl v, .int x) => ((road rs x v).map sel).getD 0
  | _ => 0
theorem sum_take {f : Key × V → Int} {kvs : List (Key × V)} {i : Nat} {p : Key × V} (h : kvs[i]? = some p) : ((kvs.take (i + 1)).map f).sum = ((kvs.take i).map f).sum + f p := by
  rw [List.take_add_one, h, List.map_append, List.sum_append]
  simp
section
variable {P : Program} {w : World} {K : PySem.W.Frag} {mg : Str → Option Value} {base : Heap}
def spPrice (K : PySem.W.Frag) (Pn Pr Pp Pg Pc : Addr) : Sp := fun vs H Q _ => ∃ (a : Addr) (n : Int) (rs : List R4) (root : Int) (p : Addr) (kvs : List (Key × V)) (g : IF), vs = [.ref a, .int root, .ref p] ∧ NetAt K H a n rs ∧ Good n rs ∧ rs.length ≤ 156 ∧ 0 ≤ root ∧ root < n ∧
  H p = some (.dK kvs) ∧ DI kvs g ∧ kvs.length ≤ 5000 ∧ TreeP rs root g kvs.length ∧ TbL H [Pn, Pr, Pp, Pg, Pc] ∧ ∀ (H' : Hp), K0 H H' → Q (.int (kvs.map (cst (·.c) rs)).sum) H'
theorem ok_price {f c fN fP fT fR Pn Pr Pp Pg Pc : Addr} {fd fdN fdP fdT fdR : FuncData} (F : FunC K "price" "price" sPrice f fd c) (TB : TabB base mg c Pc)
    (kN : PySem.W.keepIn K (.ref fN) = true) (bN : Binds K fdN ["net"] []) (gN : mg "need_net" = some (.ref fN)) (GN : FnOk P w K mg base CX0 6 fN fdN ["net"] (spNeedNet K Pn Pr))
    (kP : PySem.W.keepIn K (.ref fP) = true) (bP : Binds K fdP ["net", "place"] []) (gP : mg "need_place" = some (.ref fP)) (GP : FnOk P w K mg base CX0 4 fP fdP ["net", "place"] (spNeedPlace K))
    (kT : PySem.W.keepIn K (.ref fT) = true) (bT : Binds K fdT ["net", "root", "ahead"] []) (gT : mg "need_tree" = some (.ref fT)) (GT : FnOk P w K mg base CX0 5 fT fdT ["net", "root", "ahead"] (spNeedTree K Pp Pg))
    (kR : PySem.W.keepIn K (.ref fR) = true) (bR : Binds K fdR ["net"] []) (gR : mg "road_prices" = some (.ref fR)) (GR : FnOk P w K mg base CX0 1 fR fdR ["net"] (spTab (·.c) K))
    (ms : mg "sum" = none) : FnOk P w K mg base CX0 7 f fd ["net", "root", "ahead"] (spPrice K Pn Pr Pp Pg Pc) := by
  refine F.ok scPrice (fun vs H Q E h => ?_) (fun A outer s H vs Q E hr h => ?_)
  · obtain ⟨a, n, rs, v, p, kvs, g, rfl, _⟩ := h
    rfl
  · obtain ⟨a, n, rs, root, p, kvs, g, rfl, hN, hG, hl, r0, r1, hp, hD, hkl, hT, tb, q⟩ := h
    have hu := hu_of hr
    refine ⟨_, pss_cons (ps_expr (pe_call GN hr (by rfl) gN kN bN .nil pass0 (pa_cons (pv 0) pa_nil)))
      (pss_cons (ps_expr (pe_call GP (hr.mono (by decide)) (by rfl) gP kP bP .nil pass0 (pa_cons (pv 0) (pa_cons (pv 1) pa_nil))))
      (pss_cons (ps_expr (pe_call GT (hr.mono (by decide)) (by rfl) gT kT bT .nil pass0 (pa_cons (pv 0) (pa_cons (pv 1) (pa_cons (pv 2) pa_nil)))))
      (pss_cons (ps_set (i := 3) scPrice.nd rfl (.inr rfl) (pe_call GR (hr.mono (by decide)) (by rfl) gR kR bR .nil pass0 (pa_cons (pv 0) pa_nil)))
      (pss_one (ps_ret (pe_lock (pe_sumG (own := [("end", 4), ("start", 5)]) (k := 5) (g := gTup K 2 (gCons (gName 4) (gCons (gName 5) gNil))) (tt := tYes) (te := tDGet (tVar 3) (tTup (tCons (tVar 5) (tCons (tVar 4) tNil)))) hr (by rfl) ms rfl scPrice.nd TB rfl (gsc_by (N := Nprice) (sc := defScope sPrice) (by decide +kernel))
          (pi_items (pv 2)) (fun A' hr' _ _ _ _ _ _ => pg_tup rfl (pgs_cons (pg_name (i := 4) scPrice.nd rfl (.inl rfl)) (pgs_cons (pg_name (i := 5) scPrice.nd rfl (.inl rfl)) pgs_nil))) (fun A' hr' _ _ _ _ _ _ => pts_nil)
          (fun A' hr' _ _ _ _ _ _ => pe_dget (hu_of hr') (pv 3) (pe_tup (pa_cons (pv 5) (pa_cons (pv 4) pa_nil))) (fun _ _ => rfl))))))))), ?_⟩
    refine ⟨_, rfl, a, n, rs, rfl, hN, hG, hl, tb Pn (by simp), tb Pr (by simp), fun H1 k1 => ?_⟩
    refine ⟨_, rfl, _, rfl, a, n, rs, root, rfl, hN.k0 k1, r0, r1, ?_⟩
    refine ⟨_, rfl, _, rfl, _, rfl, a, n, rs, root, p, kvs, g, rfl, hN.k0 k1, hG, hl, k1.oth p _ hp (fun _ z => by cases z), hD, hkl, hT, k1.tab _ (tb Pp (by simp)), k1.tab _ (tb Pg (by simp)), fun H2 k2 => ?_⟩
    have k12 := k1.trans k2
    refine ⟨_, rfl, a, n, rs, rfl, hN.k0 k12, hG, hl, fun D ts H3 k3 nD hD3 hTP => ?_⟩
    have k13 := k12.trans k3
    have hp3 := k13.oth p _ hp (fun _ z => by cases z)
    have hpD : p ≠ D := fun z => by
      have := k12.oth p _ hp (fun _ z => by cases z)
      rw [z, nD] at this; cases this
    have tc : TabG H3 Pc := k13.tab _ (tb Pc (by simp))
    refine ⟨p, _, hp3, trivial, fun od => ⟨_, rfl, p, od, kvs, rfl, upd_same, tabG_lock hp3 (fun _ z => by cases z) tc, fun H4 hT4 => ?_⟩⟩
    have k4 : K0 (upd H3 p (.frz od (.dK kvs))) H4 := K0.tbd (tabG_lock hp3 (fun _ z => by cases z) tc) hT4
    refine ⟨fun i m T H5 => i + m = kvs.length ∧ K0 (upd H3 p (.frz od (.dK kvs))) H5 ∧ T = ((kvs.take i).map (cst (·.c) rs)).sum, ⟨kvs.length, by omega, k4, rfl⟩, fun i m T H5 hW => ?_⟩
    obtain ⟨em, k5, eT⟩ := hW
    have hp5 : H5 p = some (.frz od (.dK kvs)) := k5.oth p _ upd_same (fun _ z => by cases z)
    have hD5 : H5 D = some (.dT ts) := k5.oth D _ (by rw [upd_ne hpD.symm]; exact hD3) (fun _ z => by cases z)
    have kend : ∀ {H7}, K0 (upd H3 p (.frz od (.dK kvs))) H7 → K0 H (upd H7 p (.dK kvs)) := fun k => k13.trans (K0.lock hp3 (fun _ z => by cases z) k)
    by_cases hi : i < kvs.length
    · have g2 : kvs[i]? = some kvs[i] := List.getElem?_eq_getElem hi
      obtain ⟨j, z, e, e2⟩ := hD.at_ (List.mem_of_getElem? g2)
      rw [e] at g2
      refine .inr ⟨⟨hp5, hi⟩, fun T' H' => K0 (upd H3 p (.frz od (.dK kvs))) H' ∧ T' = ((kvs.take (i + 1)).map (cst (·.c) rs)).sum, fun T' H' hN => ⟨m - 1, by omega, by omega, hN.1, hN.2⟩, fun x' H' hy => ?_⟩
      obtain ⟨T0, k, v, hkv, rfl, nT, rfl⟩ := hy
      rw [g2] at hkv
      cases hkv
      have kT := k5.mut (o := .tup [.int j, .int z]) (k5.dom T0 nT)
      have hDT : upd H5 T0 (.tup [.int j, .int z]) D = some (.dT ts) := by rw [upd_ne (ne_of_none hD5 nT)]; exact hD5
      refine ⟨T0, _, rfl, .inl (.inl upd_same), rfl, _, _, rfl, _, _, rfl, rfl, rfl, tyes ?_⟩
      refine ⟨_, rfl, _, rfl, _, rfl, by show 2 ≤ sizeLine; decide, fun kt nkt => ?_⟩
      have kk := kT.mut (o := .tup [.int z, .int j]) (kT.dom kt nkt)
      have hDk : upd (upd H5 T0 (.tup [.int j, .int z])) kt (.tup [.int z, .int j]) D = some (.dT ts) := by rw [upd_ne (ne_of_none hDT nkt)]; exact hDT
      have hr2 := hT.2.1 _ _ e2
      obtain ⟨r, er⟩ := Option.isSome_iff_exists.mp hr2
      have dg := DGet.t (k := [Sum.inl z, Sum.inl j]) hDk upd_same
      rw [hTP.2 z j, er] at dg
      refine ⟨D, _, rfl, dg, r.c, rfl, kk, ?_⟩
      rw [eT, sum_take g2]
      show _ = _ + ((road rs z j).map _).getD 0
      rw [er]
      rfl
    · rw [List.take_of_length_le (by omega)] at eT
      refine .inl ⟨⟨hp5, by omega⟩, hp5, ?_⟩
      rw [eT]
      exact q _ (kend k5)
end
end HK

set_option Elab.async false
set_option linter.all false
set_option maxRecDepth 100000
set_option maxHeartbeats 4000000
namespace HK
open PySem PySem.Spec PyProof.Rows L2 GAl GxR
/-! ### a tree with a way put to it, and one cut -/
section
variable {n root place : Int} {rs : List R4} {g p f : IF} {l : List Int} {m : Nat}
theorem clm_up (g : IF) (v : Int) : ∀ m, clm g (m + 1) v = clm g m (stp g v)
  | 0 => rfl
  | m + 1 => by
    show stp g (clm g (m + 1) v) = stp g (clm g m (stp g v))
    rw [clm_up g v m]
theorem inT_end {v : Int} (hT : TreeP rs root g m) (h : InT root g v) : ∃ k, clm g k v = root := by
  rcases h with rfl | h
  · exact ⟨0, rfl⟩
  · obtain ⟨x, ex⟩ := Option.isSome_iff_exists.mp h
    exact ⟨m, hT.2.2 v x ex⟩
theorem inT_clm {v : Int} (hT : TreeP rs root g m) (h : InT root g v) (k : Nat) : InT root g (clm g k v) := by
  obtain ⟨j, hj⟩ := inT_end hT h
  rcases clm_in hT.1 hj k with e | ⟨x, e⟩
  · exact .inl e
  · exact .inr (by rw [e]; rfl)
theorem add_no (hb : Back p (InT root g) place l) (C : Cheap rs (InT root g) f p) : ∀ v, InT root g v → v ∉ l := fun v h hm => by
  obtain ⟨w, e⟩ := hb.in_ v hm
  exact C.off v w e h
theorem add_in (hno : ∀ v, InT root g v → v ∉ l) {v : Int} (h : InT root g v) : addF p g l v = g v := if_neg (hno v h)
theorem add_dom (hno : ∀ v, InT root g v → v ∉ l) {v : Int} (h : (g v).isSome = true) : (addF p g l v).isSome = true := by rw [add_in hno (.inr h)]; exact h
theorem clm_add (hT : TreeP rs root g m) (hno : ∀ v, InT root g v → v ∉ l) {v : Int} (h : InT root g v) : ∀ k, clm (addF p g l) k v = clm g k v
  | 0 => rfl
  | k + 1 => by
    show stp (addF p g l) (clm (addF p g l) k v) = stp g (clm g k v)
    rw [clm_add hT hno h k]
    unfold stp
    rw [add_in hno (inT_clm hT h k)]
theorem back_ends (hT : TreeP rs root g m) (hno : ∀ v, InT root g v → v ∉ l) {v : Int} {l' : List Int} (h : Back p (InT root g) v l') : (∀ u ∈ l', u ∈ l) → ∀ w, (w = v ∨ w ∈ l') → ∃ k, clm (addF p g l) k w = root := by
  induction h with
  | here hv =>
    intro _ w hw
    rcases hw with rfl | hw
    · obtain ⟨k, hk⟩ := inT_end hT hv
      exact ⟨k, by rw [clm_add hT hno hv]; exact hk⟩
    · cases hw
  | @up v u t e _ ih =>
    intro hs w hw
    have ih' := ih fun w hw => hs w (List.mem_cons_of_mem _ hw)
    have hv : ∃ k, clm (addF p g l) k v = root := by
      obtain ⟨k, hk⟩ := ih' u (.inl rfl)
      refine ⟨k + 1, ?_⟩
      rw [clm_up, show stp (addF p g l) v = u from stp_some (by unfold addF; rw [if_pos (hs v (List.mem_cons_self ..))]; exact e)]
      exact hk
    rcases hw with rfl | hw
    · exact hv
    · rcases List.mem_cons.mp hw with rfl | hw
      · exact hv
      · exact ih' w (.inr hw)
theorem graft_tree (up : rs.Pairwise R4.lt) (hT : TreeP rs root g m) (hb : Back p (InT root g) place l) (C : Cheap rs (InT root g) f p) {ws : List (Key × V)} (hD : DI ws (addF p g l)) : TreeP rs root (addF p g l) ws.length := by
  have hno := add_no hb C
  have hroot : addF p g l root = none := by rw [add_in hno (.inl rfl)]; exact hT.1
  refine ⟨hroot, fun v x e => ?_, fun v x e => ?_⟩
  · by_cases hv : v ∈ l
    · have e : p v = some x := by unfold addF at e; rwa [if_pos hv] at e
      obtain ⟨r, hr, e1, e2, _⟩ := C.way v x e
      rw [← e1, ← e2, road_of up hr]; rfl
    · unfold addF at e; rw [if_neg hv] at e; exact hT.2.1 v x e
  · suffices ∃ k, clm (addF p g l) k v = root by
      obtain ⟨k, hk⟩ := this
      exact clm_len hD hroot hk
    by_cases hv : v ∈ l
    · exact back_ends hT hno hb (fun u h => h) v (.inr hv)
    · unfold addF at e
      rw [if_neg hv] at e
      have hi : InT root g v := .inr (by rw [e]; rfl)
      exact ⟨m, by rw [clm_add hT hno hi]; exact hT.2.2 v x e⟩
theorem back_links {S : Int → Prop} {v : Int} {l' : List Int} (h : Back p S v l') : ∀ w ∈ l', w = v ∨ ∃ u ∈ l', p u = some w := by
  induction h with
  | here => intro w hw; cases hw
  | @up v u t e _ ih =>
    intro w hw
    rcases List.mem_cons.mp hw with hw | hw
    · exact .inl hw
    · rcases ih w hw with rfl | ⟨u', hu, e'⟩
      · exact .inr ⟨v, List.mem_cons_self .., e⟩
      · exact .inr ⟨u', List.mem_cons_of_mem _ hu, e'⟩
theorem graft_trim (up : rs.Pairwise R4.lt) {ns ms : List Int} (hT : TrimP rs root g m ns) (hb : Back p (InT root g) place l) (C : Cheap rs (InT root g) f p) {ws : List (Key × V)} (hD : DI ws (addF p g l)) (hms : ∀ v, v ∈ ms ↔ v ∈ ns ∨ v = place) : TrimP rs root (addF p g l) ws.length ms := by
  have hno := add_no hb C
  refine ⟨graft_tree up hT.1 hb C hD, fun v hv => ?_, fun v x e => ?_⟩
  · rcases (hms v).mp hv with hv | rfl
    · rcases hT.2.1 v hv with h | h
      · exact .inl h
      · exact .inr (add_dom hno h)
    · cases hb with
      | here h =>
        rcases h with h | h
        · exact .inl h
        · exact .inr (add_dom hno h)
      | up e _ => exact .inr (by unfold addF; rw [if_pos (List.mem_cons_self ..), e]; rfl)
  · by_cases hv : v ∈ l
    · rcases back_links hb v hv with h | ⟨u, hu, e'⟩
      · exact .inl ((hms v).mpr (.inr h))
      · exact .inr ⟨u, by unfold addF; rw [if_pos hu]; exact e'⟩
    · unfold addF at e
      rw [if_neg hv] at e
      rcases hT.2.2 v x e with h | ⟨u, eu⟩
      · exact .inl ((hms v).mpr (.inl h))
      · exact .inr ⟨u, by rw [add_in hno (.inr (by rw [eu]; rfl))]; exact eu⟩
theorem trim_onW {ns : List Int} (h : TrimP rs root g m ns) {v x : Int} (e : g v = some x) : OnW g ns v := by
  obtain ⟨⟨hr, _, hup⟩, _, htr⟩ := h
  have aux : ∀ k i v b y, i + k = m → clm g i v = b → g b = some y → (g v).isSome = true → OnW g ns v := by
    intro k
    induction k with
    | zero =>
      intro i v b y em ec eb hv
      obtain ⟨x, ex⟩ := Option.isSome_iff_exists.mp hv
      have := hup v x ex
      rw [show m = i by omega, ec] at this
      rw [this, hr] at eb
      cases eb
    | succ k ih =>
      intro i v b y em ec eb hv
      obtain ⟨x, ex⟩ := Option.isSome_iff_exists.mp hv
      rcases htr v x ex with hm | ⟨u, eu⟩
      · exact onW_self hm
      · obtain ⟨h, hh, j, ej⟩ := ih (i + 1) u b y (by omega) (by rw [clm_up, stp_some eu]; exact ec) eb (by rw [eu]; rfl)
        exact ⟨h, hh, j + 1, by show v = stp g (clm g j h); rw [← ej, stp_some eu]⟩
  exact aux m 0 v v x (by omega) rfl e (by rw [e]; rfl)
theorem kept_graft {ns : List Int} (hT : TrimP rs root g m ns) (hno : ∀ v, InT root g v → v ∉ l) : keptF (addF p g l) ns = g := by
  funext v
  have hin : ∀ s ∈ ns, InT root g s := hT.2.1
  cases e : g v with
  | some x =>
    obtain ⟨h, hh, j, ej⟩ := trim_onW hT e
    refine resF_some.mpr ⟨⟨h, hh, j, by rw [clm_add hT.1 hno (hin h hh)]; exact ej⟩, ?_⟩
    rw [add_in hno (.inr (by rw [e]; rfl))]
    exact e
  | none =>
    cases e2 : keptF (addF p g l) ns v with
    | none => rfl
    | some x =>
      obtain ⟨⟨h, hh, j, ej⟩, e3⟩ := resF_some.mp e2
      rw [clm_add hT.1 hno (hin h hh)] at ej
      have : InT root g v := ej ▸ inT_clm hT.1 (hin h hh) j
      rw [add_in hno this, e] at e3
      cases e3
/-! what trees cost -/
theorem sub_sum {α : Type} {f : α → Int} : ∀ {ls ks : List α}, ls.Nodup → (∀ q ∈ ls, q ∈ ks) → (∀ q ∈ ks, 0 ≤ f q) → (ls.map f).sum ≤ (ks.map f).sum
  | [], ks, _, hs, h0 => by
    show (0 : Int) ≤ _
    clear hs
    induction ks with
    | nil => exact Int.le_refl _
    | cons a t ih =>
      have := ih fun q hq => h0 q (List.mem_cons_of_mem _ hq)
      have := h0 a (List.mem_cons_self ..)
      rw [List.map_cons, List.sum_cons]
      omega
  | a :: t, ks, nd, hs, h0 => by
    obtain ⟨s, u, rfl⟩ := List.append_of_mem (hs a (List.mem_cons_self ..))
    have ⟨n1, n2⟩ := List.nodup_cons.mp nd
    have := sub_sum (f := f) (ls := t) (ks := s ++ u) n2 (fun q hq => by
      have := hs q (List.mem_cons_of_mem _ hq)
      rcases List.mem_append.mp this with h | h
      · exact List.mem_append_left _ h
      · rcases List.mem_cons.mp h with rfl | h
        · exact absurd hq n1
        · exact List.mem_append_right _ h) (fun q hq => h0 q (by
      rcases List.mem_append.mp hq with h | h
      · exact List.mem_append_left _ h
      · exact List.mem_append_right _ (List.mem_cons_of_mem _ h)))
    rw [List.map_append, List.sum_append] at this ⊢
    rw [List.map_cons, List.sum_cons, List.map_cons, List.sum_cons]
    omega
theorem cst_nonneg (hok : ∀ r ∈ rs, RoadOk n r) (q : Key × V) : 0 ≤ cst (·.c) rs q := by
  obtain ⟨k, v⟩ := q
  unfold cst
  split
  · rename_i i x _
    cases e : road rs x i with
    | none => exact Int.le_refl _
    | some r => exact (hok r (road_some e).1).c0
  · exact Int.le_refl _
theorem DI.mem_iff {ks : List (Key × V)} {f : IF} (h : DI ks f) (q : Key × V) : q ∈ ks ↔ ∃ i x : Int, q = (Sum.inl i, V.int x) ∧ f i = some x :=
  ⟨fun hq => h.at_ hq, fun ⟨i, x, e, e2⟩ => by rw [e]; exact h.pair e2⟩
theorem DI.nodup {ks : List (Key × V)} {f : IF} (h : DI ks f) : ks.Nodup := (List.pairwise_map.mp h.nd).imp fun hne z => hne (by rw [z])
theorem back_sum (up : rs.Pairwise R4.lt) {S : Int → Prop} (C : Cheap rs S f p) {v : Int} {l' : List Int} (h : Back p S v l') : ∀ {x}, f v = some x → ((l'.map fun v => ((Sum.inl v : Key), V.int ((p v).getD 0))).map (cst (·.c) rs)).sum = x := by
  induction h with
  | here hv =>
    intro x e
    rw [C.zero _ hv] at e
    cases e
    rfl
  | @up v u t e _ ih =>
    intro x ev
    obtain ⟨r, hr, e1, e2, a, b, ha, hb, hs⟩ := C.way v u e
    rw [ev] at hb
    cases hb
    have ih' := ih ha
    rw [List.map_cons, List.map_cons, List.sum_cons, ih', e]
    show ((road rs u v).map (·.c)).getD 0 + a = x
    rw [← e1, ← e2, road_of up hr]
    show r.c + a = x
    omega
theorem graft_price (up : rs.Pairwise R4.lt) (hok : ∀ r ∈ rs, RoadOk n r) (hb : Back p (InT root g) place l) (C : Cheap rs (InT root g) f p) {kvs ws : List (Key × V)} (hK : DI kvs g) (hD : DI ws (addF p g l)) {x : Int} (e : f place = some x) : (ws.map (cst (·.c) rs)).sum = (kvs.map (cst (·.c) rs)).sum + x := by
  have hno := add_no hb C
  have hs := back_sum up C hb e
  have nL : (kvs ++ l.map fun v => ((Sum.inl v : Key), V.int ((p v).getD 0))).Nodup := by
    refine List.nodup_append.mpr ⟨hK.nodup, List.pairwise_map.mpr ((hb.nodup C.off).imp fun hne z => hne (by cases z; rfl)), fun a ha b hb' z => ?_⟩
    subst z
    obtain ⟨v, hv, rfl⟩ := List.mem_map.mp hb'
    obtain ⟨i, y, ei, eg⟩ := hK.at_ ha
    cases ei
    exact hno v (.inr (by rw [eg]; rfl)) hv
  have mem : ∀ q, q ∈ ws ↔ q ∈ kvs ++ l.map fun v => ((Sum.inl v : Key), V.int ((p v).getD 0)) := fun q => by
    rw [hD.mem_iff, List.mem_append, hK.mem_iff, List.mem_map]
    constructor
    · rintro ⟨i, y, rfl, ei⟩
      unfold addF at ei
      by_cases hi : i ∈ l
      · rw [if_pos hi] at ei
        exact .inr ⟨i, hi, by rw [ei]; rfl⟩
      · rw [if_neg hi] at ei
        exact .inl ⟨i, y, rfl, ei⟩
    · rintro (⟨i, y, rfl, ei⟩ | ⟨i, hi, rfl⟩)
      · exact ⟨i, y, rfl, by rw [add_in hno (.inr (by rw [ei]; rfl))]; exact ei⟩
      · obtain ⟨u, eu⟩ := hb.in_ i hi
        exact ⟨i, u, by rw [eu]; rfl, by unfold addF; rw [if_pos hi]; exact eu⟩
  have h1 := sub_sum (f := cst (·.c) rs) hD.nodup (fun q hq => (mem q).mp hq) (fun q _ => cst_nonneg hok q)
  have h2 := sub_sum (f := cst (·.c) rs) nL (fun q hq => (mem q).mpr hq) (fun q _ => cst_nonneg hok q)
  rw [List.map_append, List.sum_append, hs] at h1 h2
  omega
theorem kept_price (hok : ∀ r ∈ rs, RoadOk n r) {kvs ls : List (Key × V)} {ns : List Int} (hK : DI kvs g) (hD : DI ls (keptF g ns)) : (ls.map (cst (·.c) rs)).sum ≤ (kvs.map (cst (·.c) rs)).sum :=
  sub_sum hD.nodup (fun q hq => by
    obtain ⟨i, x, rfl, e⟩ := hD.at_ hq
    exact hK.pair (resF_some.mp e).2) fun q _ => cst_nonneg hok q
/-! lateness -/
theorem lsum_kept {ns : List Int} {v : Int} (h : OnW g ns v) : ∀ k, lsum rs root (keptF g ns) k v = lsum rs root g k v
  | 0 => rfl
  | k + 1 => by
    obtain ⟨e1, e2⟩ := clm_kept h k
    have e3 : keptF g ns (clm g k v) = g (clm g k v) := by
      unfold keptF resF
      rw [if_pos e2]
    show lsum rs root (keptF g ns) k v + (if clm (keptF g ns) k v = root then 0 else ((road rs (stp (keptF g ns) (clm (keptF g ns) k v)) (clm (keptF g ns) k v)).map (·.l)).getD 0) = lsum rs root g k v + (if clm g k v = root then 0 else ((road rs (stp g (clm g k v)) (clm g k v)).map (·.l)).getD 0)
    rw [lsum_kept h k, e1, show stp (keptF g ns) (clm g k v) = stp g (clm g k v) by unfold stp; rw [e3]]
open Classical in
theorem latF_at {g : IF} {m : Nat} (l : List (Key × V)) (v : Int) : latF rs root g m l v = if (Sum.inl v : Key) ∈ l.map (fun p : Key × V => p.1) then some (lsum rs root g m v) else ini root v := by
  have gen : ∀ (l : List (Key × V)) (f0 : IF), l.foldl (fun f p => match p.1 with | .inl v => put f v (lsum rs root g m v) | .inr _ => f) f0 v = if (Sum.inl v : Key) ∈ l.map (fun p : Key × V => p.1) then some (lsum rs root g m v) else f0 v := fun l => by
    induction l with
    | nil => intro f0; rw [if_neg (fun z => by cases z)]; rfl
    | cons p l ih =>
      intro f0
      rw [List.foldl_cons, ih]
      by_cases hm : (Sum.inl v : Key) ∈ l.map (fun p : Key × V => p.1)
      · rw [if_pos hm, if_pos (by rw [List.map_cons]; exact List.mem_cons_of_mem _ hm)]
      · rw [if_neg hm]
        obtain ⟨pk, pv⟩ := p
        cases pk with
        | inl u =>
          show put f0 u _ v = _
          unfold put
          by_cases hv : v = u
          · subst hv
            rw [if_pos rfl, if_pos (by rw [List.map_cons]; exact List.mem_cons_self ..)]
          · rw [if_neg hv, if_neg (by
              rw [List.map_cons, List.mem_cons]
              rintro (h | h)
              · cases h; exact hv rfl
              · exact hm h)]
        | inr s =>
          rw [if_neg (by
            rw [List.map_cons, List.mem_cons]
            rintro (h | h)
            · cases h
            · exact hm h)]
  exact gen l (ini root)
theorem lat_kept {kvs ls : List (Key × V)} {ns : List Int} (hK : DI kvs g) (hD : DI ls (keptF g ns)) (hT : TreeP rs root g kvs.length) (hS : ServP root g ns) {v : Int} (hv : v ∈ ns) : ∃ x, latF rs root g kvs.length kvs v = some x ∧ latF rs root (keptF g ns) ls.length ls v = some x := by
  have hTk := kept_trim hK hD hT hS
  rw [latF_at, latF_at, hK.mem, hD.mem]
  rcases hS v hv with rfl | h
  · refine ⟨0, ?_, ?_⟩
    · rw [hT.1, if_neg (fun z => by cases z)]
      exact if_pos rfl
    · rw [hTk.1.1, if_neg (fun z => by cases z)]
      exact if_pos rfl
  · obtain ⟨x, ex⟩ := Option.isSome_iff_exists.mp h
    have ek : keptF g ns v = some x := resF_some.mpr ⟨onW_self hv, ex⟩
    refine ⟨lsum rs root g kvs.length v, if_pos h, ?_⟩
    rw [if_pos (by rw [ek]; rfl), lsum_kept (onW_self hv)]
    have hle : ls.length ≤ kvs.length := hD.le hK fun v x e => by rw [(resF_some.mp e).2]; rfl
    have hc : clm g ls.length v = root := by
      rw [← (clm_kept (onW_self hv) _).1]
      exact hTk.1.2.2 v x ek
    have := lsum_stop (rs := rs) hT.1 hc (kvs.length - ls.length)
    rw [show ls.length + (kvs.length - ls.length) = kvs.length by omega] at this
    rw [this]
end
end HK

set_option Elab.async false
set_option linter.all false
set_option maxRecDepth 100000
set_option maxHeartbeats 3200000
/-! set(l) of a list of whole numbers (along the library's proofs for tuples of whole numbers and for lists of texts) -/
namespace HkL
open PySem PySem.Spec PyProof.Rows L2
section
variable {P : Program} {w : World} {A : Around} {E : Value → Shared → Prop} {s : Shared}
theorem call_setLi {l : Addr} {items : Array Value} (ns : List Int) {Q : Value → Shared → Prop} (hh : A.handled = none) (hl : s.heap.IsList l items) (hit : IntsAre items.toList ns) (hb : ns.length + 1 < scanBound)
    (h : ∀ (h' : Heap) (tk c : Nat), SetR w h' s.heap.objs.size (fun j => decide (j ∈ ns)) c → (∀ b o, s.heap.get? b = some o → h'.get? b = some o) → Q (.ref s.heap.objs.size) { s with heap := h', toks := tk }) :
    wpAny (model P w) A (call (.type "set") [.ref l]) Q E s := by
  have hisz : items.size = ns.length := by
    have q := IntsAre.length hit
    rwa [Array.length_toList] at q
  obtain ⟨c, tl, hmro⟩ := F.called_set.mro
  have hmade := F.called_set.made
  have hsub := F.called_set.sub
  refine wpAny_call (codeAny_of_tree ?_)
  show wpAny _ _ (callAny (.type "set") _) _ _ _
  refine wpAny_pure ⟨Code.quiet_builtin _ (by decide +kernel), codeAny_builtin F.entry_type_call ?_⟩
  rw [Around.under_plain (weight_type_call_type "set" [.ref l] []) rfl]
  have h1 := F.called_set.notType
  have h2 := F.called_set.canCreate
  have hct := F.typeCall_set_1 (.ref l)
  repeat (any_goals (first | assumption | wp_step))
  generalize hO : ({ cls := .type "set", dict := none, data := .set #[] 0 (.fresh 0 0 (!w.params.followText "set-order")) } : Obj) = O
  refine codeAny_mono (code_set_led1 (.ref l) (E := E) (Q₁ := fun obj s₁ => obj = .ref s.heap.objs.size ∧ s₁ = { s with heap := s.heap.push O }) ⟨rfl, by rw [hO]⟩) fun r s₁ hr => ?_
  cases r with
  | error e => exact hr
  | ok fl =>
    cases fl with
    | ret obj =>
      obtain ⟨rfl, rfl⟩ := hr
      have hS : (s.heap.push O).get? s.heap.objs.size = some O := by rw [← hO]; exact Heap.get?_push_size _ rfl
      have hT : Shared.TypeIs { s with heap := s.heap.push O } (.ref s.heap.objs.size) "set" := ⟨_, hS, by rw [← hO]⟩
      have hli := F.called_set.init.lookup
      have hbi := F.called_set.init.bind (.ref s.heap.objs.size)
      repeat (any_goals (first | assumption | wp_step))
      refine codeAny_mono (codeAny_call_builtin (R := wants (fun r s₂ => r = .none ∧ ∃ h' tk c, s₂ = { s with heap := h', toks := tk } ∧ SetR w h' s.heap.objs.size (fun j => decide (j ∈ ns)) c ∧ (∀ b o, s.heap.get? b = some o → h'.get? b = some o)) E) F.called_set.init.plain F.entry_set_init (check_set_init_1 hT ?_)) fun r₂ s₂ hr₂ => ?_
      · subst hO
        obtain ⟨ol, hol, hcl, nl, hdl⟩ := hl
        obtain ⟨ocls, odict, odata, oslots⟩ := ol
        simp only at hcl hdl
        subst hcl; subst hdl
        have hol' := Heap.get?_push_of_some { cls := .type "set", dict := none, data := .set #[] 0 (.fresh 0 0 (!w.params.followText "set-order")) } hol
        have hsls := F.sub_list_set
        have hslf := F.sub_list_frozenset
        have hne : (Value.type "list" == Value.type "dict") = false := by decide
        have hl1 : (s.heap.push { cls := .type "set", dict := none, data := .set #[] 0 (.fresh 0 0 (!w.params.followText "set-order")) }).IsList l items := ⟨_, hol', rfl, nl, rfl⟩
        unfold Builtin.«set.__init__» noKeywords Builtin.Frozenset.updateFrom
        generalize hPI : pyIter = PI
        wp_walk
        subst hPI
        refine wpAny_pyIter_list hl1 ?_
        refine wpAny_bind (wpAny_runValue ?_)
        have hlS : l < s.heap.objs.size := Heap.lt_size hol
        have hh3 : A.in1.in1.in1.handled = none := by simp [hh]
        have hneI : l ≠ (s.heap.push { cls := .type "set", dict := none, data := .set #[] 0 (.fresh 0 0 (!w.params.followText "set-order")) }).objs.size := by
          rw [Heap.size_push]; exact Nat.ne_of_lt (Nat.lt_succ_of_lt hlS)
        have hSf : s.heap.objs.size ∉ [(s.heap.push { cls := .type "set", dict := none, data := .set #[] 0 (.fresh 0 0 (!w.params.followText "set-order")) }).objs.size, l] := by
          rw [Heap.size_push]
          intro z
          rcases List.mem_cons.mp z with z | z
          · exact absurd z (Nat.ne_of_lt (Nat.lt_succ_self _))
          · exact absurd (List.mem_singleton.mp z) (Nat.ne_of_gt hlS)
        have hval : ∀ (i : Nat) (v : Value), items[i]? = some v → ∃ k t, ns[i]? = some k ∧ v = .int k t := fun i v hv => by
          have hi : i < ns.length := by rw [← hisz]; exact (Array.getElem?_eq_some_iff.mp hv).1
          obtain ⟨t, e⟩ := IntsAre.int_at hit i v (by rw [Array.getElem?_toList]; exact hv)
          refine ⟨ns[i], t, List.getElem?_eq_getElem hi, ?_⟩
          rw [e, List.getD_eq_getElem?_getD, List.getElem?_eq_getElem hi] <;> rfl
        refine set_update_ints ((Walks.list hh3 _ l hneI items).toS) s.heap.objs.size hSf ns hisz hb hval (items.size - 0) 0 _ (by omega) (Nat.zero_le _) ⟨⟨_, Heap.get?_push_size _ rfl, rfl, rfl⟩, (hl1.push _)⟩ ⟨0, Nat.le_refl 0, setR_new_at (Heap.get?_push_of_some _ hS)⟩ fun s' c' hm _ hS' => ?_
        obtain ⟨h', g2, d', tk', os'⟩ := s'
        obtain rfl : g2 = s.gens := hm.gens
        obtain rfl : d' = s.drawn := hm.drawn
        obtain rfl : os' = s.os := hm.os
        refine wpAny_pure ?_
        show wpAny _ _ (ret Value.none) _ _ _
        refine wpAny_pure ⟨rfl, h', tk', c', rfl, hS', fun b o e => hm.heap b o (fun z => ?_) (Heap.get?_push_of_some _ (Heap.get?_push_of_some _ e))⟩
        have hb0 : b < s.heap.objs.size := Heap.lt_size e
        rcases List.mem_cons.mp z with z | z
        · exact absurd z (Nat.ne_of_lt hb0)
        · have := List.mem_singleton.mp z
          rw [Heap.size_push] at this
          exact absurd this (Nat.ne_of_lt (Nat.lt_succ_of_lt hb0))
      · cases r₂ with
        | error e => exact hr₂
        | ok fl₂ =>
          cases fl₂ with
          | ret r =>
            obtain ⟨rfl, h', tk, c', rfl, hS', hk'⟩ := hr₂
            repeat (any_goals (first | assumption | wp_step))
            exact h _ _ _ hS' hk'
          | _ => exact hr₂.elim
    | _ => exact hr.elim
theorem sub_le {ks ds : List Int} (nd : ks.Nodup) (h : ∀ x ∈ ks, x ∈ ds) : ks.length ≤ ds.length := by
  induction ks generalizing ds with
  | nil => exact Nat.zero_le _
  | cons a t ih =>
    obtain ⟨h1, h2⟩ := List.nodup_cons.mp nd
    have hm := h a (List.mem_cons_self ..)
    have := ih (ds := ds.erase a) h2 fun x hx => (List.mem_erase_of_ne (fun e => h1 (by rw [← e]; exact hx))).mpr (h x (List.mem_cons_of_mem _ hx))
    rw [List.length_erase_of_mem hm] at this
    have := List.length_pos_of_mem hm
    rw [List.length_cons]
    omega
theorem setR_few {h : Heap} {a : Addr} {ns : List Int} {c : Nat} (R : SetR w h a (fun j => decide (j ∈ ns)) c) {ds : List Int} (hd : ∀ x ∈ ns, x ∈ ds) : c ≤ ds.length := by
  obtain ⟨o, es, ep, t, _, _, _, _, nd, hk, _, _, hn, _⟩ := R
  rw [← hn, ← Array.length_toList, ← List.length_map (f := keyOf)]
  exact sub_le nd fun x hx => hd x (of_decide_eq_true ((hk x).mpr hx))
end
section
variable {X : Cx}
/-- set(l) -/
def rSetLi (K : PySem.W.Frag) (w : World) : List V → Hp → VK → Prop := fun vs H Q => ∃ (l : Addr) (ns : List Int), vs = [.ref l] ∧ SqL K H l (ns.map V.int) ∧ ns.length ≤ 1000 ∧ ∀ (p : Addr) (c : Nat), H p = none → (∀ ds : List Int, (∀ x ∈ ns, x ∈ ds) → c ≤ ds.length) → Q (.ref p) (upd H p (SetO w p (fun j => decide (j ∈ ns)) c))
theorem cr_setLi (hc : X.calm = true) : CallR X (.type "set") (rSetLi X.K X.w) := by
  intro pins s σ H vs us Q I r h
  obtain ⟨l, ns, rfl, hl, hb, q⟩ := h
  cases r with
  | cons r rr =>
    cases rr
    cases r
    obtain ⟨its, rv, ⟨o, n, ho, hcl, hdn, hd⟩, hz⟩ := I.list hl
    have hi : IntsAre its.toArray.toList ns := ints_of_vals rv
    refine call_setLi ns (I.ok.hd hc) ⟨o, ho, hcl, n, hd⟩ hi (by unfold scanBound; omega) fun h' tk c R1 k => ?_
    exact ⟨.ref _, upd H s.heap.objs.size (SetO X.w s.heap.objs.size (fun j => decide (j ∈ ns)) c), I.laid k (Nat.le_refl _) (setO_new R1), rfl, q _ c (I.hok.fresh (Nat.le_refl _)) fun ds hd => setR_few R1 hd⟩
end
end HkL

set_option Elab.async false
set_option linter.all false
set_option maxRecDepth 100000
set_option maxHeartbeats 4000000
namespace HK
open PySem PySem.Spec PyProof.Rows L2 GAl GxR
open Evl (pss_cut)
abbrev sComes : Stmt := topS 45
abbrev N_scComes : List Str := ["net", "root", "some", "ahead", "place", "cheap", "longer", "cost", "numbers"]
theorem scComes : FnScope N_scComes ["net", "root", "some", "ahead", "place"] (defScope sComes) := ⟨rfl, rfl, rfl, by decide +kernel, rfl, by decide +kernel, by decide +kernel⟩
theorem flatI' (ns : List Int) : (ns.map V.int).all flatV = true := flat_ints' ns
section
variable {P : Program} {w : World} {K : PySem.W.Frag} {mg : Str → Option Value} {base : Heap}
/-- what stands between two deeds: the rising ones that came, and the tree that is trim for them -/
def CmA (K : PySem.W.Frag) (H : Hp) (a : Addr) (n : Int) (rs : List R4) (root : Int) (s : Addr) (ns : List Int) (d : Addr) (kvs : List (Key × V)) (g : IF) : Prop := NetAt K H a n rs ∧ Good n rs ∧ rs.length ≤ 156 ∧ 0 ≤ root ∧ root < n ∧
  H s = some (.lst (ns.map V.int)) ∧ AreP n ns ∧ H d = some (.dK kvs) ∧ DI kvs g ∧ kvs.length ≤ 100 ∧ TrimP rs root g kvs.length ns ∧ (∀ v, InT root g v → 0 ≤ v ∧ v < n)
def spComes (K : PySem.W.Frag) (Pn Pr Pa Pp Pg Ps Pt Pc : Addr) : Sp := fun vs H Q _ => ∃ (a : Addr) (n : Int) (rs : List R4) (root : Int) (s : Addr) (ns : List Int) (d : Addr) (kvs : List (Key × V)) (g : IF) (place : Int), vs = [.ref a, .int root, .ref s, .ref d, .int place] ∧ CmA K H a n rs root s ns d kvs g ∧ 0 ≤ place ∧ place < n ∧
  TbL H [Pn, Pr, Pa, Pp, Pg, Ps, Pt, Pc] ∧ ∀ (H' : Hp), K0 H H' → Q (.bl true) H'
theorem ok_comes {f Pn Pr Pa Pp Pg Ps Pt Pc : Addr} {fd : FuncData} {f_cheap f_graft f_price f_istrim f_cut : Addr} {fd_cheap fd_graft fd_price fd_istrim fd_cut : FuncData} (F : Fun K "_law_b_comes" "_law_b_comes" sComes f fd)
    (k_cheap : PySem.W.keepIn K (.ref f_cheap) = true) (b_cheap : Binds K fd_cheap ["net", "root", "ahead"] []) (g_cheap : mg "_law_b_cheap" = some (.ref f_cheap)) (G_cheap : FnOk P w K mg base CX0 1 f_cheap fd_cheap ["net", "root", "ahead"] (spCheap K))
    (k_graft : PySem.W.keepIn K (.ref f_graft) = true) (b_graft : Binds K fd_graft ["net", "root", "ahead", "place"] []) (g_graft : mg "graft" = some (.ref f_graft)) (G_graft : FnOk P w K mg base CX0 7 f_graft fd_graft ["net", "root", "ahead", "place"] (spGraft K Pn Pr Pp Pg))
    (k_price : PySem.W.keepIn K (.ref f_price) = true) (b_price : Binds K fd_price ["net", "root", "ahead"] []) (g_price : mg "price" = some (.ref f_price)) (G_price : FnOk P w K mg base CX0 7 f_price fd_price ["net", "root", "ahead"] (spPrice K Pn Pr Pp Pg Pc))
    (k_istrim : PySem.W.keepIn K (.ref f_istrim) = true) (b_istrim : Binds K fd_istrim ["net", "root", "hearers", "ahead"] []) (g_istrim : mg "is_trim" = some (.ref f_istrim)) (G_istrim : FnOk P w K mg base CX0 7 f_istrim fd_istrim ["net", "root", "hearers", "ahead"] (spIsTrim K Pn Pr Pa Pp Pg Ps Pt))
    (k_cut : PySem.W.keepIn K (.ref f_cut) = true) (b_cut : Binds K fd_cut ["net", "root", "hearers", "ahead"] []) (g_cut : mg "cut" = some (.ref f_cut)) (G_cut : FnOk P w K mg base CX0 7 f_cut fd_cut ["net", "root", "hearers", "ahead"] (spCut K Pn Pr Pa Pp Pg Ps))
    (m_sorted : mg "sorted" = none) (m_set : mg "set" = none) (m_tuple : mg "tuple" = none) : FnOk P w K mg base CX0 8 f fd ["net", "root", "some", "ahead", "place"] (spComes K Pn Pr Pa Pp Pg Ps Pt Pc) := by
  refine F.ok scComes (fun vs H Q E h => ?_) (fun cdv A outer s H vs Q E hr h => ?_)
  · obtain ⟨a, n, rs, root, s, ns, d, kvs, g, place, rfl, _⟩ := h
    rfl
  · obtain ⟨a, n, rs, root, s, ns, d, kvs, g, place, rfl, ⟨hN, hG, hl, r0, r1, hs, hA, hd, hD, hkl, hT, hIn⟩, p0, p1, tb, q⟩ := h
    have hu := hu_of hr
    have n2 := hG.n2
    refine ⟨_, (pss_cons (ps_set (i := 5) scComes.nd rfl (.inl rfl) (pe_call G_cheap (hr.mono (by decide)) (by rfl) g_cheap k_cheap b_cheap .nil pass0 (pa_cons (pv 0) (pa_cons (pv 1) (pa_cons (pv 3) pa_nil)))))
      (pss_cons (ps_asg (pe_call G_graft (hr.mono (by decide)) (by rfl) g_graft k_graft b_graft .nil pass0 (pa_cons (pv 0) (pa_cons (pv 1) (pa_cons (pv 3) (pa_cons (pv 4) pa_nil))))) (pg_tup rfl (pgs_cons (pg_name (i := 6) scComes.nd rfl (.inl rfl)) (pgs_cons (pg_name (i := 7) scComes.nd rfl (.inl rfl)) (pgs_cons (pg_name (i := 8) scComes.nd rfl (.inl rfl)) pgs_nil)))))
      (pss_cons (ps_if (pt_cmp (pc_dnotin hu (pv 4) (pv 5))) (pss_one (ps_ret (pe_and (pe_cmp (pc_isN (pv 6))) (pe_one (pe_cmp (pc_isN (pv 7))))))) pss_nil)
      (pss_cons (ps_if (PW.pt (pw_or (pt_cmpR op_ne (pv 7) (pe_dget hu (pv 5) (pv 4) (fun _ _ => rfl)) (nomark _)) (pw_or1 (pt_cmpR op_ne (pe_call G_price (hr.mono (by decide)) (by rfl) g_price k_price b_price .nil pass0 (pa_cons (pv 0) (pa_cons (pv 1) (pa_cons (pv 6) pa_nil)))) (pe_op op_add (pe_call G_price (hr.mono (by decide)) (by rfl) g_price k_price b_price .nil pass0 (pa_cons (pv 0) (pa_cons (pv 1) (pa_cons (pv 3) pa_nil)))) (pv 7)) (nomark _))))) (pss_one (ps_ret pe_bl)) pss_nil)
      (pss_cons (ps_if (pt_cmpR op_notBl (pe_call G_istrim (hr.mono (by decide)) (by rfl) g_istrim k_istrim b_istrim .nil pass0 (pa_cons (pv 0) (pa_cons (pv 1) (pa_cons (pe_callTy HkL.call_tupR (by rfl) m_tuple (by decide +kernel) (pa_cons (pe_callB (cr_sortedSet rfl) (by rfl) m_sorted boot_sorted (pa_cons (pe_callTy (HkL.cr_setLi rfl) (by rfl) m_set (by decide +kernel) (pa_cons (pe_op op_cat (pv 2) (pe_lst (pa_cons (pv 4) pa_nil))) pa_nil)) pa_nil)) pa_nil)) (pa_cons (pv 6) pa_nil))))) pe_bl (nomark _)) (pss_one (ps_ret pe_bl)) pss_nil)
      (pss_one (ps_ret (pe_cmpR (op_eq_dictA (Nat.lt_of_succ_lt hu)) (pe_call G_cut (hr.mono (by decide)) (by rfl) g_cut k_cut b_cut .nil pass0 (pa_cons (pv 0) (pa_cons (pv 1) (pa_cons (pe_callTy HkL.call_tupR (by rfl) m_tuple (by decide +kernel) (pa_cons (pv 2) pa_nil)) (pa_cons (pv 6) pa_nil))))) (pv 3) (nomark _))))))))), ?_⟩
    have sub4 : ∀ {H'}, TbL H' [Pn, Pr, Pa, Pp, Pg, Ps, Pt, Pc] → TbL H' [Pn, Pr, Pp, Pg] := fun h P hP => h P (by simp only [List.mem_cons, List.not_mem_nil, or_false] at hP ⊢; rcases hP with h | h | h | h <;> simp [h])
    have sub5 : ∀ {H'}, TbL H' [Pn, Pr, Pa, Pp, Pg, Ps, Pt, Pc] → TbL H' [Pn, Pr, Pp, Pg, Pc] := fun h P hP => h P (by simp only [List.mem_cons, List.not_mem_nil, or_false] at hP ⊢; rcases hP with h | h | h | h | h <;> simp [h])
    have sub6 : ∀ {H'}, TbL H' [Pn, Pr, Pa, Pp, Pg, Ps, Pt, Pc] → TbL H' [Pn, Pr, Pa, Pp, Pg, Ps] := fun h P hP => h P (by simp only [List.mem_cons, List.not_mem_nil, or_false] at hP ⊢; rcases hP with h | h | h | h | h | h <;> simp [h])
    have sub7 : ∀ {H'}, TbL H' [Pn, Pr, Pa, Pp, Pg, Ps, Pt, Pc] → TbL H' [Pn, Pr, Pa, Pp, Pg, Ps, Pt] := fun h P hP => h P (by simp only [List.mem_cons, List.not_mem_nil, or_false] at hP ⊢; rcases hP with h | h | h | h | h | h | h <;> simp [h])
    have dat : ∀ {H'}, K0 H H' → H' d = some (.dK kvs) := fun k => k.oth d _ hd (fun _ z => by cases z)
    refine ⟨_, rfl, _, rfl, _, rfl, a, n, rs, root, d, kvs, g, rfl, hN, hG, hl, r0, r1, hd, hD, by omega, fun cq cs H1 k1 _ hcq hDc _ => ?_⟩
    refine ⟨_, rfl, _, rfl, _, rfl, _, rfl, a, n, rs, root, d, kvs, g, place, rfl, hN.k0 k1, hG, hl, r0, r1, p0, p1, dat k1, hD, by omega, hT.1, hIn, sub4 (tb.k0 k1), fun t H2 k2 nt hgt => ?_⟩
    have k12 := k1.trans k2
    have hcq2 := k2.oth cq _ hcq (fun _ z => by cases z)
    obtain ⟨q1, ls, _, hq1, hDq, hll, hcase⟩ := hgt
    rcases hcase with ⟨en, ht⟩ | ⟨b, ws, x, l, p, _, _, hb, hDw, hwl, hl12, ex, hbk, C, ht⟩
    · refine ⟨t, _, rfl, .inl (.inl ht), rfl, _, _, rfl, _, _, rfl, _, _, rfl, rfl, ?_⟩
      have dp := dgetR (.inl hcq2) hDc place
      refine ⟨_, rfl, _, rfl, cq, _, rfl, dp, _, rfl, ?_⟩
      rw [en]
      exact iteT ⟨_, rfl, _, rfl, iteT ⟨_, rfl, q _ k12⟩⟩
    · refine ⟨t, _, rfl, .inl (.inl ht), rfl, _, _, rfl, _, _, rfl, _, _, rfl, rfl, ?_⟩
      have dp := dgetR (.inl hcq2) hDc place
      refine ⟨_, rfl, _, rfl, cq, _, rfl, dp, _, rfl, ?_⟩
      rw [ex]
      rw [ex] at dp
      have hTg := graft_tree hG.up hT.1 hbk C hDw
      have hb2 : ∀ {H'}, K0 H2 H' → H' b = some (.dK ws) := fun k => k.oth b _ hb (fun _ z => by cases z)
      refine iteF ⟨_, rfl, _, rfl, _, rfl, cq, _, rfl, dp, rfl, _, rfl, ?_⟩
      show if (!decide (V.int x = V.int x)) = true then _ else _
      rw [decide_eq_true (show V.int x = V.int x from rfl)]
      have j12 : ∀ {H'}, K0 H2 H' → K0 H H' := fun k => k12.trans k
      have tbj : ∀ {H'}, K0 H2 H' → TbL H' [Pn, Pr, Pa, Pp, Pg, Ps, Pt, Pc] := fun k => tb.k0 (j12 k)
      refine iteF ⟨_, rfl, _, rfl, _, rfl, a, n, rs, root, b, ws, addF p g l, rfl, hN.k0 k12, hG, hl, r0, r1, hb, hDw, by omega, hTg, sub5 (tb.k0 k12), fun H3 j3 => ?_⟩
      refine ⟨_, rfl, _, rfl, _, rfl, a, n, rs, root, d, kvs, g, rfl, hN.k0 (j12 j3), hG, hl, r0, r1, dat (j12 j3), hD, by omega, hT.1, sub5 (tbj j3), fun H4 k4 => ?_⟩
      have j4 := j3.trans k4
      have hpr := graft_price hG.up hG.ok hbk C hD hDw ex
      refine ⟨_, rfl, _, _, rfl, rfl, rfl, _, rfl, ?_⟩
      show if (!decide (V.int _ = V.int _)) = true then _ else _
      rw [decide_eq_true (congrArg V.int hpr)]
      refine iteF ?_
      -- trim
      have hs4 : ∀ {H'}, K0 H2 H' → H' s = some (.lst (ns.map V.int)) := fun k => (j12 k).oth s _ hs (fun _ z => by cases z)
      refine ⟨_, rfl, _, rfl, _, rfl, _, rfl, by show 1 ≤ sizeLine; decide, fun l0 nl0 => ?_⟩
      have j5 := j4.mut (o := .lst [.int place]) (j4.dom l0 nl0)
      have hl5 : upd H4 l0 (.lst [.int place]) l0 = some (.lst ([place].map V.int)) := upd_same
      generalize upd H4 l0 (.lst [.int place]) = H5 at j5 hl5
      have hnl := hA.len
      refine ⟨s, l0, ns.map V.int, [place].map V.int, rfl, rfl, hs4 j5, hl5, Nat.le_trans (m := 5000) (by rw [List.length_map, List.length_map, List.length_singleton]; omega) (by decide), fun l1 nl1 => ?_⟩
      have j6 := j5.mut (o := .lst (ns.map V.int ++ [place].map V.int)) (j5.dom l1 nl1)
      have hl6 : upd H5 l1 (.lst (ns.map V.int ++ [place].map V.int)) l1 = some (.lst ((ns ++ [place]).map V.int)) := by rw [List.map_append]; exact upd_same
      generalize upd H5 l1 (.lst (ns.map V.int ++ [place].map V.int)) = H6 at j6 hl6
      refine ⟨l1, ns ++ [place], rfl, .inl (.inl hl6), by rw [List.length_append, List.length_singleton]; omega, fun p1' c np hcnt => ?_⟩
      have j7 := j6.mut (o := SetO w p1' (fun j => decide (j ∈ ns ++ [place])) c) (j6.dom p1' np)
      have rng : ∀ v ∈ ns ++ [place], 0 ≤ v ∧ v < n := fun v hv => by
        rcases List.mem_append.mp hv with hv | hv
        · exact hA.1 v hv
        · rw [List.mem_singleton.mp hv]; exact ⟨p0, p1⟩
      have c12 : c ≤ 12 := by
        have := hcnt ((List.range n.toNat).map fun (i : Nat) => (i : Int)) fun x hx => by
          obtain ⟨h0, h1⟩ := rng x hx
          exact List.mem_map.mpr ⟨x.toNat, List.mem_range.mpr (by omega), by omega⟩
        rw [List.length_map, List.length_range] at this
        omega
      refine ⟨p1', _, c, rfl, upd_same, by omega, fun ms p2 hrise hmem hlen np2 => ?_⟩
      have j8 := j7.mut (o := .lst (ms.map V.int)) (j7.dom p2 np2)
      refine ⟨p2, ms.map V.int, rfl, .inl ⟨.inl (.inl upd_same), fun q2 nq2 => ?_⟩⟩
      have j9 := j8.mut (o := .tup (ms.map V.int)) (j8.dom q2 nq2)
      have hmem' : ∀ v, v ∈ ms ↔ v ∈ ns ∨ v = place := fun v => by rw [hmem v, decide_eq_true_iff, List.mem_append, List.mem_singleton]
      have hAm : AreP n ms := ⟨fun v hv => rng v (of_decide_eq_true ((hmem v).mp hv)), hrise⟩
      have hTm := graft_trim hG.up hT hbk C hDw hmem'
      refine ⟨_, rfl, a, n, rs, root, q2, ms, b, ws, addF p g l, rfl, hN.k0 (j12 j9), hG, hl, r0, r1, .inl (.inl upd_same), hAm, hb2 j9, hDw, by omega, sub7 (tbj j9), fun H10 bb k10 hbb => ?_⟩
      obtain rfl : bb = true := hbb.mpr hTm
      have j10 := j9.trans k10
      refine ⟨true, true, rfl, rfl, _, rfl, iteF ?_⟩
      -- cut back
      refine ⟨_, rfl, _, rfl, _, rfl, s, ns.map V.int, rfl, .inl ⟨.inl (.inl (hs4 j10)), fun q3 nq3 => ?_⟩⟩
      have j11 := j10.mut (o := .tup (ns.map V.int)) (j10.dom q3 nq3)
      have hno := add_no hbk C
      refine ⟨_, rfl, a, n, rs, root, q3, ns, b, ws, addF p g l, rfl, hN.k0 (j12 j11), hG, hl, r0, r1, .inl (.inl upd_same), hA, hb2 j11, hDw, by omega, hTg, fun v hv => ?_, sub6 (tbj j11), fun fq fs H12 k12' nfq hfq hDf hfl => ?_⟩
      · rcases hT.2.1 v hv with h | h
        · exact .inl h
        · exact .inr (add_dom hno h)
      rw [kept_graft hT hno] at hDf
      have j12' := j11.trans k12'
      obtain ⟨e5, e6⟩ := hDf.same hD
      exact ⟨_, rfl, fq, d, fs, kvs, rfl, rfl, hfq, dat (j12 j12'), e5, e6, q _ (j12 j12')⟩
end
end HK

set_option Elab.async false
set_option linter.all false
set_option maxRecDepth 100000
set_option maxHeartbeats 4000000
namespace HK
open PySem PySem.Spec PyProof.Rows L2 GAl GxR
open Evl (pss_cut)
abbrev sGoes : Stmt := topS 46
abbrev N_scGoes : List Str := ["net", "root", "some", "ahead", "place", "left", "fewer", "told", "later", "one", "key"]
theorem scGoes : FnScope N_scGoes ["net", "root", "some", "ahead", "place"] (defScope sGoes) := ⟨rfl, rfl, rfl, by decide +kernel, rfl, by decide +kernel, by decide +kernel⟩
section
variable {P : Program} {w : World} {K : PySem.W.Frag} {mg : Str → Option Value} {base : Heap}
def lessOf (ns : List Int) (place : Int) : List Int := ns.filter fun v => decide (v ≠ place)
theorem less_P {n : Int} {ns : List Int} {place : Int} (h : AreP n ns) : AreP n (lessOf ns place) := ⟨fun v hv => h.1 v (List.mem_filter.mp hv).1, h.2.sublist List.filter_sublist⟩
theorem less_S {root : Int} {g : IF} {ns : List Int} {place : Int} (h : ServP root g ns) : ServP root g (lessOf ns place) := fun v hv => h v (List.mem_filter.mp hv).1
def spGoes (K : PySem.W.Frag) (Pn Pr Pa Pp Pg Ps Pt Pc : Addr) : Sp := fun vs H Q _ => ∃ (a : Addr) (n : Int) (rs : List R4) (root : Int) (s : Addr) (ns : List Int) (d : Addr) (kvs : List (Key × V)) (g : IF) (place : Int), vs = [.ref a, .int root, .ref s, .ref d, .int place] ∧ CmA K H a n rs root s ns d kvs g ∧
  TbL H [Pn, Pr, Pa, Pp, Pg, Ps, Pt, Pc] ∧ ∀ (H' : Hp), K0 H H' → Q (.bl true) H'
theorem ok_goes {f Pn Pr Pa Pp Pg Ps Pt Pc : Addr} {fd : FuncData} {f_cut f_istrim f_price f_lateness : Addr} {fd_cut fd_istrim fd_price fd_lateness : FuncData} (F : Fun K "_law_b_goes" "_law_b_goes" sGoes f fd)
    (k_cut : PySem.W.keepIn K (.ref f_cut) = true) (b_cut : Binds K fd_cut ["net", "root", "hearers", "ahead"] []) (g_cut : mg "cut" = some (.ref f_cut)) (G_cut : FnOk P w K mg base CX0 7 f_cut fd_cut ["net", "root", "hearers", "ahead"] (spCut K Pn Pr Pa Pp Pg Ps))
    (k_istrim : PySem.W.keepIn K (.ref f_istrim) = true) (b_istrim : Binds K fd_istrim ["net", "root", "hearers", "ahead"] []) (g_istrim : mg "is_trim" = some (.ref f_istrim)) (G_istrim : FnOk P w K mg base CX0 7 f_istrim fd_istrim ["net", "root", "hearers", "ahead"] (spIsTrim K Pn Pr Pa Pp Pg Ps Pt))
    (k_price : PySem.W.keepIn K (.ref f_price) = true) (b_price : Binds K fd_price ["net", "root", "ahead"] []) (g_price : mg "price" = some (.ref f_price)) (G_price : FnOk P w K mg base CX0 7 f_price fd_price ["net", "root", "ahead"] (spPrice K Pn Pr Pp Pg Pc))
    (k_lateness : PySem.W.keepIn K (.ref f_lateness) = true) (b_lateness : Binds K fd_lateness ["net", "root", "ahead"] []) (g_lateness : mg "lateness" = some (.ref f_lateness)) (G_lateness : FnOk P w K mg base CX0 7 f_lateness fd_lateness ["net", "root", "ahead"] (spLateness K Pn Pr Pp Pg))
    (m_tuple : mg "tuple" = none) (m_all : mg "all" = none) : FnOk P w K mg base CX0 8 f fd ["net", "root", "some", "ahead", "place"] (spGoes K Pn Pr Pa Pp Pg Ps Pt Pc) := by
  refine F.ok scGoes (fun vs H Q E h => ?_) (fun cdv A outer s H vs Q E hr h => ?_)
  · obtain ⟨a, n, rs, root, s, ns, d, kvs, g, place, rfl, _⟩ := h
    rfl
  · obtain ⟨a, n, rs, root, s, ns, d, kvs, g, place, rfl, ⟨hN, hG, hl, r0, r1, hs, hA, hd, hD, hkl, hT, hIn⟩, tb, q⟩ := h
    have hu := hu_of hr
    have n2 := hG.n2
    refine ⟨_, (pss_cons (ps_set (i := 5) scGoes.nd rfl (.inl rfl) (pe_callTy HkL.call_tupR (by rfl) m_tuple (by decide +kernel) (pa_cons (pe_lc (own := [("one", 9)]) (g := (gName 9)) (tt := (tTest (tOp rNe (tVar 9) (tVar 4)))) (te := (tVar 9)) rfl scGoes.nd (pi_list (pv 2)) (blkOk_by (N := N_scGoes) (sc := defScope sGoes) (by decide +kernel)) (fun _ _ _ _ _ => (pg_name (i := 9) scGoes.nd rfl (.inl rfl))) (fun _ _ _ _ _ => (pts_one (pt_cmpR op_ne (pv 9) (pv 4) (nomark _)))) (fun _ _ _ _ _ => (pv 9))) pa_nil)))
      (pss_cons (ps_set (i := 6) scGoes.nd rfl (.inl rfl) (pe_call G_cut (hr.mono (by decide)) (by rfl) g_cut k_cut b_cut .nil pass0 (pa_cons (pv 0) (pa_cons (pv 1) (pa_cons (pv 5) (pa_cons (pv 3) pa_nil))))))
      (pss_cons (ps_if (PW.pt (pw_or (pt_cmpR op_notBl (pe_call G_istrim (hr.mono (by decide)) (by rfl) g_istrim k_istrim b_istrim .nil pass0 (pa_cons (pv 0) (pa_cons (pv 1) (pa_cons (pv 5) (pa_cons (pv 6) pa_nil))))) pe_bl (nomark _)) (pw_or1 (pt_cmpR op_gt (pe_call G_price (hr.mono (by decide)) (by rfl) g_price k_price b_price .nil pass0 (pa_cons (pv 0) (pa_cons (pv 1) (pa_cons (pv 6) pa_nil)))) (pe_call G_price (hr.mono (by decide)) (by rfl) g_price k_price b_price .nil pass0 (pa_cons (pv 0) (pa_cons (pv 1) (pa_cons (pv 3) pa_nil)))) (nomark _))))) (pss_one (ps_ret pe_bl)) pss_nil)
      (pss_cons (ps_set (i := 7) scGoes.nd rfl (.inr rfl) (pe_call G_lateness (hr.mono (by decide)) (by rfl) g_lateness k_lateness b_lateness .nil pass0 (pa_cons (pv 0) (pa_cons (pv 1) (pa_cons (pv 3) pa_nil)))))
      (pss_cons (ps_set (i := 8) scGoes.nd rfl (.inr rfl) (pe_call G_lateness (hr.mono (by decide)) (by rfl) g_lateness k_lateness b_lateness .nil pass0 (pa_cons (pv 0) (pa_cons (pv 1) (pa_cons (pv 6) pa_nil)))))
      (pss_one (ps_ret (pe_and (pe_callB (cr_all rfl) (by rfl) m_all boot_all (pa_cons (pe_lc (own := [("one", 9)]) (g := (gName 9)) (tt := tYes) (te := (tOp rEq (tDGet (tVar 8) (tVar 9)) (tDGet (tVar 7) (tVar 9)))) rfl scGoes.nd (pi_tup (pv 5)) (blkOk_by (N := N_scGoes) (sc := defScope sGoes) (by decide +kernel)) (fun _ _ _ _ _ => (pg_name (i := 9) scGoes.nd rfl (.inl rfl))) (fun _ _ _ _ _ => pts_nil) (fun _ _ _ _ _ => (pe_cmpR op_eq (pe_dget hu (pv 8) (pv 9) (fun _ _ => rfl)) (pe_dget hu (pv 7) (pv 9) (fun _ _ => rfl)) (nomark _)))) pa_nil)) (pe_one (pe_callB (cr_all rfl) (by rfl) m_all boot_all (pa_cons (pe_lock (pe_lc (own := [("key", 10)]) (g := (gName 10)) (tt := tYes) (te := (tDIn (tVar 10) (tVar 3))) rfl scGoes.nd (pi_keys (pv 6)) (blkOk_by (N := N_scGoes) (sc := defScope sGoes) (by decide +kernel)) (fun _ _ _ _ _ => (pg_name (i := 10) scGoes.nd rfl (.inl rfl))) (fun _ _ _ _ _ => pts_nil) (fun _ _ _ _ _ => (pe_cmp (pc_din hu (pv 10) (pv 3)))))) pa_nil))))))))))), ?_⟩
    have sub4 : ∀ {H'}, TbL H' [Pn, Pr, Pa, Pp, Pg, Ps, Pt, Pc] → TbL H' [Pn, Pr, Pp, Pg] := fun h P hP => h P (by simp only [List.mem_cons, List.not_mem_nil, or_false] at hP ⊢; rcases hP with h | h | h | h <;> simp [h])
    have sub5 : ∀ {H'}, TbL H' [Pn, Pr, Pa, Pp, Pg, Ps, Pt, Pc] → TbL H' [Pn, Pr, Pp, Pg, Pc] := fun h P hP => h P (by simp only [List.mem_cons, List.not_mem_nil, or_false] at hP ⊢; rcases hP with h | h | h | h | h <;> simp [h])
    have sub6 : ∀ {H'}, TbL H' [Pn, Pr, Pa, Pp, Pg, Ps, Pt, Pc] → TbL H' [Pn, Pr, Pa, Pp, Pg, Ps] := fun h P hP => h P (by simp only [List.mem_cons, List.not_mem_nil, or_false] at hP ⊢; rcases hP with h | h | h | h | h | h <;> simp [h])
    have sub7 : ∀ {H'}, TbL H' [Pn, Pr, Pa, Pp, Pg, Ps, Pt, Pc] → TbL H' [Pn, Pr, Pa, Pp, Pg, Ps, Pt] := fun h P hP => h P (by simp only [List.mem_cons, List.not_mem_nil, or_false] at hP ⊢; rcases hP with h | h | h | h | h | h | h <;> simp [h])
    have dat : ∀ {H'}, K0 H H' → H' d = some (.dK kvs) := fun k => k.oth d _ hd (fun _ z => by cases z)
    have hnl := hA.len
    have tbs : ∀ (m : Nat), (List.replicate (m + 1) true).map V.bl = (List.replicate m true).map V.bl ++ [V.bl true] := fun m => by rw [List.replicate_succ', List.map_append]; rfl
    have ally : ∀ m : Nat, (List.replicate m true).all id = true := fun m => by
      rw [List.all_eq_true]
      intro x hx
      exact (List.mem_replicate.mp hx).2
    -- left
    refine ⟨_, rfl, s, rfl, ⟨_, .inl (.inl hs)⟩, fun D nD => ?_⟩
    refine lc_list (K := K) (a := s) (xs := ns.map V.int) (fun i H2 => K0 H H2 ∧ H2 D = some (.lst ((lessOf (ns.take i) place).map V.int))) ⟨K0.new nD, by rw [List.take_zero]; exact upd_same⟩ (fun i H2 _ h => .inl (.inl (h.1.oth s _ hs (fun _ z => by cases z)))) (fun i x H2 hx h => ?_) (fun H2 h => ?_)
    · obtain ⟨k, hl2⟩ := h
      rw [List.getElem?_map] at hx
      cases ev : ns[i]? with
      | none => rw [ev] at hx; cases hx
      | some v =>
      rw [ev] at hx
      cases hx
      have hi : i < ns.length := (List.getElem?_eq_some_iff.mp ev).1
      have htk : lessOf (ns.take (i + 1)) place = lessOf (ns.take i) place ++ (if v ≠ place then [v] else []) := by
        unfold lessOf
        rw [List.take_add_one, ev, List.filter_append]
        congr 1
        by_cases h : v = place <;> simp [h]
      rw [htk]
      refine ⟨rfl, _, rfl, _, rfl, rfl, _, rfl, ?_⟩
      show if (!decide (V.int v = V.int place)) = true then _ else _
      by_cases hv : v = place
      · rw [decide_eq_true (show V.int v = V.int place by rw [hv])]
        refine iteF ⟨k, ?_⟩
        rw [if_neg (fun z => z hv), List.append_nil]
        exact hl2
      · rw [decide_eq_false (show ¬ V.int v = V.int place from fun z => hv (V.int.inj z))]
        refine iteT ⟨_, rfl, _, hl2, Nat.lt_of_le_of_lt (m := 5000) (by
          have : (lessOf (ns.take i) place).length ≤ (ns.take i).length := List.length_filter_le _ _
          rw [List.length_map]
          have := List.length_take_le i ns
          omega) (by decide), k.mut nD, ?_⟩
        rw [if_pos hv, List.map_append]
        exact upd_same
    obtain ⟨k, hl2⟩ := h
    rw [List.length_map, List.take_of_length_le (Nat.le_refl _)] at hl2
    refine ⟨D, (lessOf ns place).map V.int, rfl, .inl ⟨.inl (.inl hl2), fun lq nlq => ?_⟩⟩
    have k1 := k.mut (o := .tup ((lessOf ns place).map V.int)) (k.dom lq nlq)
    have hlq1 : upd H2 lq (.tup ((lessOf ns place).map V.int)) lq = some (.tup ((lessOf ns place).map V.int)) := upd_same
    generalize upd H2 lq (.tup ((lessOf ns place).map V.int)) = H1 at k1 hlq1
    have hL := less_P (place := place) hA
    have hLS := less_S (place := place) hT.2.1
    have hLl := hL.len
    generalize lessOf ns place = left at hl2 hlq1 hL hLS hLl
    -- fewer
    refine ⟨_, rfl, _, rfl, _, rfl, _, rfl, a, n, rs, root, lq, left, d, kvs, g, rfl, hN.k0 k1, hG, hl, r0, r1, .inl (.inl hlq1), hL, dat k1, hD, by omega, hT.1, hLS, sub6 (tb.k0 k1), fun fq fs H3 k3 nfq hfq hDf hfl => ?_⟩
    have k13 := k1.trans k3
    have hTk := kept_trim hD hDf hT.1 hLS
    have hlqt : ∀ {H'}, K0 H3 H' → SqT K H' lq (left.map V.int) := fun k => (k3.trans k).sqT (.inl (.inl hlq1))
    have hfqt : ∀ {H'}, K0 H3 H' → H' fq = some (.dK fs) := fun k => k.oth fq _ hfq (fun _ z => by cases z)
    refine ⟨_, rfl, _, rfl, _, rfl, _, rfl, a, n, rs, root, lq, left, fq, fs, _, rfl, hN.k0 k13, hG, hl, r0, r1, hlqt (K0.refl _), hL, hfq, hDf, by omega, sub7 (tb.k0 k13), fun H4 bb j4 hbb => ?_⟩
    obtain rfl : bb = true := hbb.mpr hTk
    have k14 := k13.trans j4
    refine ⟨true, true, rfl, rfl, _, rfl, iteF ?_⟩
    refine ⟨_, rfl, _, rfl, _, rfl, a, n, rs, root, fq, fs, _, rfl, hN.k0 k14, hG, hl, r0, r1, hfqt j4, hDf, by omega, hTk.1, sub5 (tb.k0 k14), fun H5 k5 => ?_⟩
    have j5 := j4.trans k5
    have k15 := k13.trans j5
    refine ⟨_, rfl, _, rfl, _, rfl, a, n, rs, root, d, kvs, g, rfl, hN.k0 k15, hG, hl, r0, r1, dat k15, hD, by omega, hT.1, sub5 (tb.k0 k15), fun H6 k6 => ?_⟩
    have j6 := j5.trans k6
    have k16 := k13.trans j6
    have hle := kept_price hG.ok hD hDf
    refine ⟨_, _, rfl, rfl, _, rfl, ?_⟩
    rw [decide_eq_false (Int.not_lt.mpr hle)]
    refine iteF ?_
    -- told
    refine ⟨_, rfl, _, rfl, _, rfl, a, n, rs, root, d, kvs, g, rfl, hN.k0 k16, hG, hl, r0, r1, dat k16, hD, by omega, hT.1, sub4 (tb.k0 k16), fun tq ts H7 k7 ntq htq hDt htl => ?_⟩
    have j7 := j6.trans k7
    have k17 := k13.trans j7
    refine ⟨_, rfl, _, rfl, _, rfl, a, n, rs, root, fq, fs, _, rfl, hN.k0 k17, hG, hl, r0, r1, hfqt j7, hDf, by omega, hTk.1, sub4 (tb.k0 k17), fun sq ss H8 k8 nsq hsq hDs hsl => ?_⟩
    have j8 := j7.trans k8
    have k18 := k13.trans j8
    have htq8 := k8.oth tq _ htq (fun _ z => by cases z)
    -- all the latenesses
    refine ⟨_, rfl, lq, rfl, ⟨_, hlqt j8⟩, fun D2 nD2 => ?_⟩
    refine lc_tup (K := K) (a := lq) (xs := left.map V.int) (fun i H2 => K0 H8 H2 ∧ H2 D2 = some (.lst ((List.replicate i true).map V.bl))) ⟨K0.new nD2, upd_same⟩ (fun i H2 _ h => hlqt (j8.trans h.1)) (fun i x H2 hx h => ?_) (fun H2 h => ?_)
    · obtain ⟨kk, hl2⟩ := h
      rw [List.getElem?_map] at hx
      cases ev : left[i]? with
      | none => rw [ev] at hx; cases hx
      | some v =>
      rw [ev] at hx
      cases hx
      have hi : i < left.length := (List.getElem?_eq_some_iff.mp ev).1
      obtain ⟨x, e1, e2⟩ := lat_kept (rs := rs) hD hDf hT.1 hLS (List.mem_of_getElem? ev)
      have d1 := dgetR (.inl (kk.oth tq _ htq8 (fun _ z => by cases z))) hDt v
      have d2 := dgetR (.inl (kk.oth sq _ hsq (fun _ z => by cases z))) hDs v
      rw [e1] at d1
      rw [e2] at d2
      refine ⟨rfl, _, rfl, _, rfl, sq, _, rfl, d2, _, rfl, _, rfl, tq, _, rfl, d1, rfl, _, hl2, Nat.lt_of_le_of_lt (m := 5000) (by rw [List.length_map, List.length_replicate]; omega) (by decide), kk.mut nD2, ?_⟩
      rw [tbs, decide_eq_true (show V.int x = V.int x from rfl)]
      exact upd_same
    obtain ⟨kk, hl2⟩ := h
    refine ⟨D2, List.replicate left.length true, rfl, .inl (.inl (by rw [List.length_map] at hl2; exact hl2)), ?_⟩
    refine ⟨_, rfl, ?_⟩
    rw [ally]
    refine iteT ?_
    have j9 := j8.trans kk
    have hfq9 := hfqt j9
    refine ⟨fq, _, hfq9, trivial, fun od => ⟨_, rfl, fq, od, rfl, .inl ⟨fs, upd_same, fun D3 nD3 => ?_⟩⟩⟩
    have nDp : D3 ≠ fq := fun z => by rw [z, upd_same] at nD3; cases nD3
    have hdl : upd H2 fq (.frz od (.dK fs)) d = some (.dK kvs) := by
      rw [upd_ne (ne_of_none (dat k1) nfq)]
      exact dat (k13.trans j9)
    refine lc_it walk_keys (fun i H4 => K0 (upd H2 fq (.frz od (.dK fs))) H4 ∧ H4 D3 = some (.lst ((List.replicate i true).map V.bl))) ⟨K0.new nD3, upd_same⟩ (fun i H4 _ h => h.1.oth fq _ upd_same (fun _ z => by cases z)) (fun i x H4 H5 hi h y => ?_) (fun H4 h => ?_)
    · obtain ⟨rfl, k, v, hkv, rfl⟩ := y
      obtain ⟨j, z, e, e2⟩ := hDf.at_ (List.mem_of_getElem? hkv)
      cases e
      obtain ⟨k5', hl5⟩ := h
      have dg := dgetR (.inl (k5'.oth d _ hdl (fun _ z => by cases z))) hD j
      rw [(resF_some.mp e2).2] at dg
      refine ⟨rfl, _, rfl, _, rfl, d, _, rfl, dg, _, hl5, Nat.lt_of_le_of_lt (m := 5000) (by rw [List.length_map, List.length_replicate]; omega) (by decide), k5'.mut nD3, ?_⟩
      rw [tbs]
      exact upd_same
    · obtain ⟨k5', hl5⟩ := h
      refine ⟨k5'.oth fq _ upd_same (fun _ z => by cases z), D3, List.replicate fs.length true, rfl, .inl (.inl (by rw [upd_ne nDp]; exact hl5)), ?_⟩
      refine qeq (q _ ((k13.trans j9).trans (K0.lock hfq9 (fun _ z => by cases z) k5'))) ?_
      rw [ally]
end
end HK

set_option Elab.async false
set_option linter.all false
set_option maxRecDepth 100000
set_option maxHeartbeats 4000000
namespace HK
open PySem PySem.Spec PyProof.Rows L2 GAl GxR
open Evl (pss_cut)
abbrev sLaw : Stmt := topS 47
abbrev N_scLaw : List Str := ["script", "tape", "net", "root", "some", "ahead", "cell", "place", "longer", "one"]
theorem scLaw : FnScope N_scLaw ["script"] (defScope sLaw) := ⟨rfl, rfl, rfl, by decide +kernel, rfl, by decide +kernel, by decide +kernel⟩
section
variable {P : Program} {w : World} {K : PySem.W.Frag} {mg : Str → Option Value} {base : Heap}
theorem CmA.k0 {H H' : Hp} {a : Addr} {n : Int} {rs : List R4} {root : Int} {s : Addr} {ns : List Int} {d : Addr} {kvs : List (Key × V)} {g : IF} (h : CmA K H a n rs root s ns d kvs g) (k : K0 H H') : CmA K H' a n rs root s ns d kvs g := by
  obtain ⟨hN, hG, hl, r0, r1, hs, hA, hd, hD, hkl, hT, hIn⟩ := h
  exact ⟨hN.k0 k, hG, hl, r0, r1, k.oth s _ hs (fun _ z => by cases z), hA, k.oth d _ hd (fun _ z => by cases z), hD, hkl, hT, hIn⟩
theorem dpL' {H : Hp} {a : Addr} {ns : List Int} (h : SqL K H a (ns.map V.int)) : Dp K H (.ref a) (.list (ns.map PyData.int)) := .lst h (dpInts ns)
theorem areP_nil' {n : Int} : AreP n [] := ⟨fun v hv => by (cases hv), List.Pairwise.nil⟩
theorem graft_range {n root place : Int} {rs : List R4} {g p f : IF} {l : List Int} (hok : ∀ r ∈ rs, RoadOk n r) (r0 : 0 ≤ root) (r1 : root < n) (hIn : ∀ v, InT root g v → 0 ≤ v ∧ v < n) (hb : Back p (InT root g) place l) (C : Cheap rs (InT root g) f p) : ∀ v, InT root (addF p g l) v → 0 ≤ v ∧ v < n := fun v hv => by
  by_cases hl : v ∈ l
  · obtain ⟨u, eu⟩ := hb.in_ v hl
    obtain ⟨r, hr, _, e2, _⟩ := C.way v u eu
    have := hok r hr
    exact ⟨e2 ▸ this.e0, e2 ▸ this.e1⟩
  · refine hIn v ?_
    rcases hv with h | h
    · exact .inl h
    · unfold addF at h
      rw [if_neg hl] at h
      exact .inr h
theorem cutI (ns : List Int) : ∃ ms : List Int, cutV (ns.map V.int) (some 8) (some 28) = ms.map V.int ∧ ms.length ≤ 28 := by
  refine ⟨(ns.drop (HT.sIx (ns.map V.int).length 0 (some 8))).take (HT.sIx (ns.map V.int).length (ns.map V.int).length (some 28) - HT.sIx (ns.map V.int).length 0 (some 8)), ?_, ?_⟩
  · unfold cutV
    rw [List.map_take, List.map_drop]
  · refine Nat.le_trans (List.length_take_le _ _) ?_
    have : HT.sIx (ns.map V.int).length (ns.map V.int).length (some 28) ≤ 28 := by
      rw [show (28 : Int) = ((28 : Nat) : Int) from rfl, HT.sIx_nat]
      exact Nat.min_le_left _ _
    omega
def spLaw (K : PySem.W.Frag) (Pn Pr Pa Pp Pg Ps Pt Pc : Addr) : Sp := fun vs H Q _ => ∃ (a : Addr) (ns : List Int), vs = [.ref a] ∧ SqL K H a (ns.map V.int) ∧ TabG H Pn ∧ TabG H Pr ∧ TabG H Pa ∧ TabG H Pp ∧ TabG H Pg ∧ TabG H Ps ∧ TabG H Pt ∧ TabG H Pc ∧ ∀ H', Q (.bl true) H'
theorem ok_law {f : Addr} {fd : FuncData} {f_net f_digit f_goes f_comes f_cut f_graft f_istrim : Addr} {fd_net fd_digit fd_goes fd_comes fd_cut fd_graft fd_istrim : FuncData} {Pn Pr Pa Pp Pg Ps Pt Pc : Addr} (F : Fun K "law" "law" sLaw f fd)
    (k_net : PySem.W.keepIn K (.ref f_net) = true) (b_net : Binds K fd_net ["tape", "most"] []) (g_net : mg "_law_b_net" = some (.ref f_net)) (G_net : FnOk P w K mg base CX0 3 f_net fd_net ["tape", "most"] (spNet K))
    (k_digit : PySem.W.keepIn K (.ref f_digit) = true) (b_digit : Binds K fd_digit ["tape", "many"] []) (g_digit : mg "_law_b_digit" = some (.ref f_digit)) (G_digit : FnOk P w K mg base CX0 2 f_digit fd_digit ["tape", "many"] (spDigit K))
    (k_goes : PySem.W.keepIn K (.ref f_goes) = true) (b_goes : Binds K fd_goes ["net", "root", "some", "ahead", "place"] []) (g_goes : mg "_law_b_goes" = some (.ref f_goes)) (G_goes : FnOk P w K mg base CX0 8 f_goes fd_goes ["net", "root", "some", "ahead", "place"] (spGoes K Pn Pr Pa Pp Pg Ps Pt Pc))
    (k_comes : PySem.W.keepIn K (.ref f_comes) = true) (b_comes : Binds K fd_comes ["net", "root", "some", "ahead", "place"] []) (g_comes : mg "_law_b_comes" = some (.ref f_comes)) (G_comes : FnOk P w K mg base CX0 8 f_comes fd_comes ["net", "root", "some", "ahead", "place"] (spComes K Pn Pr Pa Pp Pg Ps Pt Pc))
    (k_cut : PySem.W.keepIn K (.ref f_cut) = true) (b_cut : Binds K fd_cut ["net", "root", "hearers", "ahead"] []) (g_cut : mg "cut" = some (.ref f_cut)) (G_cut : FnOk P w K mg base CX0 7 f_cut fd_cut ["net", "root", "hearers", "ahead"] (spCut K Pn Pr Pa Pp Pg Ps))
    (k_graft : PySem.W.keepIn K (.ref f_graft) = true) (b_graft : Binds K fd_graft ["net", "root", "ahead", "place"] []) (g_graft : mg "graft" = some (.ref f_graft)) (G_graft : FnOk P w K mg base CX0 7 f_graft fd_graft ["net", "root", "ahead", "place"] (spGraft K Pn Pr Pp Pg))
    (k_istrim : PySem.W.keepIn K (.ref f_istrim) = true) (b_istrim : Binds K fd_istrim ["net", "root", "hearers", "ahead"] []) (g_istrim : mg "is_trim" = some (.ref f_istrim)) (G_istrim : FnOk P w K mg base CX0 7 f_istrim fd_istrim ["net", "root", "hearers", "ahead"] (spIsTrim K Pn Pr Pa Pp Pg Ps Pt))
    (m_len : mg "len" = none) (m_tuple : mg "tuple" = none) (m_sorted : mg "sorted" = none) (m_set : mg "set" = none) : FnOk P w K mg base CX0 9 f fd ["script"] (spLaw K Pn Pr Pa Pp Pg Ps Pt Pc) := by
  refine F.ok scLaw (fun vs H Q E h => ?_) (fun cdv A outer s H vs Q E hr h => ?_)
  · obtain ⟨a, ns, rfl, _⟩ := h
    rfl
  · obtain ⟨a, ns, rfl, hS, t1, t2, t3, t4, t5, t6, t7, t8, q⟩ := h
    have hu := hu_of hr
    refine ⟨_, (pss_cons (ps_set (i := 1) scLaw.nd rfl (.inl rfl) (pe_lst (pa_cons (pv 0) (pa_cons pe_int (pa_cons pe_int pa_nil)))))
      (pss_cons (ps_set (i := 2) scLaw.nd rfl (.inl rfl) (pe_call G_net (hr.mono (by decide)) (by rfl) g_net k_net b_net .nil pass0 (pa_cons (pv 1) (pa_cons pe_int pa_nil))))
      (pss_cons (ps_set (i := 3) scLaw.nd rfl (.inl rfl) (pe_call G_digit (hr.mono (by decide)) (by rfl) g_digit k_digit b_digit .nil pass0 (pa_cons (pv 1) (pa_cons (pe_ix ix_tup (pv 2) pe_int (fun _ _ => rfl)) pa_nil))))
      (pss_cons (ps_set (i := 4) scLaw.nd rfl (.inl rfl) (pe_lst pa_nil))
      (pss_cons (ps_set (i := 5) scLaw.nd rfl (.inl rfl) pe_dnewK)
      (pss_cons (ps_for PassesOwn.never rfl (pi_list (pe_op op_cat (pe_slice sl_list (pv 0) (po_some pe_int) (po_some pe_int)) (pe_lst (pa_cons pe_int (pa_cons pe_int (pa_cons pe_int (pa_cons pe_int (pa_cons pe_int (pa_cons pe_int (pa_cons pe_int (pa_cons pe_int pa_nil))))))))))) (pg_name (i := 6) scLaw.nd rfl (.inl rfl))
      (pss_one (ps_if (PW.pt (pw_and (pt_cmpR (op_neD hr.units) (pv 4) (pe_lst pa_nil) (nomark _)) (pw_and1 (pt_cmpR op_eq (pe_op op_mod (pv 6) pe_int) pe_int (nomark _))))) (pss_cons (ps_set (i := 7) scLaw.nd rfl (.inr rfl) (pe_ix ix_list (pv 4) (pe_op op_mod (pe_op op_fdiv (pv 6) pe_int) (pe_callB call_len_seq (by rfl) m_len PySem.boot_len (pa_cons (pv 4) pa_nil))) (fun _ _ => rfl)))
      (pss_cons (ps_if (pt_not (pt_val (pe_call G_goes (hr.mono (by decide)) (by rfl) g_goes k_goes b_goes .nil pass0 (pa_cons (pv 2) (pa_cons (pv 3) (pa_cons (pv 4) (pa_cons (pv 5) (pa_cons (pv 7) pa_nil)))))))) (pss_one (ps_ret pe_bl)) pss_nil)
      (pss_cons (ps_setLc (i := 4) (own := [("one", 9)]) (g := (gName 9)) (tt := (tTest (tOp rNe (tVar 9) (tVar 7)))) (te := (tVar 9)) rfl scLaw.nd rfl rfl (sw_true rfl rfl rfl rfl) (pi_list (pv 4)) (blkOk_by (N := N_scLaw) (sc := defScope sLaw) (by decide +kernel)) (fun _ _ _ _ _ => (pg_name (i := 9) scLaw.nd rfl (.inl rfl))) (fun _ _ _ _ _ => (pts_one (pt_cmpR op_ne (pv 9) (pv 7) (nomark _)))) (fun _ _ _ _ _ => (pv 9)))
      (pss_one (ps_set (i := 5) scLaw.nd rfl (.inl rfl) (pe_call G_cut (hr.mono (by decide)) (by rfl) g_cut k_cut b_cut .nil pass0 (pa_cons (pv 2) (pa_cons (pv 3) (pa_cons (pe_callTy HkL.call_tupR (by rfl) m_tuple (by decide +kernel) (pa_cons (pv 4) pa_nil)) (pa_cons (pv 5) pa_nil)))))))))) (pss_cons (ps_set (i := 7) scLaw.nd rfl (.inr rfl) (pe_op op_mod (pe_op op_fdiv (pv 6) pe_int) (pe_ix ix_tup (pv 2) pe_int (fun _ _ => rfl))))
      (pss_cons (ps_if (pt_not (pt_val (pe_call G_comes (hr.mono (by decide)) (by rfl) g_comes k_comes b_comes .nil pass0 (pa_cons (pv 2) (pa_cons (pv 3) (pa_cons (pv 4) (pa_cons (pv 5) (pa_cons (pv 7) pa_nil)))))))) (pss_one (ps_ret pe_bl)) pss_nil)
      (pss_cons (ps_set (i := 8) scLaw.nd rfl (.inl rfl) (pe_ix ix_tup (pe_call G_graft (hr.mono (by decide)) (by rfl) g_graft k_graft b_graft .nil pass0 (pa_cons (pv 2) (pa_cons (pv 3) (pa_cons (pv 5) (pa_cons (pv 7) pa_nil))))) pe_int (fun _ _ => rfl)))
      (pss_one (ps_if (pt_cmp (pc_notN (pv 8))) (pss_cons (ps_set (i := 5) scLaw.nd rfl (.inl rfl) (pv 8))
      (pss_one (ps_set (i := 4) scLaw.nd rfl (.inl rfl) (pe_callB (cr_sortedSet rfl) (by rfl) m_sorted boot_sorted (pa_cons (pe_callTy (HkL.cr_setLi rfl) (by rfl) m_set (by decide +kernel) (pa_cons (pe_op op_cat (pv 4) (pe_lst (pa_cons (pv 7) pa_nil))) pa_nil)) pa_nil))))) pss_nil))))))))
      (pss_one (ps_ret (pe_cmpR op_isBl (pe_call G_istrim (hr.mono (by decide)) (by rfl) g_istrim k_istrim b_istrim .nil pass0 (pa_cons (pv 2) (pa_cons (pv 3) (pa_cons (pe_callTy HkL.call_tupR (by rfl) m_tuple (by decide +kernel) (pa_cons (pv 4) pa_nil)) (pa_cons (pv 5) pa_nil))))) pe_bl (nomark _)))))))))), ?_⟩
    -- tape
    refine ⟨.ref a, rfl, by show 3 ≤ sizeLine; decide, fun t hnt => ?_⟩
    have k1 : K0 H (upd H t (.lst [.ref a, .int 0, .int 0])) := K0.new hnt
    have tb0 : TbL H [Pn, Pr, Pa, Pp, Pg, Ps, Pt, Pc] := fun P hP => by
      simp only [List.mem_cons, List.not_mem_nil, or_false] at hP
      rcases hP with rfl | rfl | rfl | rfl | rfl | rfl | rfl | rfl
      · exact t1
      · exact t2
      · exact t3
      · exact t4
      · exact t5
      · exact t6
      · exact t7
      · exact t8
    have tb1 := tb0.k0 k1
    have sub4 : ∀ {H'}, TbL H' [Pn, Pr, Pa, Pp, Pg, Ps, Pt, Pc] → TbL H' [Pn, Pr, Pp, Pg] := fun h P hP => h P (by simp only [List.mem_cons, List.not_mem_nil, or_false] at hP ⊢; rcases hP with h | h | h | h <;> simp [h])
    have sub6 : ∀ {H'}, TbL H' [Pn, Pr, Pa, Pp, Pg, Ps, Pt, Pc] → TbL H' [Pn, Pr, Pa, Pp, Pg, Ps] := fun h P hP => h P (by simp only [List.mem_cons, List.not_mem_nil, or_false] at hP ⊢; rcases hP with h | h | h | h | h | h <;> simp [h])
    have sub7 : ∀ {H'}, TbL H' [Pn, Pr, Pa, Pp, Pg, Ps, Pt, Pc] → TbL H' [Pn, Pr, Pa, Pp, Pg, Ps, Pt] := fun h P hP => h P (by simp only [List.mem_cons, List.not_mem_nil, or_false] at hP ⊢; rcases hP with h | h | h | h | h | h | h <;> simp [h])
    generalize hH1 : upd H t (.lst [.ref a, .int 0, .int 0]) = H1 at k1 tb1
    have htp : Tape K H1 t a ns := by
      rw [← hH1]
      exact ⟨⟨0, 0, upd_same, by omega, by omega⟩, Scr.of hS hnt⟩
    -- net
    refine ⟨.ref t, rfl, t, a, 12, ns, rfl, htp, by omega, by omega, fun na n rs H3 kt3 tp3 hN hle G hlen => ?_⟩
    have n1 := G.n1
    have n2 := G.n2
    have hN' := hN
    obtain ⟨r, xs, o, h1, h2, hc, hd, h3⟩ := hN'
    -- root
    refine ⟨.ref t, rfl, .ref na, rfl, na, _, 0, .int n, rfl, rfl, h1, atI_nat (j := 0) rfl, t, a, n, ns, rfl, tp3, by omega, by omega, fun root H4 r0 r1 k4 tp4 => ?_⟩
    have hN4 := hN.kt k4
    have tb4 := tb1.kt (kt3.trans k4)
    -- some, ahead
    refine ⟨Nat.zero_le _, fun s0 ns0 => ?_⟩
    refine fun d0 nd0 => ?_
    obtain ⟨cs, ecs, csl⟩ := cutI ns
    have ka : K0 H4 (upd H4 s0 (.lst [])) := K0.new ns0
    have kb := ka.mut (o := .dK []) (ka.dom d0 nd0)
    have hs1 : upd (upd H4 s0 (.lst [])) d0 (.dK []) s0 = some (.lst (([] : List Int).map V.int)) := by rw [upd_ne (fun z => by rw [← z, upd_same] at nd0; cases nd0)]; exact upd_same
    have hd1 : upd (upd H4 s0 (.lst [])) d0 (.dK []) d0 = some (.dK []) := upd_same
    generalize upd (upd H4 s0 (.lst [])) d0 (.dK []) = H5 at kb hs1 hd1
    have c5 : CmA K H5 na n rs root s0 [] d0 [] (fun _ => none) := ⟨hN4.k0 kb, G, hlen, r0, r1, hs1, areP_nil', hd1, ⟨List.nodup_nil, fun p hp => (by cases hp), fun i => rfl⟩, Nat.zero_le _, ⟨⟨rfl, fun v x e => (by cases e), fun v x e => (by cases e)⟩, fun v hv => (by cases hv), fun v x e => (by cases e)⟩, fun v hv => by
      rcases hv with h | h
      · rw [h]; exact ⟨r0, r1⟩
      · cases h⟩
    have tb5 := tb4.k0 kb
    have hS4 : SqL K H5 a (ns.map V.int) := kb.sqL tp4.scr.sq
    refine ⟨_, rfl, _, rfl, _, rfl, a, _, rfl, hS4, fun la nla => ?_⟩
    have kc := kb.mut (o := .lst (cutV (ns.map V.int) (some 8) (some 28))) (kb.dom la nla)
    rw [ecs] at kc ⊢
    have kc5 : K0 H5 (upd H5 la (.lst (cs.map V.int))) := K0.new nla
    have hla : upd H5 la (.lst (cs.map V.int)) la = some (.lst (cs.map V.int)) := upd_same
    generalize upd H5 la (.lst (cs.map V.int)) = H6 at kc kc5 hla
    refine ⟨by show 8 ≤ sizeLine; decide, fun lb nlb => ?_⟩
    have kd5 := kc5.mut (o := .lst [V.int 0, V.int 5, V.int 10, V.int 15, V.int 21, V.int 3, V.int 8, V.int 27]) (kc5.dom lb nlb)
    have hlb : upd H6 lb (.lst [V.int 0, V.int 5, V.int 10, V.int 15, V.int 21, V.int 3, V.int 8, V.int 27]) lb = some (.lst [V.int 0, V.int 5, V.int 10, V.int 15, V.int 21, V.int 3, V.int 8, V.int 27]) := upd_same
    have hla2 : upd H6 lb (.lst [V.int 0, V.int 5, V.int 10, V.int 15, V.int 21, V.int 3, V.int 8, V.int 27]) la = some (.lst (cs.map V.int)) := by rw [upd_ne (ne_of_none hla nlb)]; exact hla
    refine ⟨la, lb, cs.map V.int, [V.int 0, V.int 5, V.int 10, V.int 15, V.int 21, V.int 3, V.int 8, V.int 27], rfl, rfl, hla2, hlb, Nat.le_trans (m := 5000) (by rw [List.length_map]; simp only [List.length_cons, List.length_nil]; omega) (by decide), fun lc nlc => ?_⟩
    have ke5 := kd5.mut (o := .lst (cs.map V.int ++ [V.int 0, V.int 5, V.int 10, V.int 15, V.int 21, V.int 3, V.int 8, V.int 27])) (kd5.dom lc nlc)
    have hlc : upd (upd H6 lb (.lst [V.int 0, V.int 5, V.int 10, V.int 15, V.int 21, V.int 3, V.int 8, V.int 27])) lc (.lst (cs.map V.int ++ [V.int 0, V.int 5, V.int 10, V.int 15, V.int 21, V.int 3, V.int 8, V.int 27])) lc = some (.lst (cs.map V.int ++ [V.int 0, V.int 5, V.int 10, V.int 15, V.int 21, V.int 3, V.int 8, V.int 27])) := upd_same
    rw [show cs.map V.int ++ [V.int 0, V.int 5, V.int 10, V.int 15, V.int 21, V.int 3, V.int 8, V.int 27] = (cs ++ [0, 5, 10, 15, 21, 3, 8, 27]).map V.int by rw [List.map_append]; rfl] at hlc ke5 ⊢
    generalize cs ++ [0, 5, 10, 15, 21, 3, 8, 27] = ds at hlc ke5
    generalize upd (upd H6 lb (.lst [V.int 0, V.int 5, V.int 10, V.int 15, V.int 21, V.int 3, V.int 8, V.int 27])) lc (.lst (ds.map V.int)) = H7 at ke5 hlc
    have c7 := c5.k0 ke5
    have tb7 := tb5.k0 ke5
    refine ⟨lc, rfl, ⟨_, .inl (.inl hlc)⟩, for_list (K := K) (a := lc) (xs := ds.map V.int) (fun j σ' H' => ∃ s ms d kvs g y6 y7 y8, σ' = [some (.ref a), some (.ref t), some (.ref na), some (.int root), some (.ref s), some (.ref d), y6, y7, y8, none] ∧ K0 H7 H' ∧ CmA K H' na n rs root s ms d kvs g)
      ⟨s0, [], d0, [], _, none, none, none, rfl, K0.refl _, c7⟩ (fun j σ' H' _ h => ?_) (fun j x σ' H' hx h => ?_) (fun σ' H' h => ?_)⟩
    · obtain ⟨_, _, _, _, _, _, _, _, _, k, _⟩ := h
      exact .inl (.inl (k.oth lc _ hlc (fun _ z => by cases z)))
    · obtain ⟨s, ms, d, kvs, g, y6, y7, y8, rfl, k, hC⟩ := h
      rw [List.getElem?_map] at hx
      cases ev : ds[j]? with
      | none => rw [ev] at hx; cases hx
      | some c =>
      rw [ev] at hx
      cases hx
      have hC' := hC
      obtain ⟨hN, hG, hl, r0, r1, hs, hA, hd, hD, hkl, hT, hIn⟩ := hC'
      have tb8 := tb7.k0 k
      have hml := hA.len
      refine ⟨_, rfl, Nat.zero_le _, fun le nle => ?_⟩
      have k1 : K0 H' (upd H' le (.lst [])) := K0.new nle
      refine ⟨_, _, dpL' (.inl (.inl (k1.oth s _ hs (fun _ z => by cases z)))), .lst (.inl (.inl upd_same)) .nil, canLay_ints ms, canLay_ints [], _, rfl, ?_⟩
      rw [show PyData.eqv (.list (ms.map PyData.int)) (.list ([] : List PyData)) = ms.isEmpty from eqv_nil ms]
      have hC1 := hC.k0 k1
      have tb9 := tb8.k0 k1
      have kk := k.trans k1
      generalize upd H' le (.lst []) = H8 at k1 hC1 tb9 kk
      have hC1' := hC1
      obtain ⟨hN1, _, _, _, _, hs1, _, hd1, _⟩ := hC1'
      refine ite2 (fun e => ?_) (fun e => ?_)
      refine ⟨_, rfl, c, 3, rfl, rfl, (show (0 : Int) < 3 by decide), rfl, _, rfl, ite2 (fun e2 => ?_) (fun e2 => ?_)⟩
      · -- one goes
        have hne : 0 < ms.length := by
          cases ms with
          | nil => cases e
          | cons => exact Nat.succ_pos _
        have hix : ∃ k : Nat, c / 3 % ((ms.map V.int).length : Int) = (k : Int) ∧ k < ms.length := by
          rw [List.length_map]
          have h1 := Int.emod_nonneg (c / 3) (show (ms.length : Int) ≠ 0 by omega)
          have h2 := Int.emod_lt_of_pos (c / 3) (show 0 < (ms.length : Int) by omega)
          obtain ⟨k, hk⟩ := Int.eq_ofNat_of_zero_le h1
          exact ⟨k, hk, by omega⟩
        obtain ⟨ki, hk, hki⟩ := hix
        refine ⟨_, rfl, _, rfl, c, 3, rfl, rfl, ⟨by decide, by decide⟩, _, rfl, s, _, rfl, .inl (.inl (.inl hs1)), _, _, rfl, rfl, (by rw [List.length_map]; omega), s, _, _, .int ms[ki], rfl, rfl, .inl (.inl hs1), (by rw [hk]; exact atI_nat (by rw [List.getElem?_map, List.getElem?_eq_getElem hki]; rfl)), ?_⟩
        refine ⟨_, rfl, _, rfl, _, rfl, _, rfl, _, rfl, na, n, rs, root, s, ms, d, kvs, g, ms[ki], rfl, hC1, tb9, fun H9 k9 => ⟨_, rfl, iteF ?_⟩⟩
        have hC9 := hC1.k0 k9
        have tb10 := tb9.k0 k9
        have kk9 := kk.trans k9
        obtain ⟨hN9, _, _, _, _, hs9, _, hd9, _⟩ := hC9
        refine ⟨_, rfl, s, rfl, ⟨_, .inl (.inl hs9)⟩, fun D nD => ?_⟩
        refine lc_list (K := K) (a := s) (xs := ms.map V.int) (fun i H2 => K0 H9 H2 ∧ H2 D = some (.lst ((lessOf (ms.take i) ms[ki]).map V.int))) ⟨K0.new nD, by rw [List.take_zero]; exact upd_same⟩ (fun i H2 _ h => .inl (.inl (h.1.oth s _ hs9 (fun _ z => by cases z)))) (fun i x H2 hx h => ?_) (fun H2 h => ?_)
        · obtain ⟨k, hl2⟩ := h
          rw [List.getElem?_map] at hx
          cases ev : ms[i]? with
          | none => rw [ev] at hx; cases hx
          | some v =>
          rw [ev] at hx
          cases hx
          have hi : i < ms.length := (List.getElem?_eq_some_iff.mp ev).1
          have htk : lessOf (ms.take (i + 1)) ms[ki] = lessOf (ms.take i) ms[ki] ++ (if v ≠ ms[ki] then [v] else []) := by
            unfold lessOf
            rw [List.take_add_one, ev, List.filter_append]
            congr 1
            by_cases h : v = ms[ki] <;> simp [h]
          rw [htk]
          refine ⟨rfl, _, rfl, _, rfl, rfl, _, rfl, ?_⟩
          show if (!decide (V.int v = V.int ms[ki])) = true then _ else _
          by_cases hv : v = ms[ki]
          · rw [decide_eq_true (show V.int v = V.int ms[ki] by rw [hv])]
            refine iteF ⟨k, ?_⟩
            rw [if_neg (fun z => z hv), List.append_nil]
            exact hl2
          · rw [decide_eq_false (show ¬ V.int v = V.int ms[ki] from fun z => hv (V.int.inj z))]
            refine iteT ⟨_, rfl, _, hl2, Nat.lt_of_le_of_lt (m := 5000) (by
              have : (lessOf (ms.take i) ms[ki]).length ≤ (ms.take i).length := List.length_filter_le _ _
              rw [List.length_map]
              have := List.length_take_le i ms
              omega) (by decide), k.mut nD, ?_⟩
            rw [if_pos hv, List.map_append]
            exact upd_same
        obtain ⟨k, hl2⟩ := h
        rw [List.length_map, List.take_of_length_le (Nat.le_refl _)] at hl2
        have hL := less_P (place := ms[ki]) hA
        have hLS := less_S (place := ms[ki]) hT.2.1
        generalize lessOf ms ms[ki] = left at hl2 hL hLS
        refine ⟨_, rfl, _, rfl, _, rfl, D, left.map V.int, rfl, .inl ⟨.inl (.inl hl2), fun lq nlq => ?_⟩⟩
        have k10 := k.mut (o := .tup (left.map V.int)) (k.dom lq nlq)
        have k10' : K0 H2 (upd H2 lq (.tup (left.map V.int))) := K0.new nlq
        have hlq : upd H2 lq (.tup (left.map V.int)) lq = some (.tup (left.map V.int)) := upd_same
        have hD10 : upd H2 lq (.tup (left.map V.int)) D = some (.lst (left.map V.int)) := k10'.oth D _ hl2 (fun _ z => by cases z)
        generalize upd H2 lq (.tup (left.map V.int)) = H10 at k10 k10' hlq hD10
        refine ⟨_, rfl, na, n, rs, root, lq, left, d, kvs, g, rfl, hN9.k0 k10, hG, hl, r0, r1, .inl (.inl hlq), hL, k10.oth d _ hd9 (fun _ z => by cases z), hD, by omega, hT.1, hLS, sub6 (tb10.k0 k10), fun fq fs H11 k11 nfq hfq hDf hfl => ?_⟩
        refine ⟨D, left, fq, fs, _, _, _, _, rfl, (kk9.trans k10).trans k11, (hN9.k0 k10).k0 k11, hG, hl, r0, r1, k11.oth D _ hD10 (fun _ z => by cases z), hL, hfq, hDf, by omega, kept_trim hD hDf hT.1 hLS, fun v hv => hIn v ?_⟩
        rcases hv with h | h
        · exact .inl h
        · obtain ⟨x, ex⟩ := Option.isSome_iff_exists.mp h
          exact .inr (by rw [(resF_some.mp ex).2]; rfl)
      all_goals
        obtain ⟨r', xs', o', hh1, hh2, _, _, hh3⟩ := hN1
        have p0 := Int.emod_nonneg (c / 3) (show n ≠ 0 by omega)
        have p1 := Int.emod_lt_of_pos (c / 3) (show 0 < n by omega)
        refine ⟨_, rfl, c, 3, rfl, rfl, ⟨by decide, by decide⟩, _, rfl, na, _, 0, .int n, rfl, rfl, hh1, atI_nat (j := 0) rfl, _, _, rfl, rfl, (show 0 < n by omega), ?_⟩
        refine ⟨_, rfl, _, rfl, _, rfl, _, rfl, _, rfl, na, n, rs, root, s, ms, d, kvs, g, c / 3 % n, rfl, hC1, p0, p1, tb9, fun H9 k9 => ⟨_, rfl, iteF ?_⟩⟩
        have hC9 := hC1.k0 k9
        have tb10 := tb9.k0 k9
        have kk9 := kk.trans k9
        obtain ⟨hN9, _, _, _, _, hs9, _, hd9, _⟩ := hC9
        refine ⟨_, rfl, _, rfl, _, rfl, _, rfl, na, n, rs, root, d, kvs, g, c / 3 % n, rfl, hN9, hG, hl, r0, r1, p0, p1, hd9, hD, by omega, hT.1, hIn, sub4 tb10, fun tq H10 k10 ntq hgt => ?_⟩
        have kk10 := kk9.trans k10
        have hC10 := (hC1.k0 k9).k0 k10
        obtain ⟨q1, ls, _, hq1, hDq, hll, hcase⟩ := hgt
        rcases hcase with ⟨en, ht⟩ | ⟨b, ws, x, l, p, nb, hbq, hb, hDw, hwl, hl12, ex, hbk, C, ht⟩
        · refine ⟨tq, _, 0, .non, rfl, rfl, .inl (.inl ht), atI_nat (j := 0) rfl, ?_⟩
          refine ⟨_, rfl, _, rfl, iteF ?_⟩
          exact ⟨s, ms, d, kvs, g, _, _, _, rfl, kk10, hC10⟩
        · refine ⟨tq, _, 0, .ref b, rfl, rfl, .inl (.inl ht), atI_nat (j := 0) rfl, ?_⟩
          refine ⟨_, rfl, _, rfl, iteT ?_⟩
          have hs10 : H10 s = some (.lst (ms.map V.int)) := k10.oth s _ hs9 (fun _ z => by cases z)
          refine ⟨_, rfl, ?_⟩
          refine ⟨_, rfl, _, rfl, by show 1 ≤ sizeLine; decide, fun l0 nl0 => ?_⟩
          have j5 : K0 H10 (upd H10 l0 (.lst [.int (c / 3 % n)])) := K0.new nl0
          have hl5 : upd H10 l0 (.lst [.int (c / 3 % n)]) l0 = some (.lst ([c / 3 % n].map V.int)) := upd_same
          have hs5 : upd H10 l0 (.lst [.int (c / 3 % n)]) s = some (.lst (ms.map V.int)) := j5.oth s _ hs10 (fun _ z => by cases z)
          refine ⟨s, l0, ms.map V.int, [c / 3 % n].map V.int, rfl, rfl, hs5, hl5, Nat.le_trans (m := 5000) (by rw [List.length_map, List.length_map, List.length_singleton]; omega) (by decide), fun l1 nl1 => ?_⟩
          have j6 := j5.mut (o := .lst (ms.map V.int ++ [c / 3 % n].map V.int)) (j5.dom l1 nl1)
          have hl6 : upd (upd H10 l0 (.lst [.int (c / 3 % n)])) l1 (.lst (ms.map V.int ++ [c / 3 % n].map V.int)) l1 = some (.lst ((ms ++ [c / 3 % n]).map V.int)) := by rw [List.map_append]; exact upd_same
          refine ⟨l1, ms ++ [c / 3 % n], rfl, .inl (.inl hl6), by rw [List.length_append, List.length_singleton]; omega, fun p1' cc np hcnt => ?_⟩
          have j7 := j6.mut (o := SetO w p1' (fun j => decide (j ∈ ms ++ [c / 3 % n])) cc) (j6.dom p1' np)
          have rng : ∀ v ∈ ms ++ [c / 3 % n], 0 ≤ v ∧ v < n := fun v hv => by
            rcases List.mem_append.mp hv with hv | hv
            · exact hA.1 v hv
            · rw [List.mem_singleton.mp hv]; exact ⟨p0, p1⟩
          have c12 : cc ≤ 12 := by
            have := hcnt ((List.range n.toNat).map fun (i : Nat) => (i : Int)) fun x hx => by
              obtain ⟨h0, h1⟩ := rng x hx
              exact List.mem_map.mpr ⟨x.toNat, List.mem_range.mpr (by omega), by omega⟩
            rw [List.length_map, List.length_range] at this
            omega
          refine ⟨p1', _, cc, rfl, upd_same, by omega, fun ms2 p2 hrise hmem hlen2 np2 => ?_⟩
          have j8 := j7.mut (o := .lst (ms2.map V.int)) (j7.dom p2 np2)
          have hmem' : ∀ v, v ∈ ms2 ↔ v ∈ ms ∨ v = c / 3 % n := fun v => by rw [hmem v, decide_eq_true_iff, List.mem_append, List.mem_singleton]
          have hAm : AreP n ms2 := ⟨fun v hv => rng v (of_decide_eq_true ((hmem v).mp hv)), hrise⟩
          have hTm := graft_trim hG.up hT hbk C hDw hmem'
          have hR := graft_range hG.ok r0 r1 hIn hbk C
          have hw12 := hDw.few (n := n) fun v x e => hR v (.inr (by rw [e]; rfl))
          exact ⟨p2, ms2, b, ws, _, _, _, _, rfl, kk10.trans j8, (hN9.k0 k10).k0 j8, hG, hl, r0, r1, upd_same, hAm, j8.oth b _ hb (fun _ z => by cases z), hDw, by omega, hTm, hR⟩
    · obtain ⟨s, ms, d, kvs, g, y6, y7, y8, rfl, k, hC⟩ := h
      obtain ⟨hN, hG, hl, r0, r1, hs, hA, hd, hD, hkl, hT, hIn⟩ := hC
      have tb8 := tb7.k0 k
      refine ⟨_, rfl, _, rfl, _, rfl, s, ms.map V.int, rfl, .inl ⟨.inl (.inl hs), fun lq nlq => ?_⟩⟩
      have k1 : K0 H' (upd H' lq (.tup (ms.map V.int))) := K0.new nlq
      refine ⟨_, rfl, na, n, rs, root, lq, ms, d, kvs, g, rfl, hN.k0 k1, hG, hl, r0, r1, .inl (.inl upd_same), hA, k1.oth d _ hd (fun _ z => by cases z), hD, by omega, sub7 (tb8.k0 k1), fun H9 bb k9 hbb => ?_⟩
      obtain rfl : bb = true := hbb.mpr hT
      exact ⟨true, true, rfl, rfl, q _⟩
end
end HK

set_option Elab.async false
set_option linter.all false
set_option maxRecDepth 100000
set_option maxHeartbeats 4000000
namespace HK
open PySem PySem.Spec PyProof.Rows L2 GAl GxR
/-- every def's table of code objects is empty at the law's entry -/
def Tabs (q : Program) (mg : Str → Option Value) (h : Heap) : Prop := ∀ nm : Str, ((recsOf q).any fun e => e.name == nm) = true → ∃ a o fd c P, mg nm = some (.ref a) ∧ h.get? a = some o ∧ o.data = .func fd ∧ fd.code = .ref c ∧ PySem.W.CodeHd h c P ∧ h.get? P = some { cls := .none, data := .fields #[] }
theorem walk_tabs {l : PySem.W.OpenLaw} {n k : Nat} {q : Program} {loose : List Str} {XP : (Str → Option Value) → Heap → Prop} {YP : World → Heap → Prop} {d : DefRec} {K : Params → PySem.W.Frag} {CX : World → CXT} {x : Str}
    (hn : l.most = some n) (hn2 : n ≤ sizeLine) (hdf : d.params.defaults = []) (hr : Room k callerA) (hY : ∀ (w : World) (h : Heap), YP w h → (K w.params).In h)
    (F : ∀ (w : World) (mg : Str → Option Value) (fa : Addr) (h : Heap), YP w h → (K w.params).In h → h.Ns mainGlobals mg → mg d.name = some (.ref fa) → Tabs q mg h → LamX.LawAtS l w (K w.params) (CX w) k n x mg fa h)
    (hCX : ∀ (w : World) (H : Hp) (s : Shared) (e : Value) (s' : Shared), CX w [] H s (fun _ _ _ => False) e s' → False) :
    PySem.W.WalkO q loose XP YP l.row.toRowW d [] (fun f vs => PySem.call f vs) := by
  refine Att.attach_callB hn hdf fun w s₀ s₁ mg mb fa o pm cd doc a vs ns G Y ho hd hcd hmg hobj hints hlen hbits hg => ?_
  have KX := hY w _ Y
  have tabs : Tabs q mg s₁.heap := fun nm h => by
    obtain ⟨e, he, hnm⟩ := List.any_eq_true.mp h
    obtain ⟨a', o', fd', c', P', h1, h2, h3, h4, h5, h6⟩ := G.T.tab e he
    exact ⟨a', o', fd', c', P', by rw [← (beq_iff_eq.mp hnm)]; exact h1, h2, h3, h4, PySem.W.CodeHd.of h5 h6, h6.2⟩
  obtain ⟨fd, cs, sp, hT, nT, C, hb, hsp, hF⟩ := F w mg fa _ Y KX G.T.g hmg tabs
  exact LamX.law_callTs KX G.T.g G.T.b G.T.builtins G.T.nolimit hg hT nT C G.T.bmain hobj hints (Nat.le_trans hlen hn2) hr hF hb (fun H hH hS => hsp H a ns hlen hbits hH hS) fun H e s' => hCX w H s₁ e s'
/-- a def's table, by its code object in the written part -/
theorem tab_of {K : PySem.W.Frag} {q : Program} {mg : Str → Option Value} {h : Heap} {nm : Str} {f c P0 : Addr} {o : Obj} {fd : FuncData} {e : Value} {dd : Option Addr} {vs : Array Value} {sl : Array (Option Value)} (X : K.In h) (T : Tabs q mg h) (hq : ((recsOf q).any fun e => e.name == nm) = true)
    (g : mg nm = some (.ref f)) (l : K.lookup f = some o) (hd : o.data = .func fd) (hc : fd.code = .ref c) (lc : K.lookup c = some ⟨e, dd, .fields vs, sl⟩) (hv : vs[11]? = some (.ref P0)) :
    PySem.W.CodeHd h c P0 ∧ h.get? P0 = some { cls := .none, data := .fields #[] } := by
  obtain ⟨a', o', fd', c', P', h1, h2, h3, h4, h5, h6⟩ := T nm hq
  rw [g] at h1; cases h1
  rw [X _ _ l] at h2; cases h2
  rw [hd] at h3; cases h3
  rw [hc] at h4; cases h4
  have h5' := h5
  obtain ⟨oc, vc, _, _, _, _, _, _, _, e1, _, e3, e4, _⟩ := h5'
  rw [X _ _ lc] at e1; cases e1
  cases e3
  rw [hv] at e4; cases e4
  exact ⟨h5, h6⟩
theorem all_mk {l : PySem.W.OpenLaw} {q : Program} {w : World} {K : PySem.W.Frag} {h : Heap} {mg : Str → Option Value} {fa f1 f2 f3 f4 f5 f6 f7 f8 f9 f10 f11 f13 f14 f15 f16 f17 f18 f19 f20 f21 f22 f23 f24 f25 f26 f27 f28 f29 f30 f31 f32 f33 f34 cc8 P8 cc7 P7 cc13 P13 cc15 P15 cc18 P18 cc20 P20 cc23 P23 cc24 P24 : Addr} (X : K.In h) (G : h.Ns mainGlobals mg) (hfa : mg "law" = some (.ref fa)) (T : Tabs q mg h) (hl : l.most = some 63)
    {od1 an1 od2 an2 od3 an3 od4 an4 od5 an5 od6 an6 od7 an7 od8 an8 od9 an9 od10 an10 od11 an11 od13 an13 od14 an14 od15 an15 od16 an16 od17 an17 od18 an18 od19 an19 od20 an20 od21 an21 od22 an22 od23 an23 od24 an24 od25 an25 od26 an26 od27 an27 od28 an28 od29 an29 od30 an30 od31 an31 od32 an32 od33 an33 od34 an34 dd8 dd7 dd13 dd15 dd18 dd20 dd23 dd24 : Option Addr} {sl1 sl2 sl3 sl4 sl5 sl6 sl7 sl8 sl9 sl10 sl11 sl13 sl14 sl15 sl16 sl17 sl18 sl19 sl20 sl21 sl22 sl23 sl24 sl25 sl26 sl27 sl28 sl29 sl30 sl31 sl32 sl33 sl34 sc8 sc7 sc13 sc15 sc18 sc20 sc23 sc24 : Array (Option Value)} {oc1 kV1 dc1 pm1 cd1 ct1 oc2 kV2 dc2 pm2 cd2 ct2 oc3 kV3 dc3 pm3 cd3 ct3 oc4 kV4 dc4 pm4 cd4 ct4 oc5 kV5 dc5 pm5 cd5 ct5 oc6 kV6 dc6 pm6 cd6 ct6 oc7 kV7 dc7 pm7 ct7 oc8 kV8 dc8 pm8 ct8 oc9 kV9 dc9 pm9 cd9 ct9 oc10 kV10 dc10 pm10 cd10 ct10 oc11 kV11 dc11 pm11 cd11 ct11 oc13 kV13 dc13 pm13 ct13 oc14 kV14 dc14 pm14 cd14 ct14 oc15 kV15 dc15 pm15 ct15 oc16 kV16 dc16 pm16 cd16 ct16 oc17 kV17 dc17 pm17 cd17 ct17 oc18 kV18 dc18 pm18 ct18 oc19 kV19 dc19 pm19 cd19 ct19 oc20 kV20 dc20 pm20 ct20 oc21 kV21 dc21 pm21 cd21 ct21 oc22 kV22 dc22 pm22 cd22 ct22 oc23 kV23 dc23 pm23 ct23 oc24 kV24 dc24 pm24 ct24 oc25 kV25 dc25 pm25 cd25 ct25 oc26 kV26 dc26 pm26 cd26 ct26 oc27 kV27 dc27 pm27 cd27 ct27 oc28 kV28 dc28 pm28 cd28 ct28 oc29 kV29 dc29 pm29 cd29 ct29 oc30 kV30 dc30 pm30 cd30 ct30 oc31 kV31 dc31 pm31 cd31 ct31 oc32 kV32 dc32 pm32 cd32 ct32 oc33 kV33 dc33 pm33 cd33 ct33 oc34 kV34 dc34 pm34 cd34 ct34 e8 e7 e13 e15 e18 e20 e23 e24 : Value} {t1 t2 t3 t4 : Tok} {vs8 vs7 vs13 vs15 vs18 vs20 vs23 vs24 : Array Value}
    (a1 : PySem.W.nsIn K mainGlobals "_law_b_spread" = some (some (.ref f1))) (l1 : K.lookup f1 = some ⟨oc1, od1, .func (PySem.W.fnOf "_law_b_spread" "_law_b_spread" (defArgs sSpread) (defBody sSpread) (defScope sSpread) .none kV1 dc1 pm1 an1 cd1 ct1), sl1⟩) (c1 : PySem.W.codeIn K cd1 "_law_b_spread" = true) (k1 : PySem.W.keepIn K (.ref f1) = true)
    (a2 : PySem.W.nsIn K mainGlobals "_law_b_digit" = some (some (.ref f2))) (l2 : K.lookup f2 = some ⟨oc2, od2, .func (PySem.W.fnOf "_law_b_digit" "_law_b_digit" (defArgs sDigit) (defBody sDigit) (defScope sDigit) .none kV2 dc2 pm2 an2 cd2 ct2), sl2⟩) (c2 : PySem.W.codeIn K cd2 "_law_b_digit" = true) (k2 : PySem.W.keepIn K (.ref f2) = true)
    (a3 : PySem.W.nsIn K mainGlobals "_law_b_net" = some (some (.ref f3))) (l3 : K.lookup f3 = some ⟨oc3, od3, .func (PySem.W.fnOf "_law_b_net" "_law_b_net" (defArgs sNet) (defBody sNet) (defScope sNet) .none kV3 dc3 pm3 an3 cd3 ct3), sl3⟩) (c3 : PySem.W.codeIn K cd3 "_law_b_net" = true) (k3 : PySem.W.keepIn K (.ref f3) = true)
    (a4 : PySem.W.nsIn K mainGlobals "is_whole" = some (some (.ref f4))) (l4 : K.lookup f4 = some ⟨oc4, od4, .func (PySem.W.fnOf "is_whole" "is_whole" (defArgs sWhole) (defBody sWhole) (defScope sWhole) .none kV4 dc4 pm4 an4 cd4 ct4), sl4⟩) (c4 : PySem.W.codeIn K cd4 "is_whole" = true) (k4 : PySem.W.keepIn K (.ref f4) = true)
    (a5 : PySem.W.nsIn K mainGlobals "is_within" = some (some (.ref f5))) (l5 : K.lookup f5 = some ⟨oc5, od5, .func (PySem.W.fnOf "is_within" "is_within" (defArgs sWithin) (defBody sWithin) (defScope sWithin) .none kV5 dc5 pm5 an5 cd5 ct5), sl5⟩) (c5 : PySem.W.codeIn K cd5 "is_within" = true) (k5 : PySem.W.keepIn K (.ref f5) = true)
    (a6 : PySem.W.nsIn K mainGlobals "is_road" = some (some (.ref f6))) (l6 : K.lookup f6 = some ⟨oc6, od6, .func (PySem.W.fnOf "is_road" "is_road" (defArgs sIsRoad) (defBody sIsRoad) (defScope sIsRoad) .none kV6 dc6 pm6 an6 cd6 ct6), sl6⟩) (c6 : PySem.W.codeIn K cd6 "is_road" = true) (k6 : PySem.W.keepIn K (.ref f6) = true)
    (a7 : PySem.W.nsIn K mainGlobals "rises" = some (some (.ref f7))) (l7 : K.lookup f7 = some ⟨oc7, od7, .func (PySem.W.fnOf "rises" "rises" (defArgs sRises) (defBody sRises) (defScope sRises) .none kV7 dc7 pm7 an7 (.ref cc7) ct7), sl7⟩) (c7 : PySem.W.codeIn K (.ref cc7) "rises" = true) (k7 : PySem.W.keepIn K (.ref f7) = true)
    (a8 : PySem.W.nsIn K mainGlobals "is_net" = some (some (.ref f8))) (l8 : K.lookup f8 = some ⟨oc8, od8, .func (PySem.W.fnOf "is_net" "is_net" (defArgs sIsNet) (defBody sIsNet) (defScope sIsNet) .none kV8 dc8 pm8 an8 (.ref cc8) ct8), sl8⟩) (c8 : PySem.W.codeIn K (.ref cc8) "is_net" = true) (k8 : PySem.W.keepIn K (.ref f8) = true)
    (a9 : PySem.W.nsIn K mainGlobals "need_net" = some (some (.ref f9))) (l9 : K.lookup f9 = some ⟨oc9, od9, .func (PySem.W.fnOf "need_net" "need_net" (defArgs sNeedNet) (defBody sNeedNet) (defScope sNeedNet) .none kV9 dc9 pm9 an9 cd9 ct9), sl9⟩) (c9 : PySem.W.codeIn K cd9 "need_net" = true) (k9 : PySem.W.keepIn K (.ref f9) = true)
    (a10 : PySem.W.nsIn K mainGlobals "is_place" = some (some (.ref f10))) (l10 : K.lookup f10 = some ⟨oc10, od10, .func (PySem.W.fnOf "is_place" "is_place" (defArgs sIsPlace) (defBody sIsPlace) (defScope sIsPlace) .none kV10 dc10 pm10 an10 cd10 ct10), sl10⟩) (c10 : PySem.W.codeIn K cd10 "is_place" = true) (k10 : PySem.W.keepIn K (.ref f10) = true)
    (a11 : PySem.W.nsIn K mainGlobals "need_place" = some (some (.ref f11))) (l11 : K.lookup f11 = some ⟨oc11, od11, .func (PySem.W.fnOf "need_place" "need_place" (defArgs sNeedPlace) (defBody sNeedPlace) (defScope sNeedPlace) .none kV11 dc11 pm11 an11 cd11 ct11), sl11⟩) (c11 : PySem.W.codeIn K cd11 "need_place" = true) (k11 : PySem.W.keepIn K (.ref f11) = true)
    (a13 : PySem.W.nsIn K mainGlobals "are_places" = some (some (.ref f13))) (l13 : K.lookup f13 = some ⟨oc13, od13, .func (PySem.W.fnOf "are_places" "are_places" (defArgs sAreP) (defBody sAreP) (defScope sAreP) .none kV13 dc13 pm13 an13 (.ref cc13) ct13), sl13⟩) (c13 : PySem.W.codeIn K (.ref cc13) "are_places" = true) (k13 : PySem.W.keepIn K (.ref f13) = true)
    (a14 : PySem.W.nsIn K mainGlobals "need_hearers" = some (some (.ref f14))) (l14 : K.lookup f14 = some ⟨oc14, od14, .func (PySem.W.fnOf "need_hearers" "need_hearers" (defArgs sNeedH) (defBody sNeedH) (defScope sNeedH) .none kV14 dc14 pm14 an14 cd14 ct14), sl14⟩) (c14 : PySem.W.codeIn K cd14 "need_hearers" = true) (k14 : PySem.W.keepIn K (.ref f14) = true)
    (a15 : PySem.W.nsIn K mainGlobals "are_whole_pairs" = some (some (.ref f15))) (l15 : K.lookup f15 = some ⟨oc15, od15, .func (PySem.W.fnOf "are_whole_pairs" "are_whole_pairs" (defArgs sPairs) (defBody sPairs) (defScope sPairs) .none kV15 dc15 pm15 an15 (.ref cc15) ct15), sl15⟩) (c15 : PySem.W.codeIn K (.ref cc15) "are_whole_pairs" = true) (k15 : PySem.W.keepIn K (.ref f15) = true)
    (a16 : PySem.W.nsIn K mainGlobals "road_prices" = some (some (.ref f16))) (l16 : K.lookup f16 = some ⟨oc16, od16, .func (PySem.W.fnOf "road_prices" "road_prices" (defArgs sPrices) (defBody sPrices) (defScope sPrices) .none kV16 dc16 pm16 an16 cd16 ct16), sl16⟩) (c16 : PySem.W.codeIn K cd16 "road_prices" = true) (k16 : PySem.W.keepIn K (.ref f16) = true)
    (a17 : PySem.W.nsIn K mainGlobals "leads_to" = some (some (.ref f17))) (l17 : K.lookup f17 = some ⟨oc17, od17, .func (PySem.W.fnOf "leads_to" "leads_to" (defArgs sLeads) (defBody sLeads) (defScope sLeads) .none kV17 dc17 pm17 an17 cd17 ct17), sl17⟩) (c17 : PySem.W.codeIn K cd17 "leads_to" = true) (k17 : PySem.W.keepIn K (.ref f17) = true)
    (a18 : PySem.W.nsIn K mainGlobals "grows" = some (some (.ref f18))) (l18 : K.lookup f18 = some ⟨oc18, od18, .func (PySem.W.fnOf "grows" "grows" (defArgs sGrows) (defBody sGrows) (defScope sGrows) .none kV18 dc18 pm18 an18 (.ref cc18) ct18), sl18⟩) (c18 : PySem.W.codeIn K (.ref cc18) "grows" = true) (k18 : PySem.W.keepIn K (.ref f18) = true)
    (a19 : PySem.W.nsIn K mainGlobals "need_tree" = some (some (.ref f19))) (l19 : K.lookup f19 = some ⟨oc19, od19, .func (PySem.W.fnOf "need_tree" "need_tree" (defArgs sNeedTree) (defBody sNeedTree) (defScope sNeedTree) .none kV19 dc19 pm19 an19 cd19 ct19), sl19⟩) (c19 : PySem.W.codeIn K cd19 "need_tree" = true) (k19 : PySem.W.keepIn K (.ref f19) = true)
    (a20 : PySem.W.nsIn K mainGlobals "serves" = some (some (.ref f20))) (l20 : K.lookup f20 = some ⟨oc20, od20, .func (PySem.W.fnOf "serves" "serves" (defArgs sServes) (defBody sServes) (defScope sServes) .none kV20 dc20 pm20 an20 (.ref cc20) ct20), sl20⟩) (c20 : PySem.W.codeIn K (.ref cc20) "serves" = true) (k20 : PySem.W.keepIn K (.ref f20) = true)
    (a21 : PySem.W.nsIn K mainGlobals "trimmed" = some (some (.ref f21))) (l21 : K.lookup f21 = some ⟨oc21, od21, .func (PySem.W.fnOf "trimmed" "trimmed" (defArgs sTrimmed) (defBody sTrimmed) (defScope sTrimmed) .none kV21 dc21 pm21 an21 cd21 ct21), sl21⟩) (c21 : PySem.W.codeIn K cd21 "trimmed" = true) (k21 : PySem.W.keepIn K (.ref f21) = true)
    (a22 : PySem.W.nsIn K mainGlobals "cut" = some (some (.ref f22))) (l22 : K.lookup f22 = some ⟨oc22, od22, .func (PySem.W.fnOf "cut" "cut" (defArgs sCut) (defBody sCut) (defScope sCut) .none kV22 dc22 pm22 an22 cd22 ct22), sl22⟩) (c22 : PySem.W.codeIn K cd22 "cut" = true) (k22 : PySem.W.keepIn K (.ref f22) = true)
    (a23 : PySem.W.nsIn K mainGlobals "is_trim" = some (some (.ref f23))) (l23 : K.lookup f23 = some ⟨oc23, od23, .func (PySem.W.fnOf "is_trim" "is_trim" (defArgs sIsTrim) (defBody sIsTrim) (defScope sIsTrim) .none kV23 dc23 pm23 an23 (.ref cc23) ct23), sl23⟩) (c23 : PySem.W.codeIn K (.ref cc23) "is_trim" = true) (k23 : PySem.W.keepIn K (.ref f23) = true)
    (a24 : PySem.W.nsIn K mainGlobals "price" = some (some (.ref f24))) (l24 : K.lookup f24 = some ⟨oc24, od24, .func (PySem.W.fnOf "price" "price" (defArgs sPrice) (defBody sPrice) (defScope sPrice) .none kV24 dc24 pm24 an24 (.ref cc24) ct24), sl24⟩) (c24 : PySem.W.codeIn K (.ref cc24) "price" = true) (k24 : PySem.W.keepIn K (.ref f24) = true)
    (a25 : PySem.W.nsIn K mainGlobals "road_lates" = some (some (.ref f25))) (l25 : K.lookup f25 = some ⟨oc25, od25, .func (PySem.W.fnOf "road_lates" "road_lates" (defArgs sLates) (defBody sLates) (defScope sLates) .none kV25 dc25 pm25 an25 cd25 ct25), sl25⟩) (c25 : PySem.W.codeIn K cd25 "road_lates" = true) (k25 : PySem.W.keepIn K (.ref f25) = true)
    (a26 : PySem.W.nsIn K mainGlobals "lateness_up" = some (some (.ref f26))) (l26 : K.lookup f26 = some ⟨oc26, od26, .func (PySem.W.fnOf "lateness_up" "lateness_up" (defArgs sUp) (defBody sUp) (defScope sUp) .none kV26 dc26 pm26 an26 cd26 ct26), sl26⟩) (c26 : PySem.W.codeIn K cd26 "lateness_up" = true) (k26 : PySem.W.keepIn K (.ref f26) = true)
    (a27 : PySem.W.nsIn K mainGlobals "lateness" = some (some (.ref f27))) (l27 : K.lookup f27 = some ⟨oc27, od27, .func (PySem.W.fnOf "lateness" "lateness" (defArgs sLateness) (defBody sLateness) (defScope sLateness) .none kV27 dc27 pm27 an27 cd27 ct27), sl27⟩) (c27 : PySem.W.codeIn K cd27 "lateness" = true) (k27 : PySem.W.keepIn K (.ref f27) = true)
    (a28 : PySem.W.nsIn K mainGlobals "_law_b_goes" = some (some (.ref f28))) (l28 : K.lookup f28 = some ⟨oc28, od28, .func (PySem.W.fnOf "_law_b_goes" "_law_b_goes" (defArgs sGoes) (defBody sGoes) (defScope sGoes) .none kV28 dc28 pm28 an28 cd28 ct28), sl28⟩) (c28 : PySem.W.codeIn K cd28 "_law_b_goes" = true) (k28 : PySem.W.keepIn K (.ref f28) = true)
    (a29 : PySem.W.nsIn K mainGlobals "_law_b_cheap" = some (some (.ref f29))) (l29 : K.lookup f29 = some ⟨oc29, od29, .func (PySem.W.fnOf "_law_b_cheap" "_law_b_cheap" (defArgs sCheap) (defBody sCheap) (defScope sCheap) .none kV29 dc29 pm29 an29 cd29 ct29), sl29⟩) (c29 : PySem.W.codeIn K cd29 "_law_b_cheap" = true) (k29 : PySem.W.keepIn K (.ref f29) = true)
    (a30 : PySem.W.nsIn K mainGlobals "undercuts" = some (some (.ref f30))) (l30 : K.lookup f30 = some ⟨oc30, od30, .func (PySem.W.fnOf "undercuts" "undercuts" (defArgs sUnder) (defBody sUnder) (defScope sUnder) .none kV30 dc30 pm30 an30 cd30 ct30), sl30⟩) (c30 : PySem.W.codeIn K cd30 "undercuts" = true) (k30 : PySem.W.keepIn K (.ref f30) = true)
    (a31 : PySem.W.nsIn K mainGlobals "ways_from_tree" = some (some (.ref f31))) (l31 : K.lookup f31 = some ⟨oc31, od31, .func (PySem.W.fnOf "ways_from_tree" "ways_from_tree" (defArgs sWft) (defBody sWft) (defScope sWft) .none kV31 dc31 pm31 an31 cd31 ct31), sl31⟩) (c31 : PySem.W.codeIn K cd31 "ways_from_tree" = true) (k31 : PySem.W.keepIn K (.ref f31) = true)
    (a32 : PySem.W.nsIn K mainGlobals "graft" = some (some (.ref f32))) (l32 : K.lookup f32 = some ⟨oc32, od32, .func (PySem.W.fnOf "graft" "graft" (defArgs sGraft) (defBody sGraft) (defScope sGraft) .none kV32 dc32 pm32 an32 cd32 ct32), sl32⟩) (c32 : PySem.W.codeIn K cd32 "graft" = true) (k32 : PySem.W.keepIn K (.ref f32) = true)
    (a33 : PySem.W.nsIn K mainGlobals "_law_b_comes" = some (some (.ref f33))) (l33 : K.lookup f33 = some ⟨oc33, od33, .func (PySem.W.fnOf "_law_b_comes" "_law_b_comes" (defArgs sComes) (defBody sComes) (defScope sComes) .none kV33 dc33 pm33 an33 cd33 ct33), sl33⟩) (c33 : PySem.W.codeIn K cd33 "_law_b_comes" = true) (k33 : PySem.W.keepIn K (.ref f33) = true)
    (a34 : PySem.W.nsIn K mainGlobals "law" = some (some (.ref f34))) (l34 : K.lookup f34 = some ⟨oc34, od34, .func (PySem.W.fnOf "law" "law" (defArgs sLaw) (defBody sLaw) (defScope sLaw) .none kV34 dc34 pm34 an34 cd34 ct34), sl34⟩) (c34 : PySem.W.codeIn K cd34 "law" = true) (k34 : PySem.W.keepIn K (.ref f34) = true)
    (z0 : PySem.W.nsIn K mainGlobals "len" = some none)
    (z1 : PySem.W.nsIn K mainGlobals "range" = some none)
    (z2 : PySem.W.nsIn K mainGlobals "tuple" = some none)
    (z3 : PySem.W.nsIn K mainGlobals "isinstance" = some none)
    (z4 : PySem.W.nsIn K mainGlobals "int" = some none)
    (z5 : PySem.W.nsIn K mainGlobals "bool" = some none)
    (z6 : PySem.W.nsIn K mainGlobals "zip" = some none)
    (z7 : PySem.W.nsIn K mainGlobals "all" = some none)
    (z8 : PySem.W.nsIn K mainGlobals "dict" = some none)
    (z9 : PySem.W.nsIn K mainGlobals "list" = some none)
    (z10 : PySem.W.nsIn K mainGlobals "sum" = some none)
    (z11 : PySem.W.nsIn K mainGlobals "sorted" = some none)
    (z12 : PySem.W.nsIn K mainGlobals "set" = some none)
    (y0 : PySem.W.nsIn K mainGlobals "MOST_PRICE" = some (some (.int 1000 t1)))
    (y1 : PySem.W.nsIn K mainGlobals "LEAST_LATE" = some (some (.int 1 t2)))
    (y2 : PySem.W.nsIn K mainGlobals "MOST_LATE" = some (some (.int 1000 t3)))
    (y3 : PySem.W.nsIn K mainGlobals "MOST_PLACES" = some (some (.int 12 t4)))
    (w8 : K.lookup cc8 = some ⟨e8, dd8, .fields vs8, sc8⟩) (v8 : vs8[11]? = some (.ref P8)) (n8 : K.lookup P8 = none) (q8 : ((recsOf q).any fun e => e.name == ("is_net" : Str)) = true) (w7 : K.lookup cc7 = some ⟨e7, dd7, .fields vs7, sc7⟩) (v7 : vs7[11]? = some (.ref P7)) (n7 : K.lookup P7 = none) (q7 : ((recsOf q).any fun e => e.name == ("rises" : Str)) = true) (w13 : K.lookup cc13 = some ⟨e13, dd13, .fields vs13, sc13⟩) (v13 : vs13[11]? = some (.ref P13)) (n13 : K.lookup P13 = none) (q13 : ((recsOf q).any fun e => e.name == ("are_places" : Str)) = true) (w15 : K.lookup cc15 = some ⟨e15, dd15, .fields vs15, sc15⟩) (v15 : vs15[11]? = some (.ref P15)) (n15 : K.lookup P15 = none) (q15 : ((recsOf q).any fun e => e.name == ("are_whole_pairs" : Str)) = true) (w18 : K.lookup cc18 = some ⟨e18, dd18, .fields vs18, sc18⟩) (v18 : vs18[11]? = some (.ref P18)) (n18 : K.lookup P18 = none) (q18 : ((recsOf q).any fun e => e.name == ("grows" : Str)) = true) (w20 : K.lookup cc20 = some ⟨e20, dd20, .fields vs20, sc20⟩) (v20 : vs20[11]? = some (.ref P20)) (n20 : K.lookup P20 = none) (q20 : ((recsOf q).any fun e => e.name == ("serves" : Str)) = true) (w23 : K.lookup cc23 = some ⟨e23, dd23, .fields vs23, sc23⟩) (v23 : vs23[11]? = some (.ref P23)) (n23 : K.lookup P23 = none) (q23 : ((recsOf q).any fun e => e.name == ("is_trim" : Str)) = true) (w24 : K.lookup cc24 = some ⟨e24, dd24, .fields vs24, sc24⟩) (v24 : vs24[11]? = some (.ref P24)) (n24 : K.lookup P24 = none) (q24 : ((recsOf q).any fun e => e.name == ("price" : Str)) = true) :
    LamX.LawAtS l w K CX0 9 63 "script" mg fa h := by
  have e := hfa.symm.trans (PySem.W.mg_of X G a34)
  cases e
  have F1 := fun_mk (st := sSpread) l1 c1 k1
  have F2 := fun_mk (st := sDigit) l2 c2 k2
  have F3 := fun_mk (st := sNet) l3 c3 k3
  have F4 := fun_mk (st := sWhole) l4 c4 k4
  have F5 := fun_mk (st := sWithin) l5 c5 k5
  have F6 := fun_mk (st := sIsRoad) l6 c6 k6
  have F7 := func_mk (st := sRises) l7 c7 k7
  have F8 := func_mk (st := sIsNet) l8 c8 k8
  have F9 := fun_mk (st := sNeedNet) l9 c9 k9
  have F10 := fun_mk (st := sIsPlace) l10 c10 k10
  have F11 := fun_mk (st := sNeedPlace) l11 c11 k11
  have F13 := func_mk (st := sAreP) l13 c13 k13
  have F14 := fun_mk (st := sNeedH) l14 c14 k14
  have F15 := func_mk (st := sPairs) l15 c15 k15
  have F16 := fun_mk (st := sPrices) l16 c16 k16
  have F17 := fun_mk (st := sLeads) l17 c17 k17
  have F18 := func_mk (st := sGrows) l18 c18 k18
  have F19 := fun_mk (st := sNeedTree) l19 c19 k19
  have F20 := func_mk (st := sServes) l20 c20 k20
  have F21 := fun_mk (st := sTrimmed) l21 c21 k21
  have F22 := fun_mk (st := sCut) l22 c22 k22
  have F23 := func_mk (st := sIsTrim) l23 c23 k23
  have F24 := func_mk (st := sPrice) l24 c24 k24
  have F25 := fun_mk (st := sLates) l25 c25 k25
  have F26 := fun_mk (st := sUp) l26 c26 k26
  have F27 := fun_mk (st := sLateness) l27 c27 k27
  have F28 := fun_mk (st := sGoes) l28 c28 k28
  have F29 := fun_mk (st := sCheap) l29 c29 k29
  have F30 := fun_mk (st := sUnder) l30 c30 k30
  have F31 := fun_mk (st := sWft) l31 c31 k31
  have F32 := fun_mk (st := sGraft) l32 c32 k32
  have F33 := fun_mk (st := sComes) l33 c33 k33
  have F34 := fun_mk (st := sLaw) l34 c34 k34
  have b1 := F1.binds (ps := ["cell", "place"]) fun _ _ _ _ _ _ us hl => match us, hl with | [_, _], _ => rfl
  have b2 := F2.binds (ps := ["tape", "many"]) fun _ _ _ _ _ _ us hl => match us, hl with | [_, _], _ => rfl
  have b3 := F3.binds (ps := ["tape", "most"]) fun _ _ _ _ _ _ us hl => match us, hl with | [_, _], _ => rfl
  have b4 := F4.binds (ps := ["thing"]) fun _ _ _ _ _ _ us hl => match us, hl with | [_], _ => rfl
  have b5 := F5.binds (ps := ["thing", "least", "greatest"]) fun _ _ _ _ _ _ us hl => match us, hl with | [_, _, _], _ => rfl
  have b6 := F6.binds (ps := ["many", "thing"]) fun _ _ _ _ _ _ us hl => match us, hl with | [_, _], _ => rfl
  have b7 := F7.toFun.binds (ps := ["row"]) fun _ _ _ _ _ _ us hl => match us, hl with | [_], _ => rfl
  have b8 := F8.toFun.binds (ps := ["thing"]) fun _ _ _ _ _ _ us hl => match us, hl with | [_], _ => rfl
  have b9 := F9.binds (ps := ["net"]) fun _ _ _ _ _ _ us hl => match us, hl with | [_], _ => rfl
  have b10 := F10.binds (ps := ["net", "thing"]) fun _ _ _ _ _ _ us hl => match us, hl with | [_, _], _ => rfl
  have b11 := F11.binds (ps := ["net", "place"]) fun _ _ _ _ _ _ us hl => match us, hl with | [_, _], _ => rfl
  have b13 := F13.toFun.binds (ps := ["net", "thing"]) fun _ _ _ _ _ _ us hl => match us, hl with | [_, _], _ => rfl
  have b14 := F14.binds (ps := ["net", "hearers"]) fun _ _ _ _ _ _ us hl => match us, hl with | [_, _], _ => rfl
  have b15 := F15.toFun.binds (ps := ["thing"]) fun _ _ _ _ _ _ us hl => match us, hl with | [_], _ => rfl
  have b16 := F16.binds (ps := ["net"]) fun _ _ _ _ _ _ us hl => match us, hl with | [_], _ => rfl
  have b17 := F17.binds (ps := ["root", "ahead", "place"]) fun _ _ _ _ _ _ us hl => match us, hl with | [_, _, _], _ => rfl
  have b18 := F18.toFun.binds (ps := ["net", "root", "ahead"]) fun _ _ _ _ _ _ us hl => match us, hl with | [_, _, _], _ => rfl
  have b19 := F19.binds (ps := ["net", "root", "ahead"]) fun _ _ _ _ _ _ us hl => match us, hl with | [_, _, _], _ => rfl
  have b20 := F20.toFun.binds (ps := ["root", "hearers", "ahead"]) fun _ _ _ _ _ _ us hl => match us, hl with | [_, _, _], _ => rfl
  have b21 := F21.binds (ps := ["hearers", "ahead"]) fun _ _ _ _ _ _ us hl => match us, hl with | [_, _], _ => rfl
  have b22 := F22.binds (ps := ["net", "root", "hearers", "ahead"]) fun _ _ _ _ _ _ us hl => match us, hl with | [_, _, _, _], _ => rfl
  have b23 := F23.toFun.binds (ps := ["net", "root", "hearers", "ahead"]) fun _ _ _ _ _ _ us hl => match us, hl with | [_, _, _, _], _ => rfl
  have b24 := F24.toFun.binds (ps := ["net", "root", "ahead"]) fun _ _ _ _ _ _ us hl => match us, hl with | [_, _, _], _ => rfl
  have b25 := F25.binds (ps := ["net"]) fun _ _ _ _ _ _ us hl => match us, hl with | [_], _ => rfl
  have b26 := F26.binds (ps := ["lates", "root", "ahead", "place"]) fun _ _ _ _ _ _ us hl => match us, hl with | [_, _, _, _], _ => rfl
  have b27 := F27.binds (ps := ["net", "root", "ahead"]) fun _ _ _ _ _ _ us hl => match us, hl with | [_, _, _], _ => rfl
  have b28 := F28.binds (ps := ["net", "root", "some", "ahead", "place"]) fun _ _ _ _ _ _ us hl => match us, hl with | [_, _, _, _, _], _ => rfl
  have b29 := F29.binds (ps := ["net", "root", "ahead"]) fun _ _ _ _ _ _ us hl => match us, hl with | [_, _, _], _ => rfl
  have b30 := F30.binds (ps := ["numbers", "start", "end", "more"]) fun _ _ _ _ _ _ us hl => match us, hl with | [_, _, _, _], _ => rfl
  have b31 := F31.binds (ps := ["net", "root", "ahead"]) fun _ _ _ _ _ _ us hl => match us, hl with | [_, _, _], _ => rfl
  have b32 := F32.binds (ps := ["net", "root", "ahead", "place"]) fun _ _ _ _ _ _ us hl => match us, hl with | [_, _, _, _], _ => rfl
  have b33 := F33.binds (ps := ["net", "root", "some", "ahead", "place"]) fun _ _ _ _ _ _ us hl => match us, hl with | [_, _, _, _, _], _ => rfl
  have g1 := PySem.W.mg_of X G a1
  have g2 := PySem.W.mg_of X G a2
  have g3 := PySem.W.mg_of X G a3
  have g4 := PySem.W.mg_of X G a4
  have g5 := PySem.W.mg_of X G a5
  have g6 := PySem.W.mg_of X G a6
  have g7 := PySem.W.mg_of X G a7
  have g8 := PySem.W.mg_of X G a8
  have g9 := PySem.W.mg_of X G a9
  have g10 := PySem.W.mg_of X G a10
  have g11 := PySem.W.mg_of X G a11
  have g13 := PySem.W.mg_of X G a13
  have g14 := PySem.W.mg_of X G a14
  have g15 := PySem.W.mg_of X G a15
  have g16 := PySem.W.mg_of X G a16
  have g17 := PySem.W.mg_of X G a17
  have g18 := PySem.W.mg_of X G a18
  have g19 := PySem.W.mg_of X G a19
  have g20 := PySem.W.mg_of X G a20
  have g21 := PySem.W.mg_of X G a21
  have g22 := PySem.W.mg_of X G a22
  have g23 := PySem.W.mg_of X G a23
  have g24 := PySem.W.mg_of X G a24
  have g25 := PySem.W.mg_of X G a25
  have g26 := PySem.W.mg_of X G a26
  have g27 := PySem.W.mg_of X G a27
  have g28 := PySem.W.mg_of X G a28
  have g29 := PySem.W.mg_of X G a29
  have g30 := PySem.W.mg_of X G a30
  have g31 := PySem.W.mg_of X G a31
  have g32 := PySem.W.mg_of X G a32
  have g33 := PySem.W.mg_of X G a33
  have g34 := PySem.W.mg_of X G a34
  have m0 := PySem.W.mg_none_of X G z0
  have m1 := PySem.W.mg_none_of X G z1
  have m2 := PySem.W.mg_none_of X G z2
  have m3 := PySem.W.mg_none_of X G z3
  have m4 := PySem.W.mg_none_of X G z4
  have m5 := PySem.W.mg_none_of X G z5
  have m6 := PySem.W.mg_none_of X G z6
  have m7 := PySem.W.mg_none_of X G z7
  have m8 := PySem.W.mg_none_of X G z8
  have m9 := PySem.W.mg_none_of X G z9
  have m10 := PySem.W.mg_none_of X G z10
  have m11 := PySem.W.mg_none_of X G z11
  have m12 := PySem.W.mg_none_of X G z12
  have u0 := PySem.W.mg_of X G y0
  have u1 := PySem.W.mg_of X G y1
  have u2 := PySem.W.mg_of X G y2
  have u3 := PySem.W.mg_of X G y3
  obtain ⟨hc8, hp8⟩ := tab_of X T q8 g8 l8 rfl rfl w8 v8
  obtain ⟨hc7, hp7⟩ := tab_of X T q7 g7 l7 rfl rfl w7 v7
  obtain ⟨hc13, hp13⟩ := tab_of X T q13 g13 l13 rfl rfl w13 v13
  obtain ⟨hc15, hp15⟩ := tab_of X T q15 g15 l15 rfl rfl w15 v15
  obtain ⟨hc18, hp18⟩ := tab_of X T q18 g18 l18 rfl rfl w18 v18
  obtain ⟨hc20, hp20⟩ := tab_of X T q20 g20 l20 rfl rfl w20 v20
  obtain ⟨hc23, hp23⟩ := tab_of X T q23 g23 l23 rfl rfl w23 v23
  obtain ⟨hc24, hp24⟩ := tab_of X T q24 g24 l24 rfl rfl w24 v24
  refine ⟨PySem.W.fnOf "law" "law" (defArgs sLaw) (defBody sLaw) (defScope sLaw) .none kV34 dc34 pm34 an34 cd34 ct34, [(cc8, P8), (cc7, P7), (cc13, P13), (cc15, P15), (cc18, P18), (cc20, P20), (cc23, P23), (cc24, P24)], spLaw K P8 P7 P13 P15 P18 P20 P23 P24, fun p hp => ?_, fun p hp => ?_, fun p hp => ?_, fun s v => .of_eq rfl, fun H a ns _ _ hH hS => ?_, fun base hK hN hB => ?_⟩
  · simp only [List.mem_cons, List.not_mem_nil, or_false] at hp
    rcases hp with rfl | rfl | rfl | rfl | rfl | rfl | rfl | rfl
    · exact hp8
    · exact hp7
    · exact hp13
    · exact hp15
    · exact hp18
    · exact hp20
    · exact hp23
    · exact hp24
  · simp only [List.mem_cons, List.not_mem_nil, or_false] at hp
    rcases hp with rfl | rfl | rfl | rfl | rfl | rfl | rfl | rfl
    · exact n8
    · exact n7
    · exact n13
    · exact n15
    · exact n18
    · exact n20
    · exact n23
    · exact n24
  · simp only [List.mem_cons, List.not_mem_nil, or_false] at hp
    rcases hp with rfl | rfl | rfl | rfl | rfl | rfl | rfl | rfl
    · exact hc8
    · exact hc7
    · exact hc13
    · exact hc15
    · exact hc18
    · exact hc20
    · exact hc23
    · exact hc24
  · have t8 : H P8 = some (.tbl #[]) := hH (cc8, P8) (by simp)
    have t7 : H P7 = some (.tbl #[]) := hH (cc7, P7) (by simp)
    have t13 : H P13 = some (.tbl #[]) := hH (cc13, P13) (by simp)
    have t15 : H P15 = some (.tbl #[]) := hH (cc15, P15) (by simp)
    have t18 : H P18 = some (.tbl #[]) := hH (cc18, P18) (by simp)
    have t20 : H P20 = some (.tbl #[]) := hH (cc20, P20) (by simp)
    have t23 : H P23 = some (.tbl #[]) := hH (cc23, P23) (by simp)
    have t24 : H P24 = some (.tbl #[]) := hH (cc24, P24) (by simp)
    exact ⟨a, ns, rfl, hS, ⟨_, t8, trivial⟩, ⟨_, t7, trivial⟩, ⟨_, t13, trivial⟩, ⟨_, t15, trivial⟩, ⟨_, t18, trivial⟩, ⟨_, t20, trivial⟩, ⟨_, t23, trivial⟩, ⟨_, t24, trivial⟩, fun _ => rfl⟩
  · obtain ⟨x8a, x8b, x8c⟩ := hB (cc8, P8) (by simp)
    have B8 : GxR.TabB base mg cc8 P8 := ⟨x8a, x8b, x8c⟩
    obtain ⟨x7a, x7b, x7c⟩ := hB (cc7, P7) (by simp)
    have B7 : GxR.TabB base mg cc7 P7 := ⟨x7a, x7b, x7c⟩
    obtain ⟨x13a, x13b, x13c⟩ := hB (cc13, P13) (by simp)
    have B13 : GxR.TabB base mg cc13 P13 := ⟨x13a, x13b, x13c⟩
    obtain ⟨x15a, x15b, x15c⟩ := hB (cc15, P15) (by simp)
    have B15 : GxR.TabB base mg cc15 P15 := ⟨x15a, x15b, x15c⟩
    obtain ⟨x18a, x18b, x18c⟩ := hB (cc18, P18) (by simp)
    have B18 : GxR.TabB base mg cc18 P18 := ⟨x18a, x18b, x18c⟩
    obtain ⟨x20a, x20b, x20c⟩ := hB (cc20, P20) (by simp)
    have B20 : GxR.TabB base mg cc20 P20 := ⟨x20a, x20b, x20c⟩
    obtain ⟨x23a, x23b, x23c⟩ := hB (cc23, P23) (by simp)
    have B23 : GxR.TabB base mg cc23 P23 := ⟨x23a, x23b, x23c⟩
    obtain ⟨x24a, x24b, x24c⟩ := hB (cc24, P24) (by simp)
    have B24 : GxR.TabB base mg cc24 P24 := ⟨x24a, x24b, x24c⟩
    have O1 := ok_spread (P := l.prog) (w := w) (mg := mg) (base := base) F1
    have O2 := ok_digit (P := l.prog) (w := w) (mg := mg) (base := base) F2 k1 b1 g1 O1 m0
    have O3 := ok_net (P := l.prog) (w := w) (mg := mg) (base := base) F3 k2 b2 g2 O2 m1 m2
    have O4 := ok_whole (P := l.prog) (w := w) (mg := mg) (base := base) F4 m3 m4 m5
    have O5 := ok_within (P := l.prog) (w := w) (mg := mg) (base := base) F5 F4 b4 g4 O4
    have O6 := ok_road (P := l.prog) (w := w) (mg := mg) (base := base) F6 F5 b5 g5 O5 m3 m2 m0 u0 u1 u2
    have O7 := ok_rises (P := l.prog) (w := w) (mg := mg) (base := base) F7 B7 m6 m7
    have O8 := ok_isnet (P := l.prog) (w := w) (mg := mg) (base := base) F8 B8 k5 b5 g5 O5 k6 b6 g6 O6 k7 b7 g7 O7 m3 m2 m0 m7 u3
    have O9 := ok_neednet (P := l.prog) (w := w) (mg := mg) (base := base) F9 k8 b8 g8 O8
    have O10 := ok_isplace (P := l.prog) (w := w) (mg := mg) (base := base) F10 k5 b5 g5 O5
    have O11 := ok_needplace (P := l.prog) (w := w) (mg := mg) (base := base) F11 k10 b10 g10 O10
    have O12 := ok_risesI (P := l.prog) (w := w) (mg := mg) (base := base) F7 B7 m6 m7
    have O13 := ok_arep (P := l.prog) (w := w) (mg := mg) (base := base) F13 B13 k10 b10 g10 O10 k7 b7 g7 O12 m3 m2 m7
    have O14 := ok_needh (P := l.prog) (w := w) (mg := mg) (base := base) F14 k13 b13 g13 O13
    have O15 := ok_pairs (P := l.prog) (w := w) (mg := mg) (base := base) F15 B15 k4 b4 g4 O4 m3 m8 m7
    have O16 := ok_prices (P := l.prog) (w := w) (mg := mg) (base := base) F16
    have O17 := ok_leads (P := l.prog) (w := w) (mg := mg) (base := base) F17 m1 m0
    have O18 := ok_grows (P := l.prog) (w := w) (mg := mg) (base := base) F18 B18 k15 b15 g15 O15 k16 b16 g16 O16 k17 b17 g17 O17 m7
    have O19 := ok_needtree (P := l.prog) (w := w) (mg := mg) (base := base) F19 k18 b18 g18 O18
    have O20 := ok_serves (P := l.prog) (w := w) (mg := mg) (base := base) F20 B20 m7
    have O21 := ok_trimmed (P := l.prog) (w := w) (mg := mg) (base := base) F21
    have O22 := ok_cut (P := l.prog) (w := w) (mg := mg) (base := base) F22 k9 b9 g9 O9 k11 b11 g11 O11 k14 b14 g14 O14 k19 b19 g19 O19 k20 b20 g20 O20 k21 b21 g21 O21
    have O23 := ok_istrim (P := l.prog) (w := w) (mg := mg) (base := base) F23 B23 k9 b9 g9 O9 k11 b11 g11 O11 k14 b14 g14 O14 k18 b18 g18 O18 k20 b20 g20 O20 m9 m7
    have O24 := ok_price (P := l.prog) (w := w) (mg := mg) (base := base) F24 B24 k9 b9 g9 O9 k11 b11 g11 O11 k19 b19 g19 O19 k16 b16 g16 O16 m10
    have O25 := ok_lates (P := l.prog) (w := w) (mg := mg) (base := base) F25
    have O26 := ok_up (P := l.prog) (w := w) (mg := mg) (base := base) F26
    have O27 := ok_lateness (P := l.prog) (w := w) (mg := mg) (base := base) F27 k9 b9 g9 O9 k11 b11 g11 O11 k19 b19 g19 O19 k25 b25 g25 O25 k26 b26 g26 O26
    have O28 := ok_goes (P := l.prog) (w := w) (mg := mg) (base := base) F28 k22 b22 g22 O22 k23 b23 g23 O23 k24 b24 g24 O24 k27 b27 g27 O27 m2 m7
    have O29 := ok_cheap (P := l.prog) (w := w) (mg := mg) (base := base) F29 m1
    have O30 := ok_under (P := l.prog) (w := w) (mg := mg) (base := base) F30
    have O31 := ok_wft (P := l.prog) (w := w) (mg := mg) (base := base) F31 k30 b30 g30 O30
    have O32 := ok_graft (P := l.prog) (w := w) (mg := mg) (base := base) F32 k9 b9 g9 O9 k11 b11 g11 O11 k19 b19 g19 O19 k31 b31 g31 O31 m8
    have O33 := ok_comes (P := l.prog) (w := w) (mg := mg) (base := base) F33 k29 b29 g29 O29 k32 b32 g32 O32 k24 b24 g24 O24 k23 b23 g23 O23 k22 b22 g22 O22 m11 m12 m2
    exact ok_law F34 k3 b3 g3 O3 k2 b2 g2 O2 k28 b28 g28 O28 k33 b33 g33 O33 k22 b22 g22 O22 k32 b32 g32 O32 k23 b23 g23 O23 m0 m2 m11 m12
end HK

open PySem PySem.W PyProof.Rows
set_option Elab.async false
set_option maxRecDepth 100000
set_option maxHeartbeats 0 in
theorem PySem.Challenge.cw_hearkenway_k14_whole_grafted_and_cut_holds : PySem.Challenge.rw_hearkenway_k14_whole_grafted_and_cut.Holds := by
  w_on; o_law; k_head; (case hw => w_witness2)
  k_fill
  refine HK.walk_tabs (l := PySem.Challenge.rw_hearkenway_k14_whole_grafted_and_cut) (n := 63) (k := 9) (x := "script") (CX := fun _ => L2.CX0) rfl (by decide) rfl ⟨rfl, by decide, by decide⟩ (fun w h Y => PySem.W.kIn_of Y) ?F (fun _ _ _ _ _ h => h)
  case F =>
    intro w mg fa h Y KX G hmg tabs
    refine' HK.all_mk KX G hmg tabs rfl ?a1 ?l1 ?c1 ?k1 ?a2 ?l2 ?c2 ?k2 ?a3 ?l3 ?c3 ?k3 ?a4 ?l4 ?c4 ?k4 ?a5 ?l5 ?c5 ?k5 ?a6 ?l6 ?c6 ?k6 ?a7 ?l7 ?c7 ?k7 ?a8 ?l8 ?c8 ?k8 ?a9 ?l9 ?c9 ?k9 ?a10 ?l10 ?c10 ?k10 ?a11 ?l11 ?c11 ?k11 ?a13 ?l13 ?c13 ?k13 ?a14 ?l14 ?c14 ?k14 ?a15 ?l15 ?c15 ?k15 ?a16 ?l16 ?c16 ?k16 ?a17 ?l17 ?c17 ?k17 ?a18 ?l18 ?c18 ?k18 ?a19 ?l19 ?c19 ?k19 ?a20 ?l20 ?c20 ?k20 ?a21 ?l21 ?c21 ?k21 ?a22 ?l22 ?c22 ?k22 ?a23 ?l23 ?c23 ?k23 ?a24 ?l24 ?c24 ?k24 ?a25 ?l25 ?c25 ?k25 ?a26 ?l26 ?c26 ?k26 ?a27 ?l27 ?c27 ?k27 ?a28 ?l28 ?c28 ?k28 ?a29 ?l29 ?c29 ?k29 ?a30 ?l30 ?c30 ?k30 ?a31 ?l31 ?c31 ?k31 ?a32 ?l32 ?c32 ?k32 ?a33 ?l33 ?c33 ?k33 ?a34 ?l34 ?c34 ?k34 ?z0 ?z1 ?z2 ?z3 ?z4 ?z5 ?z6 ?z7 ?z8 ?z9 ?z10 ?z11 ?z12 ?y0 ?y1 ?y2 ?y3 ?w8 ?v8 ?n8 ?q8 ?w7 ?v7 ?n7 ?q7 ?w13 ?v13 ?n13 ?q13 ?w15 ?v15 ?n15 ?q15 ?w18 ?v18 ?n18 ?q18 ?w20 ?v20 ?n20 ?q20 ?w23 ?v23 ?n23 ?q23 ?w24 ?v24 ?n24 ?q24
    (case a1 => k_is); (case l1 => k_is); (case c1 => k_is); (case k1 => k_is); (case a2 => k_is); (case l2 => k_is); (case c2 => k_is); (case k2 => k_is); (case a3 => k_is); (case l3 => k_is); (case c3 => k_is); (case k3 => k_is); (case a4 => k_is); (case l4 => k_is); (case c4 => k_is); (case k4 => k_is); (case a5 => k_is); (case l5 => k_is); (case c5 => k_is); (case k5 => k_is); (case a6 => k_is); (case l6 => k_is); (case c6 => k_is); (case k6 => k_is); (case a7 => k_is); (case l7 => k_is); (case c7 => k_is); (case k7 => k_is); (case a8 => k_is); (case l8 => k_is); (case c8 => k_is); (case k8 => k_is); (case a9 => k_is); (case l9 => k_is); (case c9 => k_is); (case k9 => k_is); (case a10 => k_is); (case l10 => k_is); (case c10 => k_is); (case k10 => k_is); (case a11 => k_is); (case l11 => k_is); (case c11 => k_is); (case k11 => k_is); (case a13 => k_is); (case l13 => k_is); (case c13 => k_is); (case k13 => k_is); (case a14 => k_is); (case l14 => k_is); (case c14 => k_is); (case k14 => k_is); (case a15 => k_is); (case l15 => k_is); (case c15 => k_is); (case k15 => k_is); (case a16 => k_is); (case l16 => k_is); (case c16 => k_is); (case k16 => k_is); (case a17 => k_is); (case l17 => k_is); (case c17 => k_is); (case k17 => k_is); (case a18 => k_is); (case l18 => k_is); (case c18 => k_is); (case k18 => k_is); (case a19 => k_is); (case l19 => k_is); (case c19 => k_is); (case k19 => k_is); (case a20 => k_is); (case l20 => k_is); (case c20 => k_is); (case k20 => k_is); (case a21 => k_is); (case l21 => k_is); (case c21 => k_is); (case k21 => k_is); (case a22 => k_is); (case l22 => k_is); (case c22 => k_is); (case k22 => k_is); (case a23 => k_is); (case l23 => k_is); (case c23 => k_is); (case k23 => k_is); (case a24 => k_is); (case l24 => k_is); (case c24 => k_is); (case k24 => k_is); (case a25 => k_is); (case l25 => k_is); (case c25 => k_is); (case k25 => k_is); (case a26 => k_is); (case l26 => k_is); (case c26 => k_is); (case k26 => k_is); (case a27 => k_is); (case l27 => k_is); (case c27 => k_is); (case k27 => k_is); (case a28 => k_is); (case l28 => k_is); (case c28 => k_is); (case k28 => k_is); (case a29 => k_is); (case l29 => k_is); (case c29 => k_is); (case k29 => k_is); (case a30 => k_is); (case l30 => k_is); (case c30 => k_is); (case k30 => k_is); (case a31 => k_is); (case l31 => k_is); (case c31 => k_is); (case k31 => k_is); (case a32 => k_is); (case l32 => k_is); (case c32 => k_is); (case k32 => k_is); (case a33 => k_is); (case l33 => k_is); (case c33 => k_is); (case k33 => k_is); (case a34 => k_is); (case l34 => k_is); (case c34 => k_is); (case k34 => k_is); (case z0 => k_is); (case z1 => k_is); (case z2 => k_is); (case z3 => k_is); (case z4 => k_is); (case z5 => k_is); (case z6 => k_is); (case z7 => k_is); (case z8 => k_is); (case z9 => k_is); (case z10 => k_is); (case z11 => k_is); (case z12 => k_is); (case y0 => k_is); (case y1 => k_is); (case y2 => k_is); (case y3 => k_is); (case w8 => k_is); (case w7 => k_is); (case w13 => k_is); (case w15 => k_is); (case w18 => k_is); (case w20 => k_is); (case w23 => k_is); (case w24 => k_is)
    (case v8 => rfl); (case n8 => rfl); (case v7 => rfl); (case n7 => rfl); (case v13 => rfl); (case n13 => rfl); (case v15 => rfl); (case n15 => rfl); (case v18 => rfl); (case n18 => rfl); (case v20 => rfl); (case n20 => rfl); (case v23 => rfl); (case n23 => rfl); (case v24 => rfl); (case n24 => rfl)
    (case q8 => decide +kernel); (case q7 => decide +kernel); (case q13 => decide +kernel); (case q15 => decide +kernel); (case q18 => decide +kernel); (case q20 => decide +kernel); (case q23 => decide +kernel); (case q24 => decide +kernel)
