import PyProof.Rows.All
import Wide.All
import OpenK.AllK
import Wide.FinOn
import HandS.AnyAll
import HandS.GenOver
import HandS.ForMost
import HandS.IsInst
import HandS.EndTab
import HandS.Wide
import HandS.Style
import HandS.Evl
import HandS.TupAny
import HandS.DictComp
import HandS.More
import HandS.Walk
import HandS.WordsDict
import HandS.Conv
import HandS.Strs
import HandS.Deep
import KE.KDictList
import HandS.ListItems
import HandS.SetFor
import HandS.Zip
import PyProof.SumAny
import HandS.Finally
import HandS.EndOwn
import PySem.Challenge.RW_hearkenway_k52_first_moments
set_option Elab.async false
set_option linter.all false
set_option maxRecDepth 100000
set_option maxHeartbeats 2000000
namespace GAl
open PySem PySem.Spec PyProof.Rows L2 GxR
open Sem (wp)

theorem Inv.kall {X : Cx} {pins : List (Addr × Obj)} {σ : L2.St} {H : Hp} {s s'' : Shared} (I : Inv X pins σ H s) (ho : s''.os = s.os) (hb : AllBare s''.gens)
    (k : ∀ b o, s.heap.get? b = some o → s''.heap.get? b = some o) : Inv X pins σ H s'' := by
  obtain ⟨h', g', d', t', o'⟩ := s''
  have e : o' = s.os := ho
  subst e
  exact I.call (h' := h') (g' := g') (d' := d') (t' := t') (ch := []) (Un.kept k) (I.hok.kept k) hb (fun b z => absurd z (by simp))

theorem bare_set {s : Shared} {g : Nat} {x : GenState} (h : AllBare s.gens) (hx : x.bare = true) : AllBare (s.setGen g x).gens := by
  intro y hy
  simp only [Shared.setGen] at hy
  rcases Array.mem_or_eq_of_mem_setIfInBounds hy with z | z
  · exact h y z
  · rw [z]; exact hx

/-- the context of a generator expression's code -/
abbrev gcx (X : Cx) (A' : Around) (s : Shared) (H : Hp) (cenv : Env) (fp : List Addr) : Cx :=
  { X with A := A', s_0 := s, H_0 := H, env := cenv, outer := X.stack, stack := cenv :: X.stack, ex := fp, fn := fun _ => false, pn := [], xe := fun _ _ => False }

section
variable {X : Cx} {pins : List (Addr × Obj)} {σ : L2.St} {H : Hp} {s : Shared}

theorem gen_start {scope : Scope} {own : List (Str × Nat)} {fp : List Addr} {A' : Around} {cenv : Env} {code : Value} {m : Str → Option Value} {h5 : Heap} {g' : Array GenState} {t5 : Nat} {a : Addr} {oa : Obj}
    (I : Inv X pins σ H s) (ok : BlkOk X.N X.env.scope scope own) (hcell : ∀ y ∈ scope.names, y.2 ≠ .cell) (hN : X.N.Nodup)
    (hfp : ∀ b ∈ fp, FpOk X pins H b ∧ b < s.heap.objs.size)
    (hce : cenv = genEnv scope (cloFrom X.env.cells scope.names []) s.heap.objs.size code builtinsNs X.env)
    (hA : A'.frames = some (cenv :: X.stack)) (hh : A'.handled = none)
    (hns : h5.Ns s.heap.objs.size m) (kp : ∀ b o, s.heap.get? b = some o → h5.get? b = some o) (hb : AllBare g')
    (ha : h5.get? a = some oa) (hla : s.heap.objs.size < a) (hda : ∀ v, oa.data ≠ .cell v) :
    Inv (gcx X A' s H cenv fp) [(a, oa)] (wipe σ (own.map (·.2))) H { s with heap := h5, gens := g', toks := t5 } := by
  have hfree : ∀ y ∈ scope.names, y.2 = .free → ∃ c, X.env.cells.lookup y.1 = some c := fun y hy e => by
    rcases ok.free y hy e with k | k
    · exact I.ok.has _ (.inl k)
    · exact I.ok.has _ (.inr k)
  have hL : cenv.locals = s.heap.objs.size := by rw [hce]; rfl
  have hcl : cenv.cells = cloFrom X.env.cells scope.names [] := by rw [hce]; rfl
  have hsc : cenv.scope = scope := by rw [hce]; rfl
  have mem : ∀ {y c}, cenv.cells.lookup y = some c → X.env.cells.lookup y = some c ∧ c < s.heap.objs.size := fun {y c} e => by
    rw [hcl] at e
    rcases cloFrom_mem (PySem.mem_of_lookup e) with hm | ⟨h1, rfl⟩
    · cases hm
    · obtain ⟨c, hc⟩ := hfree _ h1 rfl
      rw [hc]
      obtain ⟨w, z⟩ := I.cell _ _ hc
      exact ⟨rfl, z.lt⟩
  have look : ∀ {y}, scope.names.lookup y = some .free → ∃ c, cenv.cells.lookup y = some c ∧ X.env.cells.lookup y = some c := fun {y} hl => by
    have hy : (y, NameKind.free) ∈ scope.names := PySem.mem_of_lookup hl
    obtain ⟨c', e'⟩ := mem_lookup (cloFrom_has (cells := X.env.cells) (acc := []) hy)
    rw [← hcl] at e'
    exact ⟨c', e', (mem e').1⟩
  have kfree : ∀ {y k}, cenv.kindOf y = some k → (k = .cell ∨ k = .free) → scope.names.lookup y = some .free := fun {y k} hk hk' => by
    unfold Env.kindOf at hk
    rw [hsc] at hk
    rcases hk' with rfl | rfl
    · exact absurd rfl (hcell _ (PySem.mem_of_lookup hk))
    · exact hk
  have okB : (gcx X A' s H cenv fp).Ok := by
    refine ⟨I.ok.mod, by show cenv.scope.kind = _; rw [hsc]; exact ok.kind, by show cenv.globals = _; rw [hce]; exact I.ok.glob, by show cenv.builtins = _; rw [hce]; rfl, by show s.heap.objs.size ≤ cenv.locals; rw [hL]; exact Nat.le_refl _,
      fun y z c e1 e2 => I.ok.inj y z c (mem e1).1 (mem e2).1, fun y hy => ?_, fun y c z e => (by cases z), fun _ => hh, hA, .inr ⟨rfl, by show cenv.frame = some cenv.locals; rw [hce]; rfl⟩, fun b hb => ⟨?_, fun y c e z => ?_⟩, I.bs, Nat.le_trans I.ok.bsz I.sz, fun b o e hb => ?_, fun b hb z => ?_, I.stack, I.stkFree⟩
    · rcases hy with hy | hy
      · obtain ⟨c, h1, _⟩ := look (kfree hy (.inl rfl)); exact ⟨c, h1⟩
      · obtain ⟨c, h1, _⟩ := look (kfree hy (.inr rfl)); exact ⟨c, h1⟩
    · show b ≠ cenv.locals
      rw [hL]; exact Nat.ne_of_lt (hfp b hb).2
    · exact (hfp b hb).1.2.2.2.2.1 y c (mem e).1 z
    · rcases (hfp b hb).1.2.2.2.1 with z | z
      · exact I.ok.noex b o e z
      · exact absurd (Nat.lt_of_lt_of_le (Heap.lt_size e) (Nat.le_trans I.ok.bsz z)) (Nat.lt_irrefl _)
    · rcases List.mem_cons.mp (I.stkSub b z) with z | z
      · exact (hfp b hb).1.2.1 z
      · exact (hfp b hb).1.2.2.1 z
  refine ⟨okB, rfl, hb, Un.kept kp, ⟨m, ?_, fun i y av e1 e2 e3 => ?_⟩, fun y c e => ?_, ?_, fun y c e => ?_, fun p hp => ?_, I.hok.kept kp, by rw [wipe_length]; exact I.len⟩
  · show Heap.Ns _ cenv.locals _
    rw [hL]
    exact hns
  · obtain ⟨e2, hne⟩ := wipe_some e2
    have hfr : scope.names.lookup y = some .free := by
      have key : ∀ k, scope.names.lookup y = some k → k = .local ∨ k = .cell ∨ k = .free → scope.names.lookup y = some .free := fun k hk hk' => by
        have no : ¬ (k = .local ∨ k = .cell) := fun hh => by
          rcases ok.own _ (PySem.mem_of_lookup hk) hh with e' | e'
          · obtain ⟨p, hp, hpy⟩ := List.mem_map.mp e'
            have e3 := ok.ix p hp
            have : p.1 = y := hpy
            rw [this] at e3
            exact hne (List.mem_map.mpr ⟨p, hp, nodup_ix hN e3 e1⟩)
          · exact e' (List.mem_of_getElem? e1)
        rcases hk' with rfl | rfl | rfl
        · exact absurd (.inl rfl) no
        · exact absurd (.inr rfl) no
        · exact hk
      have e3 : Vis cenv.scope y := e3
      rw [hsc] at e3
      rcases e3 with e3 | e3 | e3
      · exact key _ e3 (.inl rfl)
      · exact key _ e3 (.inr (.inl rfl))
      · exact key _ e3 (.inr (.inr rfl))
    obtain ⟨m, hn, hl⟩ := I.loc
    have hvis : Vis X.env.scope y := (ok.free _ (PySem.mem_of_lookup hfr) rfl).elim (fun k => .inr (.inl k)) (fun k => .inr (.inr k))
    obtain ⟨w, r, q⟩ := hl i y av e1 e2 hvis
    refine ⟨w, r, .inr ⟨.inr (by show cenv.scope.names.lookup y = _; rw [hsc]; exact hfr), ?_⟩⟩
    obtain ⟨c, h1, h2⟩ := look hfr
    rcases q with ⟨k, _⟩ | ⟨_, c', e', z⟩
    · have k : X.env.scope.names.lookup y = some .local := k
      rcases ok.free _ (PySem.mem_of_lookup hfr) rfl with k' | k' <;> rw [show X.env.scope.names.lookup y = _ from k'] at k <;> cases k
    · rw [h2] at e'; cases e'
      exact ⟨c, h1, z.keeps kp⟩
  · obtain ⟨w, z⟩ := I.cell y c (mem e).1
    exact ⟨w, z.keeps kp⟩
  · show H cenv.locals = none
    rw [hL]; exact I.hok.fresh (Nat.le_refl _)
  · exact I.freeC y c (mem e).1
  · have hp : p ∈ ([] : List (Addr × Obj)) ++ [(a, oa)] := hp
    simp only [List.nil_append, List.mem_singleton] at hp
    subst hp
    refine ⟨ha, I.hok.fresh (Nat.le_of_lt hla), ?_, ?_, hda⟩
    · show a ≠ cenv.locals
      rw [hL]; exact Nat.ne_of_gt hla
    · intro z
      have z : a ∈ frs X.stack := z
      obtain ⟨_, o, ho, _⟩ := I.stack.mem z
      exact absurd (Nat.lt_trans hla (Heap.lt_size ho)) (Nat.lt_irrefl _)
end
end GAl

set_option Elab.async false
set_option linter.all false
set_option maxRecDepth 100000
set_option maxHeartbeats 2000000
namespace GAl
open PySem PySem.Spec PyProof.Rows L2 GxR
open Sem (wp)

/-- the generator's end and what it hands out -/
def REnd (XG : Cx) (a : Addr) (oa : Obj) (σw : L2.St) (Qd : Hp → Prop) : Nat → Shared → Shared → Prop := fun _ _ s₁ => ∃ H4, Inv XG [(a, oa)] σw H4 s₁ ∧ Qd H4
def YOut (XG : Cx) (a : Addr) (oa : Obj) (stp : V → Hp → Prop → Prop) : Protocol := fun _ _ v s kap =>
  ∃ y H4 σ4, Inv XG [(a, oa)] σ4 H4 s ∧ RelV y v ∧ stp y H4 (∀ s'' : Shared, s''.os = s.os → AllBare s''.gens → (∀ b o, s.heap.get? b = some o → s''.heap.get? b = some o) → kap (.send .none) s'')

/-- what a turn asks (W by the turn and a measure) -/
def GTurn (J : It) (g : TG) (tt : TT) (te : TE) (vs : List Nat) (σw : L2.St) (Qd : Hp → Prop) (stp : V → Hp → Prop → Prop) (W : Nat → Nat → Hp → Prop) : Prop :=
  ∀ i m H, W i m H → (J.stop i H ∧ Qd H) ∨ (J.go i H ∧ ∃ Nx : Hp → Prop, (∀ H', Nx H' → ∃ m', m' < m ∧ W (i + 1) m' H') ∧ ∀ x H', J.yld i H x H' → g x σw H' fun σ2 H2 => wipe σ2 vs = σw ∧ tt σ2 H2 fun b H3 =>
    if b = true then te σ2 H3 fun y H4 => stp y H4 (Nx H4) else Nx H3)

section
variable {X : Cx} {σ : L2.St} {elt tg iter : Expr} {ifs : List Expr} {scope : Scope} {pos : Pos} {it a : Addr} {oa : Obj} {fp : List Addr} {cenv : Env} {AG : Around} {s4 : Shared} {Hs : Hp} {J : It} {tn : Nat → Heap → Prop}
  {g : TG} {tt : TT} {te : TE} {vs : List Nat} {σw : L2.St} {Qd : Hp → Prop} {stp : V → Hp → Prop → Prop} {W : Nat → Nat → Hp → Prop}

theorem gen_loop (hc : X.calm = true) (hco : cenv.scope.isCoroutine = false) (T : Turn X.prog X.w X.K tg J fp it tn) (hafp : ∀ b ∈ fp, a ≠ b)
    (hmono : ∀ y H (p q : Prop), (p → q) → stp y H p → stp y H q)
    (pg : PG (gcx X (AG.over (.compLoop (.GeneratorExp elt [⟨tg, iter, ifs, 0⟩] scope pos) 0 (.ref it) .none cenv) []) s4 Hs cenv fp) tg g)
    (pt : PTs (gcx X (AG.over (.compLoop (.GeneratorExp elt [⟨tg, iter, ifs, 0⟩] scope pos) 0 (.ref it) .none cenv) []) s4 Hs cenv fp) ifs tt)
    (pe : PE (gcx X (AG.over (.compLoop (.GeneratorExp elt [⟨tg, iter, ifs, 0⟩] scope pos) 0 (.ref it) .none cenv) []) s4 Hs cenv fp) elt te)
    (hW : GTurn J g tt te vs σw Qd stp W) :
    ∀ (m n i : Nat) (s₀ s : Shared) (H : Hp), m < n → W i m H → Inv (gcx X (AG.over (.compLoop (.GeneratorExp elt [⟨tg, iter, ifs, 0⟩] scope pos) 0 (.ref it) .none cenv) []) s4 Hs cenv fp) [(a, oa)] σw H s → tn i s.heap → (∀ b ∈ fp, H b = none) →
      Seg (model X.prog X.w) AG (fun n s₀ r s₁ => r = .ok .next ∧ REnd (gcx X (AG.over (.compLoop (.GeneratorExp elt [⟨tg, iter, ifs, 0⟩] scope pos) 0 (.ref it) .none cenv) []) s4 Hs cenv fp) a oa σw Qd n s₀ s₁)
        (YOut (gcx X (AG.over (.compLoop (.GeneratorExp elt [⟨tg, iter, ifs, 0⟩] scope pos) 0 (.ref it) .none cenv) []) s4 Hs cenv fp) a oa stp) n s₀
        (.compLoop (.GeneratorExp elt [⟨tg, iter, ifs, 0⟩] scope pos) 0 (.ref it) .none cenv)
        ((model X.prog X.w).den (.compLoop (.GeneratorExp elt [⟨tg, iter, ifs, 0⟩] scope pos) 0 (.ref it) .none cenv)) [] s := by
  generalize hXG : gcx X (AG.over (.compLoop (.GeneratorExp elt [⟨tg, iter, ifs, 0⟩] scope pos) 0 (.ref it) .none cenv) []) s4 Hs cenv fp = XG at pg pt pe ⊢
  have hA : XG.A = AG.over (.compLoop (.GeneratorExp elt [⟨tg, iter, ifs, 0⟩] scope pos) 0 (.ref it) .none cenv) [] := by rw [← hXG]
  have hP : XG.prog = X.prog := by rw [← hXG]
  have hw : XG.w = X.w := by rw [← hXG]
  have hK : XG.K = X.K := by rw [← hXG]
  have hcalm : XG.calm = true := by rw [← hXG]; exact hc
  have henv : XG.env = cenv := by rw [← hXG]
  have hxe : XG.xe = fun _ _ => False := by rw [← hXG]
  have hex : XG.ex = fp := by rw [← hXG]
  have hpn : XG.pn = [] := by rw [← hXG]
  have stat : ∀ {σ' : L2.St} {H' : Hp} {s' : Shared}, Inv XG [(a, oa)] σ' H' s' → (∀ b ∈ fp, H' b = none) → ∀ b ∈ fp, FpOk XG [(a, oa)] H' b := fun {σ' H' s'} I' hn b hb =>
    ⟨hn b hb, (I'.ok.exf b (by rw [hex]; exact hb)).1, I'.ok.exfs b (by rw [hex]; exact hb), .inl (by rw [hex]; exact hb), fun x c e => (I'.ok.exf b (by rw [hex]; exact hb)).2 x c e, fun p hp => by
      rw [hpn] at hp
      simp only [List.nil_append, List.mem_singleton] at hp
      subst hp
      exact hafp b hb⟩
  intro m
  induction m using Nat.strongRecOn with
  | ind m ih =>
    intro n i s₀ s H hmn w I st nH
    show Seg _ AG _ _ _ s₀ _ ((compTurn (.GeneratorExp elt [⟨tg, iter, ifs, 0⟩] scope pos) 0 (.ref it) .none cenv).onRaise (leaving cenv)) [] s
    rw [compTurn_gen, Sem.onRaise_eq_wrap]
    refine seg_bind_wrap (wpAny_standAt ?_)
    rcases hW i m H w with ⟨stop, qq⟩ | ⟨go, Nx, hNx, step⟩
    · have td := T.done XG hP hw hK hcalm i _ s _ H (fun _ _ => False) I (stat I nH) st stop
      rw [hA] at td
      refine seg_bind_wrap (thnF td fun r s1 ⟨hr, I1⟩ => ?_)
      subst hr
      exact seg_end (.ok .next) ⟨rfl, H, I1, qq⟩
    · have ti := T.item XG hP hw hK hcalm i _ s _ H (fun _ _ => False) I (stat I nH) st go
      rw [hA] at ti
      refine seg_bind_wrap (thnF ti fun r s1 ⟨u, hr, h1⟩ => ?_)
      subst hr
      refine seg_bind_wrap (thnF h1 fun _ s2 ⟨x, H2, I2, r2, y2, st2, n2⟩ => ?_)
      have I2' := I2.pinned (stat I2 n2) (T.obj _ _ st2)
      have rg := pg.run _ s2 _ H2 x u _ I2' r2 (step x H2 y2)
      rw [hA, hP, hw, henv, hxe] at rg
      refine seg_bind_wrap (thnF rg fun _ s3 ⟨σ3, H3, I3, hw3, q3⟩ => ?_)
      have rt := pt.run _ s3 σ3 H3 _ I3 q3
      rw [hA, hP, hw, henv, hxe] at rt
      refine seg_bind_wrap (thnF rt fun b s5 ⟨H5, I5, q5⟩ => ?_)
      have fin : ∀ {s' s'' : Shared} {H' : Hp}, Inv XG ([(a, oa)] ++ pinsAt fp s2.heap) σ3 H' s' → s''.os = s'.os → AllBare s''.gens → (∀ b o, s'.heap.get? b = some o → s''.heap.get? b = some o) → Nx H' →
          ∃ m', m' < m ∧ W (i + 1) m' H' ∧ Inv XG [(a, oa)] σw H' s'' ∧ tn (i + 1) s''.heap ∧ (∀ b ∈ fp, H' b = none) := fun {s' s'' H'} I' e1 e2 e3 nx => by
        obtain ⟨m', hm, w'⟩ := hNx H' nx
        have pin' : ∀ b ∈ fp, ∀ o, s2.heap.get? b = some o → s'.heap.get? b = some o ∧ H' b = none := fun b hb o e =>
          let z := I'.pin (b, o) (List.mem_append_right _ (List.mem_append_right _ (mem_pinsAt hb e)))
          ⟨z.1, z.2.1⟩
        have hl : σw.length = σ3.length := by rw [← hw3, wipe_length]
        refine ⟨m', hm, w', Inv.kall ((I'.unpinned (pins := [(a, oa)])).weak hl (fun j v e => ?_)) e1 e2 e3, T.keep _ _ _ st2 fun b hb o e => e3 b o (pin' b hb o e).1, fun b hb => ?_⟩
        · rw [← hw3] at e
          exact (wipe_some e).1
        · obtain ⟨o, e, _⟩ := T.obj _ _ st2 b hb
          exact (pin' b hb o e).2
      cases b with
      | false =>
        simp only [Bool.false_eq_true, if_false] at q5 ⊢
        obtain ⟨m', hm, w', I', st', n'⟩ := fin I5 rfl I5.bare (fun _ _ e => e) q5
        exact seg_again rfl (ih m' hm n (i + 1) s₀ s5 H5 (by omega) w' I' st' n')
      | true =>
        simp only [if_true] at q5 ⊢
        have hy : ∀ v, yieldOut cenv v = yieldValue v := fun v => by simp only [yieldOut, hco, Bool.false_eq_true, if_false]
        simp only [hy]
        rw [Sem.bind_eq_wrap', Sem.bind_eq_wrap', Sem.wrap_wrap, Sem.wrap_wrap]
        have re := pe.run _ s5 σ3 H5 _ I5 q5
        rw [hA, hP, hw, henv, hxe] at re
        refine seg_wrap (thnF re fun z s6 ⟨yv, H6, I6, r6, q6⟩ => ?_)
        cases n with
        | zero => exact absurd hmn (Nat.not_lt_zero _)
        | succ n =>
          refine seg_at (seg_yield rfl rfl rfl ⟨yv, H6, σ3, I6.unpinned (pins := [(a, oa)]), r6, hmono _ _ _ _ (fun nx s'' e1 e2 e3 => ?_) q6⟩)
          obtain ⟨m', hm, w', I', st', n'⟩ := fin I6 e1 e2 e3 nx
          exact seg_again rfl (ih m' hm n (i + 1) s'' s'' H6 (by omega) w' I' st' n')

theorem gen_begin (hc : X.calm = true) (hco : cenv.scope.isCoroutine = false) (T : Turn X.prog X.w X.K tg J fp it tn) (hafp : ∀ b ∈ fp, a ≠ b)
    (hmono : ∀ y H (p q : Prop), (p → q) → stp y H p → stp y H q)
    (pg : PG (gcx X (AG.over (.compLoop (.GeneratorExp elt [⟨tg, iter, ifs, 0⟩] scope pos) 0 (.ref it) .none cenv) []) s4 Hs cenv fp) tg g)
    (pt : PTs (gcx X (AG.over (.compLoop (.GeneratorExp elt [⟨tg, iter, ifs, 0⟩] scope pos) 0 (.ref it) .none cenv) []) s4 Hs cenv fp) ifs tt)
    (pe : PE (gcx X (AG.over (.compLoop (.GeneratorExp elt [⟨tg, iter, ifs, 0⟩] scope pos) 0 (.ref it) .none cenv) []) s4 Hs cenv fp) elt te)
    (hW : GTurn J g tt te vs σw Qd stp W) (m : Nat) (s₀ s : Shared) (H : Hp) (w : W 0 m H)
    (I : Inv (gcx X (AG.over (.compLoop (.GeneratorExp elt [⟨tg, iter, ifs, 0⟩] scope pos) 0 (.ref it) .none cenv) []) s4 Hs cenv fp) [(a, oa)] σw H s) (st : tn 0 s.heap) (nH : ∀ b ∈ fp, H b = none) :
      Seg (model X.prog X.w) AG (fun n s₀ r s₁ => r = .ok .next ∧ REnd (gcx X (AG.over (.compLoop (.GeneratorExp elt [⟨tg, iter, ifs, 0⟩] scope pos) 0 (.ref it) .none cenv) []) s4 Hs cenv fp) a oa σw Qd n s₀ s₁)
        (YOut (gcx X (AG.over (.compLoop (.GeneratorExp elt [⟨tg, iter, ifs, 0⟩] scope pos) 0 (.ref it) .none cenv) []) s4 Hs cenv fp) a oa stp) (m + 1) s₀
        (.compStart (.GeneratorExp elt [⟨tg, iter, ifs, 0⟩] scope pos) 0 (.ref it) .none cenv)
        ((model X.prog X.w).den (.compStart (.GeneratorExp elt [⟨tg, iter, ifs, 0⟩] scope pos) 0 (.ref it) .none cenv)) [] s := by
  have loop := gen_loop (a := a) (oa := oa) hc hco T hafp hmono pg pt pe hW m (m + 1) 0 s₀ s H (Nat.lt_succ_self _) w I st nH
  show Seg _ AG _ _ _ s₀ _ ((compStart (.GeneratorExp elt [⟨tg, iter, ifs, 0⟩] scope pos) 0 (.ref it) .none cenv).onRaise (leaving cenv)) [] s
  unfold compStart
  rw [Sem.onRaise_eq_wrap]
  show Seg _ AG _ _ _ s₀ _ ((ask >>= _).wrap _ _ _ _) [] s
  refine seg_bind_wrap (wpAny_askSetting ?_)
  split
  · exact seg_again rfl loop
  · first
      | exact seg_bind_wrap (wpAny_rule (seg_bind_wrap (wpAny_standAt (seg_bind_wrap (T.self _ 0 s _ _ st (seg_again rfl loop))))))
      | (refine seg_bind_wrap (wpAny_rule ?_); show Seg _ AG _ _ _ s₀ _ ((standAt iter.pos >>= _).wrap _ _ _ _) [] s; exact seg_bind_wrap (wpAny_standAt (seg_bind_wrap (T.self _ 0 s _ _ st (seg_again rfl loop)))))
end

/-! ### the consumer's side -/
section
variable {prog : Program} {w : World} {A : Around} {E : Value → Shared → Prop} {s : Shared}
theorem next_sz {a : Addr} {g n : Nat} {gs : GenState} {P : Nat → Shared → Shared → Prop} {Y : Protocol} {Q : Option Value → Shared → Prop} (hh : A.handled = none)
    (hl : s.heap.NoLimit) (hroom : A.depth < recursionLimit)
    (hg : s.heap.IsGen a g) (hgs : s.gens[g]? = some gs)
    (hgo : gs.Goes (model prog w) A.in1 (fun n s₀ r s₁ => r = .ok .next ∧ P n s₀ s₁) Y n (.send .none) (s.setGen g .running))
    (hY : ∀ v s₁ gs', s.gens.size ≤ s₁.gens.size → gs'.bare = true → Y (n - 1) (s.setGen g .running) v s₁ (fun r' s'' => match n with
        | 0 => False
        | m + 1 => gs'.Goes (model prog w) A.in1 (fun n s₀ r s₁ => r = .ok .next ∧ P n s₀ s₁) Y m r' s'') → Q (some v) (s₁.setGen g gs'))
    (hP : ∀ s₁, s.gens.size ≤ s₁.gens.size → P n (s.setGen g .running) s₁ → ∀ h', (∀ b o, s₁.heap.get? b = some o → h'.get? b = some o) → Q none { s₁.setGen g .finished with heap := h' }) :
    wpAny (model prog w) A (pyNext (.ref a)) Q E s := by
  refine GenW.wpAny_gsz (n := s.gens.size) (Nat.le_refl _) (wpAny_pyNext_genexpQ (E := fun e s' => s.gens.size ≤ s'.gens.size → E e s') (Q := fun r s' => s.gens.size ≤ s'.gens.size → Q r s') hh hl hroom hg hgs hgo
    (fun v s₁ gs' hb hv hz => hY v s₁ gs' (by rw [GenW.setGen_size] at hz; exact hz) hb hv)
    (fun s₁ hp h' hk hz => hP s₁ (by have z : s.gens.size ≤ (s₁.setGen g .finished).gens.size := hz; rw [GenW.setGen_size] at z; exact z) hp h' hk))
end
end GAl

set_option Elab.async false
set_option linter.all false
set_option maxRecDepth 100000
set_option maxHeartbeats 2000000
namespace GAl
open PySem PySem.Spec PyProof.Rows L2 GxR
open Sem (wp)

/-- the generator stands, ready for its next turn, at most n - 1 more are to come -/
def GSt (M : Model) (AG : Around) (P : Nat → Shared → Shared → Prop) (Y : Protocol) (a : Addr) (g n : Nat) (s : Shared) : Prop :=
  s.heap.IsGen a g ∧ s.heap.NoLimit ∧ ∃ gs, s.gens[g]? = some gs ∧ gs.Goes M AG (fun n s₀ r s₁ => r = .ok .next ∧ P n s₀ s₁) Y n (.send .none) (s.setGen g .running)

def stpAll (Qf : Hp → Prop) : V → Hp → Prop → Prop := fun y H N => ∃ c, y = .bl c ∧ (if c = true then N else Qf H)
def stpAny (Qt : Hp → Prop) : V → Hp → Prop → Prop := fun y H N => ∃ c, y = .bl c ∧ (if c = true then Qt H else N)
theorem stpAll_mono {Qf : Hp → Prop} : ∀ y H (p q : Prop), (p → q) → stpAll Qf y H p → stpAll Qf y H q := fun y H p q h ⟨c, e, k⟩ => ⟨c, e, by
  cases c with
  | true => simp only [if_true] at k ⊢; exact h k
  | false => simp only [Bool.false_eq_true, if_false] at k ⊢; exact k⟩
theorem stpAny_mono {Qf : Hp → Prop} : ∀ y H (p q : Prop), (p → q) → stpAny Qf y H p → stpAny Qf y H q := fun y H p q h ⟨c, e, k⟩ => ⟨c, e, by
  cases c with
  | false => simp only [Bool.false_eq_true, if_false] at k ⊢; exact h k
  | true => simp only [if_true] at k ⊢; exact k⟩

theorem gens_some {s : Shared} {g k : Nat} {gs : GenState} (h : s.gens[g]? = some gs) (hk : s.gens.size ≤ k) {s₁ : Shared} (e : s₁.gens.size = k) : ∃ x, s₁.gens[g]? = some x := by
  obtain ⟨hl, _⟩ := Array.getElem?_eq_some_iff.mp h
  exact ⟨_, Array.getElem?_eq_getElem (by omega)⟩

section
variable {X XG : Cx} {A : Around} {a : Addr} {oa : Obj} {g : Nat} {σw : L2.St} {Qd Qf : Hp → Prop} {R : Result → Shared → Prop}
theorem isgen_of {h h' : Heap} (hg : h.IsGen a g) (ho : h.get? a = some oa) (ho' : h'.get? a = some oa) : h'.IsGen a g := by
  obtain ⟨o, nm, qn, e, r⟩ := hg
  rw [ho] at e; cases e
  exact ⟨_, nm, qn, ho', r⟩

/-- all.loop over it -/
theorem all_loop (hprog : XG.prog = X.prog) (hw : XG.w = X.w) (hh : A.handled = none) (hroom : A.depth < recursionLimit) (hpn : XG.pn = [])
    (hfin : ∀ s' σ' H', Inv XG [(a, oa)] σ' H' s' → Qd H' → R (.ok (.ret (.bool true))) s')
    (hcut : ∀ s' σ' H', Inv XG [(a, oa)] σ' H' s' → Qf H' → R (.ok (.ret (.bool false))) s') :
    ∀ (n : Nat) (s : Shared), s.heap.get? a = some oa → GSt (model X.prog X.w) A.in1.in1 (REnd XG a oa σw Qd) (YOut XG a oa (stpAll Qf)) a g n s → codeAny (model X.prog X.w) A (.builtin "all.loop" ⟨[.ref a], []⟩) R s := by
  intro n
  induction n with
  | zero =>
    intro s hoa ⟨hg, hl, gs, hgs, hgo⟩
    refine codeAny_builtin F.entry_all_loop ?_
    rw [Around.under_plainId F.plain_all_loop _]
    show wpAny _ A.in1 (pyNext (.ref a) >>= _) _ _ s
    refine wpAny_bind (next_sz (A := A.in1) hh hl hroom hg hgs hgo (fun v s₁ gs' hsz hb hv => ?_) (fun s₁ hsz hp h' hk => ?_))
    · obtain ⟨y, H4, σ4, I4, r, c, e, k⟩ := hv
      subst e
      cases r
      refine wpAny_bind (wpAny_holding (wpAny_truthy_bool ?_))
      refine wpAny_bind (wpAny_letGo ?_)
      cases c with
      | true =>
        simp only [if_true] at k
        exact False.elim (k s₁ rfl I4.bare fun _ _ e => e)
      | false =>
        simp only [Bool.false_eq_true, if_false] at k ⊢
        refine wpAny_bind (wpAny_rule (wpAny_pure ?_))
        exact hcut _ σ4 H4 (Inv.kall I4 rfl (bare_set I4.bare hb) fun _ _ e => e) k
    · obtain ⟨H4, I4, q⟩ := hp
      refine wpAny_bind (wpAny_rule (wpAny_pure ?_))
      exact hfin _ σw H4 (Inv.kall I4 rfl (bare_set I4.bare rfl) hk) q
  | succ n ih =>
    intro s hoa ⟨hg, hl, gs, hgs, hgo⟩
    refine codeAny_builtin F.entry_all_loop ?_
    rw [Around.under_plainId F.plain_all_loop _]
    show wpAny _ A.in1 (pyNext (.ref a) >>= _) _ _ s
    refine wpAny_bind (next_sz (A := A.in1) hh hl hroom hg hgs hgo (fun v s₁ gs' hsz hb hv => ?_) (fun s₁ hsz hp h' hk => ?_))
    · obtain ⟨y, H4, σ4, I4, r, c, e, k⟩ := hv
      subst e
      cases r
      refine wpAny_bind (wpAny_holding (wpAny_truthy_bool ?_))
      refine wpAny_bind (wpAny_letGo ?_)
      cases c with
      | true =>
        simp only [if_true] at k ⊢
        have ha : s₁.heap.get? a = some oa := (I4.pin (a, oa) (by rw [hpn]; simp)).1
        obtain ⟨x, hx⟩ := gens_some hgs hsz rfl
        refine wpAny_pure ⟨plainId_quiet F.plain_all_loop _, ih (s₁.setGen g gs') ha ⟨isgen_of hg hoa ha, I4.nolimit, gs', setGen_self hx, ?_⟩⟩
        exact k ((s₁.setGen g gs').setGen g .running) rfl (bare_set (bare_set I4.bare hb) rfl) fun _ _ e => e
      | false =>
        simp only [Bool.false_eq_true, if_false] at k ⊢
        refine wpAny_bind (wpAny_rule (wpAny_pure ?_))
        exact hcut _ σ4 H4 (Inv.kall I4 rfl (bare_set I4.bare hb) fun _ _ e => e) k
    · obtain ⟨H4, I4, q⟩ := hp
      refine wpAny_bind (wpAny_rule (wpAny_pure ?_))
      exact hfin _ σw H4 (Inv.kall I4 rfl (bare_set I4.bare rfl) hk) q
/-- any.loop over it -/
theorem any_loop (hprog : XG.prog = X.prog) (hw : XG.w = X.w) (hh : A.handled = none) (hroom : A.depth < recursionLimit) (hpn : XG.pn = [])
    (hfin : ∀ s' σ' H', Inv XG [(a, oa)] σ' H' s' → Qd H' → R (.ok (.ret (.bool false))) s')
    (hcut : ∀ s' σ' H', Inv XG [(a, oa)] σ' H' s' → Qf H' → R (.ok (.ret (.bool true))) s') :
    ∀ (n : Nat) (s : Shared), s.heap.get? a = some oa → GSt (model X.prog X.w) A.in1.in1 (REnd XG a oa σw Qd) (YOut XG a oa (stpAny Qf)) a g n s → codeAny (model X.prog X.w) A (.builtin "any.loop" ⟨[.ref a], []⟩) R s := by
  intro n
  induction n with
  | zero =>
    intro s hoa ⟨hg, hl, gs, hgs, hgo⟩
    refine codeAny_builtin F.entry_any_loop ?_
    rw [Around.under_plainId F.plain_any_loop _]
    show wpAny _ A.in1 (pyNext (.ref a) >>= _) _ _ s
    refine wpAny_bind (next_sz (A := A.in1) hh hl hroom hg hgs hgo (fun v s₁ gs' hsz hb hv => ?_) (fun s₁ hsz hp h' hk => ?_))
    · obtain ⟨y, H4, σ4, I4, r, c, e, k⟩ := hv
      subst e
      cases r
      refine wpAny_bind (wpAny_holding (wpAny_truthy_bool ?_))
      refine wpAny_bind (wpAny_letGo ?_)
      cases c with
      | false =>
        simp only [Bool.false_eq_true, if_false] at k
        exact False.elim (k s₁ rfl I4.bare fun _ _ e => e)
      | true =>
        simp only [if_true] at k ⊢
        refine wpAny_bind (wpAny_rule (wpAny_pure ?_))
        exact hcut _ σ4 H4 (Inv.kall I4 rfl (bare_set I4.bare hb) fun _ _ e => e) k
    · obtain ⟨H4, I4, q⟩ := hp
      refine wpAny_bind (wpAny_rule (wpAny_pure ?_))
      exact hfin _ σw H4 (Inv.kall I4 rfl (bare_set I4.bare rfl) hk) q
  | succ n ih =>
    intro s hoa ⟨hg, hl, gs, hgs, hgo⟩
    refine codeAny_builtin F.entry_any_loop ?_
    rw [Around.under_plainId F.plain_any_loop _]
    show wpAny _ A.in1 (pyNext (.ref a) >>= _) _ _ s
    refine wpAny_bind (next_sz (A := A.in1) hh hl hroom hg hgs hgo (fun v s₁ gs' hsz hb hv => ?_) (fun s₁ hsz hp h' hk => ?_))
    · obtain ⟨y, H4, σ4, I4, r, c, e, k⟩ := hv
      subst e
      cases r
      refine wpAny_bind (wpAny_holding (wpAny_truthy_bool ?_))
      refine wpAny_bind (wpAny_letGo ?_)
      cases c with
      | false =>
        simp only [Bool.false_eq_true, if_false] at k ⊢
        have ha : s₁.heap.get? a = some oa := (I4.pin (a, oa) (by rw [hpn]; simp)).1
        obtain ⟨x, hx⟩ := gens_some hgs hsz rfl
        refine wpAny_pure ⟨plainId_quiet F.plain_any_loop _, ih (s₁.setGen g gs') ha ⟨isgen_of hg hoa ha, I4.nolimit, gs', setGen_self hx, ?_⟩⟩
        exact k ((s₁.setGen g gs').setGen g .running) rfl (bare_set (bare_set I4.bare hb) rfl) fun _ _ e => e
      | true =>
        simp only [if_true] at k ⊢
        refine wpAny_bind (wpAny_rule (wpAny_pure ?_))
        exact hcut _ σ4 H4 (Inv.kall I4 rfl (bare_set I4.bare hb) fun _ _ e => e) k
    · obtain ⟨H4, I4, q⟩ := hp
      refine wpAny_bind (wpAny_rule (wpAny_pure ?_))
      exact hfin _ σw H4 (Inv.kall I4 rfl (bare_set I4.bare rfl) hk) q
end
end GAl

set_option Elab.async false
set_option linter.all false
set_option maxRecDepth 100000
set_option maxHeartbeats 2000000
namespace GAl
open PySem PySem.Spec PyProof.Rows L2 GxR
open Sem (wp)

/-- the scope of a generator expression -/
structure GSc (N : List Str) (sc scope : Scope) (own : List (Str × Nat)) : Prop where
  blk : BlkOk N sc scope own
  co : scope.isCoroutine = false
  cell : ∀ y ∈ scope.names, y.2 ≠ .cell
  dot : scope.names.lookup (".0" : Str) = some NameKind.local
def gscC (N : List Str) (sc scope : Scope) (own : List (Str × Nat)) : Bool :=
  blkC N sc scope own && !scope.isCoroutine && (scope.names.all fun y => match y.2 with | .cell => false | _ => true) && (match scope.names.lookup (".0" : Str) with | some .local => true | _ => false)
theorem gsc_by {N : List Str} {sc scope : Scope} {own : List (Str × Nat)} (h : gscC N sc scope own = true) : GSc N sc scope own := by
  unfold gscC at h
  simp only [Bool.and_eq_true, List.all_eq_true, Bool.not_eq_true'] at h
  obtain ⟨⟨⟨h1, h2⟩, h3⟩, h4⟩ := h
  refine ⟨blkOk_by h1, h2, fun y hy e => ?_, ?_⟩
  · have q := h3 y hy
    rw [e] at q
    exact Bool.noConfusion q
  · split at h4
    · assumption
    · cases h4

/-- what a consumed generator expression asks: the walked thing, the def's table, the turns -/
def tGenB (P : Addr) (wi : TI) (g : TG) (tt : TT) (te : TE) (vs : List Nat) (stp : V → Hp → Prop → Prop) (Qd : Hp → Prop) : L2.St → Hp → Prop := fun σ H =>
  wi σ H fun J H1 => TabG H1 P ∧ ∀ H2, Tabbed P H1 H2 → ∃ W : Nat → Nat → Hp → Prop, (∃ m, W 0 m H2) ∧ GTurn J g tt te vs (wipe σ vs) Qd stp W
def tAllG (P : Addr) (wi : TI) (g : TG) (tt : TT) (te : TE) (vs : List Nat) : TE := fun σ H Q => tGenB P wi g tt te vs (stpAll (Q (.bl false))) (Q (.bl true)) σ H
def tAnyG (P : Addr) (wi : TI) (g : TG) (tt : TT) (te : TE) (vs : List Nat) : TE := fun σ H Q => tGenB P wi g tt te vs (stpAny (Q (.bl true))) (Q (.bl false)) σ H

section
variable {X : Cx} {pins : List (Addr × Obj)} {σ : L2.St} {H : Hp} {s : Shared}
theorem gen_make {c P : Addr} {elt tg iter : Expr} {ifs : List Expr} {gpos : Pos} {scope : Scope} {own : List (Str × Nat)} {wi : TI} {g : TG} {tt : TT} {te : TE} {k : Nat} {stp : V → Hp → Prop → Prop} {Qd : Hp → Prop} {Q' : Value → Shared → Prop}
    (hr : Room (k + 1) X.A) (hc : X.calm = true) (hN : X.N.Nodup) (TB : TabB X.base X.mg c P) (hcode : X.env.code = .ref c) (S : GSc X.N X.env.scope scope own) (hi : PI X tg iter wi)
    (hg : ∀ (A' : Around), Room k A' → ∀ (s : Shared) (H : Hp) (cl : List (Str × Addr)) (C : Addr) (code : Value) (fp : List Addr), PG (gcx X A' s H (genEnv scope cl C code builtinsNs X.env) fp) tg g)
    (ht : ∀ (A' : Around), Room k A' → ∀ (s : Shared) (H : Hp) (cl : List (Str × Addr)) (C : Addr) (code : Value) (fp : List Addr), PTs (gcx X A' s H (genEnv scope cl C code builtinsNs X.env) fp) ifs tt)
    (he : ∀ (A' : Around), Room k A' → ∀ (s : Shared) (H : Hp) (cl : List (Str × Addr)) (C : Addr) (code : Value) (fp : List Addr), PE (gcx X A' s H (genEnv scope cl C code builtinsNs X.env) fp) elt te)
    (hmono : ∀ y H (p q : Prop), (p → q) → stp y H p → stp y H q)
    (hs : ∀ v, genFold iter X.env v = pure v) (I : Inv X pins σ H s) (h : tGenB P wi g tt te (own.map (·.2)) stp Qd σ H)
    (hQ : ∀ (XG : Cx) (a : Addr) (oa : Obj) (gn n : Nat) (σw : L2.St) (s5 : Shared), XG.prog = X.prog → XG.w = X.w → XG.pn = [] → s5.heap.get? a = some oa →
      GSt (model X.prog X.w) X.A.in1.in1 (REnd XG a oa σw Qd) (YOut XG a oa stp) a gn n s5 → (∀ s' σ' H', Inv XG [(a, oa)] σ' H' s' → Inv X pins σ H' s') → Q' (.ref a) s5) :
    wpAny (model X.prog X.w) X.A (eval (.GeneratorExp elt [⟨tg, iter, ifs, 0⟩] scope gpos) X.env) Q' X.xe s := by
  have ok := S.blk
  have hfree : ∀ y ∈ scope.names, y.2 = .free → ∃ c, X.env.cells.lookup y.1 = some c := fun y hy e => by
    rcases ok.free y hy e with k | k
    · exact I.ok.has _ (.inl k)
    · exact I.ok.has _ (.inr k)
  refine wpAny_GeneratorExp_make S.co (closure_ok hfree) S.cell S.dot ok.kind (by have := hr.dp; omega) ?_ hs
  refine thn (hi.run pins s σ H _ I h) fun xv s1 hx => thn hx fun itv s2 h2 => ?_
  obtain ⟨it, fp, tn, J, H2, e, I2, T, st2, f2, ⟨ps, hP, hts⟩, q⟩ := h2
  subst e
  have hPs : s2.heap.get? P = some { cls := .none, data := .fields ps } := I2.hok P _ hP
  have cd : PySem.W.CodeHd s2.heap c P := TB.code.keeps fun b u e => I2.bk b u e
  have nP : ∀ b ∈ fp, b ≠ P := fun b hb z => by
    have := (f2 b hb).1
    rw [z, hP] at this; cases this
  have sz2 : ∀ b ∈ fp, b < s2.heap.objs.size := fun b hb => by
    obtain ⟨o, e, _⟩ := T.obj _ _ st2 b hb
    exact Heap.lt_size e
  have cont : ∀ (code : Value) (h3 : Heap) (tk : Nat) (ps' : Array Value), Heap.ExtBut P s2.heap h3 → s2.heap.objs.size ≤ h3.objs.size → h3.get? P = some { cls := .none, data := .fields ps' } → (∃ more, ps' = ps ++ more) → TriplesOk ps'.toList →
      wpAny (model X.prog X.w) X.A (builtinsFor X.env.globals X.env.builtins) (fun bi s₄ =>
        ∀ h', h'.Ns s₄.heap.objs.size (fun y => if y = ".0" then some (.ref it) else none) → Heap.SameBut s₄.heap.objs.size (s₄.heap.push { cls := .type "frame", data := .dict #[] }) h' →
          Q' (.ref h'.objs.size) { s₄ with
            gens := s₄.gens.push (.fresh (.compStart (.GeneratorExp elt [⟨tg, iter, ifs, 0⟩] scope gpos) 0 (.ref it) .none (genEnv scope (cloFrom X.env.cells scope.names []) s₄.heap.objs.size code bi X.env))),
            toks := s₄.toks + 1 + 1 + 1,
            heap := h'.push { cls := .type "generator", data := .fields #[.int s₄.gens.size 0, .str "<genexpr>" (s₄.toks + 1), .str (X.env.qual ++ "<genexpr>") (s₄.toks + 1 + 1)] } }) X.xe { s2 with heap := h3, toks := tk } := by
    intro code h3 tk ps' hx hsz hP3 hmore ht3
    obtain ⟨bm, ob, e1, e2, e3, e4, e5, e6, e7, e8⟩ := TB.bm
    have keep3 : ∀ b u, b ≠ P → s2.heap.get? b = some u → h3.get? b = some u := fun b u hb e => hx b u hb e
    refine wpAny_builtinsFor (m := X.mg) (by rw [I2.ok.glob]; exact (I2.mod.glob.keeps I2.bk).extBut hx TB.gP) e1 e2 (keep3 _ _ e4 (I2.bk _ _ e5)) e6 e7 e8 ?_
    intro h' hn' hs'
    obtain ⟨more, em⟩ := hmore
    have I3 : Inv X pins σ (upd H2 P (.tbl (ps ++ more))) { s2 with heap := h3, toks := tk } :=
      inv_tab (more := more) (h' := h3) (g' := s2.gens) (d' := s2.drawn) (t' := tk) I2 hP keep3 (by rw [← em]; exact hP3) I2.bare
    obtain ⟨W, ⟨m0, w0⟩, turn⟩ := q (upd H2 P (.tbl (ps ++ more))) ⟨⟨ps ++ more, upd_same, by rw [← em]; exact ht3⟩, fun b hb => upd_ne hb⟩
    generalize hH3 : upd H2 P (.tbl (ps ++ more)) = H3 at I3 w0
    generalize hs4 : ({ s2 with heap := h3, toks := tk } : Shared) = s4 at I3 hn' hs' ⊢
    have hh4 : s4.heap = h3 := by rw [← hs4]
    have st4 : tn 0 s4.heap := T.keep _ _ _ st2 fun b hb o e => by rw [hh4]; exact keep3 b o (nP b hb) e
    have f3 : ∀ b ∈ fp, FpOk X pins H3 b ∧ b < s4.heap.objs.size := fun b hb => by
      refine ⟨⟨?_, (f2 b hb).2⟩, by rw [hh4]; exact Nat.lt_of_lt_of_le (sz2 b hb) hsz⟩
      rw [← hH3, upd_ne (nP b hb)]
      exact (f2 b hb).1
    have hszh : h'.objs.size = s4.heap.objs.size + 1 := by rw [hs'.1, Heap.size_push]
    have keep' : ∀ b o, s4.heap.get? b = some o → h'.get? b = some o := fun b o e => hs'.extBut b o (Nat.ne_of_lt (Heap.lt_size e)) (Heap.get?_push_of_some _ e)
    generalize hoa : ({ cls := .type "generator", data := .fields #[.int s4.gens.size 0, .str "<genexpr>" (s4.toks + 1), .str (X.env.qual ++ "<genexpr>") (s4.toks + 1 + 1)] } : Obj) = oa
    have ga : (h'.push oa).get? h'.objs.size = some oa := Heap.get?_push_size _ (by rw [← hoa]; rfl)
    have isg : (h'.push oa).IsGen h'.objs.size s4.gens.size := by rw [← hoa]; exact ⟨_, _, _, Heap.get?_push_size _ rfl, rfl, rfl, rfl⟩
    generalize hce : genEnv scope (cloFrom X.env.cells scope.names []) s4.heap.objs.size code builtinsNs X.env = cenv
    generalize hA' : X.A.in1.in1.over (.compLoop (.GeneratorExp elt [⟨tg, iter, ifs, 0⟩] scope gpos) 0 (.ref it) .none cenv) [] = A'
    have hfr : A'.frames = some (cenv :: X.stack) := by
      rw [← hA']
      show pushEnvs [cenv] (pushEnvs [] X.A.frames) = _
      rw [I2.ok.frames]
      rfl
    have hdp : A'.depth = X.A.depth + 1 := by rw [← hA']; rfl
    have hun : A'.units = X.A.units + 5 := by rw [← hA']; rfl
    have hhd : A'.handled = none := by rw [← hA']; exact hr.hd
    have hr' : Room k A' := ⟨hhd, by rw [hdp]; have := hr.dp; omega, by rw [hun]; have := hr.un; omega⟩
    have bare5 : AllBare (s4.gens.push (.fresh (.compStart (.GeneratorExp elt [⟨tg, iter, ifs, 0⟩] scope gpos) 0 (.ref it) .none cenv))) := I3.bare.push rfl
    have I5 := gen_start (A' := A') (cenv := cenv) (code := code) (m := fun y => if y = ".0" then some (.ref it) else none) (h5 := h'.push oa) (g' := s4.gens.push (.fresh (.compStart (.GeneratorExp elt [⟨tg, iter, ifs, 0⟩] scope gpos) 0 (.ref it) .none cenv)))
      (t5 := s4.toks + 1 + 1 + 1) (a := h'.objs.size) (oa := oa) I3 ok S.cell hN f3 hce.symm hfr hhd (hn'.push _) (fun b o e => Heap.get?_push_of_some _ (keep' b o e)) bare5 ga (by omega) (by rw [← hoa]; intro v z; cases z)
    have back : ∀ s' σ' H', Inv (gcx X A' s4 H3 cenv fp) [(h'.objs.size, oa)] σ' H' s' → Inv X pins σ H' s' := fun s' σ' H' I' =>
      I3.call' (ch := fp) I'.os I'.base I'.hok I'.bare fun b hb => ⟨(f3 b hb).1.2.2.2.1, (f3 b hb).1.2.1, (f3 b hb).1.2.2.2.2.1, (f3 b hb).1.2.2.2.2.2⟩
    have pg : PG (gcx X A' s4 H3 cenv fp) tg g := by rw [← hce]; exact hg A' hr' _ _ _ _ _ _
    have pt : PTs (gcx X A' s4 H3 cenv fp) ifs tt := by rw [← hce]; exact ht A' hr' _ _ _ _ _ _
    have pe : PE (gcx X A' s4 H3 cenv fp) elt te := by rw [← hce]; exact he A' hr' _ _ _ _ _ _
    refine hQ (gcx X A' s4 H3 cenv fp) h'.objs.size oa s4.gens.size (m0 + 1) (wipe σ (own.map (·.2))) _ rfl rfl rfl ga ⟨isg, I5.nolimit, _, Array.getElem?_push_size .., ?_⟩ back
    refine ⟨rfl, ?_⟩
    subst hA'
    refine gen_begin hc (by rw [← hce]; exact S.co) T (fun b hb z => ?_) hmono pg pt pe turn m0 _ _ H3 w0 (Inv.kall I5 rfl (bare_set I5.bare rfl) fun _ _ e => e) ?_ (fun b hb => (f3 b hb).1.1)
    · have h9 := (f3 b hb).2
      rw [← z] at h9
      have h9 : h'.objs.size < s4.heap.objs.size := h9
      omega
    · exact T.keep _ _ _ st4 fun b hb o e => Heap.get?_push_of_some _ (keep' b o e)
  refine ⟨I2.nolimit, ?_⟩
  cases hf : codeAmong gpos ps.toList with
  | none =>
    refine wpAny_genexprCodeX hcode (cd.code hPs hts) (cd.tab hPs) hf fun c' h' tk hx hge hlt hco' _ htab' _ => ?_
    obtain ⟨o1, vs, f1, tf, fl, tg', inF, tx, tt', op, _, _, _, _, _, _, _, _, _, htr, _⟩ := hco'
    exact cont _ h' tk _ hx (Nat.le_trans hge (Nat.le_of_lt hlt)) htab'.2 ⟨_, rfl⟩ htr
  | some cv =>
    refine wpAny_genexprCode_hit hcode (cd.code hPs hts) hf ?_
    exact cont cv s2.heap s2.toks ps (Heap.ExtBut.refl _ _) (Nat.le_refl _) hPs ⟨#[], by simp⟩ hts

theorem pe_allG {c P : Addr} {elt tg iter : Expr} {ifs : List Expr} {p pos gpos : Pos} {scope : Scope} {own : List (Str × Nat)} {wi : TI} {g : TG} {tt : TT} {te : TE} {k : Nat}
    (hr : Room (k + 1) X.A) (hgl : Gl X "all") (hm : X.mg "all" = none) (hc : X.calm = true) (hN : X.N.Nodup) (TB : TabB X.base X.mg c P) (hcode : X.env.code = .ref c) (S : GSc X.N X.env.scope scope own) (hi : PI X tg iter wi)
    (hg : ∀ (A' : Around), Room k A' → ∀ (s : Shared) (H : Hp) (cl : List (Str × Addr)) (C : Addr) (code : Value) (fp : List Addr), PG (gcx X A' s H (genEnv scope cl C code builtinsNs X.env) fp) tg g)
    (ht : ∀ (A' : Around), Room k A' → ∀ (s : Shared) (H : Hp) (cl : List (Str × Addr)) (C : Addr) (code : Value) (fp : List Addr), PTs (gcx X A' s H (genEnv scope cl C code builtinsNs X.env) fp) ifs tt)
    (he : ∀ (A' : Around), Room k A' → ∀ (s : Shared) (H : Hp) (cl : List (Str × Addr)) (C : Addr) (code : Value) (fp : List Addr), PE (gcx X A' s H (genEnv scope cl C code builtinsNs X.env) fp) elt te)
    (hs : ∀ v, genFold iter X.env v = pure v := by intro _; rfl)
    (hst : starEach [.GeneratorExp elt [⟨tg, iter, ifs, 0⟩] scope gpos] X.env = (false, eval (.GeneratorExp elt [⟨tg, iter, ifs, 0⟩] scope gpos) X.env) :: starEach [] X.env := by rfl)
    (hb : bootBuiltins "all" = some (.builtin "all") := by decide +kernel) :
    PE X (.Call (.Name "all" p) [.GeneratorExp elt [⟨tg, iter, ifs, 0⟩] scope gpos] [] pos) (tAllG P wi g tt te (own.map (·.2))) := by
  refine ⟨fun pins s σ H Q I h => ?_⟩
  refine wpAny_Call_Name_kw (ld_blt I hgl hm hb ?_)
  refine PyProof.Rows.callWith_builtin1 ?_ hst (by rfl)
  rw [hst]
  show wpAny _ _ (spliced ((false, eval (.GeneratorExp elt [⟨tg, iter, ifs, 0⟩] scope gpos) X.env) :: backTo pos (starEach [] X.env))) _ _ s
  refine Calls.spliced_cons (gen_make hr hc hN TB hcode S hi hg ht he stpAll_mono hs I h fun XG a oa gn n σw s5 eP eW epn ha hG back => ?_)
  refine Calls.spliced_nil ?_
  refine call_function_tree F.kind_all F.plain_all F.entry_all (F.args_all1 _) ?_
  unfold Builtin.«all»
  refine wpAny_bind (m := oneArg "all" _) (wpAny_pure ?_)
  refine wpAny_bind (wpAny_pyIter_gen hG.1 ?_)
  refine wpAny_pure ⟨plainId_quiet F.plain_all_loop _, all_loop (X := X) (XG := XG) (σw := σw) (Qd := Q (.bl true)) (Qf := Q (.bl false)) eP eW hr.hd (by have := hr.dp; omega) epn (fun s' σ' H' I' q => ?_) (fun s' σ' H' I' q => ?_) n s5 ha hG⟩
  · exact ⟨.bl true, H', back s' σ' H' I', rfl, q⟩
  · exact ⟨.bl false, H', back s' σ' H' I', rfl, q⟩
theorem pe_anyG {c P : Addr} {elt tg iter : Expr} {ifs : List Expr} {p pos gpos : Pos} {scope : Scope} {own : List (Str × Nat)} {wi : TI} {g : TG} {tt : TT} {te : TE} {k : Nat}
    (hr : Room (k + 1) X.A) (hgl : Gl X "any") (hm : X.mg "any" = none) (hc : X.calm = true) (hN : X.N.Nodup) (TB : TabB X.base X.mg c P) (hcode : X.env.code = .ref c) (S : GSc X.N X.env.scope scope own) (hi : PI X tg iter wi)
    (hg : ∀ (A' : Around), Room k A' → ∀ (s : Shared) (H : Hp) (cl : List (Str × Addr)) (C : Addr) (code : Value) (fp : List Addr), PG (gcx X A' s H (genEnv scope cl C code builtinsNs X.env) fp) tg g)
    (ht : ∀ (A' : Around), Room k A' → ∀ (s : Shared) (H : Hp) (cl : List (Str × Addr)) (C : Addr) (code : Value) (fp : List Addr), PTs (gcx X A' s H (genEnv scope cl C code builtinsNs X.env) fp) ifs tt)
    (he : ∀ (A' : Around), Room k A' → ∀ (s : Shared) (H : Hp) (cl : List (Str × Addr)) (C : Addr) (code : Value) (fp : List Addr), PE (gcx X A' s H (genEnv scope cl C code builtinsNs X.env) fp) elt te)
    (hs : ∀ v, genFold iter X.env v = pure v := by intro _; rfl)
    (hst : starEach [.GeneratorExp elt [⟨tg, iter, ifs, 0⟩] scope gpos] X.env = (false, eval (.GeneratorExp elt [⟨tg, iter, ifs, 0⟩] scope gpos) X.env) :: starEach [] X.env := by rfl)
    (hb : bootBuiltins "any" = some (.builtin "any") := by decide +kernel) :
    PE X (.Call (.Name "any" p) [.GeneratorExp elt [⟨tg, iter, ifs, 0⟩] scope gpos] [] pos) (tAnyG P wi g tt te (own.map (·.2))) := by
  refine ⟨fun pins s σ H Q I h => ?_⟩
  refine wpAny_Call_Name_kw (ld_blt I hgl hm hb ?_)
  refine PyProof.Rows.callWith_builtin1 ?_ hst (by rfl)
  rw [hst]
  show wpAny _ _ (spliced ((false, eval (.GeneratorExp elt [⟨tg, iter, ifs, 0⟩] scope gpos) X.env) :: backTo pos (starEach [] X.env))) _ _ s
  refine Calls.spliced_cons (gen_make hr hc hN TB hcode S hi hg ht he stpAny_mono hs I h fun XG a oa gn n σw s5 eP eW epn ha hG back => ?_)
  refine Calls.spliced_nil ?_
  refine call_function_tree F.kind_any F.plain_any F.entry_any (F.args_any1 _) ?_
  unfold Builtin.«any»
  refine wpAny_bind (m := oneArg "any" _) (wpAny_pure ?_)
  refine wpAny_bind (wpAny_pyIter_gen hG.1 ?_)
  refine wpAny_pure ⟨plainId_quiet F.plain_any_loop _, any_loop (X := X) (XG := XG) (σw := σw) (Qd := Q (.bl false)) (Qf := Q (.bl true)) eP eW hr.hd (by have := hr.dp; omega) epn (fun s' σ' H' I' q => ?_) (fun s' σ' H' I' q => ?_) n s5 ha hG⟩
  · exact ⟨.bl false, H', back s' σ' H' I', rfl, q⟩
  · exact ⟨.bl true, H', back s' σ' H' I', rfl, q⟩
end
end GAl

set_option Elab.async false
set_option linter.all false
set_option maxRecDepth 100000
set_option maxHeartbeats 2000000
namespace HK
open PySem PySem.Spec PyProof.Rows L2 GAl GxR
/-! ### defs whose code object is known -/
structure FunC (K : PySem.W.Frag) (x qual : Str) (st : Stmt) (f : Addr) (fd : FuncData) (c : Addr) : Prop where
  ex : ∃ (oc : Value) (od : Option Addr) (kV doc pm : Value) (an : Option Addr) (ct : Value) (osl : Array (Option Value)),
    fd = PySem.W.fnOf x qual (defArgs st) (defBody st) (defScope st) .none kV doc pm an (.ref c) ct ∧ K.lookup f = some ⟨oc, od, .func fd, osl⟩ ∧ PySem.W.codeIn K (.ref c) qual = true
  kp : PySem.W.keepIn K (.ref f) = true
section
variable {P : Program} {w : World} {K : PySem.W.Frag} {mg : Str → Option Value} {base : Heap}
theorem FunC.toFun {x qual : Str} {st : Stmt} {f : Addr} {fd : FuncData} {c : Addr} (F : FunC K x qual st f fd c) : Fun K x qual st f fd := by
  obtain ⟨⟨oc, od, kV, doc, pm, an, ct, osl, e, l, h⟩, k⟩ := F
  exact ⟨⟨oc, od, kV, doc, pm, an, _, ct, osl, e, l, h⟩, k⟩
theorem FunC.ok {x qual : Str} {st : Stmt} {f : Addr} {fd : FuncData} {c : Addr} {N ps : List Str} {k : Nat} {sp : Sp} (F : FunC K x qual st f fd c) (S : FnScope N ps (defScope st)) (len : ∀ vs H Q E, sp vs H Q E → vs.length = ps.length)
    (hbody : ∀ (A : Around) (outer : List Env) (s : Shared) (H : Hp) (vs : List V) (Q : VK) (E : XK), Room k (A.deeper (envOfC qual (defScope st) s.heap.objs.size f (.ref c))) → sp vs H Q E →
      ∃ t, PSs (cxOf CX0 P w K mg base N qual (defScope st) f (.ref c) A outer s H E).nox (defBody st) t ∧ t { nx := fun _ H' => Q .non H', rt := Q } (start N vs) H) : FnOk P w K mg base CX0 (k + 1) f fd ps sp := by
  obtain ⟨oc, od, kV, doc, pm, an, ct, osl, rfl, lk, hcd⟩ := F.ex
  refine fn_of lk hcd S len fun A outer s H vs Q E hr hsp => ?_
  obtain ⟨t, h, q⟩ := hbody A outer s H vs Q E hr hsp
  exact ⟨t, h.nox, q⟩
theorem func_mk {x qual : Str} {st : Stmt} {f c : Addr} {oc : Value} {od an : Option Addr} {osl : Array (Option Value)} {kV doc pm ct : Value} (l : K.lookup f = some ⟨oc, od, .func (PySem.W.fnOf x qual (defArgs st) (defBody st) (defScope st) .none kV doc pm an (.ref c) ct), osl⟩)
    (h : PySem.W.codeIn K (.ref c) qual = true) (k : PySem.W.keepIn K (.ref f) = true) : FunC K x qual st f (PySem.W.fnOf x qual (defArgs st) (defBody st) (defScope st) .none kV doc pm an (.ref c) ct) c := ⟨⟨oc, od, kV, doc, pm, an, ct, osl, rfl, l, h⟩, k⟩
end

/-! ### what stays: everything but the list at t; tables stay tables -/
structure Kt (t : Addr) (H H' : Hp) : Prop where
  tup : ∀ b xs, H b = some (.tup xs) → H' b = some (.tup xs)
  frz : ∀ b o u, H b = some (.frz o u) → H' b = some (.frz o u)
  oth : ∀ b o, H b = some o → b ≠ t → (∀ ps, o ≠ .tbl ps) → H' b = some o
  tab : ∀ P, TabG H P → TabG H' P
  dom : ∀ b, H' b = none → H b = none
/-- everything; tables stay tables -/
structure K0 (H H' : Hp) : Prop where
  oth : ∀ b o, H b = some o → (∀ ps, o ≠ .tbl ps) → H' b = some o
  tab : ∀ P, TabG H P → TabG H' P
  dom : ∀ b, H' b = none → H b = none
theorem upd_none {H : Hp} {p b : Addr} {o : HO} (h : upd H p o b = none) : H b = none := by
  by_cases e : b = p
  · rw [e, upd_same] at h; cases h
  · rw [upd_ne e] at h; exact h
theorem K0.refl (H : Hp) : K0 H H := ⟨fun _ _ h _ => h, fun _ h => h, fun _ h => h⟩
theorem K0.trans {H H1 H2 : Hp} (a : K0 H H1) (b : K0 H1 H2) : K0 H H2 := ⟨fun x o h n => b.oth x o (a.oth x o h n) n, fun P h => b.tab P (a.tab P h), fun x h => a.dom x (b.dom x h)⟩
theorem K0.kt {t : Addr} {H H' : Hp} (a : K0 H H') : Kt t H H' := ⟨fun b xs h => a.oth b _ h (fun _ z => by cases z), fun b o u h => a.oth b _ h (fun _ z => by cases z), fun b o h _ n => a.oth b o h n, a.tab, a.dom⟩
theorem Kt.refl (t : Addr) (H : Hp) : Kt t H H := (K0.refl H).kt
theorem Kt.trans {t : Addr} {H H1 H2 : Hp} (a : Kt t H H1) (b : Kt t H1 H2) : Kt t H H2 := ⟨fun x xs h => b.tup x xs (a.tup x xs h), fun x o u h => b.frz x o u (a.frz x o u h), fun x o h n m => b.oth x o (a.oth x o h n m) n m, fun P h => b.tab P (a.tab P h), fun x h => a.dom x (b.dom x h)⟩
theorem tabG_upd {H : Hp} {p : Addr} {o : HO} (n : H p = none) {P : Addr} (h : TabG H P) : TabG (upd H p o) P := by
  obtain ⟨ps, e, ht⟩ := h
  exact ⟨ps, by rw [upd_ne (ne_of_none e n)]; exact e, ht⟩
theorem K0.new {H : Hp} {p : Addr} {o : HO} (n : H p = none) : K0 H (upd H p o) := ⟨fun b u e _ => by rw [upd_ne (ne_of_none e n)]; exact e, fun P h => tabG_upd n h, fun _ h => upd_none h⟩
theorem K0.tbd {P : Addr} {H H' : Hp} (h0 : TabG H P) (h : Tabbed P H H') : K0 H H' := ⟨fun b o e n => by
  have hb : b ≠ P := fun z => by
    obtain ⟨ps, e', _⟩ := h0
    rw [z, e'] at e
    exact n ps (Option.some.inj e).symm
  rw [h.2 b hb]; exact e, fun Q hq => by
  by_cases hQ : Q = P
  · rw [hQ]; exact h.1
  · obtain ⟨ps, e, ht⟩ := hq
    exact ⟨ps, by rw [h.2 Q hQ]; exact e, ht⟩, fun b e => by
  by_cases hb : b = P
  · obtain ⟨ps, e', _⟩ := h.1
    rw [hb, e'] at e; cases e
  · rw [h.2 b hb] at e; exact e⟩
/-- the list at t is written -/
theorem Kt.set {t : Addr} {H : Hp} {xs ys : List V} (h : H t = some (.lst xs)) : Kt t H (upd H t (.lst ys)) := ⟨fun b zs e => by
  rw [upd_ne (ne_of e h (fun z => by cases z))]; exact e, fun b o u e => by
  rw [upd_ne (ne_of e h (fun z => by cases z))]; exact e, fun b o e n _ => by rw [upd_ne n]; exact e, fun P hP => by
  obtain ⟨ps, e, ht⟩ := hP
  exact ⟨ps, by rw [upd_ne (ne_of e h (fun z => by cases z))]; exact e, ht⟩, fun _ e => upd_none e⟩
theorem Kt.sqT {K : PySem.W.Frag} {t a : Addr} {H H' : Hp} {xs : List V} (k : Kt t H H') (h : SqT K H a xs) : SqT K H' a xs := by
  rcases h with (h | ⟨o, h⟩) | h
  · exact .inl (.inl (k.tup _ _ h))
  · exact .inl (.inr ⟨o, k.frz _ _ _ h⟩)
  · exact .inr h
theorem K0.sqT {K : PySem.W.Frag} {a : Addr} {H H' : Hp} {xs : List V} (k : K0 H H') (h : SqT K H a xs) : SqT K H' a xs := (k.kt (t := 0)).sqT h
theorem K0.sqL {K : PySem.W.Frag} {a : Addr} {H H' : Hp} {xs : List V} (k : K0 H H') (h : SqL K H a xs) : SqL K H' a xs := by
  rcases h with (h | ⟨o, h⟩) | h
  · exact .inl (.inl (k.oth _ _ h (fun _ z => by cases z)))
  · exact .inl (.inr ⟨o, k.oth _ _ h (fun _ z => by cases z)⟩)
  · exact .inr h
theorem Kt.sqL {K : PySem.W.Frag} {t a : Addr} {H H' : Hp} {xs : List V} (k : Kt t H H') (n : a ≠ t) (h : SqL K H a xs) : SqL K H' a xs := by
  rcases h with (h | ⟨o, h⟩) | h
  · exact .inl (.inl (k.oth _ _ h n (fun _ z => by cases z)))
  · exact .inl (.inr ⟨o, k.frz _ _ _ h⟩)
  · exact .inr h
mutual
theorem K0.dp {K : PySem.W.Frag} {H H' : Hp} (k : K0 H H') : ∀ (d : PyData) (v : V), Dp K H v d → Dp K H' v d
  | .none, _, h => by cases h; exact .non
  | .bool _, _, h => by cases h; exact .bl _
  | .int _, _, h => by cases h; exact .int _
  | .str _, _, h => by cases h; exact .str _
  | .list ds, _, h => by cases h with | lst a b => exact .lst (k.sqL a) (K0.dpAll k ds _ b)
  | .tuple ds, _, h => by cases h with | tup a b => exact .tup (k.sqT a) (K0.dpAll k ds _ b)
  | .dict _, _, h => by cases h
theorem K0.dpAll {K : PySem.W.Frag} {H H' : Hp} (k : K0 H H') : ∀ (ds : List PyData) (vs : List V), DpAll K H vs ds → DpAll K H' vs ds
  | [], _, h => by cases h; exact .nil
  | d :: ds, _, h => by cases h with | cons a b => exact .cons (K0.dp k d _ a) (K0.dpAll k ds _ b)
end

/-! ### kinds -/
def tys : List String := ["NoneType", "bool", "int", "str", "list", "tuple", "dict"]
theorem tys_int {T : String} (h : T ∈ tys) : kitB T "int" = some (T == "int" || T == "bool") := by
  simp only [tys, List.mem_cons, List.not_mem_nil, or_false] at h
  rcases h with rfl | rfl | rfl | rfl | rfl | rfl | rfl <;> decide +kernel
theorem tys_bool {T : String} (h : T ∈ tys) : kitB T "bool" = some (T == "bool") := by
  simp only [tys, List.mem_cons, List.not_mem_nil, or_false] at h
  rcases h with rfl | rfl | rfl | rfl | rfl | rfl | rfl <;> decide +kernel
theorem tys_tuple {T : String} (h : T ∈ tys) : kitB T "tuple" = some (T == "tuple") := by
  simp only [tys, List.mem_cons, List.not_mem_nil, or_false] at h
  rcases h with rfl | rfl | rfl | rfl | rfl | rfl | rfl <;> decide +kernel
theorem tys_dict {T : String} (h : T ∈ tys) : kitB T "dict" = some (T == "dict") := by
  simp only [tys, List.mem_cons, List.not_mem_nil, or_false] at h
  rcases h with rfl | rfl | rfl | rfl | rfl | rfl | rfl <;> decide +kernel
theorem sqT_ty {K : PySem.W.Frag} {H : Hp} {a : Addr} {xs : List V} (h : SqT K H a xs) : TyX K H (.ref a) (.type "tuple") := by
  rcases h with (h | ⟨o, h⟩) | ⟨o, _, _, ho, h, _⟩
  · exact .base (.tup h)
  · exact .fTuple h
  · exact .kTuple ho h
theorem sqL_ty {K : PySem.W.Frag} {H : Hp} {a : Addr} {xs : List V} (h : SqL K H a xs) : TyX K H (.ref a) (.type "list") := by
  rcases h with (h | ⟨o, h⟩) | ⟨o, _, _, ho, h, _⟩
  · exact .base (.lst h)
  · exact .base (.frz h)
  · exact .kList ho h
def tyD : PyData → String
  | .none => "NoneType" | .bool _ => "bool" | .int _ => "int" | .str _ => "str" | .list _ => "list" | .tuple _ => "tuple" | .dict _ => "dict"
theorem tyD_mem (d : PyData) : tyD d ∈ tys := by cases d <;> simp [tyD, tys]
theorem dp_ty {K : PySem.W.Frag} {H : Hp} {v : V} {d : PyData} (h : Dp K H v d) : TyX K H v (.type (tyD d)) := by
  cases h with
  | non => exact .base .non
  | bl b => exact .base (.bl b)
  | int i => exact .base (.int i)
  | str x => exact .base (.str x)
  | lst a _ => exact sqL_ty a
  | tup a _ => exact sqT_ty a
def isWholeD : PyData → Bool
  | .int _ => true
  | _ => false
def withinD (d : PyData) (lo hi : Int) : Bool := match d with
  | .int i => decide (lo ≤ i) && decide (i ≤ hi)
  | _ => false
theorem whole_ty (d : PyData) : ((tyD d == "int" || tyD d == "bool") && !(tyD d == "bool")) = isWholeD d := by cases d <;> simp [tyD, isWholeD]
theorem dp_int {K : PySem.W.Frag} {H : Hp} {x : V} {d : PyData} (h : Dp K H x d) (e : isWholeD d = true) : ∃ i, x = .int i ∧ d = .int i := by
  cases h <;> first | exact ⟨_, rfl, rfl⟩ | cases e
end HK

set_option Elab.async false
set_option linter.all false
set_option maxRecDepth 100000
set_option maxHeartbeats 2000000
namespace HK
open PySem PySem.Spec PyProof.Rows L2 GAl GxR
def topS (i : Nat) : Stmt := PySem.Challenge.pw_hearkenway_k52_first_moments.main.body.getD i (.Pass ⟨0, 0, 0, 0⟩)
abbrev sWhole : Stmt := topS 6
abbrev sWithin : Stmt := topS 7
theorem scWhole : FnScope ["thing"] ["thing"] (defScope sWhole) := ⟨rfl, rfl, rfl, by decide +kernel, rfl, by decide +kernel, by decide +kernel⟩
theorem scWithin : FnScope ["thing", "least", "greatest"] ["thing", "least", "greatest"] (defScope sWithin) := ⟨rfl, rfl, rfl, by decide +kernel, rfl, by decide +kernel, by decide +kernel⟩
theorem qeq {Q : VK} {a b : Bool} {H : Hp} (q : Q (.bl a) H) (e : a = b) : Q (.bl b) H := e ▸ q
section
variable {P : Program} {w : World} {K : PySem.W.Frag} {mg : Str → Option Value} {base : Heap}
def spWhole (K : PySem.W.Frag) : Sp := fun vs H Q _ => ∃ x d, vs = [x] ∧ Dp K H x d ∧ Q (.bl (isWholeD d)) H
theorem ok_whole {f : Addr} {fd : FuncData} (F : Fun K "is_whole" "is_whole" sWhole f fd) (mi : mg "isinstance" = none) (mI : mg "int" = none) (mB : mg "bool" = none) : FnOk P w K mg base CX0 1 f fd ["thing"] (spWhole K) := by
  refine F.ok scWhole (fun vs H Q E h => ?_) (fun cdv A outer s H vs Q E hr h => ?_)
  · obtain ⟨x, d, rfl, _⟩ := h
    rfl
  · obtain ⟨x, d, rfl, hd, q⟩ := h
    refine ⟨_, pss_one (ps_ret (pe_and (pe_callB call_isi (by rfl) mi boot_isinstance (pa_cons (pv 0) (pa_cons (pe_bltn (v := .ty "int") (by rfl) mI (by decide +kernel) rfl) pa_nil)))
      (pe_one (pe_not (pe_callB call_isi (by rfl) mi boot_isinstance (pa_cons (pv 0) (pa_cons (pe_bltn (v := .ty "bool") (by rfl) mB (by decide +kernel) rfl) pa_nil))))))), ?_⟩
    refine ⟨x, rfl, x, .ty "int", _, _, _, rfl, .ty "int", dp_ty hd, kit_ty (tys_int (tyD_mem d)), _, rfl, ite2 (fun e => ?_) (fun e => ?_)⟩
    · refine ⟨x, rfl, x, .ty "bool", _, _, _, rfl, .ty "bool", dp_ty hd, kit_ty (tys_bool (tyD_mem d)), _, rfl, ?_⟩
      exact qeq q (by rw [← whole_ty d, e, Bool.true_and])
    · have e' : (tyD d == "int" || tyD d == "bool") = false := by simpa using e
      exact qeq q (by rw [← whole_ty d, e', Bool.false_and])
def spWithin (K : PySem.W.Frag) : Sp := fun vs H Q _ => ∃ x d lo hi, vs = [x, .int lo, .int hi] ∧ Dp K H x d ∧ Q (.bl (withinD d lo hi)) H
theorem ok_within {f fW : Addr} {fd fdW : FuncData} (F : Fun K "is_within" "is_within" sWithin f fd) (FW : Fun K "is_whole" "is_whole" sWhole fW fdW) (bW : Binds K fdW ["thing"] []) (gW : mg "is_whole" = some (.ref fW))
    (GW : FnOk P w K mg base CX0 1 fW fdW ["thing"] (spWhole K)) : FnOk P w K mg base CX0 2 f fd ["thing", "least", "greatest"] (spWithin K) := by
  refine F.ok scWithin (fun vs H Q E h => ?_) (fun cdv A outer s H vs Q E hr h => ?_)
  · obtain ⟨x, d, lo, hi, rfl, _⟩ := h
    rfl
  · obtain ⟨x, d, lo, hi, rfl, hd, q⟩ := h
    refine ⟨_, pss_one (ps_ret (pe_and (pe_call GW hr (by rfl) gW FW.kp bW .nil pass0 (pa_cons (pv 0) pa_nil)) (pe_one (pe_chain op_le op_le (pv 1) (pv 0) (pv 2))))), ?_⟩
    refine ⟨x, rfl, x, d, rfl, hd, _, rfl, ite2 (fun e => ?_) (fun e => ?_)⟩
    · obtain ⟨i, rfl, rfl⟩ := dp_int hd e
      refine ⟨_, rfl, _, rfl, _, _, rfl, rfl, _, rfl, ite2 (fun e1 => ?_) (fun e1 => ?_)⟩
      · refine ⟨_, rfl, _, _, rfl, rfl, ?_⟩
        exact qeq q (by show (decide (lo ≤ i) && decide (i ≤ hi)) = _; rw [e1, Bool.true_and])
      · exact qeq q (by show (decide (lo ≤ i) && decide (i ≤ hi)) = _; simp only [Bool.not_eq_true] at e1; rw [e1, Bool.false_and])
    · exact qeq q (by cases d <;> first | rfl | exact absurd rfl e)
end
end HK

set_option Elab.async false
set_option linter.all false
set_option maxRecDepth 100000
set_option maxHeartbeats 2000000
namespace HK
open PySem PySem.Spec PyProof.Rows L2 GAl GxR
def neD : PyData → PyData → Bool
  | .int a, .int b => !decide (a = b)
  | _, _ => false
def isRoadD (n : Int) : PyData → Bool
  | .tuple [s, e, c, l] => (withinD s 0 (n - 1) && withinD e 0 (n - 1) && neD s e) && (withinD c 0 1000 && withinD l 1 1000)
  | _ => false
theorem dpAll_len {K : PySem.W.Frag} {H : Hp} : ∀ {xs : List V} {ds : List PyData}, DpAll K H xs ds → xs.length = ds.length
  | _, _, .nil => rfl
  | _, _, .cons _ t => by rw [List.length_cons, List.length_cons, dpAll_len t]
theorem within_int {d : PyData} {lo hi : Int} (h : withinD d lo hi = true) : ∃ i, d = .int i ∧ lo ≤ i ∧ i ≤ hi := by
  cases d <;> simp only [withinD] at h <;> first | cases h | skip
  rename_i i
  simp only [Bool.and_eq_true, decide_eq_true_eq] at h
  exact ⟨i, rfl, h.1, h.2⟩
theorem dp_int' {K : PySem.W.Frag} {H : Hp} {x : V} {i : Int} (h : Dp K H x (.int i)) : x = .int i := by cases h; rfl
theorem dp_tup {K : PySem.W.Frag} {H : Hp} {x : V} {ds : List PyData} (h : Dp K H x (.tuple ds)) : ∃ a xs, x = .ref a ∧ SqT K H a xs ∧ DpAll K H xs ds := by cases h with | tup a b => exact ⟨_, _, rfl, a, b⟩

section
variable {P : Program} {w : World} {K : PySem.W.Frag} {mg : Str → Option Value} {base : Heap}
def spRoad (K : PySem.W.Frag) : Sp := fun vs H Q _ => ∃ (n : Int) (x : V) (d : PyData), vs = [.int n, x] ∧ Dp K H x d ∧ Q (.bl (isRoadD n d)) H
end
end HK

set_option Elab.async false
set_option linter.all false
set_option maxRecDepth 100000
set_option maxHeartbeats 2000000
namespace HK
open PySem PySem.Spec PyProof.Rows L2 GAl GxR
theorem tyes {σ : L2.St} {H : Hp} {A B : Hp → Prop} (h : A H) : tYes σ H (fun b H3 => if b = true then A H3 else B H3) := by
  show (fun (b : Bool) (H3 : Hp) => if b = true then A H3 else B H3) true H
  simp only [if_true]
  exact h
def risesB (l : List (List Int)) : Bool := (List.range (l.length - 1)).all fun i => HT.lexLt (l.getD i []) (l.getD (i + 1) [])
theorem risesB_yes {l : List (List Int)} (h : ∀ j, j < l.length - 1 → HT.lexLt (l.getD j []) (l.getD (j + 1) []) = true) : risesB l = true := by
  unfold risesB
  rw [List.all_eq_true]
  exact fun j hj => h j (List.mem_range.mp hj)
theorem risesB_no {l : List (List Int)} {j : Nat} (hj : j < l.length - 1) (h : HT.lexLt (l.getD j []) (l.getD (j + 1) []) = false) : risesB l = false := by
  unfold risesB
  rw [Bool.eq_false_iff]
  intro z
  have := List.all_eq_true.mp z j (List.mem_range.mpr hj)
  rw [h] at this
  cases this
theorem cut1 (xs : List V) : cutV xs (some 1) none = xs.drop 1 := by
  unfold cutV
  rw [show HT.sIx xs.length 0 (some 1) = min 1 xs.length from HT.sIx_nat xs.length 0 1, HT.sIx_none]
  cases xs with
  | nil => rfl
  | cons x r =>
    rw [show min 1 (x :: r).length = 1 by
      rw [List.length_cons]
      omega]
    show (List.take ((x :: r).length - 1) r) = r
    rw [List.length_cons, Nat.add_sub_cancel]
    exact List.take_length
section
variable {P : Program} {w : World} {K : PySem.W.Frag} {mg : Str → Option Value} {base : Heap}
/-- the list at a holds tuples of ints -/
def TupsAt (K : PySem.W.Frag) (H : Hp) (xs : List V) (l : List (List Int)) : Prop := xs.length = l.length ∧ ∀ (i : Nat) (x : V), xs[i]? = some x → ∃ t, x = .ref t ∧ SqT K H t ((l.getD i []).map V.int)
theorem TupsAt.k0 {H H' : Hp} {xs : List V} {l : List (List Int)} (h : TupsAt K H xs l) (k : K0 H H') : TupsAt K H' xs l := ⟨h.1, fun i x e => by
  obtain ⟨t, e, s⟩ := h.2 i x e
  exact ⟨t, e, k.sqT s⟩⟩
def spRises (K : PySem.W.Frag) (Pr : Addr) : Sp := fun vs H Q _ => ∃ (a : Addr) (xs : List V) (l : List (List Int)), vs = [.ref a] ∧ SqL K H a xs ∧ TupsAt K H xs l ∧ TabG H Pr ∧ ∀ H', K0 H H' → Q (.bl (risesB l)) H'
end
end HK

set_option Elab.async false
set_option linter.all false
set_option maxRecDepth 100000
set_option maxHeartbeats 2000000
namespace HK
open PySem PySem.Spec PyProof.Rows L2 GAl GxR
def pairD : PyData → List Int
  | .tuple (.int s :: .int e :: _) => [s, e]
  | _ => []
def isNetD : PyData → Bool
  | .tuple [.int m, .tuple rs] => (decide (1 ≤ m) && decide (m ≤ 12)) && (rs.all (isRoadD m) && risesB (rs.map pairD))
  | _ => false
theorem road_ints {n : Int} {d : PyData} (h : isRoadD n d = true) : ∃ s e c l : Int, d = .tuple [.int s, .int e, .int c, .int l] ∧ 0 ≤ s ∧ s ≤ n - 1 ∧ 0 ≤ e ∧ e ≤ n - 1 ∧ s ≠ e ∧ 0 ≤ c ∧ c ≤ 1000 ∧ 1 ≤ l ∧ l ≤ 1000 := by
  unfold isRoadD at h
  split at h
  · rename_i s e c l
    simp only [Bool.and_eq_true] at h
    obtain ⟨⟨⟨h1, h2⟩, h3⟩, h4, h5⟩ := h
    obtain ⟨i, rfl, a1, a2⟩ := within_int h1
    obtain ⟨j, rfl, b1, b2⟩ := within_int h2
    obtain ⟨k, rfl, c1, c2⟩ := within_int h4
    obtain ⟨q, rfl, d1, d2⟩ := within_int h5
    refine ⟨i, j, k, q, rfl, a1, a2, b1, b2, fun z => ?_, c1, c2, d1, d2⟩
    rw [z] at h3
    simp [neD] at h3
  · cases h
theorem dp_ints4 {K : PySem.W.Frag} {H : Hp} {x : V} {s e c l : Int} (h : Dp K H x (.tuple [.int s, .int e, .int c, .int l])) : ∃ a, x = .ref a ∧ SqT K H a [.int s, .int e, .int c, .int l] := by
  obtain ⟨a, xs, rfl, hq, hall⟩ := dp_tup h
  cases hall with
  | cons d1 hall => cases hall with
    | cons d2 hall => cases hall with
      | cons d3 hall => cases hall with
        | cons d4 hall =>
          cases hall
          obtain rfl := dp_int' d1
          obtain rfl := dp_int' d2
          obtain rfl := dp_int' d3
          obtain rfl := dp_int' d4
          exact ⟨a, rfl, hq⟩
theorem dpAll_get {K : PySem.W.Frag} {H : Hp} : ∀ {xs : List V} {ds : List PyData} {i : Nat} {x : V}, DpAll K H xs ds → xs[i]? = some x → ∃ d, ds[i]? = some d ∧ Dp K H x d
  | _, _, _, _, .nil, e => by simp at e
  | _, _, 0, _, .cons h _, e => by simp at e; subst e; exact ⟨_, rfl, h⟩
  | _, _, i + 1, x, .cons _ t, e => by
    obtain ⟨d, h1, h2⟩ := dpAll_get (i := i) (x := x) t (by simpa using e)
    exact ⟨d, by simpa using h1, h2⟩
theorem K0.mut {H H' : Hp} {p : Addr} {o : HO} (k : K0 H H') (n : H p = none) : K0 H (upd H' p o) := ⟨fun b u e m => by
  rw [upd_ne (ne_of_none e n)]; exact k.oth b u e m, fun P h => by
  obtain ⟨ps, e, ht⟩ := h
  obtain ⟨ps', e', ht'⟩ := k.tab P ⟨ps, e, ht⟩
  exact ⟨ps', by rw [upd_ne (ne_of_none e n)]; exact e', ht'⟩, fun b e => k.dom b (upd_none e)⟩
theorem TupsAt.kt {K : PySem.W.Frag} {t : Addr} {H H' : Hp} {xs : List V} {l : List (List Int)} (h : TupsAt K H xs l) (k : Kt t H H') : TupsAt K H' xs l := ⟨h.1, fun i x e => by
  obtain ⟨t, e, s⟩ := h.2 i x e
  exact ⟨t, e, k.sqT s⟩⟩
theorem TupsAt.snoc {K : PySem.W.Frag} {H : Hp} {xs : List V} {l : List (List Int)} {t : Addr} {ns : List Int} (h : TupsAt K H xs l) (s : SqT K H t (ns.map V.int)) : TupsAt K H (xs ++ [.ref t]) (l ++ [ns]) := by
  refine ⟨by simp [h.1], fun i x e => ?_⟩
  by_cases hi : i < xs.length
  · rw [List.getElem?_append_left hi] at e
    obtain ⟨t', e', s'⟩ := h.2 i x e
    refine ⟨t', e', ?_⟩
    have : (l ++ [ns]).getD i [] = l.getD i [] := by
      simp only [List.getD_eq_getElem?_getD]
      rw [List.getElem?_append_left (by rw [← h.1]; exact hi)]
    rw [this]; exact s'
  · have hx : i = xs.length := by
      have : i < (xs ++ [V.ref t]).length := (List.getElem?_eq_some_iff.mp e).1
      rw [List.length_append, List.length_singleton] at this
      omega
    subst hx
    rw [List.getElem?_append_right (Nat.le_refl _), Nat.sub_self] at e
    have e : V.ref t = x := Option.some.inj e
    refine ⟨t, e.symm, ?_⟩
    have : (l ++ [ns]).getD xs.length [] = ns := by
      simp only [List.getD_eq_getElem?_getD]
      rw [h.1, List.getElem?_append_right (Nat.le_refl _), Nat.sub_self]; rfl
    rw [this]; exact s
theorem all_no {rs : List PyData} {p : PyData → Bool} {i : Nat} {d : PyData} (h : rs[i]? = some d) (hd : p d = false) : rs.all p = false := by
  rw [Bool.eq_false_iff]
  intro z
  have := List.all_eq_true.mp z d (List.mem_of_getElem? h)
  rw [hd] at this; cases this
theorem all_yes {rs : List PyData} {p : PyData → Bool} (h : ∀ (j : Nat) (d : PyData), rs[j]? = some d → p d = true) : rs.all p = true := by
  rw [List.all_eq_true]
  intro d hd
  obtain ⟨j, hj, e⟩ := List.getElem_of_mem hd
  exact h j d (by rw [← e]; exact List.getElem?_eq_getElem hj)

section
variable {P : Program} {w : World} {K : PySem.W.Frag} {mg : Str → Option Value} {base : Heap}
def NetAns (K : PySem.W.Frag) (H : Hp) (v : V) (b : Bool) : Prop := (∃ d, Dp K H v d ∧ (∀ m rs, d = .tuple [m, .tuple rs] → rs.length ≤ 1000) ∧ b = isNetD d) ∨ (∃ T, T ∈ tys ∧ TyX K H v (.type T) ∧ (T == "tuple") = false ∧ b = false)
def spIsNet (K : PySem.W.Frag) (Pn Pr : Addr) : Sp := fun vs H Q _ => ∃ (v : V) (b : Bool), vs = [v] ∧ NetAns K H v b ∧ TabG H Pn ∧ TabG H Pr ∧ ∀ H', K0 H H' → Q (.bl b) H'
end
end HK

set_option Elab.async false
set_option linter.all false
set_option maxRecDepth 100000
set_option maxHeartbeats 2000000
namespace HK
open PySem PySem.Spec PyProof.Rows L2 GAl GxR
open Evl (pss_cut)
theorem dpInts {K : PySem.W.Frag} {H : Hp} : ∀ ns : List Int, DpAll K H (ns.map V.int) (ns.map PyData.int)
  | [] => .nil
  | n :: ns => .cons (.int n) (dpInts ns)
/-- the script, at s: written, locked, or a list apart from the tape's at t -/
def Scr (K : PySem.W.Frag) (t : Addr) (H : Hp) (s : Addr) (ns : List Int) : Prop := (H s = some (.lst (ns.map V.int)) ∧ s ≠ t) ∨ (∃ o, H s = some (.frz o (.lst (ns.map V.int)))) ∨
  ∃ (o : Obj) (its : Array Value) (n : Nat), K.lookup s = some o ∧ o.cls = .type "list" ∧ o.dict = none ∧ o.data = .seq its n ∧ its.size ≤ sizeLine ∧ Vals (ns.map V.int) its.toList
theorem Scr.sq {K : PySem.W.Frag} {t : Addr} {H : Hp} {s : Addr} {ns : List Int} (h : Scr K t H s ns) : SqL K H s (ns.map V.int) := by
  rcases h with ⟨h, _⟩ | h | h
  · exact .inl (.inl h)
  · exact .inl (.inr h)
  · exact .inr h
theorem Scr.kt {K : PySem.W.Frag} {t : Addr} {H H' : Hp} {s : Addr} {ns : List Int} (h : Scr K t H s ns) (k : Kt t H H') : Scr K t H' s ns := by
  rcases h with ⟨h, n⟩ | ⟨o, h⟩ | h
  · exact .inl ⟨k.oth _ _ h n (fun _ z => by cases z), n⟩
  · exact .inr (.inl ⟨o, k.frz _ _ _ h⟩)
  · exact .inr (.inr h)
theorem Scr.of {K : PySem.W.Frag} {t : Addr} {H : Hp} {s : Addr} {ns : List Int} {o : HO} (h : SqL K H s (ns.map V.int)) (n : H t = none) : Scr K t (upd H t o) s ns := by
  rcases h with (h | ⟨o', h⟩) | h
  · have z := ne_of_none h n
    exact .inl ⟨by rw [upd_ne z]; exact h, z⟩
  · have z := ne_of_none h n
    exact .inr (.inl ⟨o', by rw [upd_ne z]; exact h⟩)
  · exact .inr (.inr h)
/-- the tape: the script, the next place, what is left of the number -/
def TapeV (H : Hp) (t s : Addr) : Prop := ∃ p v : Int, H t = some (.lst [.ref s, .int p, .int v]) ∧ 0 ≤ p ∧ 0 ≤ v
structure Tape (K : PySem.W.Frag) (H : Hp) (t s : Addr) (ns : List Int) : Prop where
  v : TapeV H t s
  scr : Scr K t H s ns
theorem canLay_ints : ∀ ns : List Int, SeqAt.shaped (.list (ns.map PyData.int)) = true := PySem.W.shaped_ints
theorem eqv_nil (ns : List Int) : PyData.eqv (.list (ns.map PyData.int)) (.list []) = ns.isEmpty := by
  cases ns <;> simp [PyData.eqv, PyData.eqvAll]
section
variable {P : Program} {w : World} {K : PySem.W.Frag} {mg : Str → Option Value} {base : Heap}
def spSpread : Sp := fun vs H Q _ => ∃ cell place : Int, vs = [.int cell, .int place] ∧ 0 ≤ place ∧ ∀ v : Int, 0 ≤ v → Q (.int v) H
theorem mulR {i j : Int} (h : -(2 ^ 64) < j) (h2 : j < 2 ^ 64) : CMul i j := .inr ⟨h, h2⟩
theorem mulL {i j : Int} (h : -(2 ^ 64) < i) (h2 : i < 2 ^ 64) : CMul i j := .inl ⟨h, h2⟩
def spDigit (K : PySem.W.Frag) : Sp := fun vs H Q _ => ∃ (t sc : Addr) (many : Int) (ns : List Int), vs = [.ref t, .int many] ∧ Tape K H t sc ns ∧ 0 < many ∧ many ≤ 100000000000000000000 ∧
  ∀ (d : Int) (H' : Hp), 0 ≤ d → d < many → Kt t H H' → Tape K H' t sc ns → Q (.int d) H'
end
end HK

set_option Elab.async false
set_option linter.all false
set_option maxRecDepth 100000
set_option maxHeartbeats 2000000
namespace HK
open PySem PySem.Spec PyProof.Rows L2 GAl GxR
section
variable {X : Cx}
/-- tuple(xs) of a list: the new object is known -/
theorem call_tuple_fz : CallR X (.type "tuple") (fun xs H Q => ∃ p ys, xs = [.ref p] ∧ SqL X.K H p ys ∧ ∀ l o, H l = none → o.cls = .type "tuple" → o.dict = none → Q (.ref l) (upd H l (.frz o (.tup ys)))) := by
  intro pins s σ H xs us Q I r h
  obtain ⟨p, ys, rfl, hq, q⟩ := h
  obtain ⟨u, rfl, rx⟩ := vals1 r
  cases rx
  obtain ⟨its, r', pl, hz⟩ := I.list hq
  have hlen := r'.length
  refine call_tuple_list pl.isList (fun h' kp => ?_) (by simp only [List.size_toArray] <;> omega)
  have I1 : Inv X pins σ H { s with heap := h' } := I.kept (t' := s.toks) kp
  have hget : (h'.push { cls := .type "tuple", data := .seq its.toArray }).get? h'.objs.size = some { cls := .type "tuple", data := .seq its.toArray } := Heap.get?_push_size _ rfl
  have I2 : Inv X pins σ (upd H h'.objs.size (.frz { cls := .type "tuple", data := .seq its.toArray } (.tup ys))) { s with heap := h'.push { cls := .type "tuple", data := .seq its.toArray } } :=
    I1.laid (t' := s.toks) (fun b o e => Heap.get?_push_of_some _ e) (Nat.le_refl _) (show ObjOk X.prog X.w _ _ _ (.frz _ (.tup ys)) from ⟨hget, hz, its, r', IsTup.new _ _⟩)
  exact ⟨.ref h'.objs.size, _, I2, rfl, q _ _ (I1.hok.fresh (Nat.le_refl _)) rfl rfl⟩
/-- a method of a built-in type, of an object that is known -/
def tBMF (T : String) (r : V → List V → Hp → VK → Prop) (to : TE) (t : TA) : TE := fun σ H Q => to σ H fun x H1 => (∃ a ob u, x = .ref a ∧ H1 a = some (.frz ob u) ∧ ob.cls = .type T ∧ ob.dict = none) ∧ t σ H1 fun xs H2 => r x xs H2 Q
theorem pe_bmF {o e : Expr} {es : List Expr} {to : TE} {t : TA} {name : Str} {apos cpos : Pos} {T id : String} {r : V → List V → Hp → VK → Prop}
    (pa : PlainAttrs T) (slot : Slot T name id) (hty : typeOf (.builtin id) = pure (.type "method_descriptor")) (hm : MtR X id r) (ho : PE X o to) (ha : PA X (e :: es) t)
    (hbase : attributeBase o name X.env (eval o X.env) = eval o X.env := by rfl)
    (hfew : ((backTo cpos (starEach (e :: es) X.env)).all (fun x => !x.1) && (backToKw cpos (keywordEach [] X.env)).all (fun x => x.1.isSome)
      && decide ((e :: es).length + ([] : List Keyword).length + (if ([] : List Keyword).isEmpty then 0 else 1) < 30)) = true := by rfl)
    (hline : (apos.endLine == cpos.line) = true := by rfl) (hs : starEach (e :: es) X.env = (false, eval e X.env) :: starEach es X.env := by rfl) (hplain : (backTo cpos (starEach es X.env)).any (·.1) = false := by rfl) :
    PE X (.Call (.Attribute o name apos) (e :: es) [] cpos) (tBMF T r to t) := by
  refine ⟨fun pins s σ H Q I h => ?_⟩
  refine wpAny_Call_method_late hbase hfew hline rfl (thn (ho.run pins s σ H _ I h) fun v s1 ⟨x, H1, I1, r1, ⟨a, ob, u, ex, hob, hc, hd⟩, q1⟩ => ?_)
  subst ex
  have hget := (show ObjOk X.prog X.w H1 s1.heap a (.frz ob u) from I1.hok a _ hob).1
  have ev : v = .ref a := r1
  refine ⟨T, id, pa, slot, hty, by rw [ev]; exact ⟨ob, hget, hc⟩, fun b e2 => ?_, ?_⟩
  · rw [ev] at e2
    cases e2
    exact ⟨ob, hget, hd⟩
  have hA := ha.run cpos pins s1 σ H1 _ I1 q1
  rw [hs] at hA ⊢
  refine Calls.callWith_builtin (by show (false || (backTo cpos (starEach es X.env)).any (·.1)) = false; rw [hplain] <;> rfl) (Calls.evalArgs_plain ?_)
  exact thn hA fun us s2 ⟨vs, H2, I2, r2, q2⟩ => hm pins s2 σ H2 (.ref a) vs v us Q I2 r1 r2 q2
end
end HK

set_option Elab.async false
set_option linter.all false
set_option maxRecDepth 100000
set_option maxHeartbeats 2000000
namespace HK
open PySem PySem.Spec PyProof.Rows L2 GAl GxR
open Evl (pss_cut)
structure R4 where
  s : Int
  e : Int
  c : Int
  l : Int
def R4.vs (r : R4) : List V := [.int r.s, .int r.e, .int r.c, .int r.l]
def R4.d (r : R4) : PyData := .tuple [.int r.s, .int r.e, .int r.c, .int r.l]
structure RoadOk (n : Int) (r : R4) : Prop where
  s0 : 0 ≤ r.s
  s1 : r.s < n
  e0 : 0 ≤ r.e
  e1 : r.e < n
  ne : r.s ≠ r.e
  c0 : 0 ≤ r.c
  c1 : r.c ≤ 1000
  l0 : 1 ≤ r.l
  l1 : r.l ≤ 1000
def R4.lt (a b : R4) : Prop := a.s < b.s ∨ (a.s = b.s ∧ a.e < b.e)
structure Good (n : Int) (rs : List R4) : Prop where
  n1 : 1 ≤ n
  n2 : n ≤ 12
  ok : ∀ r ∈ rs, RoadOk n r
  up : rs.Pairwise R4.lt
/-- the roads' tuples -/
def Roads (K : PySem.W.Frag) (H : Hp) (xs : List V) (rs : List R4) : Prop := DpAll K H xs (rs.map R4.d)
theorem dp_r4 {K : PySem.W.Frag} {H : Hp} {x : V} {r : R4} (h : Dp K H x r.d) : ∃ a, x = .ref a ∧ SqT K H a r.vs := dp_ints4 h
theorem r4_dp {K : PySem.W.Frag} {H : Hp} {a : Addr} {r : R4} (h : SqT K H a r.vs) : Dp K H (.ref a) r.d := .tup h (.cons (.int _) (.cons (.int _) (.cons (.int _) (.cons (.int _) .nil))))
theorem Kt.roads {K : PySem.W.Frag} {t : Addr} {H H' : Hp} (k : Kt t H H') : ∀ {xs : List V} {rs : List R4}, Roads K H xs rs → Roads K H' xs rs
  | _, [], .nil => .nil
  | _, r :: rs, .cons a b => .cons (by
      obtain ⟨p, rfl, h⟩ := dp_r4 (r := r) a
      exact r4_dp (r := r) (k.sqT h)) (Kt.roads k (rs := rs) b)
theorem dpAll_snoc {K : PySem.W.Frag} {H : Hp} : ∀ {xs : List V} {ds : List PyData} {x : V} {d : PyData}, DpAll K H xs ds → Dp K H x d → DpAll K H (xs ++ [x]) (ds ++ [d])
  | _, _, _, _, .nil, h => .cons h .nil
  | _, _, _, _, .cons a b, h => .cons a (dpAll_snoc b h)
theorem Roads.snoc {K : PySem.W.Frag} {H : Hp} {xs : List V} {rs : List R4} {a : Addr} {r : R4} (h : Roads K H xs rs) (s : SqT K H a r.vs) : Roads K H (xs ++ [.ref a]) (rs ++ [r]) := by
  unfold Roads
  rw [List.map_append]
  exact dpAll_snoc h (r4_dp s)
theorem Roads.len {K : PySem.W.Frag} {H : Hp} {xs : List V} {rs : List R4} (h : Roads K H xs rs) : xs.length = rs.length := by
  have := dpAll_len h
  rw [List.length_map] at this
  exact this
theorem Kt.mut {t : Addr} {H H' : Hp} {p : Addr} {o : HO} (k : Kt t H H') (n : H p = none) : Kt t H (upd H' p o) := ⟨fun b u e => by
  rw [upd_ne (ne_of_none e n)]; exact k.tup b u e, fun b o u e => by
  rw [upd_ne (ne_of_none e n)]; exact k.frz b o u e, fun b u e m m' => by
  rw [upd_ne (ne_of_none e n)]; exact k.oth b u e m m', fun P h => by
  obtain ⟨ps, e, ht⟩ := h
  obtain ⟨ps', e', ht'⟩ := k.tab P ⟨ps, e, ht⟩
  exact ⟨ps', by rw [upd_ne (ne_of_none e n)]; exact e', ht'⟩, fun b e => k.dom b (upd_none e)⟩
theorem Tape.k0 {K : PySem.W.Frag} {H H' : Hp} {t s : Addr} {ns : List Int} (h : Tape K H t s ns) (k : K0 H H') : Tape K H' t s ns := by
  obtain ⟨⟨p, v, e, r⟩, q⟩ := h
  exact ⟨⟨p, v, k.oth t _ e (fun _ z => by cases z), r⟩, q.kt k.kt⟩
theorem Tape.ne {K : PySem.W.Frag} {H : Hp} {t s b : Addr} {ns : List Int} (h : Tape K H t s ns) (n : H b = none) : b ≠ t := fun z => by
  obtain ⟨_, _, e, _⟩ := h.v
  rw [z, e] at n; cases n
/-- a list of the law's own, at b, is written -/
theorem Tape.mut {K : PySem.W.Frag} {H H' : Hp} {t s b : Addr} {ns : List Int} {o : HO} (h : Tape K H' t s ns) (h0 : Scr K t H s ns) (k : Kt t H H') (n : H b = none) (nb : b ≠ t) : Tape K (upd H' b o) t s ns := by
  obtain ⟨⟨p, v, e, r⟩, q⟩ := h
  exact ⟨⟨p, v, by rw [upd_ne nb.symm]; exact e, r⟩, h0.kt (k.mut n)⟩
theorem pick8 {x d : Int} (h0 : 0 ≤ d) (h1 : d < 8) (hx : 0 ≤ x ∧ x ≤ 1000) : ∃ y : Int, atI [V.int 0, .int 1, .int 1, .int 2, .int 3, .int 7, .int 1000, .int x] d = some (.int y) ∧ 0 ≤ y ∧ y ≤ 1000 := by
  obtain ⟨k, rfl⟩ := Int.eq_ofNat_of_zero_le h0
  match k, h1 with
  | 0, _ => exact ⟨0, atI_nat rfl, by omega, by omega⟩
  | 1, _ => exact ⟨1, atI_nat rfl, by omega, by omega⟩
  | 2, _ => exact ⟨1, atI_nat rfl, by omega, by omega⟩
  | 3, _ => exact ⟨2, atI_nat rfl, by omega, by omega⟩
  | 4, _ => exact ⟨3, atI_nat rfl, by omega, by omega⟩
  | 5, _ => exact ⟨7, atI_nat rfl, by omega, by omega⟩
  | 6, _ => exact ⟨1000, atI_nat rfl, by omega, by omega⟩
  | 7, _ => exact ⟨x, atI_nat rfl, hx⟩
  | k + 8, h => exact absurd h (by omega)
theorem pick7 {x d : Int} (h0 : 0 ≤ d) (h1 : d < 7) (hx : 1 ≤ x ∧ x ≤ 1000) : ∃ y : Int, atI [V.int 1, .int 1, .int 2, .int 3, .int 5, .int 1000, .int x] d = some (.int y) ∧ 1 ≤ y ∧ y ≤ 1000 := by
  obtain ⟨k, rfl⟩ := Int.eq_ofNat_of_zero_le h0
  match k, h1 with
  | 0, _ => exact ⟨1, atI_nat rfl, by omega, by omega⟩
  | 1, _ => exact ⟨1, atI_nat rfl, by omega, by omega⟩
  | 2, _ => exact ⟨2, atI_nat rfl, by omega, by omega⟩
  | 3, _ => exact ⟨3, atI_nat rfl, by omega, by omega⟩
  | 4, _ => exact ⟨5, atI_nat rfl, by omega, by omega⟩
  | 5, _ => exact ⟨1000, atI_nat rfl, by omega, by omega⟩
  | 6, _ => exact ⟨x, atI_nat rfl, hx⟩
  | k + 7, h => exact absurd h (by omega)

section
variable {P : Program} {w : World} {K : PySem.W.Frag} {mg : Str → Option Value} {base : Heap}
/-- what the law's net is -/
def NetAt (K : PySem.W.Frag) (H : Hp) (a : Addr) (n : Int) (rs : List R4) : Prop := ∃ (r : Addr) (xs : List V) (_ : Unit), SqT K H a [.int n, .ref r] ∧ SqT K H r xs ∧ True ∧ True ∧ Roads K H xs rs
theorem NetAt.kt {t : Addr} {H H' : Hp} {a : Addr} {n : Int} {rs : List R4} (h : NetAt K H a n rs) (k : Kt t H H') : NetAt K H' a n rs := by
  obtain ⟨r, xs, o, h1, h2, hc, hd, h3⟩ := h
  exact ⟨r, xs, o, k.sqT h1, k.sqT h2, hc, hd, k.roads h3⟩
def spNet (K : PySem.W.Frag) : Sp := fun vs H Q _ => ∃ (t sc : Addr) (most : Int) (ns : List Int), vs = [.ref t, .int most] ∧ Tape K H t sc ns ∧ 1 ≤ most ∧ most ≤ 12 ∧
  ∀ (a : Addr) (n : Int) (rs : List R4) (H' : Hp), Kt t H H' → Tape K H' t sc ns → NetAt K H' a n rs → n ≤ most → Good n rs → rs.length ≤ 156 → Q (.ref a) H'
/-- between the turns -/
structure NI (K : PySem.W.Frag) (H : Hp) (t sc ra : Addr) (ns : List Int) (n : Int) (i j : Nat) (H3 : Hp) : Prop where
  kt : Kt t H H3
  tp : Tape K H3 t sc ns
  ex : ∃ xs rs, H3 ra = some (.lst xs) ∧ Roads K H3 xs rs ∧ Good n rs ∧ (∀ r ∈ rs, r.s < i ∨ (r.s = i ∧ r.e < j)) ∧ rs.length ≤ 12 * i + j
end
end HK

set_option Elab.async false
set_option linter.all false
set_option maxRecDepth 100000
set_option maxHeartbeats 2000000
namespace HK
open PySem PySem.Spec PyProof.Rows L2 GAl GxR
mutual
/-- data whose lists are tracked, apart from the tape -/
inductive Dq (K : PySem.W.Frag) (T : Addr → Prop) (H : Hp) : V → PyData → Prop
  | non : Dq K T H .non .none
  | bl (b : Bool) : Dq K T H (.bl b) (.bool b)
  | int (i : Int) : Dq K T H (.int i) (.int i)
  | str (x : Str) : Dq K T H (.str x) (.str x)
  | lst {a : Addr} {xs : List V} {ds : List PyData} : H a = some (.lst xs) → ¬ T a → DqAll K T H xs ds → Dq K T H (.ref a) (.list ds)
  | tup {a : Addr} {xs : List V} {ds : List PyData} : SqT K H a xs → DqAll K T H xs ds → Dq K T H (.ref a) (.tuple ds)
inductive DqAll (K : PySem.W.Frag) (T : Addr → Prop) (H : Hp) : List V → List PyData → Prop
  | nil : DqAll K T H [] []
  | cons {v : V} {vs : List V} {d : PyData} {ds : List PyData} : Dq K T H v d → DqAll K T H vs ds → DqAll K T H (v :: vs) (d :: ds)
end
mutual
theorem Dq.dp {K : PySem.W.Frag} {T : Addr → Prop} {H : Hp} : ∀ (d : PyData) (v : V), Dq K T H v d → Dp K H v d
  | .none, _, h => by cases h; exact .non
  | .bool _, _, h => by cases h; exact .bl _
  | .int _, _, h => by cases h; exact .int _
  | .str _, _, h => by cases h; exact .str _
  | .list ds, _, h => by cases h with | lst a _ b => exact .lst (.inl (.inl a)) (DqAll.dp ds _ b)
  | .tuple ds, _, h => by cases h with | tup a b => exact .tup a (DqAll.dp ds _ b)
  | .dict _, _, h => by cases h
theorem DqAll.dp {K : PySem.W.Frag} {T : Addr → Prop} {H : Hp} : ∀ (ds : List PyData) (vs : List V), DqAll K T H vs ds → DpAll K H vs ds
  | [], _, h => by cases h; exact .nil
  | d :: ds, _, h => by cases h with | cons a b => exact .cons (Dq.dp d _ a) (DqAll.dp ds _ b)
end
mutual
theorem Dq.kt {K : PySem.W.Frag} {T : Addr → Prop} {t : Addr} {H H' : Hp} (hT : T t) (k : Kt t H H') : ∀ (d : PyData) (v : V), Dq K T H v d → Dq K T H' v d
  | .none, _, h => by cases h; exact .non
  | .bool _, _, h => by cases h; exact .bl _
  | .int _, _, h => by cases h; exact .int _
  | .str _, _, h => by cases h; exact .str _
  | .list ds, _, h => by cases h with | lst a n b => exact .lst (k.oth _ _ a (fun z => n (z ▸ hT)) (fun _ z => by cases z)) n (DqAll.kt hT k ds _ b)
  | .tuple ds, _, h => by cases h with | tup a b => exact .tup (k.sqT a) (DqAll.kt hT k ds _ b)
  | .dict _, _, h => by cases h
theorem DqAll.kt {K : PySem.W.Frag} {T : Addr → Prop} {t : Addr} {H H' : Hp} (hT : T t) (k : Kt t H H') : ∀ (ds : List PyData) (vs : List V), DqAll K T H vs ds → DqAll K T H' vs ds
  | [], _, h => by cases h; exact .nil
  | d :: ds, _, h => by cases h with | cons a b => exact .cons (Dq.kt hT k d _ a) (DqAll.kt hT k ds _ b)
end
theorem DqAll.len {K : PySem.W.Frag} {T : Addr → Prop} {H : Hp} : ∀ {vs : List V} {ds : List PyData}, DqAll K T H vs ds → vs.length = ds.length
  | _, _, .nil => rfl
  | _, _, .cons _ b => by rw [List.length_cons, List.length_cons, b.len]
theorem DqAll.app {K : PySem.W.Frag} {T : Addr → Prop} {H : Hp} : ∀ {vs ws : List V} {ds es : List PyData}, DqAll K T H vs ds → DqAll K T H ws es → DqAll K T H (vs ++ ws) (ds ++ es)
  | _, _, _, _, .nil, h => h
  | _, _, _, _, .cons a b, h => .cons a (b.app h)
theorem DqAll.take {K : PySem.W.Frag} {T : Addr → Prop} {H : Hp} : ∀ {vs : List V} {ds : List PyData} (k : Nat), DqAll K T H vs ds → DqAll K T H (vs.take k) (ds.take k)
  | _, _, 0, _ => .nil
  | _, _, _ + 1, .nil => .nil
  | _, _, k + 1, .cons a b => .cons a (b.take k)
theorem DqAll.drop {K : PySem.W.Frag} {T : Addr → Prop} {H : Hp} : ∀ {vs : List V} {ds : List PyData} (k : Nat), DqAll K T H vs ds → DqAll K T H (vs.drop k) (ds.drop k)
  | _, _, 0, h => h
  | _, _, _ + 1, .nil => .nil
  | _, _, k + 1, .cons _ b => b.drop k
theorem DqAll.get {K : PySem.W.Frag} {T : Addr → Prop} {H : Hp} : ∀ {vs : List V} {ds : List PyData} {i : Nat} {x : V}, DqAll K T H vs ds → vs[i]? = some x → ∃ d, ds[i]? = some d ∧ Dq K T H x d
  | _, _, _, _, .nil, e => by simp at e
  | _, _, 0, _, .cons h _, e => by simp at e; subst e; exact ⟨_, rfl, h⟩
  | _, _, i + 1, x, .cons _ b, e => by
    obtain ⟨d, h1, h2⟩ := DqAll.get (i := i) (x := x) b (by simpa using e)
    exact ⟨d, by simpa using h1, h2⟩
theorem DqAll.rev {K : PySem.W.Frag} {T : Addr → Prop} {H : Hp} : ∀ {vs : List V} {ds : List PyData}, DqAll K T H vs ds → DqAll K T H vs.reverse ds.reverse
  | _, _, .nil => .nil
  | _, _, .cons a b => by
    rw [List.reverse_cons, List.reverse_cons]
    exact b.rev.app (.cons a .nil)
theorem roads_dq {K : PySem.W.Frag} {T : Addr → Prop} {H : Hp} : ∀ {xs : List V} {rs : List R4}, Roads K H xs rs → DqAll K T H xs (rs.map R4.d)
  | _, [], .nil => .nil
  | _, r :: rs, .cons a b => .cons (by
      obtain ⟨p, rfl, h⟩ := dp_r4 (r := r) a
      exact .tup h (.cons (.int _) (.cons (.int _) (.cons (.int _) (.cons (.int _) .nil))))) (roads_dq (rs := rs) b)

/-- what stays, the tape a tape -/
structure Kp (K : PySem.W.Frag) (t sc : Addr) (ns : List Int) (H H' : Hp) : Prop where
  kt : Kt t H H'
  tp : Tape K H t sc ns → Tape K H' t sc ns
theorem Kp.refl {K : PySem.W.Frag} {t sc : Addr} {ns : List Int} (H : Hp) : Kp K t sc ns H H := ⟨Kt.refl _ _, fun h => h⟩
theorem Kp.trans {K : PySem.W.Frag} {t sc : Addr} {ns : List Int} {H H1 H2 : Hp} (a : Kp K t sc ns H H1) (b : Kp K t sc ns H1 H2) : Kp K t sc ns H H2 := ⟨a.kt.trans b.kt, fun h => b.tp (a.tp h)⟩
theorem K0.kp {K : PySem.W.Frag} {t sc : Addr} {ns : List Int} {H H' : Hp} (k : K0 H H') : Kp K t sc ns H H' := ⟨k.kt, fun h => h.k0 k⟩

section
variable {K : PySem.W.Frag} {T : Addr → Prop} {t sc : Addr} {ns : List Int} {H0 : Hp} {σ : L2.St}
/-- an expression makes data of which P holds -/
def Mk (K : PySem.W.Frag) (T : Addr → Prop) (t sc : Addr) (ns : List Int) (H0 : Hp) (σ : L2.St) (te : TE) (P : PyData → Prop) : Prop := T t → (∀ b, T b → H0 b ≠ none) → ∀ H, Kp K t sc ns H0 H → ∀ Q : VK, (∀ v H' d, Kp K t sc ns H H' → P d → Dq K T H' v d → Q v H') → te σ H Q
def MkL (K : PySem.W.Frag) (T : Addr → Prop) (t sc : Addr) (ns : List Int) (H0 : Hp) (σ : L2.St) (ta : TA) (P : List PyData → Prop) : Prop := T t → (∀ b, T b → H0 b ≠ none) → ∀ H, Kp K t sc ns H0 H → ∀ Q : List V → Hp → Prop, (∀ vs H' ds, Kp K t sc ns H H' → P ds → DqAll K T H' vs ds → Q vs H') → ta σ H Q
def MkI (K : PySem.W.Frag) (T : Addr → Prop) (t sc : Addr) (ns : List Int) (H0 : Hp) (σ : L2.St) (te : TE) (i : Int) : Prop := Mk K T t sc ns H0 σ te (· = .int i)
theorem Mk.imp {te : TE} {P P' : PyData → Prop} (h : Mk K T t sc ns H0 σ te P) (i : ∀ d, P d → P' d) : Mk K T t sc ns H0 σ te P' := fun hTt hdm H k Q q => h hTt hdm H k Q fun v H' d k' p dq => q v H' d k' (i d p) dq
theorem mk_int {i : Int} : Mk K T t sc ns H0 σ (tC (.int i)) (· = .int i) := fun _ _ H _ _ q => q _ H _ (Kp.refl H) rfl (.int i)
theorem mk_bl {b : Bool} : Mk K T t sc ns H0 σ (tC (.bl b)) (· = .bool b) := fun _ _ H _ _ q => q _ H _ (Kp.refl H) rfl (.bl b)
theorem mk_non : Mk K T t sc ns H0 σ (tC .non) (· = .none) := fun _ _ H _ _ q => q _ H _ (Kp.refl H) rfl .non
theorem mk_str {x : Str} : Mk K T t sc ns H0 σ (tC (.str x)) (· = .str x) := fun _ _ H _ _ q => q _ H _ (Kp.refl H) rfl (.str x)
theorem mk_var {i : Nat} {v : V} {d : PyData} (e : σ[i]? = some (some v)) (h : Dq K T H0 v d) : Mk K T t sc ns H0 σ (tVar i) (· = d) := fun hTt hdm H k _ q => ⟨v, e, q v H d (Kp.refl H) rfl (Dq.kt hTt k.kt d v h)⟩
theorem mk_add {ta tb : TE} {i j : Int} (ha : Mk K T t sc ns H0 σ ta (· = .int i)) (hb : Mk K T t sc ns H0 σ tb (· = .int j)) : Mk K T t sc ns H0 σ (tOp (rI0 fun i j => .int (i + j)) ta tb) (· = .int (i + j)) := fun hTt hdm H k Q q => ha hTt hdm H k _ fun v H1 d k1 e dq => by
  subst e; cases dq
  exact hb hTt hdm H1 (k.trans k1) _ fun v H2 d k2 e dq => by
    subst e; cases dq
    exact ⟨i, j, rfl, rfl, q _ H2 _ (k1.trans k2) rfl (.int _)⟩
theorem mk_sub {ta tb : TE} {i j : Int} (ha : Mk K T t sc ns H0 σ ta (· = .int i)) (hb : Mk K T t sc ns H0 σ tb (· = .int j)) : Mk K T t sc ns H0 σ (tOp (rI0 fun i j => .int (i - j)) ta tb) (· = .int (i - j)) := fun hTt hdm H k Q q => ha hTt hdm H k _ fun v H1 d k1 e dq => by
  subst e; cases dq
  exact hb hTt hdm H1 (k.trans k1) _ fun v H2 d k2 e dq => by
    subst e; cases dq
    exact ⟨i, j, rfl, rfl, q _ H2 _ (k1.trans k2) rfl (.int _)⟩
theorem mk_neg {ta : TE} {i : Int} (ha : Mk K T t sc ns H0 σ ta (· = .int i)) : Mk K T t sc ns H0 σ (tUn (rU fun i => .int (-i)) ta) (· = .int (-i)) := fun hTt hdm H k Q q => ha hTt hdm H k _ fun v H1 d k1 e dq => by
  subst e; cases dq
  exact ⟨i, rfl, q _ H1 _ k1 rfl (.int _)⟩
theorem mkl_nil : MkL K T t sc ns H0 σ tNil (· = []) := fun _ _ H _ _ q => q [] H [] (Kp.refl H) rfl .nil
theorem mkl_cons {te : TE} {ta : TA} {d : PyData} {ds : List PyData} (h : Mk K T t sc ns H0 σ te (· = d)) (hr : MkL K T t sc ns H0 σ ta (· = ds)) : MkL K T t sc ns H0 σ (tCons te ta) (· = d :: ds) := fun hTt hdm H k Q q => h hTt hdm H k _ fun v H1 d1 k1 e dq => hr hTt hdm H1 (k.trans k1) _ fun vs H2 es k2 e2 dqs => by
  subst e e2
  exact q _ H2 _ (k1.trans k2) rfl (.cons (Dq.kt hTt k2.kt _ _ dq) dqs)
theorem mkl_consP {te : TE} {ta : TA} {P : PyData → Prop} {ds : List PyData} (h : Mk K T t sc ns H0 σ te P) (hr : MkL K T t sc ns H0 σ ta (· = ds)) : MkL K T t sc ns H0 σ (tCons te ta) (fun l => ∃ d, P d ∧ l = d :: ds) := fun hTt hdm H k Q q => h hTt hdm H k _ fun v H1 d1 k1 e dq => hr hTt hdm H1 (k.trans k1) _ fun vs H2 es k2 e2 dqs => by
  subst e2
  exact q _ H2 _ (k1.trans k2) ⟨d1, e, rfl⟩ (.cons (Dq.kt hTt k2.kt _ _ dq) dqs)
theorem mk_tup {ta : TA} {P : List PyData → Prop} (h : MkL K T t sc ns H0 σ ta P) (hl : ∀ ds, P ds → ds.length ≤ 1000) : Mk K T t sc ns H0 σ (tTup ta) (fun d => ∃ ds, P ds ∧ d = .tuple ds) := fun hTt hdm H k Q q => h hTt hdm H k _ fun vs H1 ds k1 p dqs => by
  refine ⟨by rw [dqs.len]; exact Nat.le_of_lt (small1000 (hl ds p)), fun a na => ?_⟩
  have kn : K0 H1 (upd H1 a (.tup vs)) := K0.new na
  exact q _ _ _ (k1.trans kn.kp) ⟨ds, p, rfl⟩ (.tup (.inl (.inl upd_same)) (DqAll.kt hTt kn.kt _ _ dqs))
theorem mk_tupE {ta : TA} {ds : List PyData} (h : MkL K T t sc ns H0 σ ta (· = ds)) (hl : ds.length ≤ 1000 := by decide) : Mk K T t sc ns H0 σ (tTup ta) (· = .tuple ds) := (mk_tup h fun es e => by rw [e]; exact hl).imp fun d ⟨es, e, e2⟩ => by rw [e2, e]
theorem mk_lst {ta : TA} {P : List PyData → Prop} (h : MkL K T t sc ns H0 σ ta P) (hl : ∀ ds, P ds → ds.length ≤ 1000) : Mk K T t sc ns H0 σ (tLst ta) (fun d => ∃ ds, P ds ∧ d = .list ds) := fun hTt hdm H k Q q => h hTt hdm H k _ fun vs H1 ds k1 p dqs => by
  refine ⟨by rw [dqs.len]; exact Nat.le_of_lt (small1000 (hl ds p)), fun a na => ?_⟩
  have kn : K0 H1 (upd H1 a (.lst vs)) := K0.new na
  exact q _ _ _ (k1.trans kn.kp) ⟨ds, p, rfl⟩ (.lst upd_same (fun z => hdm _ z ((k.trans k1).kt.dom _ na)) (DqAll.kt hTt kn.kt _ _ dqs))
theorem mk_lstE {ta : TA} {ds : List PyData} (h : MkL K T t sc ns H0 σ ta (· = ds)) (hl : ds.length ≤ 1000 := by decide) : Mk K T t sc ns H0 σ (tLst ta) (· = .list ds) := (mk_lst h fun es e => by rw [e]; exact hl).imp fun d ⟨es, e, e2⟩ => by rw [e2, e]
/-- xs + ys, two lists -/
theorem mk_catL {ta tb : TE} {ds es : List PyData} (ha : Mk K T t sc ns H0 σ ta (· = .list ds)) (hb : Mk K T t sc ns H0 σ tb (· = .list es)) (hl : ds.length + es.length ≤ 1000 := by decide) : Mk K T t sc ns H0 σ (tOp rCat ta tb) (· = .list (ds ++ es)) := fun hTt hdm H k Q q => ha hTt hdm H k _ fun v H1 d k1 e dq => by
  subst e
  exact hb hTt hdm H1 (k.trans k1) _ fun v2 H2 d k2 e dq2 => by
    subst e
    have dq' := Dq.kt hTt k2.kt _ _ dq
    cases dq' with
    | @lst a xs _ h1 n1 a1 => cases dq2 with
      | @lst b ys _ h2 n2 a2 =>
        refine ⟨_, _, _, _, rfl, rfl, h1, h2, ?_, fun p np => ?_⟩
        · rw [a1.len, a2.len]; exact Nat.le_of_lt (small1000 hl)
        · have kn : K0 H2 (upd H2 p (.lst (xs ++ ys))) := K0.new np
          exact q _ _ _ ((k1.trans k2).trans kn.kp) rfl (.lst upd_same (fun z => hdm _ z (((k.trans k1).trans k2).kt.dom _ np)) (DqAll.kt hTt kn.kt _ _ (a1.app a2)))
/-- t + u, two tuples -/
theorem mk_catT {ta tb : TE} {P1 P2 : List PyData → Prop} (ha : Mk K T t sc ns H0 σ ta (fun d => ∃ ds, P1 ds ∧ d = .tuple ds)) (hb : Mk K T t sc ns H0 σ tb (fun d => ∃ ds, P2 ds ∧ d = .tuple ds)) (hl : ∀ ds es, P1 ds → P2 es → ds.length + es.length ≤ 1000) :
    Mk K T t sc ns H0 σ (tOp (rCatA K) ta tb) (fun d => ∃ ds, (∃ d1 d2, P1 d1 ∧ P2 d2 ∧ ds = d1 ++ d2) ∧ d = .tuple ds) := fun hTt hdm H k Q q => ha hTt hdm H k _ fun v H1 d k1 e dq => by
  obtain ⟨ds, p1, rfl⟩ := e
  exact hb hTt hdm H1 (k.trans k1) _ fun v2 H2 d k2 e dq2 => by
    obtain ⟨es, p2, rfl⟩ := e
    have dq' := Dq.kt hTt k2.kt _ _ dq
    cases dq' with
    | @tup a xs _ h1 a1 => cases dq2 with
      | @tup b ys _ h2 a2 =>
        refine ⟨_, _, _, _, rfl, rfl, h1, h2, ?_, fun e => ?_, fun e1 e2 => ?_, fun _ _ p np => ?_⟩
        · rw [a1.len, a2.len]; exact Nat.le_of_lt (small1000 (hl _ _ p1 p2))
        · subst e
          cases a1
          exact q _ _ _ (k1.trans k2) ⟨es, ⟨[], es, p1, p2, rfl⟩, rfl⟩ (.tup h2 a2)
        · subst e2
          cases a2
          exact q _ _ _ (k1.trans k2) ⟨ds, ⟨ds, [], p1, p2, by simp⟩, rfl⟩ (.tup h1 a1)
        · have kn : K0 H2 (upd H2 p (.tup (xs ++ ys))) := K0.new np
          exact q _ _ _ ((k1.trans k2).trans kn.kp) ⟨_, ⟨ds, es, p1, p2, rfl⟩, rfl⟩ (.tup (.inl (.inl upd_same)) (DqAll.kt hTt kn.kt _ _ (a1.app a2)))
def cutD (ds : List PyData) (lo hi : Option Int) : List PyData := (ds.drop (HT.sIx ds.length 0 lo)).take (HT.sIx ds.length ds.length hi - HT.sIx ds.length 0 lo)
def MkO (K : PySem.W.Frag) (T : Addr → Prop) (t sc : Addr) (ns : List Int) (H0 : Hp) (σ : L2.St) (to : TO) (o : Option Int) : Prop := T t → (∀ b, T b → H0 b ≠ none) → ∀ H, Kp K t sc ns H0 H → ∀ Q : Option Int → Hp → Prop, (∀ H', Kp K t sc ns H H' → Q o H') → to σ H Q
theorem mko_none : MkO K T t sc ns H0 σ tNoPart none := fun _ _ H _ _ q => q H (Kp.refl H)
theorem mko_some {te : TE} {i : Int} (h : Mk K T t sc ns H0 σ te (· = .int i)) : MkO K T t sc ns H0 σ (tPart te) (some i) := fun hTt hdm H k _ q => h hTt hdm H k _ fun v H1 d k1 e dq => by
  subst e; cases dq
  exact ⟨i, rfl, q H1 k1⟩
theorem mk_sl {te : TE} {tl th : TO} {lo hi : Option Int} {ds : List PyData} (h : Mk K T t sc ns H0 σ te (· = .tuple ds)) (h1 : MkO K T t sc ns H0 σ tl lo) (h2 : MkO K T t sc ns H0 σ th hi) : Mk K T t sc ns H0 σ (tSl (rSlA K) te tl th) (· = .tuple (cutD ds lo hi)) := fun hTt hdm H k Q q => h hTt hdm H k _ fun v H1 d k1 e dq => by
  subst e
  exact h1 hTt hdm H1 (k.trans k1) _ fun H2 k2 => h2 hTt hdm H2 ((k.trans k1).trans k2) _ fun H3 k3 => by
    have dq' := Dq.kt hTt (k2.trans k3).kt _ _ dq
    cases dq' with
    | @tup a xs _ hq hall =>
      refine ⟨_, _, rfl, hq, fun hw => ?_, fun hw p np => ?_⟩
      · have : cutD ds lo hi = ds := by
          unfold cutD
          rw [← hall.len, hw.1, hw.2, List.drop_zero, Nat.sub_zero]
          exact List.take_of_length_le (by rw [hall.len]; exact Nat.le_refl _)
        rw [this] at q
        exact q _ H3 _ ((k1.trans k2).trans k3) rfl (.tup hq hall)
      · have kn : K0 H3 (upd H3 p (.tup (cutV xs lo hi))) := K0.new np
        refine q _ _ _ (((k1.trans k2).trans k3).trans kn.kp) rfl (.tup (.inl (.inl upd_same)) (DqAll.kt hTt kn.kt _ _ ?_))
        unfold cutV cutD
        rw [hall.len]
        exact (hall.drop _).take _
/-- t[i], a tuple at a written place -/
theorem mk_ixT {te ti : TE} {ds : List PyData} {j : Nat} {d : PyData} (h : Mk K T t sc ns H0 σ te (· = .tuple ds)) (hi : Mk K T t sc ns H0 σ ti (· = .int j)) (hd : ds[j]? = some d) : Mk K T t sc ns H0 σ (tOp (rIxT K) te ti) (· = d) := fun hTt hdm H k Q q => h hTt hdm H k _ fun v H1 d1 k1 e dq => by
  subst e
  exact hi hTt hdm H1 (k.trans k1) _ fun v2 H2 d2 k2 e dq2 => by
    subst e; cases dq2
    have dq' := Dq.kt hTt k2.kt _ _ dq
    cases dq' with
    | @tup a xs _ hq hall =>
      have hl : j < xs.length := by rw [hall.len]; exact (List.getElem?_eq_some_iff.mp hd).1
      obtain ⟨d', e1, e2⟩ := hall.get (List.getElem?_eq_getElem hl)
      rw [hd] at e1; cases e1
      exact ⟨_, _, _, _, rfl, rfl, hq, atI_nat (List.getElem?_eq_getElem hl), q _ H2 _ (k1.trans k2) rfl e2⟩
end
end HK

set_option Elab.async false
set_option linter.all false
set_option maxRecDepth 100000
set_option maxHeartbeats 2000000
namespace HK
open PySem PySem.Spec PyProof.Rows L2 GAl GxR
open Evl (pss_cut)
section
variable {P : Program} {w : World} {K : PySem.W.Frag} {mg : Str → Option Value} {base : Heap}
def spSome (K : PySem.W.Frag) : Sp := fun vs H Q _ => ∃ (t sc r : Addr) (ns : List Int) (xs : List V), vs = [.ref t, .ref r] ∧ Tape K H t sc ns ∧ (SqT K H r xs ∨ (H r = some (.lst xs) ∧ r ≠ t)) ∧ 0 < xs.length ∧ xs.length ≤ 100000 ∧
  ∀ (j : Nat) (x : V) (H' : Hp), xs[j]? = some x → Kp K t sc ns H H' → Q x H'
end
end HK

set_option Elab.async false
set_option linter.all false
set_option maxHeartbeats 2000000
namespace HK
/-! ### the mathematics: going through the roads as often as there are places -/
abbrev IF := Int → Option Int
def put (f : IF) (i x : Int) : IF := fun j => if j = i then some x else f j
def Le (g f : IF) : Prop := ∀ v a, f v = some a → ∃ b, g v = some b ∧ b ≤ a
theorem Le.refl (f : IF) : Le f f := fun v a h => ⟨a, h, Int.le_refl _⟩
theorem Le.trans {f g h : IF} (a : Le f g) (b : Le g h) : Le f h := fun v x e => by
  obtain ⟨y, e1, l1⟩ := b v x e
  obtain ⟨z, e2, l2⟩ := a v y e1
  exact ⟨z, e2, by omega⟩
def rlx (src g : IF) (r : R4) : IF := match src r.s with
  | none => g
  | some a => match g r.e with
    | none => put g r.e (a + r.l)
    | some b => if a + r.l < b then put g r.e (a + r.l) else g
structure IInv (n : Int) (rs : List R4) (root : Int) (f : IF) : Prop where
  rt0 : f root = some 0
  rng : ∀ v a, f v = some a → 0 ≤ v ∧ v < n ∧ 0 ≤ a
  wt : ∀ v b, f v = some b → v = root ∨ ∃ r ∈ rs, r.e = v ∧ ∃ a, f r.s = some a ∧ a + r.l ≤ b
def Closed (rs : List R4) (f : IF) : Prop := ∀ r ∈ rs, ∀ a, f r.s = some a → ∃ b, f r.e = some b ∧ b ≤ a + r.l
section
variable {n root : Int} {rs : List R4}
theorem put_inv {g : IF} {r : R4} {x a' : Int} (I : IInv n rs root g) (hr : RoadOk n r) (hm : r ∈ rs) (ha : g r.s = some a') (hx : a' + r.l ≤ x) (hlt : ∀ b, g r.e = some b → x < b) : IInv n rs root (put g r.e x) ∧ Le (put g r.e x) g := by
  have h0 := (I.rng _ _ ha).2.2
  have hl := hr.l0
  have ne : r.e ≠ root := fun z => by
    have := hlt 0 (by rw [z]; exact I.rt0)
    omega
  have le : Le (put g r.e x) g := fun v b e => by
    by_cases hv : v = r.e
    · subst hv
      exact ⟨x, if_pos rfl, Int.le_of_lt (hlt b e)⟩
    · exact ⟨b, by unfold put; rw [if_neg hv]; exact e, Int.le_refl _⟩
  refine ⟨⟨?_, fun v b e => ?_, fun v b e => ?_⟩, le⟩
  · unfold put; rw [if_neg (fun z => ne z.symm)]; exact I.rt0
  · unfold put at e
    by_cases hv : v = r.e
    · rw [if_pos hv] at e
      cases e
      rw [hv]
      exact ⟨hr.e0, hr.e1, by omega⟩
    · rw [if_neg hv] at e
      exact I.rng v b e
  · by_cases hv : v = r.e
    · unfold put at e
      rw [if_pos hv] at e
      cases e
      exact .inr ⟨r, hm, hv.symm, a', by unfold put; rw [if_neg hr.ne]; exact ha, hx⟩
    · unfold put at e
      rw [if_neg hv] at e
      rcases I.wt v b e with h | ⟨r', h1, h2, a, h3, h4⟩
      · exact .inl h
      · obtain ⟨a2, h5, h6⟩ := le _ _ h3
        exact .inr ⟨r', h1, h2, a2, h5, by omega⟩
theorem rlx_inv {src g : IF} {r : R4} (I : IInv n rs root g) (hr : RoadOk n r) (hm : r ∈ rs) (hs : Le g src) :
    IInv n rs root (rlx src g r) ∧ Le (rlx src g r) g ∧ ∀ a, src r.s = some a → ∃ b, rlx src g r r.e = some b ∧ b ≤ a + r.l := by
  unfold rlx
  cases e : src r.s with
  | none => exact ⟨I, .refl _, fun a z => by cases z⟩
  | some a =>
    obtain ⟨a', e1, l1⟩ := hs _ _ e
    cases e2 : g r.e with
    | none =>
      obtain ⟨h1, h2⟩ := put_inv (x := a + r.l) I hr hm e1 (by omega) (fun b z => by rw [e2] at z; cases z)
      exact ⟨h1, h2, fun a2 z => by cases z; exact ⟨_, if_pos rfl, Int.le_refl _⟩⟩
    | some b =>
      by_cases hb : a + r.l < b
      · simp only [hb, if_true]
        obtain ⟨h1, h2⟩ := put_inv (x := a + r.l) I hr hm e1 (by omega) (fun b' z => by rw [e2] at z; cases z; exact hb)
        exact ⟨h1, h2, fun a2 z => by cases z; exact ⟨_, if_pos rfl, Int.le_refl _⟩⟩
      · simp only [hb, if_false]
        exact ⟨I, .refl _, fun a2 z => by cases z; exact ⟨b, e2, by omega⟩⟩
def rnd (S : IF → IF) (l : List R4) (g : IF) : IF := l.foldl (fun g r => rlx (S g) g r) g
theorem rnd_inv {S : IF → IF} {f : IF} (hS : ∀ g, Le g f → Le g (S g) ∧ Le (S g) f) : ∀ (l : List R4) (g : IF), (∀ r ∈ l, r ∈ rs ∧ RoadOk n r) → IInv n rs root g → Le g f →
    IInv n rs root (rnd S l g) ∧ Le (rnd S l g) g ∧ ∀ r ∈ l, ∀ a, f r.s = some a → ∃ b, rnd S l g r.e = some b ∧ b ≤ a + r.l
  | [], g, _, I, _ => ⟨I, .refl _, fun r h => by cases h⟩
  | r :: l, g, hl, I, hf => by
    obtain ⟨s1, s2⟩ := hS g hf
    obtain ⟨i1, i2, i3⟩ := rlx_inv I (hl r (List.mem_cons_self ..)).2 (hl r (List.mem_cons_self ..)).1 s1
    obtain ⟨j1, j2, j3⟩ := rnd_inv hS l (rlx (S g) g r) (fun q h => hl q (List.mem_cons_of_mem _ h)) i1 (i2.trans hf)
    refine ⟨j1, j2.trans i2, fun q hq a ha => ?_⟩
    rcases List.mem_cons.mp hq with rfl | hq
    · obtain ⟨a', e, le⟩ := s2 _ _ ha
      obtain ⟨b, e2, le2⟩ := i3 a' e
      obtain ⟨c, e3, le3⟩ := j2 _ _ e2
      exact ⟨c, e3, by omega⟩
    · exact j3 q hq a ha
def iter (F : IF → IF) : Nat → IF → IF
  | 0, f => f
  | k + 1, f => F (iter F k f)
theorem half {D f : IF} (hok : ∀ r ∈ rs, RoadOk n r) (c : Closed rs D) (d0 : D root = some 0) (I : IInv n rs root f) : Le D f := by
  have key : ∀ (N : Nat) (v b : Int), f v = some b → b.toNat < N → ∃ c, D v = some c ∧ c ≤ b := by
    intro N
    induction N with
    | zero => intro v b _ h; omega
    | succ N ih =>
      intro v b e hb
      have h0 := (I.rng v b e).2.2
      rcases I.wt v b e with rfl | ⟨r, hm, rfl, a, e2, le⟩
      · exact ⟨0, d0, h0⟩
      · have hl := (hok r hm).l0
        have ha := (I.rng _ _ e2).2.2
        obtain ⟨x, e3, l3⟩ := ih r.s a e2 (by omega)
        obtain ⟨y, e4, l4⟩ := c r hm x e3
        exact ⟨y, e4, by omega⟩
  exact fun v b e => key (b.toNat + 1) v b e (by omega)
theorem two_same {f g : IF} (hok : ∀ r ∈ rs, RoadOk n r) (cf : Closed rs f) (If : IInv n rs root f) (cg : Closed rs g) (Ig : IInv n rs root g) : f = g := by
  have h1 := half hok cf If.rt0 Ig
  have h2 := half hok cg Ig.rt0 If
  funext v
  cases e : f v with
  | none =>
    cases e2 : g v with
    | none => rfl
    | some b => obtain ⟨c, e3, _⟩ := h1 v b e2; rw [e] at e3; cases e3
  | some a =>
    obtain ⟨b, e2, l2⟩ := h2 v a e
    obtain ⟨c, e3, l3⟩ := h1 v b e2
    rw [e] at e3
    cases e3
    rw [e2]
    have : a = b := by omega
    rw [this]
theorem countP_lt {α : Type} {p q : α → Bool} : ∀ {l : List α}, (∀ x ∈ l, p x = true → q x = true) → (∃ x ∈ l, q x = true ∧ ¬ p x = true) → l.countP p < l.countP q
  | [], _, h => by obtain ⟨x, hx, _⟩ := h; cases hx
  | y :: l, h, hx => by
    have hm : l.countP p ≤ l.countP q := List.countP_mono_left (fun x hx => h x (List.mem_cons_of_mem _ hx))
    obtain ⟨x, hx, hq, hp⟩ := hx
    rw [List.countP_cons, List.countP_cons]
    rcases List.mem_cons.mp hx with rfl | hx
    · rw [if_pos hq, if_neg hp]; omega
    · have ih := countP_lt (fun x hx => h x (List.mem_cons_of_mem _ hx)) ⟨x, hx, hq, hp⟩
      have := h y (List.mem_cons_self ..)
      by_cases hy : p y = true
      · rw [if_pos hy, if_pos (this hy)]; omega
      · rw [if_neg hy]
        split <;> omega
variable {F : IF → IF} {f0 : IF}
def Turns (n : Int) (rs : List R4) (root : Int) (F : IF → IF) : Prop := ∀ f, IInv n rs root f → IInv n rs root (F f) ∧ Le (F f) f ∧ ∀ r ∈ rs, ∀ a, f r.s = some a → ∃ b, F f r.e = some b ∧ b ≤ a + r.l
theorem iter_inv (hF : Turns n rs root F) (I0 : IInv n rs root f0) : ∀ k, IInv n rs root (iter F k f0)
  | 0 => I0
  | k + 1 => (hF _ (iter_inv hF I0 k)).1
theorem iter_le (hF : Turns n rs root F) (I0 : IInv n rs root f0) (k : Nat) : ∀ j, Le (iter F (k + j) f0) (iter F k f0)
  | 0 => .refl _
  | j + 1 => ((hF _ (iter_inv hF I0 (k + j))).2.1).trans (iter_le hF I0 k j)
theorem stab (hF : Turns n rs root F) (I0 : IInv n rs root f0) (v : Int) : ∃ K, ∀ k, K ≤ k → iter F k f0 v = iter F K f0 v := by
  have key : ∀ (N k : Nat) (m : Int), iter F k f0 v = some m → m.toNat < N → ∃ K, ∀ k, K ≤ k → iter F k f0 v = iter F K f0 v := by
    intro N
    induction N with
    | zero => intro k m _ h; omega
    | succ N ih =>
      intro k m e hm
      by_cases hh : ∀ j, k ≤ j → iter F j f0 v = some m
      · exact ⟨k, fun j hj => by rw [hh j hj, e]⟩
      · have ⟨j, hj⟩ := Classical.not_forall.mp hh
        have ⟨hk, hj⟩ := Classical.not_imp.mp hj
        obtain ⟨d, rfl⟩ := Nat.exists_eq_add_of_le hk
        obtain ⟨b, e2, l2⟩ := iter_le hF I0 k d v m e
        have hb := ((iter_inv hF I0 (k + d)).rng _ _ e2).2.2
        have : b ≠ m := fun z => hj (by rw [e2, z])
        exact ih (k + d) b e2 (by omega)
  by_cases h : ∃ k m, iter F k f0 v = some m
  · obtain ⟨k, m, e⟩ := h
    exact key (m.toNat + 1) k m e (by omega)
  · have none : ∀ k, iter F k f0 v = none := fun k => by
      cases e : iter F k f0 v with
      | none => rfl
      | some m => exact absurd ⟨k, m, e⟩ h
    exact ⟨0, fun k _ => by rw [none k, none 0]⟩
theorem stab_all (hF : Turns n rs root F) (I0 : IInv n rs root f0) : ∀ N : Nat, ∃ K, ∀ (i : Nat), i < N → ∀ k, K ≤ k → iter F k f0 (i : Int) = iter F K f0 (i : Int)
  | 0 => ⟨0, fun i h => by omega⟩
  | N + 1 => by
    obtain ⟨K1, h1⟩ := stab_all hF I0 N
    obtain ⟨K2, h2⟩ := stab hF I0 (N : Int)
    refine ⟨max K1 K2, fun i hi k hk => ?_⟩
    have a1 : K1 ≤ max K1 K2 := Nat.le_max_left ..
    have a2 : K2 ≤ max K1 K2 := Nat.le_max_right ..
    by_cases hi' : i = N
    · subst hi'
      rw [h2 k (by omega), h2 _ a2]
    · rw [h1 i (by omega) k (by omega), h1 i (by omega) _ a1]
theorem limit (hF : Turns n rs root F) (I0 : IInv n rs root f0) : ∃ D, IInv n rs root D ∧ Closed rs D := by
  obtain ⟨K, h⟩ := stab_all hF I0 n.toNat
  have same : iter F (K + 1) f0 = iter F K f0 := by
    funext v
    by_cases hv : 0 ≤ v ∧ v < n
    · obtain ⟨i, rfl⟩ := Int.eq_ofNat_of_zero_le hv.1
      exact h i (by omega) (K + 1) (by omega)
    · have none : ∀ k, iter F k f0 v = none := fun k => by
        cases e : iter F k f0 v with
        | none => rfl
        | some m =>
          have := (iter_inv hF I0 k).rng _ _ e
          exact absurd ⟨this.1, this.2.1⟩ hv
      rw [none, none]
  refine ⟨_, iter_inv hF I0 K, fun r hr a ha => ?_⟩
  obtain ⟨b, e, l⟩ := (hF _ (iter_inv hF I0 K)).2.2 r hr a ha
  exact ⟨b, by rw [← same]; exact e, l⟩
theorem conv (hok : ∀ r ∈ rs, RoadOk n r) (hF : Turns n rs root F) (I0 : IInv n rs root f0) : Closed rs (iter F n.toNat f0) := by
  obtain ⟨D, ID, cD⟩ := limit hF I0
  have low : ∀ k, Le D (iter F k f0) := fun k => half hok cD ID.rt0 (iter_inv hF I0 k)
  have stay : ∀ k v b, D v = some b → iter F k f0 v = some b → iter F (k + 1) f0 v = some b := fun k v b hd e => by
    obtain ⟨c, e1, l1⟩ := (hF _ (iter_inv hF I0 k)).2.1 v b e
    obtain ⟨c', e2, l2⟩ := low (k + 1) v c e1
    rw [hd] at e2
    cases e2
    have : c = b := by omega
    rw [← this]; exact e1
  have prog : ∀ (k N : Nat) (v b : Int), D v = some b → b.toNat < N → iter F k f0 v ≠ some b → ∃ v' b', D v' = some b' ∧ iter F k f0 v' ≠ some b' ∧ iter F (k + 1) f0 v' = some b' := by
    intro k N
    induction N with
    | zero => intro v b _ h; omega
    | succ N ih =>
      intro v b hd hb hne
      rcases ID.wt v b hd with rfl | ⟨r, hm, rfl, a, e2, le⟩
      · rw [ID.rt0] at hd
        cases hd
        exact absurd (iter_inv hF I0 k).rt0 hne
      · have hl := (hok r hm).l0
        have ha := (ID.rng _ _ e2).2.2
        by_cases hs : iter F k f0 r.s = some a
        · obtain ⟨b', e3, l3⟩ := (hF _ (iter_inv hF I0 k)).2.2 r hm a hs
          obtain ⟨c, e4, l4⟩ := low (k + 1) r.e b' e3
          rw [hd] at e4
          cases e4
          have : b' = b := by omega
          exact ⟨r.e, b, hd, hne, by rw [← this]; exact e3⟩
        · exact ih r.s a e2 (by omega) hs
  let fin : Nat → Nat → Bool := fun k i => decide (iter F k f0 (i : Int) = D (i : Int)) && (D (i : Int)).isSome
  have hn : ∀ v b, D v = some b → ∃ i : Nat, v = (i : Int) ∧ i ∈ List.range n.toNat := fun v b e => by
    have := ID.rng v b e
    obtain ⟨i, rfl⟩ := Int.eq_ofNat_of_zero_le this.1
    exact ⟨i, rfl, List.mem_range.mpr (by omega)⟩
  have main : ∀ k, (∀ v b, D v = some b → iter F k f0 v = some b) ∨ k + 1 ≤ (List.range n.toNat).countP (fin k) := by
    intro k
    induction k with
    | zero =>
      obtain ⟨i, hi, hm⟩ := hn root 0 ID.rt0
      refine .inr (List.countP_pos_iff.mpr ⟨i, hm, ?_⟩)
      show (decide (f0 (i : Int) = D (i : Int)) && (D (i : Int)).isSome) = true
      rw [← hi, I0.rt0, ID.rt0]
      rfl
    | succ k ih =>
      rcases ih with h | h
      · exact .inl fun v b e => stay k v b e (h v b e)
      · by_cases all : ∀ v b, D v = some b → iter F k f0 v = some b
        · exact .inl fun v b e => stay k v b e (all v b e)
        · refine .inr (Nat.lt_of_le_of_lt h (countP_lt (fun i _ hi => ?_) ?_))
          · have hi' := Bool.and_eq_true_iff.mp hi
            have h1 := of_decide_eq_true hi'.1
            obtain ⟨b, e⟩ := Option.isSome_iff_exists.mp hi'.2
            have := stay k i b e (h1.trans e)
            exact Bool.and_eq_true_iff.mpr ⟨decide_eq_true (this.trans e.symm), hi'.2⟩
          · have ⟨v, hv⟩ := Classical.not_forall.mp all
            have ⟨b, hb⟩ := Classical.not_forall.mp hv
            have ⟨hd, hne⟩ := Classical.not_imp.mp hb
            obtain ⟨v', b', d', n', e'⟩ := prog k (b.toNat + 1) v b hd (by omega) hne
            obtain ⟨i, rfl, hm⟩ := hn v' b' d'
            refine ⟨i, hm, Bool.and_eq_true_iff.mpr ⟨decide_eq_true (e'.trans d'.symm), by rw [d']; rfl⟩, fun z => ?_⟩
            exact n' ((of_decide_eq_true (Bool.and_eq_true_iff.mp z).1).trans d')
  have fin' : ∀ v b, D v = some b → iter F n.toNat f0 v = some b := by
    rcases main n.toNat with h | h
    · exact h
    · have := List.countP_le_length (p := fin n.toNat) (l := List.range n.toNat)
      rw [List.length_range] at this
      omega
  have eq : iter F n.toNat f0 = D := by
    funext v
    cases e : D v with
    | some b => exact fin' v b e
    | none =>
      cases e2 : iter F n.toNat f0 v with
      | none => rfl
      | some b => obtain ⟨c, e3, _⟩ := low n.toNat v b e2; rw [e] at e3; cases e3
  rw [eq]; exact cD
/-- the two ways of going through -/
theorem turns_at (hok : ∀ r ∈ rs, RoadOk n r) : Turns n rs root (fun f => rnd id rs f) := fun f I => by
  obtain ⟨h1, h2, h3⟩ := rnd_inv (S := id) (f := f) (n := n) (rs := rs) (root := root) (fun g h => ⟨.refl _, h⟩) rs f (fun r h => ⟨h, hok r h⟩) I (.refl _)
  exact ⟨h1, h2, h3⟩
theorem turns_by (hok : ∀ r ∈ rs, RoadOk n r) : Turns n rs root (fun f => rnd (fun _ => f) rs f) := fun f I => by
  obtain ⟨h1, h2, h3⟩ := rnd_inv (S := fun _ => f) (f := f) (n := n) (rs := rs) (root := root) (fun g h => ⟨h, .refl _⟩) rs f (fun r h => ⟨h, hok r h⟩) I (.refl _)
  exact ⟨h1, h2, h3⟩
def ini (root : Int) : IF := put (fun _ => none) root 0
theorem ini_inv (h0 : 0 ≤ root) (h1 : root < n) : IInv n rs root (ini root) := by
  refine ⟨if_pos rfl, fun v a e => ?_, fun v b e => ?_⟩
  · unfold ini put at e
    by_cases hv : v = root
    · rw [if_pos hv] at e; cases e; subst hv; exact ⟨h0, h1, Int.le_refl _⟩
    · rw [if_neg hv] at e; cases e
  · unfold ini put at e
    by_cases hv : v = root
    · exact .inl hv
    · rw [if_neg hv] at e; cases e
end
/-- what is found -/
def due (n : Int) (rs : List R4) (root : Int) : IF := iter (fun f => rnd id rs f) n.toNat (ini root)
theorem due_inv {n root : Int} {rs : List R4} (hok : ∀ r ∈ rs, RoadOk n r) (h0 : 0 ≤ root) (h1 : root < n) : IInv n rs root (due n rs root) := iter_inv (turns_at hok) (ini_inv h0 h1) _
theorem due_closed {n root : Int} {rs : List R4} (hok : ∀ r ∈ rs, RoadOk n r) (h0 : 0 ≤ root) (h1 : root < n) : Closed rs (due n rs root) := conv hok (turns_at hok) (ini_inv h0 h1)
theorem due_by {n root : Int} {rs : List R4} (hok : ∀ r ∈ rs, RoadOk n r) (h0 : 0 ≤ root) (h1 : root < n) : iter (fun f => rnd (fun _ => f) rs f) n.toNat (ini root) = due n rs root :=
  two_same hok (conv hok (turns_by hok) (ini_inv h0 h1)) (iter_inv (turns_by hok) (ini_inv h0 h1) _) (due_closed hok h0 h1) (due_inv hok h0 h1)
end HK

set_option Elab.async false
set_option linter.all false
set_option maxRecDepth 100000
set_option maxHeartbeats 2000000
namespace HK
open PySem PySem.Spec PyProof.Rows L2 GAl GxR
/-! ### a dict of whole numbers by whole numbers -/
structure DI (kvs : List (Key × V)) (f : IF) : Prop where
  nd : (kvs.map (·.1)).Nodup
  ks : ∀ p ∈ kvs, ∃ i x : Int, p = (Sum.inl i, V.int x)
  val : ∀ i : Int, valV kvs (Sum.inl i) = (f i).map V.int
theorem valV_mem {κ : Type} [DecidableEq κ] : ∀ {kvs : List (κ × V)} {p : κ × V}, (kvs.map (·.1)).Nodup → p ∈ kvs → valV kvs p.1 = some p.2
  | q :: r, p, nd, h => by
    have nd' := List.nodup_cons.mp nd
    rcases List.mem_cons.mp h with rfl | h
    · exact valV_pos rfl
    · have : ¬ q.1 = p.1 := fun z => nd'.1 (List.mem_map.mpr ⟨p, h, z.symm⟩)
      rw [valV_neg this]
      exact valV_mem nd'.2 h
theorem DI.at_ {kvs : List (Key × V)} {f : IF} (h : DI kvs f) {p : Key × V} (hp : p ∈ kvs) : ∃ i x : Int, p = (Sum.inl i, V.int x) ∧ f i = some x := by
  obtain ⟨i, x, rfl⟩ := h.ks p hp
  have e := valV_mem h.nd hp
  rw [h.val] at e
  cases e2 : f i with
  | none => rw [e2] at e; cases e
  | some y => rw [e2] at e; cases e; exact ⟨i, _, rfl, e2⟩
theorem DI.mem {kvs : List (Key × V)} {f : IF} (h : DI kvs f) (i : Int) : (Sum.inl i : Key) ∈ kvs.map (·.1) ↔ (f i).isSome = true := by
  constructor
  · intro hm
    obtain ⟨p, hp, e⟩ := List.mem_map.mp hm
    obtain ⟨j, x, rfl, e2⟩ := h.at_ hp
    have e : (Sum.inl j : Key) = Sum.inl i := e
    cases e
    rw [e2]; rfl
  · intro hs
    obtain ⟨x, e⟩ := Option.isSome_iff_exists.mp hs
    exact valV_in (v := .int x) (by rw [h.val, e]; rfl)
theorem DI.put {kvs : List (Key × V)} {f : IF} (h : DI kvs f) (i x : Int) : DI (putK kvs (Sum.inl i) (.int x)) (HK.put f i x) := by
  refine ⟨?_, fun p hp => ?_, fun j => ?_⟩
  · cases e : valV kvs (Sum.inl i) with
    | none => exact nd_putK _ h.nd e
    | some v =>
      unfold putK
      rw [valV_any, e]
      simp only [Option.isSome_some, if_true]
      have : (kvs.map fun kv => if kv.1 = (Sum.inl i : Key) then (kv.1, V.int x) else kv).map (·.1) = kvs.map (·.1) := by
        rw [List.map_map]
        exact List.map_congr_left fun p _ => by
          show (if p.1 = (Sum.inl i : Key) then (p.1, V.int x) else p).1 = p.1
          split <;> rfl
      rw [this]; exact h.nd
  · unfold putK at hp
    split at hp
    · obtain ⟨q, hq, rfl⟩ := List.mem_map.mp hp
      obtain ⟨j, y, rfl⟩ := h.ks q hq
      by_cases e : (Sum.inl j : Key) = Sum.inl i
      · exact ⟨j, x, by simp only [e, if_true]⟩
      · exact ⟨j, y, by simp only [e, if_false]⟩
    · rcases List.mem_append.mp hp with hp | hp
      · exact h.ks p hp
      · exact ⟨i, x, List.mem_singleton.mp hp⟩
  · rw [valV_put, h.val]
    unfold HK.put
    by_cases e : j = i
    · subst e; simp
    · simp [e]
theorem DI.one (root : Int) : DI (mergeK [] [(Sum.inl root, V.int 0)]) (ini root) := by
  have h0 : DI [] (fun _ => none) := ⟨List.nodup_nil, fun p hp => (by cases hp), fun i => rfl⟩
  exact h0.put root 0
theorem DI.same {ks ls : List (Key × V)} {f : IF} (h : DI ks f) (g : DI ls f) : ks.length = ls.length ∧ ∀ p ∈ ks, valV ls p.1 = some p.2 ∧ flatB p.2 = true := by
  constructor
  · have : (ks.map (·.1)).Perm (ls.map (·.1)) := (List.perm_ext_iff_of_nodup h.nd g.nd).mpr fun k => by
      cases k with
      | inl i => rw [h.mem, g.mem]
      | inr s =>
        constructor
        · intro hm
          obtain ⟨p, hp, e⟩ := List.mem_map.mp hm
          obtain ⟨j, x, rfl⟩ := h.ks p hp
          cases e
        · intro hm
          obtain ⟨p, hp, e⟩ := List.mem_map.mp hm
          obtain ⟨j, x, rfl⟩ := g.ks p hp
          cases e
    have := this.length_eq
    rwa [List.length_map, List.length_map] at this
  · intro p hp
    obtain ⟨i, x, rfl, e⟩ := h.at_ hp
    exact ⟨by show valV ls (Sum.inl i) = _; rw [g.val, e]; rfl, rfl⟩
theorem DI.pair {kvs : List (Key × V)} {f : IF} (h : DI kvs f) {v x : Int} (e : f v = some x) : (Sum.inl v, V.int x) ∈ kvs := by
  have := (h.mem v).mpr (by rw [e]; rfl)
  obtain ⟨pp, hpp, ep⟩ := List.mem_map.mp this
  obtain ⟨j, z, rfl, ej⟩ := h.at_ hpp
  cases ep
  rw [e] at ej
  cases ej
  exact hpp
theorem rnd_take {S : IF → IF} {rs : List R4} {g : IF} {j : Nat} {r : R4} (h : rs[j]? = some r) : rnd S (rs.take (j + 1)) g = rlx (S (rnd S (rs.take j) g)) (rnd S (rs.take j) g) r := by
  have : rs.take (j + 1) = rs.take j ++ [r] := by rw [List.take_add_one, h]; rfl
  rw [this]
  unfold rnd
  rw [List.foldl_append]
  rfl
/-! ### a good net is one -/
def pr (r : R4) : List Int := [r.s, r.e]
theorem pairs_map (rs : List R4) : (rs.map R4.d).map pairD = rs.map pr := by rw [List.map_map]; rfl
abbrev nt (m : PyData) (ds : List PyData) : PyData := .tuple [m, .tuple ds]
theorem lex_fore {a b : R4} (h : a.lt b) : HT.lexLt (pr a) (pr b) = true := by
  have h : a.s < b.s ∨ (a.s = b.s ∧ a.e < b.e) := h
  simp only [pr, HT.lexLt]
  rcases h with h | ⟨h, h2⟩
  · rw [if_neg (by omega)]
    exact decide_eq_true (by omega)
  · rw [if_pos h, if_neg (by omega)]
    exact decide_eq_true (by omega)
/-- a good net is one -/
theorem road_yes {n : Int} {r : R4} (h : RoadOk n r) : isRoadD n r.d = true := by
  obtain ⟨h1, h2, h3, h4, h5, h6, h7, h8, h9⟩ := h
  have a1 : r.s ≤ n - 1 := by omega
  have a2 : r.e ≤ n - 1 := by omega
  simp [R4.d, isRoadD, withinD, neD, h1, a1, h3, a2, h5, h6, h7, h8, h9]
theorem net_yes {n : Int} {rs : List R4} (G : Good n rs) : isNetD (nt (.int n) (rs.map R4.d)) = true := by
  show ((decide (1 ≤ n) && decide (n ≤ 12)) && (((rs.map R4.d).all (isRoadD n)) && risesB ((rs.map R4.d).map pairD))) = true
  rw [decide_eq_true G.n1, decide_eq_true G.n2, pairs_map]
  have h1 : (rs.map R4.d).all (isRoadD n) = true := by
    rw [List.all_map, List.all_eq_true]
    exact fun r hr => road_yes (G.ok r hr)
  have h2 : risesB (rs.map pr) = true := risesB_yes fun j hj => by
    rw [List.length_map] at hj
    have hp := List.pairwise_iff_getElem.mp G.up j (j + 1) (by omega) (by omega) (by omega)
    have e1 : (rs.map pr).getD j [] = pr rs[j] := by simp [List.getD_eq_getElem?_getD, List.getElem?_eq_getElem (show j < rs.length by omega)]
    have e2 : (rs.map pr).getD (j + 1) [] = pr rs[j + 1] := by simp [List.getD_eq_getElem?_getD, List.getElem?_eq_getElem (show j + 1 < rs.length by omega)]
    rw [e1, e2]
    exact lex_fore hp
  rw [h1, h2]
  rfl
theorem NetAt.k0 {K : PySem.W.Frag} {H H' : Hp} {a : Addr} {n : Int} {rs : List R4} (h : NetAt K H a n rs) (k : K0 H H') : NetAt K H' a n rs := h.kt (k.kt (t := 0))
theorem NetAt.ans {K : PySem.W.Frag} {H : Hp} {a : Addr} {n : Int} {rs : List R4} (h : NetAt K H a n rs) (G : Good n rs) (hl : rs.length ≤ 156) : NetAns K H (.ref a) true := by
  obtain ⟨r, xs, o, h1, h2, hc, hd, h3⟩ := h
  refine .inl ⟨nt (.int n) (rs.map R4.d), .tup h1 (.cons (.int _) (.cons (.tup (h2) h3) .nil)), fun m rs' e => ?_, (net_yes G).symm⟩
  cases e
  rw [List.length_map]; omega
end HK

set_option Elab.async false
set_option linter.all false
set_option maxRecDepth 100000
set_option maxHeartbeats 2000000
namespace HK
open PySem PySem.Spec PyProof.Rows L2 GAl GxR
theorem K0.lock {H H' : Hp} {p : Addr} {u : HO} {od : Obj} (h : H p = some u) (nt : ∀ ps, u ≠ .tbl ps) (k : K0 (upd H p (.frz od u)) H') : K0 H (upd H' p u) := by
  refine ⟨fun b o e m => ?_, fun P hP => ?_, fun b e => ?_⟩
  · by_cases hb : b = p
    · subst hb
      rw [h] at e
      cases e
      exact upd_same
    · rw [upd_ne hb]
      exact k.oth b o (by rw [upd_ne hb]; exact e) m
  · obtain ⟨ps, e, ht⟩ := hP
    have hb : P ≠ p := fun z => by
      rw [z, h] at e
      exact nt ps (Option.some.inj e)
    obtain ⟨ps', e', ht'⟩ := k.tab P ⟨ps, by rw [upd_ne hb]; exact e, ht⟩
    exact ⟨ps', by rw [upd_ne hb]; exact e', ht'⟩
  · by_cases hb : b = p
    · rw [hb, upd_same] at e; cases e
    · rw [upd_ne hb] at e
      have := k.dom b e
      rwa [upd_ne hb] at this
section
variable {P : Program} {w : World} {K : PySem.W.Frag} {mg : Str → Option Value} {base : Heap}
def spIsPlace (K : PySem.W.Frag) : Sp := fun vs H Q _ => ∃ (a : Addr) (n : Int) (rs : List R4) (v : Int), vs = [.ref a, .int v] ∧ NetAt K H a n rs ∧ Q (.bl (decide (0 ≤ v) && decide (v ≤ n - 1))) H
def spNeedNet (K : PySem.W.Frag) (Pn Pr : Addr) : Sp := fun vs H Q _ => ∃ (a : Addr) (n : Int) (rs : List R4), vs = [.ref a] ∧ NetAt K H a n rs ∧ Good n rs ∧ rs.length ≤ 156 ∧ TabG H Pn ∧ TabG H Pr ∧ ∀ H', K0 H H' → Q .non H'
def spNeedPlace (K : PySem.W.Frag) : Sp := fun vs H Q _ => ∃ (a : Addr) (n : Int) (rs : List R4) (v : Int), vs = [.ref a, .int v] ∧ NetAt K H a n rs ∧ 0 ≤ v ∧ v < n ∧ Q .non H
theorem road_at {H : Hp} {xs : List V} {rs : List R4} {j : Nat} {x : V} (h3 : Roads K H xs rs) (hx : xs[j]? = some x) : ∃ (t : R4) (q1 : Addr), rs[j]? = some t ∧ x = .ref q1 ∧ SqT K H q1 t.vs := by
  obtain ⟨d, e1, e2⟩ := dpAll_get h3 hx
  obtain ⟨t, rfl, hrd⟩ : ∃ t : R4, d = t.d ∧ rs[j]? = some t := by
    rw [List.getElem?_map] at e1
    cases e3 : rs[j]? with
    | none => rw [e3] at e1; cases e1
    | some t => rw [e3] at e1; cases e1; exact ⟨t, rfl, rfl⟩
  obtain ⟨q1, rfl, hs⟩ := dp_r4 e2
  exact ⟨t, q1, hrd, rfl, hs⟩
theorem dget {H : Hp} {p : Addr} {kvs : List (Key × V)} {g : IF} {v x : Int} (hk : H p = some (.dK kvs)) (hD : DI kvs g) (e : g v = some x) : DGet H p (.int v) (some (.int x)) := by
  have := DGet.k (k := Sum.inl v) hk
  rw [hD.val, e] at this
  exact this
theorem inV_mem {i : Int} {js : List Int} (h : i ∈ js) : inV (.int i) (js.map V.int) = true := by
  unfold inV
  rw [List.any_map, List.any_eq_true]
  exact ⟨i, h, by simp [eqV]⟩
theorem upd_back {H : Hp} {p : Addr} {o : HO} (h : H p = some o) : upd H p o = H := by
  funext b
  by_cases e : b = p
  · rw [e, upd_same, h]
  · rw [upd_ne e]
theorem sqT_lock {H : Hp} {a p : Addr} {xs : List V} {kvs : List (Key × V)} {o : HO} (h : SqT K H a xs) (hp : H p = some (.dK kvs)) : SqT K (upd H p o) a xs := by
  rcases h with (h | ⟨o', h⟩) | h
  · exact .inl (.inl (by rw [upd_ne (ne_of h hp (fun z => by cases z))]; exact h))
  · exact .inl (.inr ⟨o', by rw [upd_ne (ne_of h hp (fun z => by cases z))]; exact h⟩)
  · exact .inr h
end
end HK

set_option Elab.async false
set_option linter.all false
set_option maxRecDepth 100000
set_option maxHeartbeats 4000000
namespace HK
open PySem PySem.Spec PyProof.Rows L2 GAl GxR
open Evl (pss_cut)
theorem dgetR {H : Hp} {p : Addr} {kvs : List (Key × V)} {g : IF} (hk : Rd H p (.dK kvs)) (hD : DI kvs g) (v : Int) : DGet H p (.int v) ((g v).map V.int) := .inl ⟨kvs, Sum.inl v, hk, rfl, by rw [hD.val]⟩
theorem K0.rd {H H' : Hp} {p : Addr} {kvs : List (Key × V)} (k : K0 H H') (h : Rd H p (.dK kvs)) : Rd H' p (.dK kvs) := by
  rcases h with h | ⟨o, h⟩
  · exact .inl (k.oth p _ h (fun _ z => by cases z))
  · exact .inr ⟨o, k.oth p _ h (fun _ z => by cases z)⟩
section
variable {P : Program} {w : World} {K : PySem.W.Frag} {mg : Str → Option Value} {base : Heap}
theorem tabG_lock {H : Hp} {p : Addr} {u o : HO} {Pp : Addr} (h : H p = some u) (nt : ∀ ps, u ≠ .tbl ps) (hT : TabG H Pp) : TabG (upd H p o) Pp := by
  obtain ⟨ps, e, ht⟩ := hT
  exact ⟨ps, by rw [upd_ne (fun z => by rw [z, h] at e; exact nt ps (Option.some.inj e))]; exact e, ht⟩
theorem netAt_lock {H : Hp} {a p : Addr} {n : Int} {rs : List R4} {kvs : List (Key × V)} {od : Obj} (h : NetAt K H a n rs) (hp : H p = some (.dK kvs)) : NetAt K (upd H p (.frz od (.dK kvs))) a n rs := by
  obtain ⟨r, xs, o, h1, h2, hc, hd, h3⟩ := h
  refine ⟨r, xs, o, sqT_lock h1 hp, sqT_lock h2 hp, hc, hd, ?_⟩
  clear h1 h2
  unfold Roads at h3 ⊢
  induction rs generalizing xs with
  | nil => cases h3; exact .nil
  | cons r rs ih =>
    cases h3 with
    | cons a b =>
      refine .cons ?_ (ih _ b)
      obtain ⟨q, rfl, h⟩ := dp_r4 (r := r) a
      exact r4_dp (r := r) (sqT_lock h hp)
end
end HK

set_option Elab.async false
set_option linter.all false
set_option maxRecDepth 100000
set_option maxHeartbeats 4000000
namespace HK
open PySem PySem.Spec PyProof.Rows L2 GAl GxR
open Evl (pss_cut)
abbrev sBlend : Stmt := topS 24
abbrev N_scBlend : List Str := ["cell", "place", "low", "high", "last"]
theorem scBlend : FnScope N_scBlend ["cell", "place"] (defScope sBlend) := ⟨rfl, rfl, rfl, by decide +kernel, rfl, by decide +kernel, by decide +kernel⟩
abbrev sDraw : Stmt := topS 25
abbrev N_scDraw : List Str := ["tray", "many", "place", "cell", "drawn"]
theorem scDraw : FnScope N_scDraw ["tray", "many"] (defScope sDraw) := ⟨rfl, rfl, rfl, by decide +kernel, rfl, by decide +kernel, by decide +kernel⟩
/-- the tray: the script, the next place (at most b), what is left of the number -/
structure Tray (K : PySem.W.Frag) (H : Hp) (t s : Addr) (ns : List Int) (b : Int) : Prop where
  v : ∃ p v : Int, H t = some (.lst [.ref s, .int p, .int v]) ∧ 0 ≤ p ∧ 0 ≤ v ∧ p ≤ b
  scr : Scr K t H s ns
section
variable {P : Program} {w : World} {K : PySem.W.Frag} {mg : Str → Option Value} {base : Heap}
theorem Tray.le {H : Hp} {t s : Addr} {ns : List Int} {b c : Int} (h : Tray K H t s ns b) (l : b ≤ c) : Tray K H t s ns c := by
  obtain ⟨⟨p, v, e, h1, h2, h3⟩, q⟩ := h
  exact ⟨⟨p, v, e, h1, h2, by omega⟩, q⟩
theorem Tray.k0 {H H' : Hp} {t s : Addr} {ns : List Int} {b : Int} (h : Tray K H t s ns b) (k : K0 H H') : Tray K H' t s ns b := by
  obtain ⟨⟨p, v, e, r⟩, q⟩ := h
  exact ⟨⟨p, v, k.oth t _ e (fun _ z => by cases z), r⟩, q.kt k.kt⟩
theorem Tray.ne {H : Hp} {t s x : Addr} {ns : List Int} {b : Int} (h : Tray K H t s ns b) (n : H x = none) : x ≠ t := fun z => by
  obtain ⟨_, _, e, _⟩ := h.v
  rw [z, e] at n; cases n
/-- an object of the law's own, new since H, is written -/
theorem Tray.mut {H H' : Hp} {t s x : Addr} {ns : List Int} {b b' : Int} {o : HO} (h : Tray K H' t s ns b) (h0 : Tray K H t s ns b') (k : Kt t H H') (n : H x = none) : Tray K (upd H' x o) t s ns b := by
  obtain ⟨⟨p, v, e, r⟩, q⟩ := h
  exact ⟨⟨p, v, by rw [upd_ne (h0.ne n).symm]; exact e, r⟩, h0.scr.kt (k.mut n)⟩
theorem ok_blend {f : Addr} {fd : FuncData} (F : Fun K "_law_e_blend" "_law_e_blend" sBlend f fd) : FnOk P w K mg base CX0 1 f fd ["cell", "place"] (fun vs H Q _ => ∃ cell place : Int, vs = [.int cell, .int place] ∧ 0 ≤ place ∧ place ≤ 1000000000 ∧ ∀ v : Int, 0 ≤ v → Q (.int v) H) := by
  refine F.ok scBlend (fun vs H Q E h => ?_) (fun cdv A outer s H vs Q E hr h => ?_)
  · obtain ⟨a, b, rfl, _⟩ := h
    rfl
  · obtain ⟨cell, place, rfl, hp, hp2, q⟩ := h
    refine ⟨_, (pss_cons (ps_if (pt_cmpR op_ge (pv 0) (pe_op op_pow pe_int pe_int) (nomark _)) (pss_one (ps_ret (pv 0))) pss_nil)
      (pss_cut (ps_set (i := 2) scBlend.nd rfl (.inl rfl) (pe_op op_mod (pe_op op_add (pe_op op_add (pe_op op_mul (pe_op op_mod (pv 0) pe_int) pe_int) (pe_op op_mul (pv 1) pe_int)) pe_int) pe_int))
      (pss_cut (ps_set (i := 3) scBlend.nd rfl (.inl rfl) (pe_op op_mod (pe_op op_add (pe_op op_add (pe_op op_add (pe_op op_mul (pv 2) (pv 2)) (pe_op op_mul pe_int (pv 2))) (pe_op op_mul (pv 1) (pv 1))) pe_int) pe_int))
      (pss_cut (ps_set (i := 4) scBlend.nd rfl (.inl rfl) (pe_op op_mod (pe_op op_add (pe_op op_add (pe_op op_mul (pv 3) (pv 3)) (pe_op op_mul pe_int (pv 1))) (pv 2)) pe_int))
      (pss_one (ps_ret (pe_op op_add (pe_op op_mul (pv 3) pe_int) (pv 4)))))))), ?_⟩
    refine ⟨.int cell, rfl, 10, 18, rfl, rfl, ⟨by decide, by decide, by decide⟩, cell, _, rfl, rfl, _, rfl, ite2 (fun e => ?_) (fun e => ?_)⟩
    · refine ⟨.int cell, rfl, q cell ?_⟩
      have h1 : (10 : Int) ^ (18 : Int).toNat ≤ cell := of_decide_eq_true e
      have h2 : (0 : Int) ≤ (10 : Int) ^ (18 : Int).toNat := by decide
      omega
    · refine ⟨fun σ' H' => ∃ m : Int, σ' = [some (.int cell), some (.int place), some (.int m), none, none] ∧ H' = H ∧ 0 ≤ m ∧ m < 2147483497, ?_, ?_⟩
      · exact ⟨.int cell, rfl, cell, 2147483549, rfl, rfl, (show (0 : Int) < 2147483549 by decide), _, 33797, rfl, rfl, mulR (by decide) (by decide), .int place, rfl, place, 104729, rfl, rfl, mulR (by decide) (by decide), _, _, rfl, rfl, _, 29, rfl, rfl, _, 2147483497, rfl, rfl, (show (0 : Int) < 2147483497 by decide),
          _, rfl, rfl, Int.emod_nonneg _ (by decide), Int.emod_lt_of_pos _ (by decide)⟩
      rintro σ' H' ⟨m1, rfl, rfl, b1, b2⟩
      refine ⟨fun σ' H'' => ∃ m : Int, σ' = [some (.int cell), some (.int place), some (.int m1), some (.int m), none] ∧ H'' = H' ∧ 0 ≤ m ∧ m < 2147483489, ?_, ?_⟩
      · exact ⟨.int m1, rfl, .int m1, rfl, m1, m1, rfl, rfl, mulL (by omega) (by omega), .int m1, rfl, 5077, m1, rfl, rfl, mulL (by decide) (by decide), _, _, rfl, rfl, .int place, rfl, .int place, rfl, place, place, rfl, rfl, mulL (by omega) (by omega), _, _, rfl, rfl, _, 2, rfl, rfl, _, 2147483489, rfl, rfl, (show (0 : Int) < 2147483489 by decide),
          _, rfl, rfl, Int.emod_nonneg _ (by decide), Int.emod_lt_of_pos _ (by decide)⟩
      rintro σ' H'' ⟨m2, rfl, rfl, c1, c2⟩
      refine ⟨fun σ' H' => ∃ m : Int, σ' = [some (.int cell), some (.int place), some (.int m1), some (.int m2), some (.int m)] ∧ H' = H'' ∧ 0 ≤ m, ?_, ?_⟩
      · exact ⟨.int m2, rfl, .int m2, rfl, m2, m2, rfl, rfl, mulL (by omega) (by omega), .int place, rfl, 911, place, rfl, rfl, mulL (by decide) (by decide), _, _, rfl, rfl, .int m1, rfl, _, m1, rfl, rfl, _, 2147483477, rfl, rfl, (show (0 : Int) < 2147483477 by decide),
          _, rfl, rfl, Int.emod_nonneg _ (by decide)⟩
      rintro σ' H' ⟨m3, rfl, rfl, d1⟩
      refine ⟨.int m2, rfl, m2, 2147483477, rfl, rfl, mulL (by omega) (by omega), .int m3, rfl, _, m3, rfl, rfl, ?_⟩
      exact q _ (by omega)
def spDraw (K : PySem.W.Frag) : Sp := fun vs H Q _ => ∃ (t sc : Addr) (many : Int) (ns : List Int) (b : Int), vs = [.ref t, .int many] ∧ Tray K H t sc ns b ∧ b ≤ 1000000 ∧ 0 < many ∧ many ≤ 100000000000000000001 ∧
  ∀ (d : Int) (H' : Hp), 0 ≤ d → d < many → Kt t H H' → Tray K H' t sc ns (b + 1) → Q (.int d) H'
theorem ok_draw {f : Addr} {fd : FuncData} {f_blend : Addr} {fd_blend : FuncData} (F : Fun K "_law_e_draw" "_law_e_draw" sDraw f fd) (k_blend : PySem.W.keepIn K (.ref f_blend) = true) (b_blend : Binds K fd_blend ["cell", "place"] []) (g_blend : mg "_law_e_blend" = some (.ref f_blend)) (G_blend : FnOk P w K mg base CX0 1 f_blend fd_blend ["cell", "place"] (fun vs H Q _ => ∃ cell place : Int, vs = [.int cell, .int place] ∧ 0 ≤ place ∧ place ≤ 1000000000 ∧ ∀ v : Int, 0 ≤ v → Q (.int v) H)) (m_len : mg "len" = none) : FnOk P w K mg base CX0 2 f fd ["tray", "many"] (spDraw K) := by
  refine F.ok scDraw (fun vs H Q E h => ?_) (fun cdv A outer s H vs Q E hr h => ?_)
  · obtain ⟨a, b, c, ns, b, rfl, _⟩ := h
    rfl
  · obtain ⟨t, sc, many, ns, b, rfl, ⟨⟨p, v, ht, hp, hv, hpb⟩, hScr⟩, hb, hm, hm2, q⟩ := h
    have hS := hScr.sq
    have hu := hu_of hr
    refine ⟨_, (pss_cut (ps_if (pt_cmpR op_lt (pe_ix ix_list (pv 0) pe_int (fun _ _ => rfl)) (pv 1) (nomark _)) (pss_cons (ps_set (i := 2) scDraw.nd rfl (.inl rfl) (pe_ix ix_list (pv 0) pe_int (fun _ _ => rfl)))
      (pss_cons (ps_set (i := 3) scDraw.nd rfl (.inl rfl) (pe_op op_add (pe_op op_mul pe_int (pv 2)) pe_int))
      (pss_cut (ps_if (pt_cmpR op_lt (pv 2) (pe_callB call_len_seq (by rfl) m_len PySem.boot_len (pa_cons (pe_ix ix_list (pv 0) pe_int (fun _ _ => rfl)) pa_nil)) (nomark _)) (pss_one (ps_set (i := 3) scDraw.nd rfl (.inl rfl) (pe_ix ix_list (pe_ix ix_list (pv 0) pe_int (fun _ _ => rfl)) (pv 2) (fun _ _ => rfl)))) (pss_one (ps_if (pt_cmpR op_gt (pe_callB call_len_seq (by rfl) m_len PySem.boot_len (pa_cons (pe_ix ix_list (pv 0) pe_int (fun _ _ => rfl)) pa_nil)) pe_int (nomark _)) (pss_one (ps_set (i := 3) scDraw.nd rfl (.inl rfl) (pe_op op_add (pe_op op_mod (pe_ix ix_list (pe_ix ix_list (pv 0) pe_int (fun _ _ => rfl)) (pe_op op_mod (pe_op op_mul (pv 2) pe_int) (pe_callB call_len_seq (by rfl) m_len PySem.boot_len (pa_cons (pe_ix ix_list (pv 0) pe_int (fun _ _ => rfl)) pa_nil))) (fun _ _ => rfl)) pe_int) (pe_op op_mul (pv 2) pe_int)))) pss_nil)))
      (pss_cons (ps_asg (pe_op op_add (pv 2) pe_int) (pg_sub (pv 0) pe_int set_list))
      (pss_one (ps_asg (pe_call G_blend (hr.mono (by decide)) (by rfl) g_blend k_blend b_blend .nil pass0 (pa_cons (pv 3) (pa_cons (pv 2) pa_nil))) (pg_sub (pv 0) pe_int set_list))))))) pss_nil)
      (pss_cons (ps_set (i := 4) scDraw.nd rfl (.inl rfl) (pe_op op_mod (pe_ix ix_list (pv 0) pe_int (fun _ _ => rfl)) (pv 1)))
      (pss_cons (ps_asg (pe_op op_fdivW (pe_ix ix_list (pv 0) pe_int (fun _ _ => rfl)) (pv 1)) (pg_sub (pv 0) pe_int set_list))
      (pss_one (ps_ret (pv 4)))))), ?_⟩
    refine ⟨fun σ' H' => ∃ y2 y3 y4 p' v', σ' = [some (.ref t), some (.int many), y2, y3, y4] ∧ Kt t H H' ∧ H' t = some (.lst [.ref sc, .int p', .int v']) ∧ 0 ≤ p' ∧ 0 ≤ v' ∧ p' ≤ b + 1, ?_, ?_⟩
    · refine ⟨.ref t, rfl, t, _, 2, .int v, rfl, rfl, .inl (.inl ht), atI_nat (j := 2) rfl, .int many, rfl, v, many, rfl, rfl, _, rfl, ite2 (fun e => ?_) (fun e => ?_)⟩
      · refine ⟨.ref t, rfl, t, _, 1, .int p, rfl, rfl, .inl (.inl ht), atI_nat (j := 1) rfl, .int p, rfl, 13, p, rfl, rfl, mulL (by decide) (by decide), _, 1, rfl, rfl, ?_⟩
        refine ⟨fun σ' H' => ∃ c : Int, σ' = [some (.ref t), some (.int many), some (.int p), some (.int c), none] ∧ K0 H H', ?_, ?_⟩
        · refine ⟨.int p, rfl, .ref t, rfl, t, _, 0, .ref sc, rfl, rfl, .inl (.inl ht), atI_nat (j := 0) rfl, sc, _, rfl, .inl hS, p, _, rfl, rfl, _, rfl, ite2 (fun e2 => ?_) (fun e2 => ?_)⟩
          · have hlt : p < ((ns.map V.int).length : Int) := of_decide_eq_true e2
            rw [List.length_map] at hlt
            obtain ⟨j, rfl⟩ := Int.eq_ofNat_of_zero_le hp
            have hj : j < ns.length := by omega
            refine ⟨.ref t, rfl, t, _, 0, .ref sc, rfl, rfl, .inl (.inl ht), atI_nat (j := 0) rfl, _, rfl, sc, _, _, .int ns[j], rfl, rfl, hS, atI_nat (by rw [List.getElem?_map, List.getElem?_eq_getElem hj]; rfl), ?_⟩
            exact ⟨_, rfl, K0.refl _⟩
          · refine ⟨.ref t, rfl, t, _, 0, .ref sc, rfl, rfl, .inl (.inl ht), atI_nat (j := 0) rfl, sc, _, rfl, .inl hS, _, 0, rfl, rfl, _, rfl, ite2 (fun e3 => ?_) (fun e3 => ⟨_, rfl, K0.refl _⟩)⟩
            have hl' : 0 < ((ns.map V.int).length : Int) := of_decide_eq_true e3
            have hix : ∃ k : Nat, p * 5 % ((ns.map V.int).length : Int) = (k : Int) ∧ k < ns.length := by
              have h1 := Int.emod_nonneg (p * 5) (show ((ns.map V.int).length : Int) ≠ 0 by omega)
              have h2 := Int.emod_lt_of_pos (p * 5) hl'
              obtain ⟨k, hk⟩ := Int.eq_ofNat_of_zero_le h1
              rw [List.length_map] at h2
              refine ⟨k, hk, ?_⟩
              rw [List.length_map] at hk
              omega
            obtain ⟨k, hk, hkl⟩ := hix
            refine ⟨.ref t, rfl, t, _, 0, .ref sc, rfl, rfl, .inl (.inl ht), atI_nat (j := 0) rfl, .int p, rfl, p, 5, rfl, rfl, mulR (by decide) (by decide), .ref t, rfl, t, _, 0, .ref sc, rfl, rfl, .inl (.inl ht), atI_nat (j := 0) rfl, sc, _, rfl, .inl hS, _, _, rfl, rfl, hl',
              sc, _, _, .int ns[k], rfl, rfl, hS, (by rw [hk]; exact atI_nat (by rw [List.getElem?_map, List.getElem?_eq_getElem hkl]; rfl)), _, _, rfl, rfl, (show (0 : Int) < 888888883 by decide), .int p, rfl, p, 5000000, rfl, rfl, mulR (by decide) (by decide), _, _, rfl, rfl, ?_⟩
            exact ⟨_, rfl, K0.refl _⟩
        · rintro σ' H' ⟨c, rfl, k⟩
          have ht' := k.oth t _ ht (fun _ z => by cases z)
          refine ⟨.int p, rfl, p, 1, rfl, rfl, .ref t, rfl, t, _, 1, 1, rfl, rfl, ht', rfl, ?_⟩
          refine ⟨.int c, rfl, .int p, rfl, c, p, rfl, hp, by omega, fun v' hv' => ?_⟩
          refine ⟨.ref t, rfl, t, _, 2, 2, rfl, rfl, upd_same, rfl, ?_⟩
          rw [upd_upd]
          have kk : Kt t H (upd H' t (.lst [.ref sc, .int (p + 1), .int v'])) := (k.kt).trans (Kt.set ht')
          exact ⟨_, _, _, p + 1, v', rfl, kk, upd_same, by omega, hv', by omega⟩
      · exact ⟨_, _, _, p, v, rfl, Kt.refl _ _, ht, hp, hv, by omega⟩
    · rintro σ' H' ⟨y2, y3, y4, p', v', rfl, k, ht', hp', hv', hpb'⟩
      refine ⟨.ref t, rfl, t, _, 2, .int v', rfl, rfl, .inl (.inl ht'), atI_nat (j := 2) rfl, .int many, rfl, v', many, rfl, rfl, hm, ?_⟩
      refine ⟨.ref t, rfl, t, _, 2, .int v', rfl, rfl, .inl (.inl ht'), atI_nat (j := 2) rfl, .int many, rfl, v', many, rfl, rfl, ?_, .ref t, rfl, t, _, 2, 2, rfl, rfl, ht', rfl, ?_⟩
      · exact wide_div (b := 70) hm (by omega) (by decide) (by decide)
      · refine ⟨_, rfl, q _ _ (Int.emod_nonneg _ (by omega)) (Int.emod_lt_of_pos _ hm) (k.trans (Kt.set ht')) ?_⟩
        exact ⟨⟨p', v' / many, upd_same, hp', Int.ediv_nonneg hv' (by omega), hpb'⟩, hScr.kt (k.trans (Kt.set ht'))⟩
end
end HK

set_option Elab.async false
set_option linter.all false
set_option maxRecDepth 100000
set_option maxHeartbeats 4000000
namespace HK
open PySem PySem.Spec PyProof.Rows L2 GAl GxR
open Evl (pss_cut)
abbrev sWaysL : Stmt := topS 26
abbrev N_scWaysL : List Str := ["tray", "n", "shape", "places", "place", "up", "at", "ahead"]
theorem scWaysL : FnScope N_scWaysL ["tray"] (defScope sWaysL) := ⟨rfl, rfl, rfl, by decide +kernel, rfl, by decide +kernel, by decide +kernel⟩
/-! ### ways up -/
def oV : Option Int → V
  | none => .non
  | some i => .int i
def upF (us : List (Option Int)) : IF := fun v => if 0 ≤ v then us.getD v.toNat none else none
/-- the way from a place up to the root -/
inductive Up (g : IF) : Int → List Int → Prop
  | top {v : Int} : g v = none → Up g v [v]
  | step {v u : Int} {l : List Int} : g v = some u → Up g u l → Up g v (v :: l)
structure Ways (us : List (Option Int)) : Prop where
  n1 : 1 ≤ us.length
  n8 : us.length ≤ 8
  rng : ∀ v : Int, some v ∈ us → 0 ≤ v ∧ v < us.length
  one : ∃ r : Nat, us[r]? = some none ∧ ∀ j : Nat, us[j]? = some none → j = r
  ends : ∀ v : Int, 0 ≤ v → v < us.length → ∃ l, Up (upF us) v l
def WaysAt (H : Hp) (p : Addr) (us : List (Option Int)) : Prop := ∃ o : Obj, H p = some (.frz o (.tup (us.map oV))) ∧ o.cls = .type "tuple" ∧ o.dict = none
theorem WaysAt.sq {K : PySem.W.Frag} {H : Hp} {p : Addr} {us : List (Option Int)} (h : WaysAt H p us) : SqT K H p (us.map oV) := by
  obtain ⟨o, h, _⟩ := h
  exact .inl (.inr ⟨o, h⟩)
theorem WaysAt.kt {t : Addr} {H H' : Hp} {p : Addr} {us : List (Option Int)} (h : WaysAt H p us) (k : Kt t H H') : WaysAt H' p us := by
  obtain ⟨o, h, r⟩ := h
  exact ⟨o, k.frz _ _ _ h, r⟩
theorem WaysAt.k0 {H H' : Hp} {p : Addr} {us : List (Option Int)} (h : WaysAt H p us) (k : K0 H H') : WaysAt H' p us := h.kt (k.kt (t := 0))
theorem ixN_at {n : Nat} {v : Int} (h0 : 0 ≤ v) (h1 : v < n) : ixN n v = some v.toNat := by
  unfold ixN
  rw [if_pos h0, if_pos (by omega)]
theorem upF_at {us : List (Option Int)} {v : Int} (h0 : 0 ≤ v) (h1 : v < us.length) : us[v.toNat]? = some (upF us v) := by
  unfold upF
  rw [if_pos h0, List.getD_eq_getElem?_getD, List.getElem?_eq_getElem (show v.toNat < us.length by omega)]
  rfl
theorem up_at {us : List (Option Int)} {v : Int} (h0 : 0 ≤ v) (h1 : v < us.length) : atI (us.map oV) v = some (oV (upF us v)) := by
  obtain ⟨j, rfl⟩ := Int.eq_ofNat_of_zero_le h0
  refine atI_nat ?_
  have := upF_at h0 h1
  rw [Int.toNat_natCast] at this
  rw [List.getElem?_map, this]
  rfl
/-- the places in the order in which they are drawn, and what is ahead of the first k of them -/
structure WInv (L : List Int) (us : List (Option Int)) (k : Nat) : Prop where
  len : us.length = L.length
  nd : L.Nodup
  mem : ∀ v, v ∈ L ↔ 0 ≤ v ∧ v < L.length
  at_ : ∀ (m : Nat) (v : Int), L[m]? = some v → (us[v.toNat]? = some none ∧ (m = 0 ∨ k ≤ m)) ∨ (∃ (a : Nat) (u : Int), a < m ∧ m < k ∧ L[a]? = some u ∧ us[v.toNat]? = some (some u))
theorem nodup_at {L : List Int} (nd : L.Nodup) {i j : Nat} {v : Int} (hi : L[i]? = some v) (hj : L[j]? = some v) : i = j := by
  obtain ⟨hi', ei⟩ := List.getElem?_eq_some_iff.mp hi
  obtain ⟨hj', ej⟩ := List.getElem?_eq_some_iff.mp hj
  refine Decidable.byContradiction fun ne => ?_
  have pw := List.pairwise_iff_getElem.mp nd
  rcases Nat.lt_or_gt_of_ne ne with l | l
  · exact pw i j hi' hj' l (by rw [ei, ej])
  · exact pw j i hj' hi' l (by rw [ei, ej])
theorem WInv.step {L : List Int} {us : List (Option Int)} {k a : Nat} {v u : Int} (h : WInv L us k) (hk : 1 ≤ k) (hv : L[k]? = some v) (ha : a < k) (hu : L[a]? = some u) : WInv L (us.set v.toNat (some u)) (k + 1) := by
  have hvm := (h.mem v).mp (List.mem_of_getElem? hv)
  refine ⟨by rw [List.length_set]; exact h.len, h.nd, h.mem, fun m x hx => ?_⟩
  have hxm := (h.mem x).mp (List.mem_of_getElem? hx)
  by_cases e : m = k
  · subst e
    rw [hv] at hx
    cases hx
    refine .inr ⟨a, u, ha, Nat.lt_succ_self _, hu, ?_⟩
    rw [List.getElem?_set_self (by rw [h.len]; omega)]
  · have hne : v.toNat ≠ x.toNat := fun z => e (nodup_at h.nd hx (by rw [hv]; congr 1; omega))
    rw [List.getElem?_set_ne hne]
    rcases h.at_ m x hx with ⟨h1, h2⟩ | ⟨a', u', h1, h2, h3, h4⟩
    · refine .inl ⟨h1, ?_⟩
      rcases h2 with h2 | h2
      · exact .inl h2
      · exact .inr (by omega)
    · exact .inr ⟨a', u', h1, by omega, h3, h4⟩
theorem WInv.ways {L : List Int} {us : List (Option Int)} (h : WInv L us L.length) (n1 : 1 ≤ L.length) (n8 : L.length ≤ 8) : Ways us := by
  have hat : ∀ j : Nat, j < us.length → ∃ m : Nat, L[m]? = some (j : Int) := fun j hj => by
    obtain ⟨m, hm, e⟩ := List.mem_iff_getElem.mp ((h.mem (j : Int)).mpr ⟨by omega, by rw [← h.len]; omega⟩)
    exact ⟨m, by rw [List.getElem?_eq_getElem hm, e]⟩
  have h0 : L[0]? = some L[0] := List.getElem?_eq_getElem (by omega)
  have m0 := (h.mem L[0]).mp (List.getElem_mem _)
  refine ⟨by rw [h.len]; exact n1, by rw [h.len]; exact n8, fun v hv => ?_, ⟨L[0].toNat, ?_, fun j hj => ?_⟩, ?_⟩
  · obtain ⟨j, hj⟩ := List.getElem?_of_mem hv
    have hjl := (List.getElem?_eq_some_iff.mp hj).1
    obtain ⟨m, hm⟩ := hat j hjl
    rcases h.at_ m _ hm with ⟨h1, _⟩ | ⟨a, u, _, _, h3, h4⟩
    · rw [Int.toNat_natCast, hj] at h1
      cases h1
    · rw [Int.toNat_natCast, hj] at h4
      cases h4
      rw [h.len]
      exact (h.mem v).mp (List.mem_of_getElem? h3)
  · rcases h.at_ 0 _ h0 with ⟨h1, _⟩ | ⟨a, u, h1, _⟩
    · exact h1
    · omega
  · have hjl := (List.getElem?_eq_some_iff.mp hj).1
    obtain ⟨m, hm⟩ := hat j hjl
    have hml := (List.getElem?_eq_some_iff.mp hm).1
    rcases h.at_ m _ hm with ⟨_, h2⟩ | ⟨a, u, _, _, _, h4⟩
    · have : m = 0 := by omega
      subst this
      rw [h0] at hm
      have := Option.some.inj hm
      omega
    · rw [Int.toNat_natCast, hj] at h4
      cases h4
  · have up : ∀ (m : Nat) (v : Int), L[m]? = some v → ∃ l, Up (upF us) v l := fun m => by
      induction m using Nat.strongRecOn with
      | ind m ih =>
        intro v hv
        have hvm := (h.mem v).mp (List.mem_of_getElem? hv)
        have e := upF_at hvm.1 (by rw [h.len]; exact hvm.2)
        rcases h.at_ m v hv with ⟨h1, _⟩ | ⟨a, u, h1, _, h3, h4⟩
        · exact ⟨_, .top (by rw [h1] at e; exact (Option.some.inj e).symm)⟩
        · obtain ⟨l, hl⟩ := ih a h1 u h3
          exact ⟨_, .step (by rw [h4] at e; exact (Option.some.inj e).symm) hl⟩
    intro v v0 v1
    obtain ⟨m, hm⟩ := hat v.toNat (by omega)
    rw [show ((v.toNat : Nat) : Int) = v by omega] at hm
    exact up m v hm
theorem pick4r {d a b c e m : Int} (h0 : 0 ≤ d) (h1 : d < 4) (ha : 0 ≤ a ∧ a < m) (hb : 0 ≤ b ∧ b < m) (hc : 0 ≤ c ∧ c < m) (he : 0 ≤ e ∧ e < m) : ∃ y : Int, atI [V.int a, .int b, .int c, .int e] d = some (.int y) ∧ 0 ≤ y ∧ y < m := by
  obtain ⟨k, rfl⟩ := Int.eq_ofNat_of_zero_le h0
  match k, h1 with
  | 0, _ => exact ⟨a, atI_nat rfl, ha⟩
  | 1, _ => exact ⟨b, atI_nat rfl, hb⟩
  | 2, _ => exact ⟨c, atI_nat rfl, hc⟩
  | 3, _ => exact ⟨e, atI_nat rfl, he⟩
  | k + 4, h => exact absurd h (by omega)
section
variable {P : Program} {w : World} {K : PySem.W.Frag} {mg : Str → Option Value} {base : Heap}
def spWaysL (K : PySem.W.Frag) : Sp := fun vs H Q _ => ∃ (t sc : Addr) (ns : List Int) (b : Int), vs = [.ref t] ∧ Tray K H t sc ns b ∧ b ≤ 900000 ∧
  ∀ (p : Addr) (us : List (Option Int)) (H' : Hp), Kt t H H' → Tray K H' t sc ns (b + 100) → H p = none → WaysAt H' p us → Ways us → Q (.ref p) H'
theorem ok_waysL {f : Addr} {fd : FuncData} {f_draw : Addr} {fd_draw : FuncData} (F : Fun K "_law_e_ways" "_law_e_ways" sWaysL f fd) (k_draw : PySem.W.keepIn K (.ref f_draw) = true) (b_draw : Binds K fd_draw ["tray", "many"] []) (g_draw : mg "_law_e_draw" = some (.ref f_draw)) (G_draw : FnOk P w K mg base CX0 2 f_draw fd_draw ["tray", "many"] (spDraw K)) (m_range : mg "range" = none) (m_tuple : mg "tuple" = none) : FnOk P w K mg base CX0 3 f fd ["tray"] (spWaysL K) := by
  refine F.ok scWaysL (fun vs H Q E h => ?_) (fun cdv A outer s H vs Q E hr h => ?_)
  · obtain ⟨a, b, ns, b, rfl, _⟩ := h
    rfl
  · obtain ⟨t, sc, ns, b, rfl, hT, hb, q⟩ := h
    have hu := hu_of hr
    refine ⟨_, (pss_cons (ps_set (i := 1) scWaysL.nd rfl (.inl rfl) (pe_op op_add pe_int (pe_call G_draw (hr.mono (by decide)) (by rfl) g_draw k_draw b_draw .nil pass0 (pa_cons (pv 0) (pa_cons pe_int pa_nil)))))
      (pss_cons (ps_set (i := 2) scWaysL.nd rfl (.inl rfl) (pe_call G_draw (hr.mono (by decide)) (by rfl) g_draw k_draw b_draw .nil pass0 (pa_cons (pv 0) (pa_cons pe_int pa_nil))))
      (pss_cons (ps_set (i := 3) scWaysL.nd rfl (.inl rfl) (pe_lst pa_nil))
      (pss_cut (ps_for PassesOwn.never rfl (pi_range1 (by rfl) m_range (pa_cons (pv 1) pa_nil)) (pg_name (i := 4) scWaysL.nd rfl (.inl rfl))
      (pss_one (ps_expr (pe_bm PySem.F.plainAttrs_list PySem.F.slot_list_insert PySem.F.type_list_insert mt_insert (pv 3) (pa_cons (pe_call G_draw (hr.mono (by decide)) (by rfl) g_draw k_draw b_draw .nil pass0 (pa_cons (pv 0) (pa_cons (pe_op op_add (pv 4) pe_int) pa_nil))) (pa_cons (pv 4) pa_nil))))))
      (pss_cons (ps_setLc (i := 5) (own := [("place", 4)]) (g := (gName 4)) (tt := tYes) (te := (tC .non)) rfl scWaysL.nd rfl rfl (sw_true rfl rfl rfl rfl) (pi_range1 (by rfl) m_range (pa_cons (pv 1) pa_nil)) (blkOk_by (N := N_scWaysL) (sc := defScope sWaysL) (by decide +kernel)) (fun _ _ _ _ _ => (pg_name (i := 4) scWaysL.nd rfl (.inl rfl))) (fun _ _ _ _ _ => pts_nil) (fun _ _ _ _ _ => pe_non))
      (pss_cut (ps_for PassesOwn.never rfl (pi_range2 (by rfl) m_range (pa_cons pe_int (pa_cons (pv 1) pa_nil))) (pg_name (i := 6) scWaysL.nd rfl (.inl rfl))
      (pss_cons (ps_set (i := 7) scWaysL.nd rfl (.inl rfl) (pe_ix ix_list (pe_lst (pa_cons (pe_call G_draw (hr.mono (by decide)) (by rfl) g_draw k_draw b_draw .nil pass0 (pa_cons (pv 0) (pa_cons (pv 6) pa_nil))) (pa_cons (pe_op op_sub (pv 6) pe_int) (pa_cons pe_int (pa_cons (pe_call G_draw (hr.mono (by decide)) (by rfl) g_draw k_draw b_draw .nil pass0 (pa_cons (pv 0) (pa_cons (pv 6) pa_nil))) pa_nil))))) (pv 2) (fun _ _ => rfl)))
      (pss_one (ps_asg (pe_ix ix_list (pv 3) (pv 7) (fun _ _ => rfl)) (pg_sub (pv 5) (pe_ix ix_list (pv 3) (pv 6) (fun _ _ => rfl)) set_list)))))
      (pss_one (ps_ret (pe_callTy call_tuple_fz (by rfl) m_tuple (by decide +kernel) (pa_cons (pv 5) pa_nil)))))))))), ?_⟩
    refine ⟨_, rfl, t, sc, 8, ns, b, rfl, hT, by omega, by omega, by omega, fun d1 H1 d10 d11 k1 T1 => ?_⟩
    refine ⟨_, _, rfl, rfl, ?_⟩
    refine ⟨_, rfl, t, sc, 4, ns, b + 1, rfl, T1, by omega, by omega, by omega, fun sh H2 s0 s1 k2 T2 => ?_⟩
    refine ⟨Nat.zero_le _, fun L0 nL0 => ?_⟩
    have n1 : 1 ≤ 1 + d1 := by omega
    have n8 : 1 + d1 ≤ 8 := by omega
    have k02 := k1.trans k2
    have T2' : Tray K H2 t sc ns (b + 2) := T2.le (by omega)
    obtain ⟨n, en⟩ : ∃ n : Int, n = 1 + d1 := ⟨_, rfl⟩
    rw [← en] at n1 n8
    have k3 : K0 H2 (upd H2 L0 (.lst [])) := K0.new nL0
    have T3 := T2'.k0 k3
    have hL0 : upd H2 L0 (.lst []) L0 = some (.lst (([] : List Int).map V.int)) := upd_same
    have nLH := k02.dom L0 nL0
    have k03 : Kt t H (upd H2 L0 (.lst [])) := k02.trans k3.kt
    generalize upd H2 L0 (.lst []) = H3 at k3 T3 hL0 k03
    have hLt : L0 ≠ t := hT.ne nLH
    -- places
    refine ⟨fun σ' H' => ∃ (y4 : Option V) (L : List Int), σ' = [some (.ref t), some (.int n), some (.int sh), some (.ref L0), y4, none, none, none] ∧ Kt t H H' ∧ Tray K H' t sc ns (b + 10) ∧ H' L0 = some (.lst (L.map V.int)) ∧ L.length = n.toNat ∧ L.Nodup ∧ ∀ v : Int, v ∈ L ↔ 0 ≤ v ∧ v < n, ?_, ?_⟩
    · refine ⟨_, rfl, n, by rw [en], by omega, by omega, for_range (lo := 0) (n := n.toNat) (fun i σ' H' => ∃ (y4 : Option V) (L : List Int), σ' = [some (.ref t), some (.int n), some (.int sh), some (.ref L0), y4, none, none, none] ∧ Kt t H H' ∧ Tray K H' t sc ns (b + 2 + i) ∧ H' L0 = some (.lst (L.map V.int)) ∧ L.length = i ∧ L.Nodup ∧ ∀ v : Int, v ∈ L ↔ 0 ≤ v ∧ v < i)
        ⟨none, [], by rw [en]; rfl, k03, T3.le (by omega), hL0, rfl, List.nodup_nil, fun v => ⟨fun z => by (cases z), fun z => by omega⟩⟩ (fun i σ' H' hi h => ?_) (fun σ' H' h => ?_)⟩
      · obtain ⟨y4, L, rfl, k4, T4, hL, ll, nd, mem⟩ := h
        refine ⟨_, rfl, .inl ⟨rfl, _, .inl (.inl hL)⟩, ?_⟩
        refine ⟨_, rfl, _, rfl, _, _, rfl, rfl, t, sc, (0 + (i : Int)) + 1, ns, b + 2 + i, rfl, T4, by omega, by omega, by omega, fun d H5 d0 d1 k5 T5 => ?_⟩
        have hL5 := k5.oth L0 _ hL hLt (fun _ z => by cases z)
        refine ⟨_, rfl, L0, L.map V.int, d, .int (0 + (i : Int)), rfl, rfl, hL5, Nat.lt_of_le_of_lt (m := 5000) (by rw [List.length_map]; omega) (by decide), d0, by omega, ?_⟩
        have pm : (L.take d.toNat ++ [0 + (i : Int)] ++ L.drop d.toNat).Perm ((0 + (i : Int)) :: L) := by
          rw [List.append_assoc]
          refine List.perm_middle.trans ?_
          show ((0 + (i : Int)) :: (L.take d.toNat ++ L.drop d.toNat)).Perm _
          rw [List.take_append_drop]
        refine ⟨_, L.take d.toNat ++ [0 + (i : Int)] ++ L.drop d.toNat, rfl, (k4.trans k5).mut nLH, (T5.le (by omega)).mut hT (k4.trans k5) nLH, by rw [List.map_append, List.map_append, List.map_take, List.map_drop]; exact upd_same, ?_, ?_, fun v => ?_⟩
        · rw [List.length_append, List.length_append, List.length_take, List.length_drop, List.length_singleton]; omega
        · refine pm.nodup_iff.mpr (List.nodup_cons.mpr ⟨fun z => ?_, nd⟩)
          have := (mem _).mp z
          omega
        · rw [pm.mem_iff, List.mem_cons, mem v]
          omega
      · obtain ⟨y4, L, rfl, k4, T4, hL, ll, nd, mem⟩ := h
        refine ⟨y4, L, rfl, k4, T4.le (by omega), hL, ll, nd, fun v => ?_⟩
        rw [mem v]
        omega
    rintro σ' H4 ⟨y4, L, rfl, k4, T4, hL, ll, nd, mem⟩
    -- up
    refine ⟨_, rfl, n, rfl, by omega, by omega, fun D nD => ?_⟩
    have hDt : D ≠ t := T4.ne nD
    refine lc_range (lo := 0) (n := n.toNat) (fun i H' => K0 H4 H' ∧ H' D = some (.lst ((List.replicate i (none : Option Int)).map oV))) ⟨K0.new nD, upd_same⟩ (fun i H' hi h => ?_) (fun H' h => ?_)
    · obtain ⟨k5, hD⟩ := h
      refine ⟨rfl, tyes ⟨_, hD, Nat.lt_of_le_of_lt (m := 5000) (by rw [List.length_map, List.length_replicate]; omega) (by decide), k5.mut nD, ?_⟩⟩
      rw [List.replicate_succ', List.map_append]
      exact upd_same
    obtain ⟨k5, hD⟩ := h
    have k45 := k4.trans k5.kt
    have T5 := T4.k0 k5
    have hL5 := k5.oth L0 _ hL (fun _ z => by cases z)
    have nDH := k4.dom D nD
    have W0 : WInv L (List.replicate n.toNat none) 1 := ⟨by rw [List.length_replicate, ll], nd, fun v => by rw [mem v, ll]; omega, fun m v hv => .inl ⟨by
      have := (mem v).mp (List.mem_of_getElem? hv)
      rw [List.getElem?_replicate, if_pos (by omega)], by omega⟩⟩
    have hLD : L0 ≠ D := ne_of_none hL nD
    have kD5 : K0 H4 H' := k5
    refine ⟨fun σ' H2 => ∃ (y4 y6 y7 : Option V) (us : List (Option Int)), σ' = [some (.ref t), some (.int n), some (.int sh), some (.ref L0), y4, some (.ref D), y6, y7] ∧ Kt t H H2 ∧ Tray K H2 t sc ns (b + 50) ∧ H2 D = some (.lst (us.map oV)) ∧ WInv L us L.length, ?_, ?_⟩
    · refine ⟨_, rfl, 1, n, rfl, ⟨by decide, by decide, by omega, by omega⟩, for_range (lo := 1) (n := (n - 1).toNat) (fun i σ' H2 => ∃ (y4 y6 y7 : Option V) (us : List (Option Int)), σ' = [some (.ref t), some (.int n), some (.int sh), some (.ref L0), y4, some (.ref D), y6, y7] ∧ Kt t H H2 ∧ Tray K H2 t sc ns (b + 10 + 2 * i) ∧ H2 D = some (.lst (us.map oV)) ∧ H2 L0 = some (.lst (L.map V.int)) ∧ WInv L us (1 + i))
        ⟨_, none, none, _, rfl, k45, T5.le (by omega), hD, hL5, W0⟩ (fun i σ' H2 hi h => ?_) (fun σ' H2 h => ?_)⟩
      · obtain ⟨y4, y6, y7, us, rfl, k6, T6, hD6, hL6, W6⟩ := h
        refine ⟨_, rfl, _, rfl, t, sc, 1 + (i : Int), ns, b + 10 + 2 * i, rfl, T6, by omega, by omega, by omega, fun e1 H7 e10 e11 k7 T7 => ?_⟩
        refine ⟨_, rfl, _, _, rfl, rfl, ?_⟩
        refine ⟨_, rfl, _, rfl, t, sc, 1 + (i : Int), ns, b + 10 + 2 * i + 1, rfl, T7, by omega, by omega, by omega, fun e2 H8 e20 e21 k8 T8 => ?_⟩
        have k68 := (k6.trans k7).trans k8
        have hD8 := k8.oth D _ (k7.oth D _ hD6 hDt (fun _ z => by cases z)) hDt (fun _ z => by cases z)
        have hL8 := k8.oth L0 _ (k7.oth L0 _ hL6 hLt (fun _ z => by cases z)) hLt (fun _ z => by cases z)
        refine ⟨by show 4 ≤ sizeLine; decide, fun l nl => ?_⟩
        have k9 : K0 H8 (upd H8 l (.lst [.int e1, .int (1 + (i : Int) - 1), .int 0, .int e2])) := K0.new nl
        have hD9 := k9.oth D _ hD8 (fun _ z => by cases z)
        have hL9 := k9.oth L0 _ hL8 (fun _ z => by cases z)
        have T9 := T8.k0 k9
        have k69 := k68.trans k9.kt
        obtain ⟨y, ey, y0, y1⟩ := pick4r (m := 1 + (i : Int)) s0 s1 ⟨e10, e11⟩ (show 0 ≤ 1 + (i : Int) - 1 ∧ 1 + (i : Int) - 1 < 1 + (i : Int) by omega) (show (0 : Int) ≤ 0 ∧ 0 < 1 + (i : Int) by omega) ⟨e20, e21⟩
        refine ⟨_, rfl, l, _, sh, .int y, rfl, rfl, .inl (.inl upd_same), ey, ?_⟩
        obtain ⟨ya, rfl⟩ := Int.eq_ofNat_of_zero_le y0
        have hya : ya < L.length := by omega
        have hk : 1 + i < L.length := by omega
        have ga : L[ya]? = some L[ya] := List.getElem?_eq_getElem hya
        have gk : L[1 + i]? = some L[1 + i] := List.getElem?_eq_getElem hk
        refine ⟨_, rfl, _, rfl, L0, _, _, .int L[ya], rfl, rfl, .inl (.inl hL9), atI_nat (j := ya) (by rw [List.getElem?_map, ga]; rfl), ?_⟩
        refine ⟨_, rfl, _, rfl, _, rfl, L0, _, _, .int L[1 + i], rfl, rfl, .inl (.inl hL9), (by rw [show (1 + (i : Int)) = ((1 + i : Nat) : Int) by omega]; exact atI_nat (by rw [List.getElem?_map, gk]; rfl)), ?_⟩
        have vm := (mem L[1 + i]).mp (List.getElem_mem _)
        have ul : us.length = L.length := W6.len
        refine ⟨D, _, _, _, rfl, rfl, hD9, ixN_at vm.1 (by rw [List.length_map]; omega), ?_⟩
        refine ⟨_, _, _, us.set L[1 + i].toNat (some L[ya]), rfl, k69.mut nDH, (T9.le (by omega)).mut hT k69 nDH, ?_, by rw [upd_ne hLD]; exact hL9, ?_⟩
        · rw [List.map_set]; exact upd_same
        · rw [show 1 + (i + 1) = 1 + i + 1 by omega]
          exact W6.step (by omega) gk (by omega) ga
      · obtain ⟨y4, y6, y7, us, rfl, k6, T6, hD6, hL6, W6⟩ := h
        refine ⟨y4, y6, y7, us, rfl, k6, T6.le (by omega), hD6, ?_⟩
        rw [show L.length = 1 + (n - 1).toNat by omega]
        exact W6
    rintro σ' H9 ⟨y4, y6, y7, us, rfl, k9, T9, hD9, W9⟩
    refine ⟨_, rfl, D, us.map oV, rfl, .inl (.inl hD9), fun p o np oc od => ?_⟩
    have n9 := k9.dom p np
    exact q p us _ (k9.mut n9) ((T9.le (by omega)).mut hT k9 n9) n9 ⟨o, upd_same, oc, od⟩ (W9.ways (by omega) (by omega))
end
end HK

set_option Elab.async false
set_option linter.all false
set_option maxRecDepth 100000
set_option maxHeartbeats 4000000
namespace HK
open PySem PySem.Spec PyProof.Rows L2 GAl GxR
theorem sub_len {l ks : List Int} (nl : l.Nodup) (nk : ks.Nodup) (h : ∀ x ∈ l, x ∈ ks) : l.length ≤ ks.length := by
  have pm : (ks.filter fun x => decide (x ∈ l)).Perm l := (List.perm_ext_iff_of_nodup (List.Nodup.sublist List.filter_sublist nk) nl).mpr fun x => by
    rw [List.mem_filter]
    exact ⟨fun z => of_decide_eq_true z.2, fun z => ⟨h x z, decide_eq_true z⟩⟩
  rw [← pm.length_eq]
  exact List.length_filter_le _ _
/-- the tables of generator expressions -/
def TbL (H : Hp) (l : List Addr) : Prop := ∀ P ∈ l, TabG H P
theorem TbL.kt {t : Addr} {H H' : Hp} {l : List Addr} (h : TbL H l) (k : Kt t H H') : TbL H' l := fun P hP => k.tab P (h P hP)
theorem TbL.k0 {H H' : Hp} {l : List Addr} (h : TbL H l) (k : K0 H H') : TbL H' l := fun P hP => k.tab P (h P hP)
end HK

set_option Elab.async false
set_option linter.all false
set_option maxRecDepth 100000
set_option maxHeartbeats 4000000
namespace HK
open PySem PySem.Spec PyProof.Rows L2 GAl GxR
/-! ### trees as partial functions -/
def stp (g : IF) (v : Int) : Int := (g v).getD v
def clm (g : IF) : Nat → Int → Int
  | 0, v => v
  | n + 1, v => stp g (clm g n v)
theorem stp_none {g : IF} {v : Int} (h : g v = none) : stp g v = v := by unfold stp; rw [h]; rfl
theorem stp_some {g : IF} {v x : Int} (h : g v = some x) : stp g v = x := by unfold stp; rw [h]; rfl
theorem clm_fix {g : IF} {v : Int} {i : Nat} (h : g (clm g i v) = none) : ∀ k, clm g (i + k) v = clm g i v
  | 0 => rfl
  | k + 1 => by
    show stp g (clm g (i + k) v) = _
    rw [clm_fix h k, stp_none h]
theorem clm_root {g : IF} {v root : Int} {i : Nat} (hr : g root = none) (h : clm g i v = root) (k : Nat) : clm g (i + k) v = root := by
  rw [clm_fix (by rw [h]; exact hr), h]
theorem DI.keys {kvs : List (Key × V)} {f : IF} (h : DI kvs f) : ∃ ks : List Int, ks.Nodup ∧ ks.length = kvs.length ∧ (∀ i, i ∈ ks ↔ (f i).isSome = true) ∧ kvs.map (·.1) = ks.map Sum.inl := by
  have aux : ∀ {l : List (Key × V)}, (∀ p ∈ l, ∃ i x : Int, p = (Sum.inl i, V.int x)) → ∃ ks : List Int, l.map (·.1) = ks.map Sum.inl := fun {l} => by
    induction l with
    | nil => exact fun _ => ⟨[], rfl⟩
    | cons p r ih =>
      intro hl
      obtain ⟨ks, e⟩ := ih fun q hq => hl q (List.mem_cons_of_mem _ hq)
      obtain ⟨i, x, rfl⟩ := hl p (List.mem_cons_self ..)
      exact ⟨i :: ks, by rw [List.map_cons, List.map_cons, e]⟩
  obtain ⟨ks, e⟩ := aux h.ks
  have nd := h.nd
  rw [e] at nd
  refine ⟨ks, (List.pairwise_map.mp nd).imp fun hne z => hne (by rw [z]), ?_, fun i => ?_, e⟩
  · have := congrArg List.length e
    rw [List.length_map, List.length_map] at this
    exact this.symm
  · rw [← h.mem i, e, List.mem_map]
    exact ⟨fun z => ⟨i, z, rfl⟩, fun ⟨j, hj, ej⟩ => by cases ej; exact hj⟩
/-- a way to the root takes no more steps than there are keys -/
theorem clm_len {kvs : List (Key × V)} {g : IF} {root v : Int} {m : Nat} (hD : DI kvs g) (hr : g root = none) (h : clm g m v = root) : clm g kvs.length v = root := by
  obtain ⟨ks, nk, lk, mk, _⟩ := hD.keys
  refine Decidable.byContradiction fun hn => ?_
  have absb : ∀ i, i ≤ kvs.length → clm g i v ≠ root := fun i hi z => hn (by
    have := clm_root hr z (kvs.length - i)
    rwa [show i + (kvs.length - i) = kvs.length by omega] at this)
  have lt : kvs.length < m := by
    refine Nat.lt_of_not_le fun z => absb m z h
  have dom : ∀ i, i ≤ kvs.length → (g (clm g i v)).isSome = true := fun i hi => by
    cases e : g (clm g i v) with
    | some x => rfl
    | none =>
      have := clm_fix e (m - i)
      rw [show i + (m - i) = m by omega, h] at this
      exact absurd this.symm (absb i hi)
  by_cases hd : ∀ i j, i < j → j ≤ kvs.length → clm g i v ≠ clm g j v
  · have nl : ((List.range (kvs.length + 1)).map fun i => clm g i v).Nodup := List.pairwise_map.mpr
      (List.Pairwise.imp_of_mem (fun {a b} _ hb lt => hd a b lt (by have := List.mem_range.mp hb; omega)) List.pairwise_lt_range)
    have := sub_len nl nk fun x hx => by
      obtain ⟨i, hi, rfl⟩ := List.mem_map.mp hx
      exact (mk _).mpr (dom i (by have := List.mem_range.mp hi; omega))
    rw [List.length_map, List.length_range] at this
    omega
  · obtain ⟨i, z⟩ := Classical.not_forall.mp hd
    obtain ⟨j, z⟩ := Classical.not_forall.mp z
    obtain ⟨hij, z⟩ := Classical.not_imp.mp z
    obtain ⟨hj, z⟩ := Classical.not_imp.mp z
    have e := Decidable.not_not.mp z
    have per : ∀ t, ∃ s, s ≤ kvs.length ∧ i ≤ s ∧ s < j ∧ clm g (i + t) v = clm g s v := fun t => by
      induction t with
      | zero => exact ⟨i, by omega, Nat.le_refl _, hij, rfl⟩
      | succ t ih =>
        obtain ⟨s, h1, h2, h3, h4⟩ := ih
        have e5 : clm g (i + (t + 1)) v = clm g (s + 1) v := by
          show stp g (clm g (i + t) v) = stp g (clm g s v)
          rw [h4]
        by_cases hs : s + 1 < j
        · exact ⟨s + 1, by omega, by omega, hs, e5⟩
        · exact ⟨i, by omega, Nat.le_refl _, hij, by rw [e5, show s + 1 = j by omega, e]⟩
    obtain ⟨s, h1, _, _, h4⟩ := per (m - i)
    rw [show i + (m - i) = m by omega, h] at h4
    exact absb s h1 h4.symm
/-- going ahead one stays in the tree -/
theorem clm_in {g : IF} {root v : Int} {m : Nat} (hr : g root = none) (h : clm g m v = root) (k : Nat) : clm g k v = root ∨ ∃ x, g (clm g k v) = some x := by
  by_cases hk : clm g k v = root
  · exact .inl hk
  · refine .inr ?_
    cases e : g (clm g k v) with
    | some x => exact ⟨x, rfl⟩
    | none =>
      refine absurd ?_ hk
      by_cases hm : m ≤ k
      · have := clm_root hr h (k - m)
        rwa [show m + (k - m) = k by omega] at this
      · have := clm_fix e (m - k)
        rw [show k + (m - k) = m by omega, h] at this
        exact this.symm
/-! ### the road of a pair -/
def road (rs : List R4) (a b : Int) : Option R4 := rs.find? fun r => decide (r.s = a ∧ r.e = b)
theorem road_some {rs : List R4} {a b : Int} {r : R4} (h : road rs a b = some r) : r ∈ rs ∧ r.s = a ∧ r.e = b := by
  have h2 := List.find?_some h
  exact ⟨List.mem_of_find?_eq_some h, of_decide_eq_true h2⟩
theorem road_none {rs : List R4} {a b : Int} (h : road rs a b = none) : ∀ r ∈ rs, ¬ (r.s = a ∧ r.e = b) := fun r hr z => by
  have := List.find?_eq_none.mp h r hr
  exact this (decide_eq_true z)
theorem lt_uniq {rs : List R4} (up : rs.Pairwise R4.lt) {i j : Nat} {r t : R4} (hi : rs[i]? = some r) (hj : rs[j]? = some t) (e : r.s = t.s ∧ r.e = t.e) : i = j := by
  obtain ⟨li, rfl⟩ := List.getElem?_eq_some_iff.mp hi
  obtain ⟨lj, rfl⟩ := List.getElem?_eq_some_iff.mp hj
  refine Decidable.byContradiction fun ne => ?_
  rcases Nat.lt_or_gt_of_ne ne with l | l
  · have : rs[i].s < rs[j].s ∨ (rs[i].s = rs[j].s ∧ rs[i].e < rs[j].e) := List.pairwise_iff_getElem.mp up i j li lj l
    omega
  · have : rs[j].s < rs[i].s ∨ (rs[j].s = rs[i].s ∧ rs[j].e < rs[i].e) := List.pairwise_iff_getElem.mp up j i lj li l
    omega
theorem road_of {rs : List R4} (up : rs.Pairwise R4.lt) {r : R4} (h : r ∈ rs) : road rs r.s r.e = some r := by
  cases e : road rs r.s r.e with
  | none => exact absurd ⟨rfl, rfl⟩ (road_none e r h)
  | some t =>
    obtain ⟨ht, hs⟩ := road_some e
    obtain ⟨i, hi⟩ := List.getElem?_of_mem ht
    obtain ⟨j, hj⟩ := List.getElem?_of_mem h
    have := lt_uniq up hi hj hs
    subst this
    rw [hi] at hj
    exact hj
theorem road_snoc {rs : List R4} {t : R4} (a b : Int) : road (rs ++ [t]) a b = (road rs a b).or (if t.s = a ∧ t.e = b then some t else none) := by
  unfold road
  rw [List.find?_append]
  congr 1
  by_cases h : t.s = a ∧ t.e = b
  · rw [if_pos h]
    simp [h]
  · rw [if_neg h]
    simp only [List.find?_cons, decide_eq_false h, List.find?_nil]
/-- what a dict makes a tree -/
def TreeP (rs : List R4) (root : Int) (g : IF) (m : Nat) : Prop := g root = none ∧ (∀ v x, g v = some x → (road rs x v).isSome = true) ∧ ∀ v x, g v = some x → clm g m v = root
/-- a dict from pairs to what a road has -/
def TabP (sel : R4 → Int) (rs : List R4) (kvs : List (List Key × V)) : Prop := kvs.length ≤ rs.length ∧ ∀ a b : Int, valV kvs [Sum.inl a, Sum.inl b] = (road rs a b).map fun r => V.int (sel r)
theorem TabP.put {sel : R4 → Int} {rs : List R4} {t : R4} {kvs : List (List Key × V)} (up : (rs ++ [t]).Pairwise R4.lt) (h : TabP sel rs kvs) : TabP sel (rs ++ [t]) (putK kvs [Sum.inl t.s, Sum.inl t.e] (.int (sel t))) := by
  refine ⟨?_, fun a b => ?_⟩
  · have := length_putK kvs [Sum.inl t.s, Sum.inl t.e] (V.int (sel t))
    have := h.1
    rw [List.length_append, List.length_singleton]
    omega
  · rw [valV_put, road_snoc]
    by_cases e : t.s = a ∧ t.e = b
    · obtain ⟨rfl, rfl⟩ := e
      have hno : road rs t.s t.e = none := by
        cases e : road rs t.s t.e with
        | none => rfl
        | some r =>
          obtain ⟨hr, hs⟩ := road_some e
          obtain ⟨i, hi⟩ := List.getElem?_of_mem hr
          have hlt : i < rs.length := (List.getElem?_eq_some_iff.mp hi).1
          have := lt_uniq up (i := i) (j := rs.length) (by rw [List.getElem?_append_left hlt]; exact hi) (by rw [List.getElem?_append_right (Nat.le_refl _)]; simp) hs
          omega
      rw [if_pos rfl, hno, if_pos ⟨rfl, rfl⟩]
      rfl
    · rw [if_neg (fun z => e (by simp at z; exact ⟨z.1.symm, z.2.symm⟩)), if_neg e, h.2]
      cases road rs a b <;> rfl
end HK

set_option Elab.async false
set_option linter.all false
set_option maxRecDepth 100000
set_option maxHeartbeats 4000000
namespace HK
open PySem PySem.Spec PyProof.Rows L2 GAl GxR
open Evl (pss_cut)
abbrev sLeadsUp : Stmt := topS 11
abbrev N_scLeadsUp : List Str := ["up", "place", "step"]
theorem scLeadsUp : FnScope N_scLeadsUp ["up", "place"] (defScope sLeadsUp) := ⟨rfl, rfl, rfl, by decide +kernel, rfl, by decide +kernel, by decide +kernel⟩
abbrev sAreWays : Stmt := topS 10
abbrev N_scAreWays : List Str := ["thing", "place", "entry"]
theorem scAreWays : FnScope N_scAreWays ["thing"] (defScope sAreWays) := ⟨rfl, rfl, rfl, by decide +kernel, rfl, by decide +kernel, by decide +kernel⟩
abbrev sNeedWays : Stmt := topS 12
abbrev N_scNeedWays : List Str := ["up"]
theorem scNeedWays : FnScope N_scNeedWays ["up"] (defScope sNeedWays) := ⟨rfl, rfl, rfl, by decide +kernel, rfl, by decide +kernel, by decide +kernel⟩
abbrev rLen (K : PySem.W.Frag) : List V → Hp → VK → Prop := fun xs H Q => ∃ p ys, xs = [.ref p] ∧ (SqL K H p ys ∨ SqT K H p ys) ∧ Q (.int ys.length) H
theorem clm_sh (g : IF) (v : Int) : ∀ m, clm g (m + 1) v = clm g m (stp g v)
  | 0 => rfl
  | m + 1 => by
    show stp g (clm g (m + 1) v) = stp g (clm g m (stp g v))
    rw [clm_sh g v m]
theorem Up.clm {g : IF} {v : Int} {l : List Int} (h : Up g v l) : g (clm g (l.length - 1) v) = none ∧ 1 ≤ l.length := by
  induction h with
  | top e => exact ⟨e, Nat.le_refl _⟩
  | @step v u l e h ih =>
    refine ⟨?_, by rw [List.length_cons]; omega⟩
    rw [List.length_cons, show l.length + 1 - 1 = (l.length - 1) + 1 by omega, clm_sh, stp_some e]
    exact ih.1
theorem Up.uniq {g : IF} {v : Int} {l : List Int} (h : Up g v l) : ∀ {l'}, Up g v l' → l = l' := by
  induction h with
  | top e =>
    intro l' h'
    cases h' with
    | top _ => rfl
    | step e' _ => rw [e] at e'; cases e'
  | step e _ ih =>
    intro l' h'
    cases h' with
    | top e' => rw [e] at e'; cases e'
    | step e' h'' =>
      rw [e] at e'
      cases e'
      rw [ih h'']
theorem Up.at_ {g : IF} {v : Int} {l : List Int} (h : Up g v l) : ∀ u ∈ l, ∃ t, Up g u t ∧ t.length ≤ l.length := by
  induction h with
  | top e =>
    intro u hu
    rw [List.mem_singleton.mp hu]
    exact ⟨_, .top e, Nat.le_refl _⟩
  | @step v u l e h ih =>
    intro w hw
    rcases List.mem_cons.mp hw with rfl | hw
    · exact ⟨_, .step e h, Nat.le_refl _⟩
    · obtain ⟨t, ht, hl⟩ := ih w hw
      exact ⟨t, ht, by rw [List.length_cons]; omega⟩
theorem Up.nodup {g : IF} {v : Int} {l : List Int} (h : Up g v l) : l.Nodup := by
  induction h with
  | top e => exact List.pairwise_singleton ..
  | @step v u l e h ih =>
    refine List.nodup_cons.mpr ⟨fun hm => ?_, ih⟩
    obtain ⟨t, ht, hl⟩ := h.at_ v hm
    have := (Up.step e h).uniq ht
    rw [← this, List.length_cons] at hl
    omega
theorem upF_rng {us : List (Option Int)} (hW : Ways us) {v u : Int} (e : upF us v = some u) : 0 ≤ u ∧ u < us.length := by
  unfold upF at e
  by_cases h : 0 ≤ v
  · rw [if_pos h] at e
    have : some u ∈ us := by
      rw [List.getD_eq_getElem?_getD] at e
      cases e2 : us[v.toNat]? with
      | none => rw [e2] at e; cases e
      | some x =>
        rw [e2] at e
        have e : x = some u := e
        rw [← e]
        exact List.mem_of_getElem? e2
    exact hW.rng u this
  · rw [if_neg h] at e; cases e
theorem Up.rng {us : List (Option Int)} (hW : Ways us) {v : Int} {l : List Int} (h : Up (upF us) v l) (v0 : 0 ≤ v) (v1 : v < us.length) : ∀ u ∈ l, 0 ≤ u ∧ u < us.length := by
  induction h with
  | top e => intro u hu; rw [List.mem_singleton.mp hu]; exact ⟨v0, v1⟩
  | @step v u l e h ih =>
    intro x hx
    have := upF_rng hW e
    rcases List.mem_cons.mp hx with rfl | hx
    · exact ⟨v0, v1⟩
    · exact ih this.1 this.2 x hx
theorem Up.len {us : List (Option Int)} (hW : Ways us) {v : Int} {l : List Int} (h : Up (upF us) v l) (v0 : 0 ≤ v) (v1 : v < us.length) : l.length ≤ us.length := by
  have := sub_len (ks := (List.range us.length).map fun (i : Nat) => (i : Int)) h.nodup (List.pairwise_map.mpr (List.pairwise_lt_range.imp fun a z => by omega)) fun x hx => by
    obtain ⟨h0, h1⟩ := h.rng hW v0 v1 x hx
    exact List.mem_map.mpr ⟨x.toNat, List.mem_range.mpr (by omega), by omega⟩
  simpa using this
theorem clm_rng {us : List (Option Int)} (hW : Ways us) {v : Int} (v0 : 0 ≤ v) (v1 : v < us.length) : ∀ k, 0 ≤ clm (upF us) k v ∧ clm (upF us) k v < us.length
  | 0 => ⟨v0, v1⟩
  | k + 1 => by
    show 0 ≤ stp (upF us) (clm (upF us) k v) ∧ stp (upF us) (clm (upF us) k v) < us.length
    cases e : upF us (clm (upF us) k v) with
    | none => rw [stp_none e]; exact clm_rng hW v0 v1 k
    | some u => rw [stp_some e]; exact upF_rng hW e
theorem clm_top {us : List (Option Int)} (hW : Ways us) {v : Int} (v0 : 0 ≤ v) (v1 : v < us.length) : upF us (clm (upF us) us.length v) = none := by
  obtain ⟨l, hl⟩ := hW.ends v v0 v1
  obtain ⟨h1, h2⟩ := hl.clm
  have := hl.len hW v0 v1
  have e := clm_fix h1 (us.length - (l.length - 1))
  rw [show l.length - 1 + (us.length - (l.length - 1)) = us.length by omega] at e
  rw [e]
  exact h1
theorem Ways.roots {us : List (Option Int)} (h : Ways us) : (us.filter Option.isNone).length = 1 := by
  obtain ⟨r, hr, hone⟩ := h.one
  obtain ⟨hrl, er⟩ := List.getElem?_eq_some_iff.mp hr
  have e : us = us.take r ++ us[r] :: us.drop (r + 1) := by rw [List.getElem_cons_drop, List.take_append_drop]
  have h1 : (us.take r).filter Option.isNone = [] := List.filter_eq_nil_iff.mpr fun x hx z => by
    obtain ⟨j, hj, ej⟩ := List.mem_iff_getElem.mp hx
    rw [List.getElem_take] at ej
    rw [List.length_take] at hj
    cases x with
    | some u => cases z
    | none =>
      have := hone j (by rw [List.getElem?_eq_getElem (by omega), ej])
      omega
  have h2 : (us.drop (r + 1)).filter Option.isNone = [] := List.filter_eq_nil_iff.mpr fun x hx z => by
    obtain ⟨j, hj, ej⟩ := List.mem_iff_getElem.mp hx
    rw [List.getElem_drop] at ej
    rw [List.length_drop] at hj
    cases x with
    | some u => cases z
    | none =>
      have := hone (r + 1 + j) (by rw [List.getElem?_eq_getElem (by omega), ej])
      omega
  rw [e, List.filter_append, h1, List.filter_cons, er]
  show ([] ++ (none :: List.filter Option.isNone (us.drop (r + 1)))).length = 1
  rw [h2]
  rfl
section
variable {P : Program} {w : World} {K : PySem.W.Frag} {mg : Str → Option Value} {base : Heap}
def spLeadsUp (K : PySem.W.Frag) : Sp := fun vs H Q _ => ∃ (p : Addr) (us : List (Option Int)) (v : Int), vs = [.ref p, .int v] ∧ SqT K H p (us.map oV) ∧ Ways us ∧ 0 ≤ v ∧ v < us.length ∧ Q (.bl true) H
theorem ok_leadsup {f : Addr} {fd : FuncData} (F : Fun K "leads_up" "leads_up" sLeadsUp f fd) (m_range : mg "range" = none) (m_len : mg "len" = none) : FnOk P w K mg base CX0 1 f fd ["up", "place"] (spLeadsUp K) := by
  refine F.ok scLeadsUp (fun vs H Q E h => ?_) (fun cdv A outer s H vs Q E hr h => ?_)
  · obtain ⟨a, us, v, rfl, _⟩ := h
    rfl
  · obtain ⟨p, us, v, rfl, hp, hW, v0, v1, q⟩ := h
    have hu := hu_of hr
    refine ⟨_, (pss_cons (ps_for PassesOwn.never rfl (pi_range1 (by rfl) m_range (pa_cons (pe_callB call_len_seq (by rfl) m_len PySem.boot_len (pa_cons (pv 0) pa_nil)) pa_nil)) (pg_name (i := 2) scLeadsUp.nd rfl (.inl rfl))
      (pss_one (ps_if (pt_cmp (pc_notN (pe_ix ix_tup (pv 0) (pv 1) (fun _ _ => rfl)))) (pss_one (ps_set (i := 1) scLeadsUp.nd rfl (.inl rfl) (pe_ix ix_tup (pv 0) (pv 1) (fun _ _ => rfl)))) pss_nil)))
      (pss_one (ps_ret (pe_cmp (pc_isN (pe_ix ix_tup (pv 0) (pv 1) (fun _ _ => rfl))))))), ?_⟩
    have n8 := hW.n8
    refine ⟨_, rfl, p, _, rfl, .inr hp, _, rfl, by rw [List.length_map]; omega, by rw [List.length_map]; omega, for_range (lo := 0) (n := (us.map oV).length) (fun i σ' H' => ∃ y2, σ' = [some (.ref p), some (.int (clm (upF us) i v)), y2] ∧ H' = H)
      ⟨none, rfl, rfl⟩ (fun i σ' H' hi h => ?_) (fun σ' H' h => ?_)⟩
    · obtain ⟨y2, rfl, rfl⟩ := h
      obtain ⟨c0, c1⟩ := clm_rng hW v0 v1 i
      refine ⟨_, rfl, _, rfl, p, _, _, _, rfl, rfl, hp, up_at c0 c1, ?_⟩
      cases e : upF us (clm (upF us) i v) with
      | none =>
        refine ⟨_, rfl, iteF ⟨some (.int (0 + (i : Int))), ?_, rfl⟩⟩
        rw [show clm (upF us) (i + 1) v = clm (upF us) i v from stp_none e]
        rfl
      | some u =>
        refine ⟨_, rfl, iteT ⟨_, rfl, _, rfl, p, _, _, _, rfl, rfl, hp, up_at c0 c1, ?_⟩⟩
        rw [e]
        refine ⟨some (.int (0 + (i : Int))), ?_, rfl⟩
        rw [show clm (upF us) (i + 1) v = u from stp_some e]
        rfl
    · obtain ⟨y2, rfl, rfl⟩ := h
      rw [List.length_map]
      obtain ⟨c0, c1⟩ := clm_rng hW v0 v1 us.length
      refine ⟨_, rfl, _, rfl, p, _, _, _, rfl, rfl, hp, up_at c0 c1, ?_⟩
      rw [clm_top hW v0 v1]
      exact q
def spAreWays (K : PySem.W.Frag) (Pw : Addr) : Sp := fun vs H Q _ => ∃ (p : Addr) (us : List (Option Int)), vs = [.ref p] ∧ WaysAt H p us ∧ Ways us ∧ TabG H Pw ∧ ∀ H', K0 H H' → Q (.bl true) H'
theorem ok_areways {f c Pw : Addr} {fd : FuncData} {t8 : Tok} {f_within f_leadsup : Addr} {fd_within fd_leadsup : FuncData} (F : FunC K "are_ways" "are_ways" sAreWays f fd c) (TB : TabB base mg c Pw) (k_within : PySem.W.keepIn K (.ref f_within) = true) (b_within : Binds K fd_within ["thing", "least", "greatest"] []) (g_within : mg "is_within" = some (.ref f_within)) (G_within : FnOk P w K mg base CX0 2 f_within fd_within ["thing", "least", "greatest"] (spWithin K))
    (k_leadsup : PySem.W.keepIn K (.ref f_leadsup) = true) (b_leadsup : Binds K fd_leadsup ["up", "place"] []) (g_leadsup : mg "leads_up" = some (.ref f_leadsup)) (G_leadsup : FnOk P w K mg base CX0 1 f_leadsup fd_leadsup ["up", "place"] (spLeadsUp K))
    (m_isinstance : mg "isinstance" = none) (m_tuple : mg "tuple" = none) (m_len : mg "len" = none) (m_all : mg "all" = none) (m_range : mg "range" = none) (c_MOST_ENTRIES : mg "MOST_ENTRIES" = some (.int 8 t8)) : FnOk P w K mg base CX0 4 f fd ["thing"] (spAreWays K Pw) := by
  refine F.ok scAreWays (fun vs H Q E h => ?_) (fun A outer s H vs Q E hr h => ?_)
  · obtain ⟨a, us, rfl, _⟩ := h
    rfl
  · obtain ⟨p, us, rfl, hp, hW, tw, q⟩ := h
    have hu := hu_of hr
    refine ⟨_, (pss_cons (ps_if (pt_not (PW.pt (pw_and (pt_val (pe_callB call_isi (by rfl) m_isinstance boot_isinstance (pa_cons (pv 0) (pa_cons (pe_bltn (v := .ty "tuple") (by rfl) m_tuple (by decide +kernel) rfl) pa_nil)))) (pw_and1 (pt_chain op_le op_le pe_int (pe_callB call_len_seq (by rfl) m_len PySem.boot_len (pa_cons (pv 0) pa_nil)) (pe_glob (v := .int 8) (by rfl) c_MOST_ENTRIES ⟨_, rfl⟩)))))) (pss_one (ps_ret pe_bl)) pss_nil)
      (pss_cons (ps_if (pt_not (pt_val (pe_allG (own := [("entry", 2)]) (k := 2) (g := (gName 2)) (tt := tYes) (te := (tOrV (tIsN (tVar 2)) (tCall (spWithin K) [] E0 (tCons (tVar 2) (tCons (tC (.int 0)) (tCons (tOp (rI0 fun i j => .int (i - j)) (tCB (rLen K) (tCons (tVar 0) tNil)) (tC (.int 1))) tNil)))))) (hr.mono (by decide)) (by rfl) m_all rfl scAreWays.nd TB rfl (gsc_by (N := N_scAreWays) (sc := defScope sAreWays) (by decide +kernel)) (pi_tup (pv 0)) (fun A' hr' _ _ _ _ _ _ => (pg_name (i := 2) scAreWays.nd rfl (.inl rfl))) (fun A' hr' _ _ _ _ _ _ => pts_nil) (fun A' hr' _ _ _ _ _ _ => (pe_or (pe_cmp (pc_isN (pv 2))) (pe_one (pe_call G_within (hr'.mono (by decide)) (by rfl) g_within k_within b_within .nil pass0 (pa_cons (pv 2) (pa_cons pe_int (pa_cons (pe_op op_sub (pe_callB call_len_seq (by rfl) m_len PySem.boot_len (pa_cons (pv 0) pa_nil)) pe_int) pa_nil)))))))))) (pss_one (ps_ret pe_bl)) pss_nil)
      (pss_cons (ps_if (pt_cmpR op_ne (pe_callB call_len_seq (by rfl) m_len PySem.boot_len (pa_cons (pe_lc (own := [("entry", 2)]) (g := (gName 2)) (tt := (tB (tIsN (tVar 2)))) (te := (tVar 2)) rfl scAreWays.nd (pi_tup (pv 0)) (blkOk_by (N := N_scAreWays) (sc := defScope sAreWays) (by decide +kernel)) (fun _ _ _ _ _ => (pg_name (i := 2) scAreWays.nd rfl (.inl rfl))) (fun _ _ _ _ _ => (pts_one (pt_cmp (pc_isN (pv 2))))) (fun _ _ _ _ _ => (pv 2))) pa_nil)) pe_int (nomark _)) (pss_one (ps_ret pe_bl)) pss_nil)
      (pss_one (ps_ret (pe_allG (own := [("place", 1)]) (k := 2) (g := (gName 1)) (tt := tYes) (te := (tCall (spLeadsUp K) [] E0 (tCons (tVar 0) (tCons (tVar 1) tNil)))) (hr.mono (by decide)) (by rfl) m_all rfl scAreWays.nd TB rfl (gsc_by (N := N_scAreWays) (sc := defScope sAreWays) (by decide +kernel)) (pi_range1 (by rfl) m_range (pa_cons (pe_callB call_len_seq (by rfl) m_len PySem.boot_len (pa_cons (pv 0) pa_nil)) pa_nil)) (fun A' hr' _ _ _ _ _ _ => (pg_name (i := 1) scAreWays.nd rfl (.inl rfl))) (fun A' hr' _ _ _ _ _ _ => pts_nil) (fun A' hr' _ _ _ _ _ _ => (pe_call G_leadsup (hr'.mono (by decide)) (by rfl) g_leadsup k_leadsup b_leadsup .nil pass0 (pa_cons (pv 0) (pa_cons (pv 1) pa_nil)))))))))), ?_⟩
    have hS := hp.sq (K := K)
    have n1 := hW.n1
    have n8 := hW.n8
    have hln : (us.map oV).length = us.length := List.length_map ..
    refine ⟨_, rfl, .ref p, .ty "tuple", .type "tuple", _, true, rfl, .ty "tuple", sqT_ty hS, kit_ty (tys_tuple (by decide)), _, rfl, iteT ?_⟩
    refine ⟨_, rfl, p, _, rfl, .inr hS, 1, _, rfl, rfl, _, rfl, ?_⟩
    rw [hln, decide_eq_true (show (1 : Int) ≤ us.length by omega)]
    refine iteT ⟨_, 8, rfl, rfl, _, rfl, ?_⟩
    rw [decide_eq_true (show (us.length : Int) ≤ 8 by omega)]
    refine iteF ?_
    -- each entry
    refine ⟨_, rfl, p, rfl, ⟨_, hS⟩, tw, fun H2 hT2 => ?_⟩
    have k2 : K0 H H2 := K0.tbd tw hT2
    refine ⟨fun i m H3 => i + m = us.length ∧ K0 H H3, ⟨us.length, by omega, k2⟩, fun i m H3 hWi => ?_⟩
    obtain ⟨em, k3⟩ := hWi
    have hA : SqT K H3 p (us.map oV) := k3.sqT hS
    by_cases hi : i < us.length
    · have h1 : i < (us.map oV).length := by rw [hln]; exact hi
      have g1 : (us.map oV)[i]? = some (us.map oV)[i] := List.getElem?_eq_getElem h1
      have g0 : us[i]? = some us[i] := List.getElem?_eq_getElem hi
      refine .inr ⟨⟨_, _, hA, g1⟩, fun H' => K0 H H', fun H' hN => ⟨m - 1, by omega, by omega, hN⟩, fun x H' hy => ?_⟩
      obtain ⟨rfl, fx⟩ := hy
      have ex : x = oV us[i] := by
        have := fx _ hA
        rw [List.getElem?_map, g0] at this
        exact (Option.some.inj this).symm
      subst ex
      cases e : us[i] with
      | none => exact ⟨rfl, tyes ⟨_, rfl, _, rfl, iteT ⟨_, rfl, iteT k3⟩⟩⟩
      | some u =>
        obtain ⟨u0, u1⟩ := hW.rng u (by rw [← e]; exact List.getElem_mem _)
        refine ⟨rfl, tyes ⟨_, rfl, _, rfl, iteF ⟨_, rfl, _, rfl, p, _, rfl, .inr hA, _, _, rfl, rfl, .int u, .int u, 0, _, rfl, .int u, ?_⟩⟩⟩
        refine ⟨_, rfl, ?_⟩
        rw [show withinD (PyData.int u) 0 ((us.map oV).length - 1) = true from by
          show (decide (0 ≤ u) && decide (u ≤ ((us.map oV).length : Int) - 1)) = true
          rw [hln, decide_eq_true u0, decide_eq_true (show u ≤ (us.length : Int) - 1 by omega)]
          rfl]
        exact iteT k3
    · refine .inl ⟨⟨_, hA, by rw [hln]; omega⟩, _, rfl, iteF ?_⟩
      -- one root
      refine ⟨_, rfl, p, rfl, ⟨_, hA⟩, fun D nD => ?_⟩
      refine lc_tup (K := K) (a := p) (xs := us.map oV) (fun i H2 => K0 H3 H2 ∧ H2 D = some (.lst (((us.take i).filter Option.isNone).map oV))) ⟨K0.new nD, by rw [List.take_zero]; exact upd_same⟩ (fun i H2 _ h => h.1.sqT hA) (fun i x H2 hx h => ?_) (fun H2 h => ?_)
      · obtain ⟨k, hl2⟩ := h
        rw [List.getElem?_map] at hx
        cases ev : us[i]? with
        | none => rw [ev] at hx; cases hx
        | some v =>
        rw [ev] at hx
        cases hx
        have hi : i < us.length := (List.getElem?_eq_some_iff.mp ev).1
        rw [List.take_add_one, ev]
        cases v with
        | none =>
          refine ⟨rfl, _, rfl, _, rfl, iteT ⟨_, rfl, _, hl2, Nat.lt_of_le_of_lt (m := 5000) (by
            rw [List.length_map]
            have := List.length_filter_le Option.isNone (us.take i)
            have := List.length_take_le i us
            omega) (by decide), k.mut nD, ?_⟩⟩
          rw [List.filter_append, List.map_append]
          exact upd_same
        | some u =>
          refine ⟨rfl, _, rfl, _, rfl, iteF ⟨k, ?_⟩⟩
          rw [List.filter_append]
          show _ = some (HO.lst ((List.filter Option.isNone (us.take i) ++ []).map oV))
          rw [List.append_nil]
          exact hl2
      obtain ⟨k, hl2⟩ := h
      rw [List.length_map, List.take_of_length_le (Nat.le_refl _)] at hl2
      have k13 := k3.trans k
      refine ⟨D, _, rfl, .inl (.inl (.inl hl2)), rfl, _, rfl, ?_⟩
      rw [List.length_map, hW.roots]
      refine iteF ?_
      -- each way ends
      have hA2 := k13.sqT hS
      have tw2 := k13.tab _ tw
      refine ⟨_, rfl, p, _, rfl, .inr hA2, _, rfl, by rw [hln]; omega, by rw [hln]; omega, tw2, fun H4 hT4 => ?_⟩
      have k4 := k13.trans (K0.tbd tw2 hT4)
      refine ⟨fun i m H5 => i + m = us.length ∧ K0 H H5, ⟨us.length, by omega, k4⟩, fun i m H5 hWi => ?_⟩
      obtain ⟨em, k5⟩ := hWi
      by_cases hi : i < us.length
      · refine .inr ⟨(show i < ((us.map oV).length : Int).toNat by rw [hln]; omega), fun H' => K0 H H', fun H' hN => ⟨m - 1, by omega, by omega, hN⟩, fun x H' hy => ?_⟩
        obtain ⟨rfl, rfl⟩ := hy
        exact ⟨rfl, tyes ⟨_, rfl, _, rfl, p, us, 0 + (i : Int), rfl, k5.sqT hS, hW, by omega, by omega, _, rfl, iteT k5⟩⟩
      · exact .inl ⟨(show ((us.map oV).length : Int).toNat ≤ i by rw [hln]; omega), q _ k5⟩
def spNeedWays (K : PySem.W.Frag) (Pw : Addr) : Sp := fun vs H Q _ => ∃ (p : Addr) (us : List (Option Int)), vs = [.ref p] ∧ WaysAt H p us ∧ Ways us ∧ TabG H Pw ∧ ∀ H', K0 H H' → Q .non H'
theorem ok_needways {f Pw : Addr} {fd : FuncData} {f_areways : Addr} {fd_areways : FuncData} (F : Fun K "need_ways" "need_ways" sNeedWays f fd) (k_areways : PySem.W.keepIn K (.ref f_areways) = true) (b_areways : Binds K fd_areways ["thing"] []) (g_areways : mg "are_ways" = some (.ref f_areways)) (G_areways : FnOk P w K mg base CX0 4 f_areways fd_areways ["thing"] (spAreWays K Pw)) : FnOk P w K mg base CX0 5 f fd ["up"] (spNeedWays K Pw) := by
  refine F.ok scNeedWays (fun vs H Q E h => ?_) (fun cdv A outer s H vs Q E hr h => ?_)
  · obtain ⟨a, us, rfl, _⟩ := h
    rfl
  · obtain ⟨p, us, rfl, hp, hW, tw, q⟩ := h
    refine ⟨_, (pss_one (ps_if (pt_not (pt_val (pe_call G_areways (hr.mono (by decide)) (by rfl) g_areways k_areways b_areways .nil pass0 (pa_cons (pv 0) pa_nil)))) pss_never pss_nil)), ?_⟩
    exact ⟨_, rfl, p, us, rfl, hp, hW, tw, fun H' k => ⟨_, rfl, iteF (q H' k)⟩⟩
end
end HK

set_option Elab.async false
set_option linter.all false
set_option maxRecDepth 100000
set_option maxHeartbeats 2000000
namespace HK
open PySem PySem.Spec PyProof.Rows L2 GAl GxR
section
variable {X : Cx}
/-! ### t.index(x), data -/
def rIndexT (K : PySem.W.Frag) : V → List V → Hp → VK → Prop := fun x xs H Q => ∃ (a : Addr) (y : V) (d : PyData) (ds : List PyData) (j : Nat) (z : PyData), x = V.ref a ∧ xs = [y] ∧ Dp K H (V.ref a) (.tuple ds) ∧ Dp K H y d ∧
  SeqAt.shaped (.tuple ds) = true ∧ SeqAt.shaped d = true ∧ ds[j]? = some z ∧ PyData.eqv z d = true ∧ (∀ (m : Nat) (z' : PyData), m < j → ds[m]? = some z' → PyData.eqv z' d = false) ∧ Q (.int (j : Nat)) H
theorem mt_indexT (hu : X.A.units + 65 < cLine) : MtR X "tuple.index" (rIndexT X.K) := by
  intro pins s σ H x xs v us Q I rx rxs h
  obtain ⟨a, y, d, ds, j, z, rfl, rfl, hl, hy, sl, sd, hz, hzj, hno, q⟩ := h
  cases rx
  cases rxs with
  | cons ry rt =>
    rename_i uy ut
    cases rt
    obtain ⟨bs, r1⟩ := Dp.reads I d y uy hy ry
    have hxs : PyData.canLayAll0 ds = true := SeqAt.canLay_of_shaped sl
    have hroom : X.A.units + 1 + min (PyData.depthAll ds) d.depth < cLine := room_in_shaped sd hu
    cases hl with
    | tup hs ha =>
      obtain ⟨its, rv, ⟨⟨cls, dd, data, sls⟩, ho, hc, n, hdt⟩, hlen⟩ := I.tuple hs
      simp only at hc hdt
      subst hc hdt
      obtain ⟨as, h4⟩ := Dp.readsAll I ds _ its ha rv
      have hn : its.length = ds.length := SeqAt.ReadsAll.length ds its as h4
      have hmap : its.map (SeqAt.readOf s.heap) = ds := SeqAt.readsAll_map ds its as hxs h4
      obtain ⟨hjd, _⟩ := List.getElem?_eq_some_iff.mp hz
      have hjl : j < its.length := by omega
      have hj : j < its.toArray.size := by simpa using hjl
      have at_ : ∀ (m : Nat) (hm : m < its.toArray.size) (z' : PyData), ds[m]? = some z' → SeqAt.readOf s.heap its.toArray[m] = z' := by
        intro m hm z' hz'
        have hml : m < its.length := by simpa using hm
        rw [← hmap, List.getElem?_map, List.getElem?_eq_getElem hml] at hz'
        have e1 : SeqAt.readOf s.heap its[m] = z' := Option.some.inj (show some (SeqAt.readOf s.heap its[m]) = some z' from hz')
        simpa using e1
      refine call_meets PySem.F.slot_tuple_index ⟨_, ho, rfl⟩ PySem.F.entry_tuple_index (PySem.F.args_tuple_index_2 _ _)
        (TI.tuple_indexAt a its.toArray n dd sls uy (fun u => PyData.eqv (SeqAt.readOf s.heap u) d) j hj ?_ ?_) ⟨ho, SeqAt.items_eqAt (vs := its.toArray) (show ReadsAll s.heap its.toArray.toList ds as from h4) r1 hxs (SeqAt.canLay_of_shaped sd) hroom, ?_⟩
      · show PyData.eqv (SeqAt.readOf s.heap its.toArray[j]) d = true
        rw [at_ j hj z hz]
        exact hzj
      · intro m hm hmj
        have hmd : m < ds.length := by
          have : m < its.length := by simpa using hm
          omega
        have hz' : ds[m]? = some ds[m] := List.getElem?_eq_getElem hmd
        show PyData.eqv (SeqAt.readOf s.heap its.toArray[m]) d = false
        rw [at_ m hm _ hz']
        exact hno m _ hmj hz'
      · exact ⟨.int (j : Nat), H, I.tok _, ⟨_, rfl⟩, q⟩
end
end HK

set_option Elab.async false
set_option linter.all false
set_option maxRecDepth 100000
set_option maxHeartbeats 2000000
/-! list(d.values()); set(t) of a tuple of whole numbers -/
namespace HkL
open PySem PySem.Spec PyProof.Rows L2
section
variable {X : Cx} {e : Expr} {te : TE} {p apos cpos pos : Pos}
def tListVals (te : TE) : TE := fun σ H Q => te σ H fun x H1 => ∃ (d : Addr) (kvs : List (Key × V)), x = .ref d ∧ Rd H1 d (.dK kvs) ∧ kvs.length ≤ sizeLine ∧ ∀ q, H1 q = none → Q (.ref q) (upd H1 q (.lst (kvs.map (·.2))))
theorem dict_at {pins : List (Addr × Obj)} {σ : L2.St} {H : Hp} {s : Shared} {d : Addr} {kvs : List (Key × V)} (I : Inv X pins σ H s) (h : Rd H d (.dK kvs)) : ∃ vs ep, KV kvs vs ∧ s.heap.DictAt (mixKind X.prog X.w) d vs ep ∧ (d == sysModules) = false := by
  rcases h with h | ⟨o, h⟩
  · obtain ⟨z, lo, vs, rk, hd⟩ := (show ObjOk X.prog X.w H s.heap d (.dK kvs) from I.hok d _ h)
    obtain ⟨ep, hat⟩ := hd.dictAt
    exact ⟨vs, ep, rk, hat, lo⟩
  · obtain ⟨hs, hgd, hx, es, ep, vs, hdt, hsz, kv, hm⟩ := I.frzK h
    exact ⟨vs, ep, kv, hm, hs⟩
theorem pe_listVals (hc : X.calm = true) (he : PE X e te) (hg : Gl X "list") (hm : X.mg "list" = none) (hv : bootBuiltins "list" = some (.type "list")) (hbase : attributeBase e "values" X.env (eval e X.env) = eval e X.env := by rfl) (hline : (apos.endLine == cpos.line) = true := by rfl)
    (hs : starEach [.Call (.Attribute e "values" apos) [] [] cpos] X.env = (false, eval (.Call (.Attribute e "values" apos) [] [] cpos) X.env) :: starEach [] X.env := by rfl) :
    PE X (.Call (.Name "list" p) [.Call (.Attribute e "values" apos) [] [] cpos] [] pos) (tListVals te) := by
  refine ⟨fun pins s σ H Q I hq => ?_⟩
  refine wpAny_Call_Name_kw (ld_blt I hg hm hv ?_)
  refine PyProof.Rows.callWith_type1 ?_ hs rfl
  rw [hs]
  show wpAny _ _ (spliced ((false, eval (.Call (.Attribute e "values" apos) [] [] cpos) X.env) :: backTo pos (starEach [] X.env))) _ _ s
  refine Calls.spliced_cons ?_
  refine wpAny_Call_method (T := "dict") (id := "dict.values") hbase rfl hline F.plainAttrs_dict F.slot_dict_values F.type_dict_values (thn (he.run pins s σ H _ I hq) fun u s1 ⟨x, H1, I1, rx, d, kvs, ex, hd, hz, q⟩ => ?_)
  subst ex
  obtain rfl : u = Value.ref d := rx
  obtain ⟨vs, ep, kv, hat, hs0⟩ := dict_at I1 hd
  have hdo := hat.dictOf
  have lk : kvs.length = vs.length := Paired.length kv
  have I2 : Inv X pins σ H1 { s1 with heap := s1.heap.push { cls := .type "dict_values", data := .fields #[.ref d] } } := I1.kept (t' := s1.toks) fun b ob q => Heap.get?_push_of_some _ q
  refine ⟨hdo.typeIs, hdo.mapOf.noDict, ?_⟩
  show wpAny _ _ (callWith cpos (.builtin "dict.values") [.ref d] [] []) _ X.xe s1
  refine method_meetsIn F.slot_dict_values F.entry_dict_values rfl (PySem.evalArgs_none ⟨rfl, hdo.typeIs, F.args_dict_values_1 _, _, meets_dict_values (mixKind X.prog X.w) d hs0, ⟨vs, hdo⟩, ?_⟩)
  refine Calls.spliced_nil ?_
  refine PySem.W.kdl_call (PySem.W.kdl_values (knd := mixKind X.prog X.w) (kvs := vs) (ep := ep) (r := s1.heap.objs.size) (d := d)) (I1.ok.hd hc) ⟨⟨_, Heap.get?_push_size _ rfl, rfl, rfl⟩, hat.push _⟩ (by rw [← lk]; exact hz) fun h' tk acc' c' hkeep hS hacc => ?_
  refine ⟨.ref _, upd H1 _ (.lst (kvs.map (·.2))), I2.laid hkeep (Nat.le_refl _) (show ObjOk X.prog X.w _ _ _ (.lst (kvs.map (·.2))) from ⟨?_, acc'.toList, c', ?_, ?_⟩), rfl, q _ (I2.hok.fresh (Nat.le_refl _))⟩
  · rw [List.length_map]; exact hz
  · have el : acc'.toList.length = acc'.size := by simp
    refine vals_of_at (by rw [List.length_map, el, hacc.1, lk]) fun j x w h1 h2 => ?_
    obtain ⟨k, hky⟩ := hacc.2 j w (by rw [← Array.getElem?_toList]; exact h2)
    rw [List.getElem?_map] at h1
    cases e2 : kvs[j]? with
    | none => rw [e2] at h1; cases h1
    | some pk =>
      rw [e2] at h1
      cases h1
      obtain ⟨qv, g1, g2, g3⟩ := LiI.paired_get kv e2
      rw [hky] at g1
      cases g1
      exact g3
  · rw [Array.toArray_toList]; exact hS
/-- tuple(l), tuple(t) -/
def rTup (K : PySem.W.Frag) : List V → Hp → VK → Prop := fun xs H Q => ∃ p ys, xs = [.ref p] ∧ ((SqL K H p ys ∧ ∀ l, H l = none → Q (.ref l) (upd H l (.tup ys))) ∨ (SqT K H p ys ∧ Q (.ref p) H))
theorem call_tupR : CallR X (.type "tuple") (rTup X.K) := call_tuple_of
/-- set(t) -/
def rSetT (K : PySem.W.Frag) (w : World) : List V → Hp → VK → Prop := fun vs H Q => ∃ (l : Addr) (ns : List Int), vs = [.ref l] ∧ SqT K H l (ns.map V.int) ∧ ns.length ≤ 1000 ∧ ∀ (p : Addr) (c : Nat), H p = none → c ≤ ns.length → Q (.ref p) (upd H p (SetO w p (fun j => decide (j ∈ ns)) c))
theorem cr_setT (hc : X.calm = true) : CallR X (.type "set") (rSetT X.K X.w) := by
  intro pins s σ H vs us Q I r h
  obtain ⟨l, ns, rfl, hl, hb, q⟩ := h
  cases r with
  | cons r rr =>
    cases rr
    cases r
    obtain ⟨its, rv, pt, hz⟩ := I.tuple hl
    have hi : IntsAre its.toArray.toList ns := ints_of_vals rv
    refine call_set_tupI ns (I.ok.hd hc) (show s.heap.IsTuple l its.toArray from pt) hi (by unfold scanBound; omega) fun h' tk c R1 hcn k => ?_
    exact ⟨.ref _, upd H s.heap.objs.size (SetO X.w s.heap.objs.size (fun j => decide (j ∈ ns)) c), I.laid k (Nat.le_refl _) (setO_new R1), rfl, q _ c (I.hok.fresh (Nat.le_refl _)) hcn⟩
end
end HkL

set_option Elab.async false
set_option linter.all false
set_option maxRecDepth 100000
set_option maxHeartbeats 4000000
namespace HK
open PySem PySem.Spec PyProof.Rows L2 GAl GxR
open Evl (pss_cut)
abbrev sLateL : Stmt := topS 27
abbrev N_scLateL : List Str := ["tray", "up", "most", "late", "place"]
theorem scLateL : FnScope N_scLateL ["tray", "up"] (defScope sLateL) := ⟨rfl, rfl, rfl, by decide +kernel, rfl, by decide +kernel, by decide +kernel⟩
abbrev sPath : Stmt := topS 29
abbrev N_scPath : List Str := ["up", "place", "path"]
theorem scPath : FnScope N_scPath ["up", "place"] (defScope sPath) := ⟨rfl, rfl, rfl, by decide +kernel, rfl, by decide +kernel, by decide +kernel⟩
abbrev sWayUp : Stmt := topS 20
abbrev N_scWayUp : List Str := ["up", "place", "way"]
theorem scWayUp : FnScope N_scWayUp ["up", "place"] (defScope sWayUp) := ⟨rfl, rfl, rfl, by decide +kernel, rfl, by decide +kernel, by decide +kernel⟩
abbrev sNeedLates : Stmt := topS 16
abbrev N_scNeedLates : List Str := ["up", "late", "ahead", "number"]
theorem scNeedLates : FnScope N_scNeedLates ["up", "late"] (defScope sNeedLates) := ⟨rfl, rfl, rfl, by decide +kernel, rfl, by decide +kernel, by decide +kernel⟩
/-! ### latenesses -/
structure Lates (us : List (Option Int)) (ls : List Int) : Prop where
  len : ls.length = us.length
  at_ : ∀ (i : Nat) (o : Option Int) (x : Int), us[i]? = some o → ls[i]? = some x → (o = none → x = 0) ∧ (o ≠ none → 1 ≤ x ∧ x ≤ 100)
def oD : Option Int → PyData
  | none => .none
  | some i => .int i
theorem dpO {K : PySem.W.Frag} {H : Hp} : ∀ us : List (Option Int), DpAll K H (us.map oV) (us.map oD)
  | [] => .nil
  | none :: us => .cons .non (dpO us)
  | some i :: us => .cons (.int i) (dpO us)
theorem canLayO : ∀ us : List (Option Int), PyData.canLayAll0 (us.map oD) = true ∧ PyData.depthAll (us.map oD) ≤ 1
  | [] => ⟨by simp [PyData.canLayAll0], by simp [PyData.depthAll]⟩
  | o :: us => by
    obtain ⟨h1, h2⟩ := canLayO us
    cases o <;> exact ⟨by simp [oD, PyData.canLayAll0, PyData.canLay0, h1], by simp only [List.map_cons, oD, PyData.depthAll, PyData.depth]; omega⟩
theorem shapedO (us : List (Option Int)) : SeqAt.shaped (.tuple (us.map oD)) = true := by
  obtain ⟨h1, h2⟩ := canLayO us
  show (PyData.canLay0 (.tuple (us.map oD)) && decide (PyData.depth (.tuple (us.map oD)) ≤ 64)) = true
  rw [Bool.and_eq_true]
  exact ⟨by simp only [PyData.canLay0]; exact h1, decide_eq_true (by simp only [PyData.depth]; omega)⟩
theorem pick4p {d : Int} (h0 : 0 ≤ d) (h1 : d < 4) {a b c e : Int} (ha : 1 ≤ a ∧ a ≤ 100) (hb : 1 ≤ b ∧ b ≤ 100) (hc : 1 ≤ c ∧ c ≤ 100) (he : 1 ≤ e ∧ e ≤ 100) : ∃ y : Int, atI [V.int a, .int b, .int c, .int e] d = some (.int y) ∧ 1 ≤ y ∧ y ≤ 100 := by
  obtain ⟨k, rfl⟩ := Int.eq_ofNat_of_zero_le h0
  match k, h1 with
  | 0, _ => exact ⟨a, atI_nat rfl, ha⟩
  | 1, _ => exact ⟨b, atI_nat rfl, hb⟩
  | 2, _ => exact ⟨c, atI_nat rfl, hc⟩
  | 3, _ => exact ⟨e, atI_nat rfl, he⟩
  | k + 4, h => exact absurd h (by omega)
theorem at_lastI {ns : List Int} {x : Int} : atI ((ns ++ [x]).map V.int) (-1) = some (.int x) := by
  unfold atI ixN
  rw [if_neg (by decide), if_pos (by rw [List.length_map, List.length_append, List.length_singleton]; omega)]
  show ((ns ++ [x]).map V.int)[_]? = _
  rw [List.length_map, List.length_append, List.length_singleton, show ((-1 : Int) + ((ns.length + 1 : Nat) : Int)).toNat = ns.length by omega, List.getElem?_map, List.getElem?_append_right (Nat.le_refl _), Nat.sub_self]
  rfl
section
variable {P : Program} {w : World} {K : PySem.W.Frag} {mg : Str → Option Value} {base : Heap}
def spLateL (K : PySem.W.Frag) : Sp := fun vs H Q _ => ∃ (t sc : Addr) (ns : List Int) (b : Int) (p : Addr) (us : List (Option Int)), vs = [.ref t, .ref p] ∧ Tray K H t sc ns b ∧ b ≤ 900000 ∧ WaysAt H p us ∧ Ways us ∧
  ∀ (q : Addr) (ls : List Int) (H' : Hp), Kt t H H' → Tray K H' t sc ns (b + 100) → H q = none → H' q = some (.tup (ls.map V.int)) → Lates us ls → Q (.ref q) H'
theorem ok_latel {f : Addr} {fd : FuncData} {f_draw : Addr} {fd_draw : FuncData} (F : Fun K "_law_e_late" "_law_e_late" sLateL f fd) (k_draw : PySem.W.keepIn K (.ref f_draw) = true) (b_draw : Binds K fd_draw ["tray", "many"] []) (g_draw : mg "_law_e_draw" = some (.ref f_draw)) (G_draw : FnOk P w K mg base CX0 2 f_draw fd_draw ["tray", "many"] (spDraw K)) (m_tuple : mg "tuple" = none) : FnOk P w K mg base CX0 3 f fd ["tray", "up"] (spLateL K) := by
  refine F.ok scLateL (fun vs H Q E h => ?_) (fun cdv A outer s H vs Q E hr h => ?_)
  · obtain ⟨a, b, ns, b, p, us, rfl, _⟩ := h
    rfl
  · obtain ⟨t, sc, ns, b, p, us, rfl, hT, hb, hp, hW, q⟩ := h
    have hu := hu_of hr
    refine ⟨_, (pss_cut (ps_set (i := 2) scLateL.nd rfl (.inr rfl) (pe_ix ix_list (pe_lst (pa_cons pe_int (pa_cons pe_int (pa_cons pe_int (pa_cons pe_int pa_nil))))) (pe_call G_draw (hr.mono (by decide)) (by rfl) g_draw k_draw b_draw .nil pass0 (pa_cons (pv 0) (pa_cons pe_int pa_nil))) (fun _ _ => rfl)))
      (pss_cut (ps_setLc (i := 3) (own := [("place", 4)]) (g := (gName 4)) (tt := tYes) (te := (tOp (rI0 fun i j => .int (i + j)) (tC (.int 1)) (tCall (spDraw K) [] E0 (tCons (tVar 0) (tCons (tVar 2) tNil))))) rfl scLateL.nd rfl rfl (sw_true rfl rfl rfl rfl) (pi_tup (pv 1)) (blkOk_by (N := N_scLateL) (sc := defScope sLateL) (by decide +kernel)) (fun _ _ _ _ _ => (pg_name (i := 4) scLateL.nd rfl (.inl rfl))) (fun _ _ _ _ _ => pts_nil) (fun _ _ _ _ _ => (pe_op op_add pe_int (pe_call G_draw (hr.mono (by decide)) (by rfl) g_draw k_draw b_draw .nil pass0 (pa_cons (pv 0) (pa_cons (pv 2) pa_nil))))))
      (pss_cut (ps_asg pe_int (pg_sub (pv 3) (pe_bmF PySem.F.plainAttrs_tuple PySem.F.slot_tuple_index PySem.F.type_tuple_index (mt_indexT (show (A.deeper (envOfC "_law_e_late" (defScope sLateL) s.heap.objs.size f cdv)).units + 65 < cLine by have := hr.un; omega)) (pv 1) (pa_cons pe_non pa_nil)) set_list))
      (pss_one (ps_ret (pe_callTy HkL.call_tupR (by rfl) m_tuple (by decide +kernel) (pa_cons (pv 3) pa_nil))))))), ?_⟩
    have n8 := hW.n8
    refine ⟨fun σ' H' => ∃ most : Int, σ' = [some (.ref t), some (.ref p), some (.int most), none, none] ∧ 1 ≤ most ∧ most ≤ 100 ∧ Kt t H H' ∧ Tray K H' t sc ns (b + 1), ?_, ?_⟩
    · refine ⟨by show 4 ≤ sizeLine; decide, fun l nl => ?_⟩
      have k1 : K0 H (upd H l (.lst [.int 1, .int 3, .int 9, .int 100])) := K0.new nl
      have hl1 : upd H l (.lst [.int 1, .int 3, .int 9, .int 100]) l = some (.lst [.int 1, .int 3, .int 9, .int 100]) := upd_same
      have hlt := hT.ne nl
      refine ⟨_, rfl, t, sc, 4, ns, b, rfl, hT.k0 k1, by omega, by omega, by omega, fun d H2 d0 d1 k2 T2 => ?_⟩
      obtain ⟨y, ey, y0, y1⟩ := pick4p d0 d1 (a := 1) (b := 3) (c := 9) (e := 100) (by decide) (by decide) (by decide) (by decide)
      exact ⟨l, _, d, .int y, rfl, rfl, .inl (.inl (k2.oth l _ hl1 hlt (fun _ z => by cases z))), ey, y, rfl, y0, y1, k1.kt.trans k2, T2⟩
    rintro σ' H1 ⟨most, rfl, m1, m2, k1, T1⟩
    have hp1 := hp.kt k1
    refine ⟨fun σ' H' => ∃ (D : Addr) (ls : List Int), σ' = [some (.ref t), some (.ref p), some (.int most), some (.ref D), none] ∧ Kt t H H' ∧ Tray K H' t sc ns (b + 20) ∧ H D = none ∧ H' D = some (.lst (ls.map V.int)) ∧ ls.length = us.length ∧ ∀ x ∈ ls, 1 ≤ x ∧ x ≤ 100, ?_, ?_⟩
    · refine ⟨_, rfl, p, rfl, ⟨_, hp1.sq⟩, fun D nD => ?_⟩
      have hDt := T1.ne nD
      have nDH := k1.dom D nD
      have kD : K0 H1 (upd H1 D (.lst [])) := K0.new nD
      refine lc_tup (K := K) (a := p) (xs := us.map oV) (fun i H2 => Kt t H H2 ∧ Kt t H1 H2 ∧ Tray K H2 t sc ns (b + 1 + i) ∧ ∃ ls : List Int, H2 D = some (.lst (ls.map V.int)) ∧ ls.length = i ∧ ∀ x ∈ ls, 1 ≤ x ∧ x ≤ 100)
        ⟨k1.trans kD.kt, kD.kt, (T1.k0 kD).le (by omega), [], upd_same, rfl, fun x hx => (by cases hx)⟩ (fun i H2 _ h => (hp.kt h.1).sq) (fun i x H2 hx h => ?_) (fun H2 h => ?_)
      · obtain ⟨k2, k12, T2, ls, hD, ll, hls⟩ := h
        have hi : i < us.length := by
          have := (List.getElem?_eq_some_iff.mp hx).1
          rwa [List.length_map] at this
        refine ⟨rfl, tyes ⟨_, rfl, _, rfl, t, sc, most, ns, b + 1 + i, rfl, T2, by omega, by omega, by omega, fun d H3 d0 d1 k3 T3 => ?_⟩⟩
        have hD3 := k3.oth D _ hD hDt (fun _ z => by cases z)
        refine ⟨_, _, rfl, rfl, _, hD3, Nat.lt_of_le_of_lt (m := 5000) (by rw [List.length_map]; omega) (by decide), (k2.trans k3).mut nDH, (k12.trans k3).mut nD, ?_, ls ++ [1 + d], by rw [List.map_append]; exact upd_same, by rw [List.length_append, List.length_singleton, ll], fun x hx => ?_⟩
        · exact (T3.le (by omega)).mut hT (k2.trans k3) nDH
        · rcases List.mem_append.mp hx with hx | hx
          · exact hls x hx
          · rw [List.mem_singleton.mp hx]; omega
      · obtain ⟨k2, _, T2, ls, hD, ll, hls⟩ := h
        rw [List.length_map] at T2 ll
        exact ⟨D, ls, rfl, k2, T2.le (by omega), nDH, hD, ll, hls⟩
    rintro σ' H2 ⟨D, ls, rfl, k2, T2, nDH, hD, ll, hls⟩
    obtain ⟨r, hr0, hr1⟩ := hW.one
    have hrl := (List.getElem?_eq_some_iff.mp hr0).1
    refine ⟨fun σ' H' => ∃ ms : List Int, σ' = [some (.ref t), some (.ref p), some (.int most), some (.ref D), none] ∧ Kt t H H' ∧ Tray K H' t sc ns (b + 20) ∧ H' D = some (.lst (ms.map V.int)) ∧ Lates us ms, ?_, ?_⟩
    · obtain ⟨o, hpo, oc, od⟩ := hp.kt k2
      refine ⟨_, rfl, _, rfl, ⟨p, o, _, rfl, hpo, oc, od⟩, p, .non, .none, us.map oD, r, .none, rfl, rfl, .tup (.inl (.inr ⟨o, hpo⟩)) (dpO us), .non, shapedO us, by decide +kernel, by rw [List.getElem?_map, hr0]; rfl, by decide +kernel, fun m z' hm hz' => ?_, ?_⟩
      · rw [List.getElem?_map] at hz'
        cases e : us[m]? with
        | none => rw [e] at hz'; cases hz'
        | some x =>
          rw [e] at hz'
          cases hz'
          cases x with
          | none => have := hr1 m e; omega
          | some u => simp [oD, PyData.eqv]
      · refine ⟨D, _, _, r, rfl, rfl, hD, by rw [ixN_at (by omega) (by rw [List.length_map]; omega)]; rfl, ls.set r 0, rfl, k2.mut nDH, T2.mut hT k2 nDH, by rw [List.map_set]; exact upd_same, by rw [List.length_set]; exact ll, fun i o' x ho hx => ?_⟩
        by_cases hir : i = r
        · subst hir
          rw [hr0] at ho
          cases ho
          rw [List.getElem?_set_self (by omega)] at hx
          cases hx
          exact ⟨fun _ => rfl, fun z => absurd rfl z⟩
        · rw [List.getElem?_set_ne (fun z => hir z.symm)] at hx
          refine ⟨fun z => absurd (hr1 i (by rw [ho, z])) hir, fun _ => hls x (List.mem_of_getElem? hx)⟩
    rintro σ' H3 ⟨ms, rfl, k3, T3, hD3, hL⟩
    refine ⟨_, rfl, D, ms.map V.int, rfl, .inl ⟨.inl (.inl hD3), fun q' nq => ?_⟩⟩
    have nq0 := k3.dom q' nq
    exact q q' ms _ (k3.mut nq0) ((T3.le (by omega)).mut hT k3 nq0) nq0 upd_same hL
def spWayUp (K : PySem.W.Frag) : Sp := fun vs H Q _ => ∃ (p : Addr) (us : List (Option Int)) (v : Int) (l : List Int), vs = [.ref p, .int v] ∧ SqT K H p (us.map oV) ∧ Ways us ∧ 0 ≤ v ∧ v < us.length ∧ Up (upF us) v l ∧
  ∀ (q : Addr) (H' : Hp), K0 H H' → H q = none → H' q = some (.lst (l.map V.int)) → Q (.ref q) H'
theorem ok_path {f : Addr} {fd : FuncData} (F : Fun K "_law_e_path" "_law_e_path" sPath f fd) : FnOk P w K mg base CX0 1 f fd ["up", "place"] (spWayUp K) := by
  refine F.ok scPath (fun vs H Q E h => ?_) (fun cdv A outer s H vs Q E hr h => ?_)
  · obtain ⟨a, us, v, l, rfl, _⟩ := h
    rfl
  · obtain ⟨p, us, v, l, rfl, hp, hW, v0, v1, hU, q⟩ := h
    have hu := hu_of hr
    refine ⟨_, (pss_cons (ps_set (i := 2) scPath.nd rfl (.inl rfl) (pe_lst (pa_cons (pv 1) pa_nil)))
      (pss_cons (ps_while PassesOwn.never (pt_cmp (pc_notN (pe_ix ix_tup (pv 0) (pe_ix ix_list (pv 2) (pe_un un_neg pe_int) (fun _ _ => rfl)) (fun _ _ => rfl))))
      (pss_one (ps_expr (pe_bm PySem.F.plainAttrs_list PySem.F.slot_list_append PySem.F.type_list_append mt_append (pv 2) (pa_cons (pe_ix ix_tup (pv 0) (pe_ix ix_list (pv 2) (pe_un un_neg pe_int) (fun _ _ => rfl)) (fun _ _ => rfl)) pa_nil)))))
      (pss_one (ps_ret (pv 2))))), ?_⟩
    have n8 := hW.n8
    have hll := hU.len hW v0 v1
    refine ⟨_, rfl, by show 1 ≤ sizeLine; decide, fun L nL => ?_⟩
    refine ⟨fun m σ' H' => ∃ (ds : List Int) (x : Int) (t : List Int), σ' = [some (.ref p), some (.int v), some (.ref L)] ∧ K0 H H' ∧ H' L = some (.lst ((ds ++ [x]).map V.int)) ∧ ds ++ t = l ∧ Up (upF us) x t ∧ 0 ≤ x ∧ x < us.length ∧ m = t.length, ⟨l.length, [], v, l, rfl, K0.new nL, upd_same, rfl, hU, v0, v1, rfl⟩, ?_⟩
    rintro m σ' H' ⟨ds, x, t, rfl, k, hL, el, hUt, x0, x1, em⟩
    have hS := k.sqT hp
    refine ⟨_, rfl, _, rfl, 1, rfl, L, _, -1, .int x, rfl, rfl, .inl (.inl hL), at_lastI, p, _, x, oV (upF us x), rfl, rfl, hS, up_at x0 x1, ?_⟩
    have hdl : ds.length + t.length ≤ us.length := by rw [← List.length_append, el]; exact hll
    cases hUt with
    | top e =>
      rw [e]
      refine ⟨_, rfl, iteF ⟨_, rfl, ?_⟩⟩
      rw [el] at hL
      exact q L H' k nL hL
    | @step _ u t' e hU' =>
      rw [e]
      obtain ⟨u0, u1⟩ := upF_rng hW e
      refine ⟨_, rfl, iteT ⟨fun σ' H' => ∃ (ds : List Int) (x : Int) (t : List Int), σ' = [some (.ref p), some (.int v), some (.ref L)] ∧ K0 H H' ∧ H' L = some (.lst ((ds ++ [x]).map V.int)) ∧ ds ++ t = l ∧ Up (upF us) x t ∧ 0 ≤ x ∧ x < us.length ∧ t = t', fun σ' H' ⟨ds, x, t, e1, e2, e3, e4, e5, e6, e7, e8⟩ => ⟨t'.length, by rw [em, List.length_cons]; omega, ds, x, t, e1, e2, e3, e4, e5, e6, e7, by rw [e8]⟩, ?_⟩⟩
      refine ⟨_, rfl, .inl ⟨rfl, _, .inl (.inl hL)⟩, ?_⟩
      refine ⟨_, rfl, _, rfl, 1, rfl, L, _, -1, .int x, rfl, rfl, .inl (.inl hL), at_lastI, p, _, x, oV (upF us x), rfl, rfl, hS, up_at x0 x1, ?_⟩
      rw [e]
      refine ⟨L, _, _, rfl, rfl, hL, Nat.lt_of_le_of_lt (m := 5000) (by rw [List.length_map, List.length_append, List.length_singleton]; omega) (by decide), ?_⟩
      exact ⟨ds ++ [x], u, t', rfl, k.mut nL, by rw [List.map_append (l₁ := ds ++ [x])]; exact upd_same, by rw [List.append_assoc]; exact el, hU', u0, u1, rfl⟩
theorem ok_wayup {f : Addr} {fd : FuncData} (F : Fun K "way_up" "way_up" sWayUp f fd) : FnOk P w K mg base CX0 1 f fd ["up", "place"] (spWayUp K) := by
  refine F.ok scWayUp (fun vs H Q E h => ?_) (fun cdv A outer s H vs Q E hr h => ?_)
  · obtain ⟨a, us, v, l, rfl, _⟩ := h
    rfl
  · obtain ⟨p, us, v, l, rfl, hp, hW, v0, v1, hU, q⟩ := h
    have hu := hu_of hr
    refine ⟨_, (pss_cons (ps_set (i := 2) scWayUp.nd rfl (.inl rfl) (pe_lst (pa_cons (pv 1) pa_nil)))
      (pss_cons (ps_while PassesOwn.never (pt_cmp (pc_notN (pe_ix ix_tup (pv 0) (pe_ix ix_list (pv 2) (pe_un un_neg pe_int) (fun _ _ => rfl)) (fun _ _ => rfl))))
      (pss_one (ps_expr (pe_bm PySem.F.plainAttrs_list PySem.F.slot_list_append PySem.F.type_list_append mt_append (pv 2) (pa_cons (pe_ix ix_tup (pv 0) (pe_ix ix_list (pv 2) (pe_un un_neg pe_int) (fun _ _ => rfl)) (fun _ _ => rfl)) pa_nil)))))
      (pss_one (ps_ret (pv 2))))), ?_⟩
    have n8 := hW.n8
    have hll := hU.len hW v0 v1
    refine ⟨_, rfl, by show 1 ≤ sizeLine; decide, fun L nL => ?_⟩
    refine ⟨fun m σ' H' => ∃ (ds : List Int) (x : Int) (t : List Int), σ' = [some (.ref p), some (.int v), some (.ref L)] ∧ K0 H H' ∧ H' L = some (.lst ((ds ++ [x]).map V.int)) ∧ ds ++ t = l ∧ Up (upF us) x t ∧ 0 ≤ x ∧ x < us.length ∧ m = t.length, ⟨l.length, [], v, l, rfl, K0.new nL, upd_same, rfl, hU, v0, v1, rfl⟩, ?_⟩
    rintro m σ' H' ⟨ds, x, t, rfl, k, hL, el, hUt, x0, x1, em⟩
    have hS := k.sqT hp
    refine ⟨_, rfl, _, rfl, 1, rfl, L, _, -1, .int x, rfl, rfl, .inl (.inl hL), at_lastI, p, _, x, oV (upF us x), rfl, rfl, hS, up_at x0 x1, ?_⟩
    have hdl : ds.length + t.length ≤ us.length := by rw [← List.length_append, el]; exact hll
    cases hUt with
    | top e =>
      rw [e]
      refine ⟨_, rfl, iteF ⟨_, rfl, ?_⟩⟩
      rw [el] at hL
      exact q L H' k nL hL
    | @step _ u t' e hU' =>
      rw [e]
      obtain ⟨u0, u1⟩ := upF_rng hW e
      refine ⟨_, rfl, iteT ⟨fun σ' H' => ∃ (ds : List Int) (x : Int) (t : List Int), σ' = [some (.ref p), some (.int v), some (.ref L)] ∧ K0 H H' ∧ H' L = some (.lst ((ds ++ [x]).map V.int)) ∧ ds ++ t = l ∧ Up (upF us) x t ∧ 0 ≤ x ∧ x < us.length ∧ t = t', fun σ' H' ⟨ds, x, t, e1, e2, e3, e4, e5, e6, e7, e8⟩ => ⟨t'.length, by rw [em, List.length_cons]; omega, ds, x, t, e1, e2, e3, e4, e5, e6, e7, by rw [e8]⟩, ?_⟩⟩
      refine ⟨_, rfl, .inl ⟨rfl, _, .inl (.inl hL)⟩, ?_⟩
      refine ⟨_, rfl, _, rfl, 1, rfl, L, _, -1, .int x, rfl, rfl, .inl (.inl hL), at_lastI, p, _, x, oV (upF us x), rfl, rfl, hS, up_at x0 x1, ?_⟩
      rw [e]
      refine ⟨L, _, _, rfl, rfl, hL, Nat.lt_of_le_of_lt (m := 5000) (by rw [List.length_map, List.length_append, List.length_singleton]; omega) (by decide), ?_⟩
      exact ⟨ds ++ [x], u, t', rfl, k.mut nL, by rw [List.map_append (l₁ := ds ++ [x])]; exact upd_same, by rw [List.append_assoc]; exact el, hU', u0, u1, rfl⟩
end
end HK

set_option Elab.async false
set_option linter.all false
set_option maxRecDepth 100000
set_option maxHeartbeats 4000000
namespace HK
open PySem PySem.Spec PyProof.Rows L2 GAl GxR
open Evl (pss_cut)
abbrev sNeedPlaces : Stmt := topS 17
abbrev N_scNeedPlaces : List Str := ["up", "numbers", "number"]
theorem scNeedPlaces : FnScope N_scNeedPlaces ["up", "numbers"] (defScope sNeedPlaces) := ⟨rfl, rfl, rfl, by decide +kernel, rfl, by decide +kernel, by decide +kernel⟩
abbrev sIsMoment : Stmt := topS 18
abbrev N_scIsMoment : List Str := ["thing"]
theorem scIsMoment : FnScope N_scIsMoment ["thing"] (defScope sIsMoment) := ⟨rfl, rfl, rfl, by decide +kernel, rfl, by decide +kernel, by decide +kernel⟩
abbrev sAreMoments : Stmt := topS 19
abbrev N_scAreMoments : List Str := ["thing", "key", "moment"]
theorem scAreMoments : FnScope N_scAreMoments ["thing"] (defScope sAreMoments) := ⟨rfl, rfl, rfl, by decide +kernel, rfl, by decide +kernel, by decide +kernel⟩
def tIfT (tA ta tb : TT) : TT := fun σ H Q => tA σ H fun d H1 => if d = true then ta σ H1 Q else tb σ H1 Q
theorem pt_ifExp {X : Cx} {c a b : Expr} {pos : Pos} {tA ta tb : TT} (hc : PT X c tA) (ha : PT X a ta) (hb : PT X b tb) : PT X (.IfExp c a b pos) (tIfT tA ta tb) := by
  refine ⟨fun pins s σ H Q I h => ?_⟩
  refine PyProof.Rows.isTrue_IfExp (thn (hc.run pins s σ H _ I h) fun d s1 ⟨H1, I1, q1⟩ => ?_)
  cases d with
  | true => exact ha.run pins s1 σ H1 Q I1 q1
  | false => exact hb.run pins s1 σ H1 Q I1 q1
section
variable {P : Program} {w : World} {K : PySem.W.Frag} {mg : Str → Option Value} {base : Heap}
def spNeedLates (K : PySem.W.Frag) : Sp := fun vs H Q _ => ∃ (p q : Addr) (us : List (Option Int)) (ls : List Int), vs = [.ref p, .ref q] ∧ SqT K H p (us.map oV) ∧ SqT K H q (ls.map V.int) ∧ Lates us ls ∧ us.length ≤ 8 ∧ ∀ H', K0 H H' → Q .non H'
theorem ok_needlates {f : Addr} {fd : FuncData} {f_within : Addr} {fd_within : FuncData} (F : Fun K "need_lates" "need_lates" sNeedLates f fd) {t1 : Tok} (k_within : PySem.W.keepIn K (.ref f_within) = true) (b_within : Binds K fd_within ["thing", "least", "greatest"] []) (g_within : mg "is_within" = some (.ref f_within)) (G_within : FnOk P w K mg base CX0 2 f_within fd_within ["thing", "least", "greatest"] (spWithin K)) (m_isinstance : mg "isinstance" = none) (m_tuple : mg "tuple" = none) (m_len : mg "len" = none) (m_zip : mg "zip" = none) (c_MOST_LATENESS : mg "MOST_LATENESS" = some (.int 100 t1)) : FnOk P w K mg base CX0 3 f fd ["up", "late"] (spNeedLates K) := by
  refine F.ok scNeedLates (fun vs H Q E h => ?_) (fun cdv A outer s H vs Q E hr h => ?_)
  · obtain ⟨p, q, us, ls, rfl, _⟩ := h
    rfl
  · obtain ⟨p, q, us, ls, rfl, hp, hq, hL, n8, qq⟩ := h
    have hu := hu_of hr
    refine ⟨_, (pss_cons (ps_if (pt_not (PW.pt (pw_and (pt_val (pe_callB call_isi (by rfl) m_isinstance boot_isinstance (pa_cons (pv 1) (pa_cons (pe_bltn (v := .ty "tuple") (by rfl) m_tuple (by decide +kernel) rfl) pa_nil)))) (pw_and1 (pt_cmpR op_eq (pe_callB call_len_seq (by rfl) m_len PySem.boot_len (pa_cons (pv 1) pa_nil)) (pe_callB call_len_seq (by rfl) m_len PySem.boot_len (pa_cons (pv 0) pa_nil)) (nomark _)))))) pss_never pss_nil)
      (pss_one (ps_for PassesOwn.never rfl (RZ.pi_zipA (by rfl) m_zip (pa_cons (pv 0) (pa_cons (pv 1) pa_nil))) (pg_tup rfl (pgs_cons (pg_name (i := 2) scNeedLates.nd rfl (.inl rfl)) (pgs_cons (pg_name (i := 3) scNeedLates.nd rfl (.inl rfl)) pgs_nil)))
      (pss_one (ps_if (pt_not (pt_ifExp (pt_cmp (pc_isN (pv 2))) (pt_val (pe_call G_within (hr.mono (by decide)) (by rfl) g_within k_within b_within .nil pass0 (pa_cons (pv 3) (pa_cons pe_int (pa_cons pe_int pa_nil))))) (pt_val (pe_call G_within (hr.mono (by decide)) (by rfl) g_within k_within b_within .nil pass0 (pa_cons (pv 3) (pa_cons pe_int (pa_cons (pe_glob (v := .int 100) (by rfl) c_MOST_LATENESS ⟨_, rfl⟩) pa_nil))))))) pss_never pss_nil))))), ?_⟩
    have hl1 : (us.map oV).length = us.length := List.length_map ..
    have hl2 : (ls.map V.int).length = us.length := by rw [List.length_map, hL.len]
    refine ⟨_, rfl, .ref q, .ty "tuple", .type "tuple", _, true, rfl, .ty "tuple", sqT_ty hq, kit_ty (tys_tuple (by decide)), _, rfl, iteT ?_⟩
    refine ⟨_, rfl, q, _, rfl, .inr hq, _, rfl, p, _, rfl, .inr hp, rfl, _, rfl, ?_⟩
    rw [hl1, hl2, decide_eq_true (show V.int (us.length : Int) = V.int (us.length : Int) from rfl)]
    refine iteF ?_
    refine ⟨_, rfl, _, rfl, p, q, us.map oV, ls.map V.int, rfl, .inr ⟨hp, hq, ?_⟩⟩
    refine ⟨fun i m σ' H' => i + m = us.length ∧ ∃ y2 y3, σ' = [some (.ref p), some (.ref q), y2, y3] ∧ K0 H H', ⟨us.length, by omega, none, none, rfl, K0.refl _⟩, fun i m σ' H' hWi => ?_⟩
    obtain ⟨em, y2, y3, rfl, k⟩ := hWi
    have hA := k.sqT hp
    have hB := k.sqT hq
    by_cases hi : i < us.length
    · have g1 : (us.map oV)[i]? = some (oV us[i]) := by rw [List.getElem?_map, List.getElem?_eq_getElem hi]; rfl
      have hil : i < ls.length := by rw [hL.len]; exact hi
      have g2 : (ls.map V.int)[i]? = some (.int ls[i]) := by rw [List.getElem?_map, List.getElem?_eq_getElem hil]; rfl
      refine .inr ⟨⟨_, _, _, _, hA, hB, g1, g2⟩, fun σ' H' => ∃ y2 y3, σ' = [some (.ref p), some (.ref q), y2, y3] ∧ K0 H H', fun σ' H' hN => ⟨m - 1, by omega, by omega, hN⟩, fun x H' hy => ?_⟩
      obtain ⟨T, x1, x2, rfl, nT, rfl, f1, f2⟩ := hy
      have ex1 : x1 = oV us[i] := Option.some.inj ((f1 _ hA).symm.trans g1)
      have ex2 : x2 = .int ls[i] := Option.some.inj ((f2 _ hB).symm.trans g2)
      subst ex1 ex2
      have kT := k.mut (o := .tup [oV us[i], .int ls[i]]) (k.dom T nT)
      obtain ⟨h0, h1⟩ := hL.at_ i us[i] ls[i] (List.getElem?_eq_getElem hi) (List.getElem?_eq_getElem hil)
      refine ⟨T, _, rfl, .inl (.inl upd_same), rfl, _, _, rfl, _, _, rfl, rfl, ?_⟩
      cases e : us[i] with
      | none =>
        rw [e] at h0
        have h0 := h0 rfl
        refine ⟨_, rfl, _, rfl, iteT ⟨_, rfl, .int ls[i], .int ls[i], 0, 0, rfl, .int _, _, rfl, ?_⟩⟩
        rw [e] at kT
        rw [h0] at kT ⊢
        exact iteF ⟨_, _, rfl, kT⟩
      | some u =>
        rw [e] at h1
        obtain ⟨a1, a2⟩ := h1 (fun z => by cases z)
        refine ⟨_, rfl, _, rfl, iteF ⟨_, rfl, .int ls[i], .int ls[i], 1, 100, rfl, .int _, _, rfl, ?_⟩⟩
        rw [show withinD (PyData.int ls[i]) 1 100 = true from by
          show (decide (1 ≤ ls[i]) && decide (ls[i] ≤ 100)) = true
          rw [decide_eq_true a1, decide_eq_true a2]
          rfl]
        rw [e] at kT
        exact iteF ⟨_, _, rfl, kT⟩
    · exact .inl ⟨⟨_, _, hA, hB, .inl (by rw [hl1]; omega)⟩, qq _ k⟩
def spNeedPlaces (K : PySem.W.Frag) (Px : Addr) : Sp := fun vs H Q _ => ∃ (p q : Addr) (us : List (Option Int)) (ns : List Int), vs = [.ref p, .ref q] ∧ SqT K H p (us.map oV) ∧ SqL K H q (ns.map V.int) ∧ (∀ v ∈ ns, 0 ≤ v ∧ v < us.length) ∧ TabG H Px ∧ ∀ H', K0 H H' → Q .non H'
theorem ok_needplaces {f c Px : Addr} {fd : FuncData} {f_within : Addr} {fd_within : FuncData} (F : FunC K "need_places" "need_places" sNeedPlaces f fd c) (TB : TabB base mg c Px) (k_within : PySem.W.keepIn K (.ref f_within) = true) (b_within : Binds K fd_within ["thing", "least", "greatest"] []) (g_within : mg "is_within" = some (.ref f_within)) (G_within : FnOk P w K mg base CX0 2 f_within fd_within ["thing", "least", "greatest"] (spWithin K)) (m_all : mg "all" = none) (m_len : mg "len" = none) : FnOk P w K mg base CX0 4 f fd ["up", "numbers"] (spNeedPlaces K Px) := by
  refine F.ok scNeedPlaces (fun vs H Q E h => ?_) (fun A outer s H vs Q E hr h => ?_)
  · obtain ⟨p, q, us, ns, rfl, _⟩ := h
    rfl
  · obtain ⟨p, q, us, ns, rfl, hp, hq, hns, tx, qq⟩ := h
    have hu := hu_of hr
    refine ⟨_, (pss_one (ps_if (pt_not (pt_val (pe_allG (own := [("number", 2)]) (k := 2) (g := (gName 2)) (tt := tYes) (te := (tCall (spWithin K) [] E0 (tCons (tVar 2) (tCons (tC (.int 0)) (tCons (tOp (rI0 fun i j => .int (i - j)) (tCB (rLen K) (tCons (tVar 0) tNil)) (tC (.int 1))) tNil))))) (hr.mono (by decide)) (by rfl) m_all rfl scNeedPlaces.nd TB rfl (gsc_by (N := N_scNeedPlaces) (sc := defScope sNeedPlaces) (by decide +kernel)) (pi_list (pv 1)) (fun A' hr' _ _ _ _ _ _ => (pg_name (i := 2) scNeedPlaces.nd rfl (.inl rfl))) (fun A' hr' _ _ _ _ _ _ => pts_nil) (fun A' hr' _ _ _ _ _ _ => (pe_call G_within (hr'.mono (by decide)) (by rfl) g_within k_within b_within .nil pass0 (pa_cons (pv 2) (pa_cons pe_int (pa_cons (pe_op op_sub (pe_callB call_len_seq (by rfl) m_len PySem.boot_len (pa_cons (pv 0) pa_nil)) pe_int) pa_nil)))))))) pss_never pss_nil)), ?_⟩
    have hl1 : (us.map oV).length = us.length := List.length_map ..
    refine ⟨_, rfl, q, rfl, ⟨_, hq⟩, tx, fun H2 hT2 => ?_⟩
    have k2 : K0 H H2 := K0.tbd tx hT2
    refine ⟨fun i m H3 => i + m = ns.length ∧ K0 H H3, ⟨ns.length, by omega, k2⟩, fun i m H3 hWi => ?_⟩
    obtain ⟨em, k3⟩ := hWi
    have hA := k3.sqL hq
    by_cases hi : i < ns.length
    · have g1 : (ns.map V.int)[i]? = some (.int ns[i]) := by rw [List.getElem?_map, List.getElem?_eq_getElem hi]; rfl
      refine .inr ⟨⟨_, _, hA, g1⟩, fun H' => K0 H H', fun H' hN => ⟨m - 1, by omega, by omega, hN⟩, fun x H' hy => ?_⟩
      obtain ⟨rfl, fx⟩ := hy
      have ex : x = .int ns[i] := Option.some.inj ((fx _ hA).symm.trans g1)
      subst ex
      obtain ⟨a1, a2⟩ := hns ns[i] (List.getElem_mem hi)
      refine ⟨rfl, tyes ⟨_, rfl, _, rfl, p, _, rfl, .inr (k3.sqT hp), _, _, rfl, rfl, .int ns[i], .int ns[i], 0, _, rfl, .int _, ?_⟩⟩
      refine ⟨_, rfl, ?_⟩
      rw [show withinD (PyData.int ns[i]) 0 ((us.map oV).length - 1) = true from by
        show (decide (0 ≤ ns[i]) && decide (ns[i] ≤ ((us.map oV).length : Int) - 1)) = true
        rw [hl1, decide_eq_true a1, decide_eq_true (show ns[i] ≤ (us.length : Int) - 1 by omega)]
        rfl]
      exact iteT k3
    · exact .inl ⟨⟨_, hA, by rw [List.length_map]; omega⟩, _, rfl, iteF (qq _ k3)⟩
def spIsMoment (K : PySem.W.Frag) : Sp := fun vs H Q _ => ∃ x : Int, vs = [.int x] ∧ 0 ≤ x ∧ Q (.bl true) H
theorem ok_ismoment {f : Addr} {fd : FuncData} {f_whole : Addr} {fd_whole : FuncData} (F : Fun K "is_moment" "is_moment" sIsMoment f fd) (k_whole : PySem.W.keepIn K (.ref f_whole) = true) (b_whole : Binds K fd_whole ["thing"] []) (g_whole : mg "is_whole" = some (.ref f_whole)) (G_whole : FnOk P w K mg base CX0 1 f_whole fd_whole ["thing"] (spWhole K)) : FnOk P w K mg base CX0 2 f fd ["thing"] (spIsMoment K) := by
  refine F.ok scIsMoment (fun vs H Q E h => ?_) (fun cdv A outer s H vs Q E hr h => ?_)
  · obtain ⟨x, rfl, _⟩ := h
    rfl
  · obtain ⟨x, rfl, h0, q⟩ := h
    refine ⟨_, (pss_one (ps_ret (pe_and (pe_call G_whole (hr.mono (by decide)) (by rfl) g_whole k_whole b_whole .nil pass0 (pa_cons (pv 0) pa_nil)) (pe_one (pe_cmpR op_ge (pv 0) pe_int (nomark _)))))), ?_⟩
    refine ⟨_, rfl, .int x, .int x, rfl, .int x, _, rfl, iteT ⟨_, rfl, _, _, rfl, rfl, ?_⟩⟩
    show Q (V.bl (decide (0 ≤ x))) H
    rw [decide_eq_true h0]
    exact q
def spAreMoments (K : PySem.W.Frag) (Pm : Addr) : Sp := fun vs H Q _ => ∃ (p : Addr) (kvs : List (Key × V)) (g : IF), vs = [.ref p] ∧ H p = some (.dK kvs) ∧ DI kvs g ∧ (∀ v x, g v = some x → 0 ≤ x) ∧ TabG H Pm ∧ ∀ H', K0 H H' → Q (.bl true) H'
theorem ok_aremoments {f c Pm : Addr} {fd : FuncData} {f_whole f_ismoment : Addr} {fd_whole fd_ismoment : FuncData} (F : FunC K "are_moments" "are_moments" sAreMoments f fd c) (TB : TabB base mg c Pm) (k_whole : PySem.W.keepIn K (.ref f_whole) = true) (b_whole : Binds K fd_whole ["thing"] []) (g_whole : mg "is_whole" = some (.ref f_whole)) (G_whole : FnOk P w K mg base CX0 1 f_whole fd_whole ["thing"] (spWhole K))
    (k_ismoment : PySem.W.keepIn K (.ref f_ismoment) = true) (b_ismoment : Binds K fd_ismoment ["thing"] []) (g_ismoment : mg "is_moment" = some (.ref f_ismoment)) (G_ismoment : FnOk P w K mg base CX0 2 f_ismoment fd_ismoment ["thing"] (spIsMoment K)) (m_isinstance : mg "isinstance" = none) (m_dict : mg "dict" = none) (m_all : mg "all" = none) : FnOk P w K mg base CX0 4 f fd ["thing"] (spAreMoments K Pm) := by
  refine F.ok scAreMoments (fun vs H Q E h => ?_) (fun A outer s H vs Q E hr h => ?_)
  · obtain ⟨p, kvs, g, rfl, _⟩ := h
    rfl
  · obtain ⟨p, kvs, g, rfl, hp, hD, hg, hT, q⟩ := h
    have hu := hu_of hr
    refine ⟨_, (pss_cons (ps_if (pt_not (pt_val (pe_callB call_isi (by rfl) m_isinstance boot_isinstance (pa_cons (pv 0) (pa_cons (pe_bltn (v := .ty "dict") (by rfl) m_dict (by decide +kernel) rfl) pa_nil))))) (pss_one (ps_ret pe_bl)) pss_nil)
      (pss_one (ps_ret (pe_lock (pe_allG (own := [("key", 1), ("moment", 2)]) (k := 2) (g := (gTup K 2 (gCons (gName 1) (gCons (gName 2) gNil)))) (tt := tYes) (te := (tAndV (tCall (spWhole K) [] E0 (tCons (tVar 1) tNil)) (tCall (spIsMoment K) [] E0 (tCons (tVar 2) tNil)))) (hr.mono (by decide)) (by rfl) m_all rfl scAreMoments.nd TB rfl (gsc_by (N := N_scAreMoments) (sc := defScope sAreMoments) (by decide +kernel)) (pi_items (pv 0)) (fun A' hr' _ _ _ _ _ _ => (pg_tup rfl (pgs_cons (pg_name (i := 1) scAreMoments.nd rfl (.inl rfl)) (pgs_cons (pg_name (i := 2) scAreMoments.nd rfl (.inl rfl)) pgs_nil)))) (fun A' hr' _ _ _ _ _ _ => pts_nil) (fun A' hr' _ _ _ _ _ _ => (pe_and (pe_call G_whole (hr'.mono (by decide)) (by rfl) g_whole k_whole b_whole .nil pass0 (pa_cons (pv 1) pa_nil)) (pe_one (pe_call G_ismoment (hr'.mono (by decide)) (by rfl) g_ismoment k_ismoment b_ismoment .nil pass0 (pa_cons (pv 2) pa_nil)))))))))), ?_⟩
    refine ⟨_, rfl, .ref p, .ty "dict", .type "dict", _, true, rfl, .ty "dict", .base (.dK hp), kit_ty (tys_dict (by decide)), _, rfl, iteF ?_⟩
    refine ⟨p, _, hp, trivial, fun od => ⟨_, rfl, p, od, kvs, rfl, upd_same, tabG_lock hp (fun _ z => by cases z) hT, fun H2 hT2 => ?_⟩⟩
    have k2 : K0 (upd H p (.frz od (.dK kvs))) H2 := K0.tbd (tabG_lock hp (fun _ z => by cases z) hT) hT2
    refine ⟨fun i m H3 => i + m = kvs.length ∧ K0 (upd H p (.frz od (.dK kvs))) H3, ⟨kvs.length, by omega, k2⟩, fun i m H3 hW => ?_⟩
    obtain ⟨em, k3⟩ := hW
    have hp3 : H3 p = some (.frz od (.dK kvs)) := k3.oth p _ upd_same (fun _ z => by cases z)
    by_cases hi : i < kvs.length
    · refine .inr ⟨⟨hp3, hi⟩, fun H' => K0 (upd H p (.frz od (.dK kvs))) H', fun H' hN => ⟨m - 1, by omega, by omega, hN⟩, fun x H' hy => ?_⟩
      obtain ⟨T, k, v, hkv, rfl, nT, rfl⟩ := hy
      obtain ⟨j, z, e, e2⟩ := hD.at_ (List.mem_of_getElem? hkv)
      cases e
      refine ⟨T, _, rfl, .inl (.inl upd_same), rfl, _, _, rfl, _, _, rfl, rfl, rfl, tyes ?_⟩
      exact ⟨_, rfl, .int j, .int j, rfl, .int j, _, rfl, iteT ⟨_, rfl, z, rfl, hg j z e2, _, rfl, iteT (k3.mut (k3.dom T nT))⟩⟩
    · exact .inl ⟨⟨hp3, by omega⟩, hp3, q _ (K0.lock hp (fun _ z => by cases z) k3)⟩
end
end HK

set_option Elab.async false
set_option linter.all false
set_option maxRecDepth 100000
set_option maxHeartbeats 4000000
namespace HK
open PySem PySem.Spec PyProof.Rows L2 GAl GxR
open Evl (pss_cut)
abbrev N_scRises : List Str := ["row", "low", "high"]
/-! ### rising tuples of places -/
def risI (l : List Int) : Bool := (List.range (l.length - 1)).all fun i => decide (l.getD i 0 < l.getD (i + 1) 0)
theorem risI_yes {l : List Int} (h : ∀ j, j < l.length - 1 → l.getD j 0 < l.getD (j + 1) 0) : risI l = true := by
  unfold risI
  rw [List.all_eq_true]
  exact fun j hj => decide_eq_true (h j (List.mem_range.mp hj))
theorem risI_no {l : List Int} {j : Nat} (hj : j < l.length - 1) (h : ¬ l.getD j 0 < l.getD (j + 1) 0) : risI l = false := by
  unfold risI
  rw [Bool.eq_false_iff]
  intro z
  exact h (of_decide_eq_true (List.all_eq_true.mp z j (List.mem_range.mpr hj)))
theorem risI_iff {l : List Int} : risI l = true ↔ l.Pairwise (· < ·) := by
  constructor
  · intro h
    have step : ∀ j, j < l.length - 1 → l.getD j 0 < l.getD (j + 1) 0 := fun j hj => by
      unfold risI at h
      exact of_decide_eq_true (List.all_eq_true.mp h j (List.mem_range.mpr hj))
    have far : ∀ d i, i + d + 1 < l.length → l.getD i 0 < l.getD (i + d + 1) 0 := fun d => by
      induction d with
      | zero => exact fun i hi => step i (by omega)
      | succ d ih =>
        intro i hi
        have h1 := ih i (by omega)
        have h2 := step (i + d + 1) (by omega)
        rw [show i + (d + 1) + 1 = i + d + 1 + 1 by omega]
        omega
    rw [List.pairwise_iff_getElem]
    intro i j hi hj hij
    have := far (j - i - 1) i (by omega)
    rw [show i + (j - i - 1) + 1 = j by omega] at this
    simpa [List.getD_eq_getElem?_getD, List.getElem?_eq_getElem hi, List.getElem?_eq_getElem hj] using this
  · intro h
    refine risI_yes fun j hj => ?_
    have := List.pairwise_iff_getElem.mp h j (j + 1) (by omega) (by omega) (by omega)
    simpa [List.getD_eq_getElem?_getD, List.getElem?_eq_getElem (show j < l.length by omega), List.getElem?_eq_getElem (show j + 1 < l.length by omega)] using this
def AreP (n : Int) (l : List Int) : Prop := (∀ v ∈ l, 0 ≤ v ∧ v < n) ∧ l.Pairwise (· < ·)
theorem AreP.len {n : Int} {l : List Int} (h : AreP n l) : l.length ≤ n.toNat := by
  have nd : l.Nodup := h.2.imp fun a => Int.ne_of_lt a
  have := sub_len (ks := (List.range n.toNat).map fun (i : Nat) => (i : Int)) nd (List.pairwise_map.mpr (List.pairwise_lt_range.imp fun a z => by omega)) fun x hx => by
    obtain ⟨h0, h1⟩ := h.1 x hx
    exact List.mem_map.mpr ⟨x.toNat, List.mem_range.mpr (by omega), by omega⟩
  simpa using this
theorem cut1' (xs : List V) : cutV xs (some 1) none = xs.drop 1 := cut1 xs
theorem getI {ns : List Int} {i : Nat} {x : V} (h : (ns.map V.int)[i]? = some x) : x = .int (ns.getD i 0) := by
  rw [List.getElem?_map] at h
  cases e : ns[i]? with
  | none => rw [e] at h; cases h
  | some v => rw [e] at h; cases h; rw [List.getD_eq_getElem?_getD, e]; rfl
section
variable {P : Program} {w : World} {K : PySem.W.Frag} {mg : Str → Option Value} {base : Heap}
def spRisesI (K : PySem.W.Frag) (Pr : Addr) : Sp := fun vs H Q _ => ∃ (a : Addr) (ns : List Int), vs = [.ref a] ∧ SqT K H a (ns.map V.int) ∧ TabG H Pr ∧ ∀ H', K0 H H' → Q (.bl (risI ns)) H'
def spAreP (K : PySem.W.Frag) (Pr Pa : Addr) : Sp := fun vs H Q _ => ∃ (a : Addr) (n : Int) (rs : List R4) (p : Addr) (ns : List Int), vs = [.ref a, .ref p] ∧ NetAt K H a n rs ∧ SqT K H p (ns.map V.int) ∧ TabG H Pr ∧ TabG H Pa ∧ ∀ (H' : Hp) (b : Bool), K0 H H' → (b = true ↔ AreP n ns) → Q (.bl b) H'
end
end HK

set_option Elab.async false
set_option linter.all false
set_option maxRecDepth 100000
set_option maxHeartbeats 4000000
namespace HK
open PySem PySem.Spec PyProof.Rows L2 GAl GxR
open Evl (pss_cut)
/-- places out of which no road leads -/
def ClosedP (n : Int) (rs : List R4) (root : Int) (ns : List Int) : Prop := AreP n ns ∧ root ∈ ns ∧ ∀ r ∈ rs, r.s ∈ ns → r.e ∈ ns
theorem flatI (ns : List Int) : (ns.map V.int).all flatV = true := by
  rw [List.all_map, List.all_eq_true]
  exact fun _ _ => rfl
theorem inI_iff {i : Int} {js : List Int} : inV (.int i) (js.map V.int) = true ↔ i ∈ js := by
  unfold inV
  rw [List.any_map, List.any_eq_true]
  constructor
  · rintro ⟨x, hx, e⟩
    have e : (x == i) = true := e
    rw [← beq_iff_eq.mp e]; exact hx
  · intro h
    exact ⟨i, h, by simp [eqV]⟩
theorem inI {k : Int} {ns : List Int} : inV (V.int k) (ns.map V.int) = decide (k ∈ ns) := by
  rw [Bool.eq_iff_iff, inI_iff, decide_eq_true_iff]
section
variable {P : Program} {w : World} {K : PySem.W.Frag} {mg : Str → Option Value} {base : Heap}
def spIsClosed (K : PySem.W.Frag) (Pn Pr Pa Pc : Addr) : Sp := fun vs H Q _ => ∃ (a : Addr) (n : Int) (rs : List R4) (root : Int) (p : Addr) (ns : List Int), vs = [.ref a, .int root, .ref p] ∧ NetAt K H a n rs ∧ Good n rs ∧ rs.length ≤ 156 ∧ 0 ≤ root ∧ root < n ∧ SqT K H p (ns.map V.int) ∧ ns.length ≤ 1000 ∧
  TbL H [Pn, Pr, Pa, Pc] ∧ ∀ (H' : Hp) (b : Bool), K0 H H' → (b = true ↔ ClosedP n rs root ns) → Q (.bl b) H'
end
end HK

set_option Elab.async false
set_option linter.all false
set_option maxRecDepth 100000
set_option maxHeartbeats 4000000
namespace HK
open PySem PySem.Spec PyProof.Rows L2 GAl GxR
theorem valV_drop {κ : Type} [DecidableEq κ] (k j : κ) : ∀ kvs : List (κ × V), valV (dropK kvs k) j = if j = k then none else valV kvs j
  | [] => by split <;> rfl
  | p :: r => by
    by_cases e : p.1 = k
    · rw [dropK_pos e, valV_drop k j r]
      by_cases ej : j = k
      · rw [if_pos ej, if_pos ej]
      · rw [if_neg ej, if_neg ej, valV_neg (fun z => ej (by rw [← z, e]))]
    · rw [dropK_neg e]
      by_cases ep : p.1 = j
      · rw [valV_pos ep, valV_pos ep, if_neg (fun z => e (by rw [ep, z]))]
      · rw [valV_neg ep, valV_neg ep, valV_drop k j r]
def drp (f : IF) (i : Int) : IF := fun j => if j = i then none else f j
theorem DI.drop {kvs : List (Key × V)} {f : IF} (h : DI kvs f) (i : Int) : DI (dropK kvs (Sum.inl i)) (drp f i) := by
  refine ⟨?_, fun p hp => h.ks p (dropK_mem hp), fun j => ?_⟩
  · exact List.Nodup.sublist (List.Sublist.map _ List.filter_sublist) h.nd
  · rw [valV_drop, h.val]
    unfold drp
    by_cases e : j = i
    · subst e; simp
    · simp [e]
theorem ints_of : ∀ {kvs : List (Key × V)}, (∀ p ∈ kvs, ∃ i x : Int, p = (Sum.inl i, V.int x)) → ∃ ks : List Int, kvs.map (·.1) = ks.map Sum.inl
  | [], _ => ⟨[], rfl⟩
  | p :: r, h => by
    obtain ⟨ks, e⟩ := ints_of (kvs := r) (fun q hq => h q (List.mem_cons_of_mem _ hq))
    obtain ⟨i, x, rfl⟩ := h p (List.mem_cons_self ..)
    exact ⟨i :: ks, by rw [List.map_cons, List.map_cons, e]⟩
theorem DI.ints {kvs : List (Key × V)} {f : IF} (h : DI kvs f) : ∃ ks : List Int, kvs.map (·.1) = ks.map Sum.inl ∧ ks.Nodup ∧ ∀ i, i ∈ ks ↔ (f i).isSome = true := by
  obtain ⟨ks, e⟩ := ints_of h.ks
  refine ⟨ks, e, ?_, fun i => ?_⟩
  · have := h.nd
    rw [e] at this
    have this : (ks.map (Sum.inl : Int → Key)).Pairwise (· ≠ ·) := this
    rw [List.pairwise_map] at this
    exact this.imp fun h z => h (by rw [z])
  · rw [← h.mem, e]
    constructor
    · exact fun hi => List.mem_map.mpr ⟨i, hi, rfl⟩
    · intro hi
      obtain ⟨j, hj, z⟩ := List.mem_map.mp hi
      cases z; exact hj
theorem DI.small {kvs : List (Key × V)} {f : IF} (h : DI kvs f) (hr : ∀ v x, f v = some x → 0 ≤ v ∧ v < 12) : kvs.length ≤ 12 := by
  obtain ⟨ks, e, nd, hm⟩ := h.ints
  have hl : kvs.length = ks.length := by
    have := congrArg List.length e
    rwa [List.length_map, List.length_map] at this
  have L : ([0, 1, 2, 3, 4, 5, 6, 7, 8, 9, 10, 11] : List Int).Nodup := by decide
  have pm : (([0, 1, 2, 3, 4, 5, 6, 7, 8, 9, 10, 11] : List Int).filter fun i => (f i).isSome).Perm ks := (List.perm_ext_iff_of_nodup (List.Nodup.sublist List.filter_sublist L) nd).mpr fun i => by
    rw [List.mem_filter, hm i]
    constructor
    · exact fun h => h.2
    · intro hi
      refine ⟨?_, hi⟩
      obtain ⟨x, ex⟩ := Option.isSome_iff_exists.mp hi
      have := hr i x ex
      have : i = 0 ∨ i = 1 ∨ i = 2 ∨ i = 3 ∨ i = 4 ∨ i = 5 ∨ i = 6 ∨ i = 7 ∨ i = 8 ∨ i = 9 ∨ i = 10 ∨ i = 11 := by omega
      rcases this with rfl | rfl | rfl | rfl | rfl | rfl | rfl | rfl | rfl | rfl | rfl | rfl <;> decide
  rw [hl, ← pm.length_eq]
  exact Nat.le_trans (List.length_filter_le _ _) (by decide)
theorem Kt.over {t q : Addr} {H H' H'' : Hp} (k : Kt t H H') (k' : Kt q H' H'') (n : H q = none) : Kt t H H'' := ⟨fun b u e => k'.tup b u (k.tup b u e), fun b o u e => k'.frz b o u (k.frz b o u e), fun b o e m m' => k'.oth b o (k.oth b o e m m') (ne_of_none e n) m', fun P h => k'.tab P (k.tab P h), fun b e => k.dom b (k'.dom b e)⟩
theorem Kt.setD {q : Addr} {X Y : Hp} {ls ms : List (Key × V)} (k : Kt q X Y) (h : Y q = some (.dK ls)) : Kt q X (upd Y q (.dK ms)) := by
  refine ⟨fun b u e => ?_, fun b o u e => ?_, fun b o e m m' => ?_, fun P hP => ?_, fun b e => k.dom b (upd_none e)⟩
  · have e' := k.tup b u e
    rw [upd_ne (ne_of e' h (fun z => by cases z))]; exact e'
  · have e' := k.frz b o u e
    rw [upd_ne (ne_of e' h (fun z => by cases z))]; exact e'
  · rw [upd_ne m]; exact k.oth b o e m m'
  · obtain ⟨ps, e, ht⟩ := k.tab P hP
    exact ⟨ps, by rw [upd_ne (ne_of e h (fun z => by cases z))]; exact e, ht⟩
theorem Kt.lock {q p : Addr} {H H' : Hp} {kvs : List (Key × V)} {od : Obj} (h : H p = some (.dK kvs)) (k : Kt q (upd H p (.frz od (.dK kvs))) H') : Kt q H (upd H' p (.dK kvs)) := by
  refine ⟨fun b u e => ?_, fun b o u e => ?_, fun b o e m m' => ?_, fun P hP => ?_, fun b e => ?_⟩
  · have hb := ne_of e h (fun z => by cases z)
    rw [upd_ne hb]
    exact k.tup b u (by rw [upd_ne hb]; exact e)
  · have hb := ne_of e h (fun z => by cases z)
    rw [upd_ne hb]
    exact k.frz b o u (by rw [upd_ne hb]; exact e)
  · by_cases hb : b = p
    · subst hb
      rw [h] at e
      cases e
      exact upd_same
    · rw [upd_ne hb]
      exact k.oth b o (by rw [upd_ne hb]; exact e) m m'
  · obtain ⟨ps, e, ht⟩ := hP
    have hb := ne_of e h (fun z => by cases z)
    obtain ⟨ps', e', ht'⟩ := k.tab P ⟨ps, by rw [upd_ne hb]; exact e, ht⟩
    exact ⟨ps', by rw [upd_ne hb]; exact e', ht'⟩
  · by_cases hb : b = p
    · rw [hb, upd_same] at e; cases e
    · rw [upd_ne hb] at e
      have := k.dom b e
      rwa [upd_ne hb] at this
theorem pick2 {d : Int} (h0 : 0 ≤ d) (h1 : d < 2) (a b : Int) : ∃ y : Int, atI [V.int a, .int b] d = some (.int y) := by
  obtain ⟨k, rfl⟩ := Int.eq_ofNat_of_zero_le h0
  match k, h1 with
  | 0, _ => exact ⟨a, atI_nat rfl⟩
  | 1, _ => exact ⟨b, atI_nat rfl⟩
  | k + 2, h => exact absurd h (by omega)
theorem pick4 {d : Int} (h0 : 0 ≤ d) (h1 : d < 4) (a b c e : Int) : ∃ y : Int, atI [V.int a, .int b, .int c, .int e] d = some (.int y) := by
  obtain ⟨k, rfl⟩ := Int.eq_ofNat_of_zero_le h0
  match k, h1 with
  | 0, _ => exact ⟨a, atI_nat rfl⟩
  | 1, _ => exact ⟨b, atI_nat rfl⟩
  | 2, _ => exact ⟨c, atI_nat rfl⟩
  | 3, _ => exact ⟨e, atI_nat rfl⟩
  | k + 4, h => exact absurd h (by omega)
section
variable {P : Program} {w : World} {K : PySem.W.Frag} {mg : Str → Option Value} {base : Heap}
/-- between the statements: all but the tape as it was, the tape a tape -/
structure Sf (K : PySem.W.Frag) (H : Hp) (t sc : Addr) (ns : List Int) (H' : Hp) : Prop where
  kt : Kt t H H'
  tp : Tape K H' t sc ns
theorem Sf.k0 {H H' H2 : Hp} {t sc : Addr} {ns : List Int} (h : Sf K H t sc ns H') (k : K0 H' H2) : Sf K H t sc ns H2 := ⟨h.kt.trans k.kt, h.tp.k0 k⟩
theorem Sf.go {H H' H2 : Hp} {t sc : Addr} {ns : List Int} (h : Sf K H t sc ns H') (k : Kt t H' H2) (tp : Tape K H2 t sc ns) : Sf K H t sc ns H2 := ⟨h.kt.trans k, tp⟩
theorem Sf.over {H H' H2 : Hp} {t sc q : Addr} {ns : List Int} (h : Sf K H t sc ns H') (h0 : Tape K H t sc ns) (k : Kt q H' H2) (n : H q = none) : Sf K H t sc ns H2 := by
  have kk := h.kt.over k n
  obtain ⟨⟨p, v, e, r⟩, _⟩ := h.tp
  have ht : t ≠ q := fun z => by
    obtain ⟨_, _, e, _⟩ := h0.v
    rw [z, n] at e; cases e
  exact ⟨kk, ⟨p, v, k.oth t _ e ht (fun _ z => by cases z), r⟩, h0.scr.kt kk⟩
theorem Sf.put {H H' : Hp} {t sc q : Addr} {ns : List Int} {ls ms : List (Key × V)} (h : Sf K H t sc ns H') (h0 : Tape K H t sc ns) (n : H q = none) (hk : H' q = some (.dK ls)) : Sf K H t sc ns (upd H' q (.dK ms)) := h.over h0 ((Kt.refl q H').setD hk) n
theorem or_eq {σ : L2.St} {H : Hp} {Q' : Bool → Hp → Prop} {d c c' : Int} {i : Nat} (h : σ[i]? = some (some (.int d))) (q : Q' (decide (d = c ∨ d = c')) H) : tOr (tTest (tOp rEq (tVar i) (tC (.int c)))) (tTest (tOp rEq (tVar i) (tC (.int c')))) σ H Q' := by
  refine ⟨_, h, rfl, _, rfl, ?_⟩
  by_cases e : d = c
  · rw [decide_eq_true (show V.int d = V.int c by rw [e])]
    rw [decide_eq_true (Or.inl e)] at q
    exact q
  · rw [decide_eq_false (show ¬ V.int d = V.int c from fun z => e (by cases z; rfl))]
    refine ⟨_, h, rfl, _, rfl, ?_⟩
    by_cases e' : d = c'
    · rw [decide_eq_true (Or.inr e')] at q
      rw [decide_eq_true (show V.int d = V.int c' by rw [e'])]
      exact q
    · rw [decide_eq_false (show ¬ (d = c ∨ d = c') from fun z => z.elim e e')] at q
      rw [decide_eq_false (show ¬ V.int d = V.int c' from fun z => e' (by cases z; rfl))]
      exact q
/-- dicts of whole numbers -/
def DsAt (H : Hp) (xs : List V) : Prop := ∀ x ∈ xs, ∃ q ls f, x = .ref q ∧ H q = some (.dK ls) ∧ DI ls f ∧ ls.length ≤ 3000
theorem DsAt.kt {t sc : Addr} {ns : List Int} {H H' : Hp} {xs : List V} (h : DsAt H xs) (tp : Tape K H t sc ns) (k : Kt t H H') : DsAt H' xs := fun x hx => by
  obtain ⟨q, ls, f, e, hq, r⟩ := h x hx
  refine ⟨q, ls, f, e, k.oth q _ hq (fun z => ?_) (fun _ z => by cases z), r⟩
  obtain ⟨_, _, e, _⟩ := tp.v
  rw [← z, hq] at e; cases e
theorem DsAt.k0 {H H' : Hp} {xs : List V} (h : DsAt H xs) (k : K0 H H') : DsAt H' xs := fun x hx => by
  obtain ⟨q, ls, f, e, hq, r⟩ := h x hx
  exact ⟨q, ls, f, e, k.oth q _ hq (fun _ z => by cases z), r⟩
theorem DsAt.lst {H : Hp} {xs ys zs : List V} {l : Addr} (h : DsAt H xs) (hl : H l = some (.lst ys)) : DsAt (upd H l (.lst zs)) xs := fun x hx => by
  obtain ⟨q, ls, f, e, hq, r⟩ := h x hx
  exact ⟨q, ls, f, e, by rw [upd_ne (ne_of hq hl (fun z => by cases z))]; exact hq, r⟩
theorem DsAt.cons {H : Hp} {xs : List V} {q : Addr} {ls : List (Key × V)} {f : IF} (hq : H q = some (.dK ls)) (hD : DI ls f) (hl : ls.length ≤ 3000) (h : DsAt H xs) : DsAt H (.ref q :: xs) := fun x hx => by
  rcases List.mem_cons.mp hx with rfl | hx
  · exact ⟨q, ls, f, rfl, hq, hD, hl⟩
  · exact h x hx
theorem DsAt.snoc {H : Hp} {xs : List V} {q : Addr} {ls : List (Key × V)} {f : IF} (h : DsAt H xs) (hq : H q = some (.dK ls)) (hD : DI ls f) (hl : ls.length ≤ 3000) : DsAt H (xs ++ [.ref q]) := fun x hx => by
  rcases List.mem_append.mp hx with hx | hx
  · exact h x hx
  · exact ⟨q, ls, f, List.mem_singleton.mp hx, hq, hD, hl⟩
theorem Sf.lst {H H' : Hp} {t sc l : Addr} {ns : List Int} {zs : List V} (h : Sf K H t sc ns H') (h0 : Tape K H t sc ns) (n : H l = none) : Sf K H t sc ns (upd H' l (.lst zs)) := ⟨h.kt.mut n, h.tp.mut h0.scr h.kt n (h0.ne n)⟩
end
end HK

set_option Elab.async false
set_option linter.all false
set_option maxRecDepth 100000
set_option maxHeartbeats 2000000
namespace GAl
open PySem PySem.Spec PyProof.Rows L2 GxR
open Sem (wp)
/-! ### generator expressions whose consumer keeps a record S of its own -/

theorem Inv.kallS {X : Cx} {ps : List (Addr × Obj)} {S : Addr} {oS oS' : Obj} {σ : L2.St} {H : Hp} {s s'' : Shared} (I : Inv X (ps ++ [(S, oS)]) σ H s) (hy : S ∈ X.ex ∨ X.s_0.heap.objs.size ≤ S) (hps : ∀ p ∈ X.pn ++ ps, p.1 ≠ S)
    (ho : s''.os = s.os) (hb : AllBare s''.gens) (k : ∀ b o, b ≠ S → s.heap.get? b = some o → s''.heap.get? b = some o) (hS : s''.heap.get? S = some oS') (hd : ∀ v, oS'.data ≠ .cell v) : Inv X (ps ++ [(S, oS')]) σ H s'' := by
  obtain ⟨h1, h2, h3, h4, h5⟩ := I.pin (S, oS) (List.mem_append_right _ (List.mem_append_right _ (List.mem_singleton.mpr rfl)))
  have hcell : ∀ x c, X.env.cells.lookup x = some c → c ≠ S := fun x c e z => by
    obtain ⟨v, o, q, d⟩ := I.cell x c e
    have h1 : s.heap.get? S = some oS := h1
    rw [z, h1] at q
    cases q
    exact h5 _ d
  have I' : Inv X ps σ H s := I.unpinned
  have I1 := I'.turned (it := S) (h' := s''.heap) (t' := s.toks) k h2 h3 hy hcell hps
  have I2 : Inv X ps σ H s'' := Inv.kall I1 ho hb (fun _ _ e => e)
  refine I2.pins_of fun p hp => ?_
  rcases List.mem_append.mp hp with hp | hp
  · exact I2.pin p (List.mem_append_right _ hp)
  · have := List.mem_singleton.mp hp
    subst this
    exact ⟨hS, h2, h3, h4, hd⟩

section
variable {G : Type}
def REndS (XG : Cx) (a : Addr) (oa : Obj) (S : Addr) (Rep : Obj → G → Prop) (σw : L2.St) (Qd : G → Hp → Prop) : Nat → Shared → Shared → Prop := fun _ s₀ s₁ =>
  ∃ γ oS H4, s₀.heap.get? S = some oS ∧ Rep oS γ ∧ Inv XG ([(a, oa)] ++ [(S, oS)]) σw H4 s₁ ∧ Qd γ H4
def YOutS (XG : Cx) (a : Addr) (oa : Obj) (S : Addr) (Rep : Obj → G → Prop) (stp : G → V → Hp → (G → Prop) → Prop) : Protocol := fun _ s₀ v s kap =>
  ∃ γ oS y H4 σ4, s₀.heap.get? S = some oS ∧ Rep oS γ ∧ Inv XG ([(a, oa)] ++ [(S, oS)]) σ4 H4 s ∧ RelV y v ∧
    stp γ y H4 (fun γ' => ∀ (s'' : Shared) (oS' : Obj), s''.os = s.os → AllBare s''.gens → (∀ b o, b ≠ S → s.heap.get? b = some o → s''.heap.get? b = some o) → s''.heap.get? S = some oS' → Rep oS' γ' → (∀ v, oS'.data ≠ .cell v) → kap (.send .none) s'')
/-- what a turn asks -/
def GTurnS (J : It) (g : TG) (tt : TT) (te : TE) (vs : List Nat) (σw : L2.St) (Qd : Nat → G → Hp → Prop) (stp : G → V → Hp → (G → Prop) → Prop) (W : Nat → Nat → G → Hp → Prop) : Prop :=
  ∀ i m γ H, W i m γ H → (J.stop i H ∧ Qd m γ H) ∨ (J.go i H ∧ ∃ Nx : G → Hp → Prop, (∀ γ' H', Nx γ' H' → ∃ m', m' < m ∧ W (i + 1) m' γ' H') ∧ ∀ x H', J.yld i H x H' → g x σw H' fun σ2 H2 => wipe σ2 vs = σw ∧ tt σ2 H2 fun b H3 =>
    if b = true then te σ2 H3 fun y H4 => stp γ y H4 (fun γ' => Nx γ' H4) else Nx γ H3)
/-- one turn of the last clause -/
@[reducible] def turnOf (tg iter : Expr) (ifs : List Expr) (elt : Expr) (it : Value) (cenv : Env) (c : Code) : Sem Fin := do
  standAt iter.pos
  match ← pyNext it with
  | none => pure (.done .next)
  | some v =>
    letOwnedTupleGo tg it v
    assign tg cenv v
    let mut ok := true
    for c in ifs do
      if ok then ok ← isTrue c cenv (eval c cenv)
    if ok then
      (do let v ← eval elt cenv; standAt elt.pos; let _ ← yieldOut cenv v)
    again c
/-- what the iterator's objects are, whatever stands in the heap -/
def FpSt (X : Cx) (b : Addr) : Prop := b ≠ X.env.locals ∧ b ∉ X.fs ∧ (b ∈ X.ex ∨ X.s_0.heap.objs.size ≤ b) ∧ (∀ x c, X.env.cells.lookup x = some c → c ≠ b)
end

section
variable {G : Type} {X XG XI : Cx} {elt tg iter : Expr} {ifs : List Expr} {it a S : Addr} {oa : Obj} {fp : List Addr} {cenv : Env} {AG : Around} {c : Code} {fs : List Frame} {lv : Value → Sem Unit} {J : It} {tn : Nat → Heap → Prop} {R : GenEnd} {ps : List (Addr × Obj)}
  {g : TG} {tt : TT} {te : TE} {vs : List Nat} {σw : L2.St} {Qd : Nat → G → Hp → Prop} {Rep : Obj → G → Prop} {stp : G → V → Hp → (G → Prop) → Prop} {W : Nat → Nat → G → Hp → Prop}

theorem gen_loopS (hA : XI.A = AG.over c fs) (hP : XI.prog = X.prog) (hw : XI.w = X.w) (hK : XI.K = X.K) (hcalm : XI.calm = true) (henv : XI.env = cenv) (hxe : XI.xe = fun _ _ => False) (hpn : XI.pn = [])
    (hden : (model X.prog X.w).den c = (turnOf tg iter ifs elt (.ref it) cenv c).onRaise lv) (hcq : c.quiet = true) (hfs : splitAtGen fs = none) (hfg : fs.any Frame.guarded = false)
    (hco : cenv.scope.isCoroutine = false) (T : Turn X.prog X.w X.K tg J fp it tn) (hst : ∀ b ∈ fp, FpSt XI b) (hSy : S ∈ XI.ex ∨ XI.s_0.heap.objs.size ≤ S) (hSfp : ∀ b ∈ fp, S ≠ b) (hpsS : ∀ p ∈ ps, p.1 ≠ S) (hpsf : ∀ p ∈ ps, ∀ b ∈ fp, p.1 ≠ b) (haps : (a, oa) ∈ ps)
    (hmono : ∀ γ y H (p q : G → Prop), (∀ γ', p γ' → q γ') → stp γ y H p → stp γ y H q)
    (htr : ∀ ps σ H s, Inv XI ps σ H s → Inv XG ps σ H s)
    (hend : ∀ m n γ oS s₀ s H, m < n → s₀.heap.get? S = some oS → Rep oS γ → Inv XI (ps ++ [(S, oS)]) σw H s → Qd m γ H → Seg (model X.prog X.w) AG R (YOutS XG a oa S Rep stp) n s₀ c (leafOf (.ok .next)) fs s)
    (pg : PG XI tg g) (pt : PTs XI ifs tt) (pe : PE XI elt te) (hW : GTurnS J g tt te vs σw Qd stp W) :
    ∀ (m n i : Nat) (γ : G) (oS : Obj) (s₀ s : Shared) (H : Hp), m < n → W i m γ H → s₀.heap.get? S = some oS → Rep oS γ → Inv XI (ps ++ [(S, oS)]) σw H s → tn i s.heap → (∀ b ∈ fp, H b = none) →
      Seg (model X.prog X.w) AG R (YOutS XG a oa S Rep stp) n s₀ c ((model X.prog X.w).den c) fs s := by
  have stat : ∀ {oS : Obj} {σ' : L2.St} {H' : Hp} {s' : Shared}, Inv XI (ps ++ [(S, oS)]) σ' H' s' → (∀ b ∈ fp, H' b = none) → ∀ b ∈ fp, FpOk XI (ps ++ [(S, oS)]) H' b := fun {oS σ' H' s'} I' hn b hb =>
    ⟨hn b hb, (hst b hb).1, (hst b hb).2.1, (hst b hb).2.2.1, (hst b hb).2.2.2, fun p hp => by
      rw [hpn, List.nil_append] at hp
      rcases List.mem_append.mp hp with hp | hp
      · exact hpsf p hp b hb
      · have := List.mem_singleton.mp hp
        subst this
        exact hSfp b hb⟩
  have hpsS' : ∀ p ∈ XI.pn ++ ps, p.1 ≠ S := by rw [hpn]; exact hpsS
  intro m
  induction m using Nat.strongRecOn with
  | ind m ih =>
    intro n i γ oS s₀ s H hmn w hS0 hRep I st nH
    rw [hden, Sem.onRaise_eq_wrap]
    refine seg_bind_wrap (wpAny_standAt ?_)
    rcases hW i m γ H w with ⟨stop, qq⟩ | ⟨go, Nx, hNx, step⟩
    · have td := T.done XI hP hw hK hcalm i _ s _ H (fun _ _ => False) I (stat I nH) st stop
      rw [hA] at td
      refine seg_bind_wrap (thnF td fun r s1 ⟨hr, I1⟩ => ?_)
      subst hr
      exact hend m n γ oS s₀ s1 H hmn hS0 hRep I1 qq
    · have ti := T.item XI hP hw hK hcalm i _ s _ H (fun _ _ => False) I (stat I nH) st go
      rw [hA] at ti
      refine seg_bind_wrap (thnF ti fun r s1 ⟨u, hr, h1⟩ => ?_)
      subst hr
      refine seg_bind_wrap (thnF h1 fun _ s2 ⟨x, H2, I2, r2, y2, st2, n2⟩ => ?_)
      have I2' := I2.pinned (stat I2 n2) (T.obj _ _ st2)
      have rg := pg.run _ s2 _ H2 x u _ I2' r2 (step x H2 y2)
      rw [hA, hP, hw, henv, hxe] at rg
      refine seg_bind_wrap (thnF rg fun _ s3 ⟨σ3, H3, I3, hw3, q3⟩ => ?_)
      have rt := pt.run _ s3 σ3 H3 _ I3 q3
      rw [hA, hP, hw, henv, hxe] at rt
      refine seg_bind_wrap (thnF rt fun b s5 ⟨H5, I5, q5⟩ => ?_)
      have hl : σw.length = σ3.length := by rw [← hw3, wipe_length]
      have pin' : ∀ {H' : Hp} {s' : Shared} {σ' : L2.St}, Inv XI ((ps ++ [(S, oS)]) ++ pinsAt fp s2.heap) σ' H' s' → ∀ b ∈ fp, ∀ o, s2.heap.get? b = some o → s'.heap.get? b = some o ∧ H' b = none := fun {H' s' σ'} I' b hb o e =>
        let z := I'.pin (b, o) (List.mem_append_right _ (List.mem_append_right _ (mem_pinsAt hb e)))
        ⟨z.1, z.2.1⟩
      cases b with
      | false =>
        simp only [Bool.false_eq_true, if_false] at q5 ⊢
        obtain ⟨m', hm, w'⟩ := hNx γ H5 q5
        refine seg_again hcq (ih m' hm n (i + 1) γ oS s₀ s5 H5 (by omega) w' hS0 hRep ((I5.unpinned (pins := ps ++ [(S, oS)])).weak hl (fun j v e => ?_)) (T.keep _ _ _ st2 fun b hb o e => (pin' I5 b hb o e).1) (fun b hb => ?_))
        · rw [← hw3] at e
          exact (wipe_some e).1
        · obtain ⟨o, e, _⟩ := T.obj _ _ st2 b hb
          exact (pin' I5 b hb o e).2
      | true =>
        simp only [if_true] at q5 ⊢
        have hy : ∀ v, yieldOut cenv v = yieldValue v := fun v => by simp only [yieldOut, hco, Bool.false_eq_true, if_false]
        simp only [hy]
        rw [Sem.bind_eq_wrap', Sem.bind_eq_wrap', Sem.wrap_wrap, Sem.wrap_wrap]
        have re := pe.run _ s5 σ3 H5 _ I5 q5
        rw [hA, hP, hw, henv, hxe] at re
        refine seg_wrap (thnF re fun z s6 ⟨yv, H6, I6, r6, q6⟩ => ?_)
        cases n with
        | zero => exact absurd hmn (Nat.not_lt_zero _)
        | succ n =>
          have I6' : Inv XI (ps ++ [(S, oS)]) σ3 H6 s6 := I6.unpinned
          have I6w : Inv XI (ps ++ [(S, oS)]) σw H6 s6 := I6'.weak hl (fun j v e => by rw [← hw3] at e; exact (wipe_some e).1)
          refine seg_at (seg_yield hfs rfl hfg ⟨γ, oS, yv, H6, σ3, hS0, hRep, htr _ _ _ _ (I6'.pins_of fun p hp => I6'.pin p (List.mem_append_right _ ?_)), r6, hmono _ _ _ _ _ (fun γ' nx s'' oS' e1 e2 e3 e4 e5 e6 => ?_) q6⟩)
          · rcases List.mem_append.mp hp with hp | hp
            · have := List.mem_singleton.mp hp
              subst this
              exact List.mem_append_left _ haps
            · exact List.mem_append_right _ hp
          · obtain ⟨m', hm, w'⟩ := hNx γ' H6 nx
            refine seg_again hcq (ih m' hm n (i + 1) γ' oS' s'' s'' H6 (by omega) w' e4 e5 (Inv.kallS I6w hSy hpsS' e1 e2 e3 e4 e6) (T.keep _ _ _ st2 fun b hb o e => e3 b o (fun z => hSfp b hb z.symm) (pin' I6 b hb o e).1) (fun b hb => ?_))
            obtain ⟨o, e, _⟩ := T.obj _ _ st2 b hb
            exact (pin' I6 b hb o e).2
end
end GAl

set_option Elab.async false
set_option linter.all false
set_option maxRecDepth 100000
set_option maxHeartbeats 2000000
namespace GAl
open PySem PySem.Spec PyProof.Rows L2 GxR
open Sem (wp)
section
variable {G : Type} {X : Cx} {elt tg iter : Expr} {ifs : List Expr} {scope : Scope} {pos : Pos} {it a S : Addr} {oa : Obj} {fp : List Addr} {cenv : Env} {AG : Around} {s4 : Shared} {Hs : Hp} {J : It} {tn : Nat → Heap → Prop}
  {g : TG} {tt : TT} {te : TE} {vs : List Nat} {σw : L2.St} {Qd : G → Hp → Prop} {Rep : Obj → G → Prop} {stp : G → V → Hp → (G → Prop) → Prop} {W : Nat → Nat → G → Hp → Prop}
theorem gen_beginS (hc : X.calm = true) (hco : cenv.scope.isCoroutine = false) (T : Turn X.prog X.w X.K tg J fp it tn) (hafp : ∀ b ∈ fp, a ≠ b) (hSfp : ∀ b ∈ fp, S ≠ b) (haS : a ≠ S) (hSy : s4.heap.objs.size ≤ S)
    (hmono : ∀ γ y H (p q : G → Prop), (∀ γ', p γ' → q γ') → stp γ y H p → stp γ y H q)
    (pg : PG (gcx X (AG.over (.compLoop (.GeneratorExp elt [⟨tg, iter, ifs, 0⟩] scope pos) 0 (.ref it) .none cenv) []) s4 Hs cenv fp) tg g)
    (pt : PTs (gcx X (AG.over (.compLoop (.GeneratorExp elt [⟨tg, iter, ifs, 0⟩] scope pos) 0 (.ref it) .none cenv) []) s4 Hs cenv fp) ifs tt)
    (pe : PE (gcx X (AG.over (.compLoop (.GeneratorExp elt [⟨tg, iter, ifs, 0⟩] scope pos) 0 (.ref it) .none cenv) []) s4 Hs cenv fp) elt te)
    (hW : GTurnS J g tt te vs σw (fun _ => Qd) stp W) (m : Nat) (γ : G) (oS : Obj) (s₀ s : Shared) (H : Hp) (w : W 0 m γ H) (hS0 : s₀.heap.get? S = some oS) (hRep : Rep oS γ)
    (I : Inv (gcx X (AG.over (.compLoop (.GeneratorExp elt [⟨tg, iter, ifs, 0⟩] scope pos) 0 (.ref it) .none cenv) []) s4 Hs cenv fp) ([(a, oa)] ++ [(S, oS)]) σw H s) (st : tn 0 s.heap) (nH : ∀ b ∈ fp, H b = none) :
      Seg (model X.prog X.w) AG (fun n s₀ r s₁ => r = .ok .next ∧ REndS (gcx X (AG.over (.compLoop (.GeneratorExp elt [⟨tg, iter, ifs, 0⟩] scope pos) 0 (.ref it) .none cenv) []) s4 Hs cenv fp) a oa S Rep σw Qd n s₀ s₁)
        (YOutS (gcx X (AG.over (.compLoop (.GeneratorExp elt [⟨tg, iter, ifs, 0⟩] scope pos) 0 (.ref it) .none cenv) []) s4 Hs cenv fp) a oa S Rep stp) (m + 1) s₀
        (.compStart (.GeneratorExp elt [⟨tg, iter, ifs, 0⟩] scope pos) 0 (.ref it) .none cenv)
        ((model X.prog X.w).den (.compStart (.GeneratorExp elt [⟨tg, iter, ifs, 0⟩] scope pos) 0 (.ref it) .none cenv)) [] s := by
  have hst : ∀ b ∈ fp, FpSt (gcx X (AG.over (.compLoop (.GeneratorExp elt [⟨tg, iter, ifs, 0⟩] scope pos) 0 (.ref it) .none cenv) []) s4 Hs cenv fp) b := fun b hb =>
    ⟨(I.ok.exf b hb).1, I.ok.exfs b hb, .inl hb, fun x c e => (I.ok.exf b hb).2 x c e⟩
  have loop := gen_loopS (a := a) (oa := oa) (S := S) (ps := [(a, oa)]) (R := fun n s₀ r s₁ => r = .ok .next ∧ REndS (gcx X (AG.over (.compLoop (.GeneratorExp elt [⟨tg, iter, ifs, 0⟩] scope pos) 0 (.ref it) .none cenv) []) s4 Hs cenv fp) a oa S Rep σw Qd n s₀ s₁) (Rep := Rep) (Qd := fun _ => Qd)
    (c := .compLoop (.GeneratorExp elt [⟨tg, iter, ifs, 0⟩] scope pos) 0 (.ref it) .none cenv) (fs := []) (cenv := cenv) (iter := iter) (lv := leaving cenv) (X := X) (AG := AG)
    (XG := gcx X (AG.over (.compLoop (.GeneratorExp elt [⟨tg, iter, ifs, 0⟩] scope pos) 0 (.ref it) .none cenv) []) s4 Hs cenv fp)
    (XI := gcx X (AG.over (.compLoop (.GeneratorExp elt [⟨tg, iter, ifs, 0⟩] scope pos) 0 (.ref it) .none cenv) []) s4 Hs cenv fp)
    rfl rfl rfl rfl hc rfl rfl rfl rfl rfl rfl rfl hco T hst (.inr hSy) hSfp
    (fun p hp => by have := List.mem_singleton.mp hp; subst this; exact haS) (fun p hp b hb => by have := List.mem_singleton.mp hp; subst this; exact hafp b hb) (List.mem_singleton.mpr rfl)
    hmono (fun _ _ _ _ I => I) (fun m n γ oS s₀ s H _ e1 e2 I q => seg_end (.ok .next) ⟨rfl, γ, oS, H, e1, e2, I, q⟩) pg pt pe hW m (m + 1) 0 γ oS s₀ s H (Nat.lt_succ_self _) w hS0 hRep I st nH
  show Seg _ AG _ _ _ s₀ _ ((compStart (.GeneratorExp elt [⟨tg, iter, ifs, 0⟩] scope pos) 0 (.ref it) .none cenv).onRaise (leaving cenv)) [] s
  unfold compStart
  rw [Sem.onRaise_eq_wrap]
  show Seg _ AG _ _ _ s₀ _ ((ask >>= _).wrap _ _ _ _) [] s
  refine seg_bind_wrap (wpAny_askSetting ?_)
  split
  · exact seg_again rfl loop
  · first
      | exact seg_bind_wrap (wpAny_rule (seg_bind_wrap (wpAny_standAt (seg_bind_wrap (T.self _ 0 s _ _ st (seg_again rfl loop))))))
      | (refine seg_bind_wrap (wpAny_rule ?_); show Seg _ AG _ _ _ s₀ _ ((standAt iter.pos >>= _).wrap _ _ _ _) [] s; exact seg_bind_wrap (wpAny_standAt (seg_bind_wrap (T.self _ 0 s _ _ st (seg_again rfl loop)))))
end

/-- what a consumed generator expression asks: the walked thing, the def's table, the turns -/
def tGenS {G : Type} (P : Addr) (wi : TI) (g : TG) (tt : TT) (te : TE) (vs : List Nat) (stp : G → V → Hp → (G → Prop) → Prop) (γ0 : G) (Qd : G → Hp → Prop) : L2.St → Hp → Prop := fun σ H =>
  wi σ H fun J H1 => TabG H1 P ∧ ∀ H2, Tabbed P H1 H2 → ∃ W : Nat → Nat → G → Hp → Prop, (∃ m, W 0 m γ0 H2) ∧ GTurnS J g tt te vs (wipe σ vs) (fun _ => Qd) stp W

section
variable {G : Type} {X : Cx} {pins : List (Addr × Obj)} {σ : L2.St} {H : Hp} {s : Shared}
theorem gen_makeS {c P : Addr} {elt tg iter : Expr} {ifs : List Expr} {gpos : Pos} {scope : Scope} {own : List (Str × Nat)} {wi : TI} {g : TG} {tt : TT} {te : TE} {k : Nat} {stp : G → V → Hp → (G → Prop) → Prop} {Rep : Obj → G → Prop} {γ0 : G} {Qd : G → Hp → Prop} {Q' : Value → Shared → Prop}
    (hr : Room (k + 1) X.A) (hc : X.calm = true) (hN : X.N.Nodup) (TB : TabB X.base X.mg c P) (hcode : X.env.code = .ref c) (SC : GSc X.N X.env.scope scope own) (hi : PI X tg iter wi)
    (hg : ∀ (A' : Around), Room k A' → ∀ (s : Shared) (H : Hp) (cl : List (Str × Addr)) (C : Addr) (code : Value) (fp : List Addr), PG (gcx X A' s H (genEnv scope cl C code builtinsNs X.env) fp) tg g)
    (ht : ∀ (A' : Around), Room k A' → ∀ (s : Shared) (H : Hp) (cl : List (Str × Addr)) (C : Addr) (code : Value) (fp : List Addr), PTs (gcx X A' s H (genEnv scope cl C code builtinsNs X.env) fp) ifs tt)
    (he : ∀ (A' : Around), Room k A' → ∀ (s : Shared) (H : Hp) (cl : List (Str × Addr)) (C : Addr) (code : Value) (fp : List Addr), PE (gcx X A' s H (genEnv scope cl C code builtinsNs X.env) fp) elt te)
    (hmono : ∀ γ y H (p q : G → Prop), (∀ γ', p γ' → q γ') → stp γ y H p → stp γ y H q)
    (hs : ∀ v, genFold iter X.env v = pure v) (I : Inv X pins σ H s) (h : tGenS P wi g tt te (own.map (·.2)) stp γ0 Qd σ H)
    (hQ : ∀ (XG : Cx) (a : Addr) (oa : Obj) (gn n : Nat) (σw : L2.St) (s5 : Shared) (gs : GenState), XG.prog = X.prog → XG.w = X.w → XG.pn = [] → s5.heap.get? a = some oa → s5.heap.IsGen a gn → s5.gens[gn]? = some gs → s5.heap.NoLimit → AllBare s5.gens →
      (∀ (S : Addr) (s'' : Shared) (oS : Obj), s5.heap.objs.size ≤ S → s''.os = s5.os → AllBare s''.gens → (∀ b o, s5.heap.get? b = some o → s''.heap.get? b = some o) → s''.heap.get? S = some oS → Rep oS γ0 → (∀ v, oS.data ≠ .cell v) →
        gs.Goes (model X.prog X.w) X.A.in1.in1 (fun n s₀ r s₁ => r = .ok .next ∧ REndS XG a oa S Rep σw Qd n s₀ s₁) (YOutS XG a oa S Rep stp) n (.send .none) s'') →
      (∀ S, s5.heap.objs.size ≤ S → XG.s_0.heap.objs.size ≤ S) → (∀ s' ps σ' H', Inv XG ps σ' H' s' → Inv X pins σ H' s') → Q' (.ref a) s5) :
    wpAny (model X.prog X.w) X.A (eval (.GeneratorExp elt [⟨tg, iter, ifs, 0⟩] scope gpos) X.env) Q' X.xe s := by
  have ok := SC.blk
  have hfree : ∀ y ∈ scope.names, y.2 = .free → ∃ c, X.env.cells.lookup y.1 = some c := fun y hy e => by
    rcases ok.free y hy e with k | k
    · exact I.ok.has _ (.inl k)
    · exact I.ok.has _ (.inr k)
  refine wpAny_GeneratorExp_make SC.co (closure_ok hfree) SC.cell SC.dot ok.kind (by have := hr.dp; omega) ?_ hs
  refine thn (hi.run pins s σ H _ I h) fun xv s1 hx => thn hx fun itv s2 h2 => ?_
  obtain ⟨it, fp, tn, J, H2, e, I2, T, st2, f2, ⟨ps, hP, hts⟩, q⟩ := h2
  subst e
  have hPs : s2.heap.get? P = some { cls := .none, data := .fields ps } := I2.hok P _ hP
  have cd : PySem.W.CodeHd s2.heap c P := TB.code.keeps fun b u e => I2.bk b u e
  have nP : ∀ b ∈ fp, b ≠ P := fun b hb z => by
    have := (f2 b hb).1
    rw [z, hP] at this; cases this
  have sz2 : ∀ b ∈ fp, b < s2.heap.objs.size := fun b hb => by
    obtain ⟨o, e, _⟩ := T.obj _ _ st2 b hb
    exact Heap.lt_size e
  have cont : ∀ (code : Value) (h3 : Heap) (tk : Nat) (ps' : Array Value), Heap.ExtBut P s2.heap h3 → s2.heap.objs.size ≤ h3.objs.size → h3.get? P = some { cls := .none, data := .fields ps' } → (∃ more, ps' = ps ++ more) → TriplesOk ps'.toList →
      wpAny (model X.prog X.w) X.A (builtinsFor X.env.globals X.env.builtins) (fun bi s₄ =>
        ∀ h', h'.Ns s₄.heap.objs.size (fun y => if y = ".0" then some (.ref it) else none) → Heap.SameBut s₄.heap.objs.size (s₄.heap.push { cls := .type "frame", data := .dict #[] }) h' →
          Q' (.ref h'.objs.size) { s₄ with
            gens := s₄.gens.push (.fresh (.compStart (.GeneratorExp elt [⟨tg, iter, ifs, 0⟩] scope gpos) 0 (.ref it) .none (genEnv scope (cloFrom X.env.cells scope.names []) s₄.heap.objs.size code bi X.env))),
            toks := s₄.toks + 1 + 1 + 1,
            heap := h'.push { cls := .type "generator", data := .fields #[.int s₄.gens.size 0, .str "<genexpr>" (s₄.toks + 1), .str (X.env.qual ++ "<genexpr>") (s₄.toks + 1 + 1)] } }) X.xe { s2 with heap := h3, toks := tk } := by
    intro code h3 tk ps' hx hsz hP3 hmore ht3
    obtain ⟨bm, ob, e1, e2, e3, e4, e5, e6, e7, e8⟩ := TB.bm
    have keep3 : ∀ b u, b ≠ P → s2.heap.get? b = some u → h3.get? b = some u := fun b u hb e => hx b u hb e
    refine wpAny_builtinsFor (m := X.mg) (by rw [I2.ok.glob]; exact (I2.mod.glob.keeps I2.bk).extBut hx TB.gP) e1 e2 (keep3 _ _ e4 (I2.bk _ _ e5)) e6 e7 e8 ?_
    intro h' hn' hs'
    obtain ⟨more, em⟩ := hmore
    have I3 : Inv X pins σ (upd H2 P (.tbl (ps ++ more))) { s2 with heap := h3, toks := tk } :=
      inv_tab (more := more) (h' := h3) (g' := s2.gens) (d' := s2.drawn) (t' := tk) I2 hP keep3 (by rw [← em]; exact hP3) I2.bare
    obtain ⟨W, ⟨m0, w0⟩, turn⟩ := q (upd H2 P (.tbl (ps ++ more))) ⟨⟨ps ++ more, upd_same, by rw [← em]; exact ht3⟩, fun b hb => upd_ne hb⟩
    generalize hH3 : upd H2 P (.tbl (ps ++ more)) = H3 at I3 w0
    generalize hs4 : ({ s2 with heap := h3, toks := tk } : Shared) = s4 at I3 hn' hs' ⊢
    have hh4 : s4.heap = h3 := by rw [← hs4]
    have st4 : tn 0 s4.heap := T.keep _ _ _ st2 fun b hb o e => by rw [hh4]; exact keep3 b o (nP b hb) e
    have f3 : ∀ b ∈ fp, FpOk X pins H3 b ∧ b < s4.heap.objs.size := fun b hb => by
      refine ⟨⟨?_, (f2 b hb).2⟩, by rw [hh4]; exact Nat.lt_of_lt_of_le (sz2 b hb) hsz⟩
      rw [← hH3, upd_ne (nP b hb)]
      exact (f2 b hb).1
    have hszh : h'.objs.size = s4.heap.objs.size + 1 := by rw [hs'.1, Heap.size_push]
    have keep' : ∀ b o, s4.heap.get? b = some o → h'.get? b = some o := fun b o e => hs'.extBut b o (Nat.ne_of_lt (Heap.lt_size e)) (Heap.get?_push_of_some _ e)
    generalize hoa : ({ cls := .type "generator", data := .fields #[.int s4.gens.size 0, .str "<genexpr>" (s4.toks + 1), .str (X.env.qual ++ "<genexpr>") (s4.toks + 1 + 1)] } : Obj) = oa
    have ga : (h'.push oa).get? h'.objs.size = some oa := Heap.get?_push_size _ (by rw [← hoa]; rfl)
    have isg : (h'.push oa).IsGen h'.objs.size s4.gens.size := by rw [← hoa]; exact ⟨_, _, _, Heap.get?_push_size _ rfl, rfl, rfl, rfl⟩
    generalize hce : genEnv scope (cloFrom X.env.cells scope.names []) s4.heap.objs.size code builtinsNs X.env = cenv
    generalize hA' : X.A.in1.in1.over (.compLoop (.GeneratorExp elt [⟨tg, iter, ifs, 0⟩] scope gpos) 0 (.ref it) .none cenv) [] = A'
    have hfr : A'.frames = some (cenv :: X.stack) := by
      rw [← hA']
      show pushEnvs [cenv] (pushEnvs [] X.A.frames) = _
      rw [I2.ok.frames]
      rfl
    have hdp : A'.depth = X.A.depth + 1 := by rw [← hA']; rfl
    have hun : A'.units = X.A.units + 5 := by rw [← hA']; rfl
    have hhd : A'.handled = none := by rw [← hA']; exact hr.hd
    have hr' : Room k A' := ⟨hhd, by rw [hdp]; have := hr.dp; omega, by rw [hun]; have := hr.un; omega⟩
    have bare5 : AllBare (s4.gens.push (.fresh (.compStart (.GeneratorExp elt [⟨tg, iter, ifs, 0⟩] scope gpos) 0 (.ref it) .none cenv))) := I3.bare.push rfl
    have I5 := gen_start (A' := A') (cenv := cenv) (code := code) (m := fun y => if y = ".0" then some (.ref it) else none) (h5 := h'.push oa) (g' := s4.gens.push (.fresh (.compStart (.GeneratorExp elt [⟨tg, iter, ifs, 0⟩] scope gpos) 0 (.ref it) .none cenv)))
      (t5 := s4.toks + 1 + 1 + 1) (a := h'.objs.size) (oa := oa) I3 ok SC.cell hN f3 hce.symm hfr hhd (hn'.push _) (fun b o e => Heap.get?_push_of_some _ (keep' b o e)) bare5 ga (by omega) (by rw [← hoa]; intro v z; cases z)
    have back : ∀ s' ps' σ' H', Inv (gcx X A' s4 H3 cenv fp) ps' σ' H' s' → Inv X pins σ H' s' := fun s' ps' σ' H' I' =>
      I3.call' (ch := fp) I'.os I'.base I'.hok I'.bare fun b hb => ⟨(f3 b hb).1.2.2.2.1, (f3 b hb).1.2.1, (f3 b hb).1.2.2.2.2.1, (f3 b hb).1.2.2.2.2.2⟩
    have pg : PG (gcx X A' s4 H3 cenv fp) tg g := by rw [← hce]; exact hg A' hr' _ _ _ _ _ _
    have pt : PTs (gcx X A' s4 H3 cenv fp) ifs tt := by rw [← hce]; exact ht A' hr' _ _ _ _ _ _
    have pe : PE (gcx X A' s4 H3 cenv fp) elt te := by rw [← hce]; exact he A' hr' _ _ _ _ _ _
    refine hQ (gcx X A' s4 H3 cenv fp) h'.objs.size oa s4.gens.size (m0 + 1) (wipe σ (own.map (·.2))) _ _ rfl rfl rfl ga isg (Array.getElem?_push_size ..) I5.nolimit bare5 (fun S s'' oS hS e1 e2 e3 e4 e5 e6 => ?_) (fun S hS => Nat.le_trans I5.sz hS) back
    refine ⟨rfl, ?_⟩
    have hS : h'.objs.size + 1 ≤ S := by
      have hS : (h'.push oa).objs.size ≤ S := hS
      rwa [Heap.size_push] at hS
    have fS := I5.fpOk (b := S) (H' := H3) (by show (h'.push oa).objs.size ≤ S; rw [Heap.size_push]; exact hS) (I5.hok.fresh (by show (h'.push oa).objs.size ≤ S; rw [Heap.size_push]; exact hS))
    have I6 : Inv (gcx X A' s4 H3 cenv fp) ([(h'.objs.size, oa)] ++ [(S, oS)]) (wipe σ (own.map (·.2))) H3 s'' := by
      have I6 := Inv.kall I5 e1 e2 e3
      refine I6.pins_of fun p hp => ?_
      rcases List.mem_append.mp hp with hp | hp
      · exact I6.pin p (List.mem_append_right _ hp)
      · have := List.mem_singleton.mp hp
        subst this
        exact ⟨e4, fS.1, fS.2.1, fS.2.2.1, e6⟩
    subst hA'
    refine gen_beginS hc (by rw [← hce]; exact SC.co) T (fun b hb => Nat.ne_of_gt (Nat.lt_trans (f3 b hb).2 (by omega))) (fun b hb => Nat.ne_of_gt (Nat.lt_of_lt_of_le (f3 b hb).2 (by omega))) (Nat.ne_of_lt hS) (by omega) hmono pg pt pe turn m0 γ0 oS _ _ H3 w0 e4 e5 I6 ?_ (fun b hb => (f3 b hb).1.1)
    exact T.keep _ _ _ st4 fun b hb o e => e3 b o (Heap.get?_push_of_some _ (keep' b o e))
  refine ⟨I2.nolimit, ?_⟩
  cases hf : codeAmong gpos ps.toList with
  | none =>
    refine wpAny_genexprCodeX hcode (cd.code hPs hts) (cd.tab hPs) hf fun c' h' tk hx hge hlt hco' _ htab' _ => ?_
    obtain ⟨o1, vs, f1, tf, fl, tg', inF, tx, tt', op, _, _, _, _, _, _, _, _, _, htr, _⟩ := hco'
    exact cont _ h' tk _ hx (Nat.le_trans hge (Nat.le_of_lt hlt)) htab'.2 ⟨_, rfl⟩ htr
  | some cv =>
    refine wpAny_genexprCode_hit hcode (cd.code hPs hts) hf ?_
    exact cont cv s2.heap s2.toks ps (Heap.ExtBut.refl _ _) (Nat.le_refl _) hPs ⟨#[], by simp⟩ hts
end
end GAl

set_option Elab.async false
set_option linter.all false
set_option maxRecDepth 100000
set_option maxHeartbeats 2000000
namespace GAl
open PySem PySem.Spec PyProof.Rows L2 GxR
open Sem (wp)
/-! ### sum of a generator expression of whole numbers -/
abbrev sumObj (T : Int) (t : Tok) (c : Nat) : Obj := { cls := .type "list", dict := none, data := .seq #[.int T t] c, slots := #[] }
def RepSum : Obj → Int → Prop := fun o T => ∃ t c, o = sumObj T t c
def stpSum : Int → V → Hp → (Int → Prop) → Prop := fun T y _ N => ∃ k, y = .int k ∧ N (T + k)
theorem stpSum_mono : ∀ γ y H (p q : Int → Prop), (∀ γ', p γ' → q γ') → stpSum γ y H p → stpSum γ y H q := fun _ _ _ _ _ h ⟨k, e, n⟩ => ⟨k, e, h _ n⟩
theorem repSum_uniq {o : Obj} {T T' : Int} (h : RepSum o T) (h' : RepSum o T') : T = T' := by
  obtain ⟨t, c, rfl⟩ := h
  obtain ⟨t', c', e⟩ := h'
  simp only [sumObj, Obj.mk.injEq, true_and] at e
  have e := e.1
  simp at e
  exact e.1.1
section
variable {X XG : Cx} {A : Around} {a S : Addr} {oa : Obj} {g : Nat} {σw : L2.St} {Qd : Int → Hp → Prop} {R : Result → Shared → Prop}
theorem sum_loop (hh : A.handled = none) (hroom : A.depth < recursionLimit) (hpn : XG.pn = []) (hSy : S ∈ XG.ex ∨ XG.s_0.heap.objs.size ≤ S)
    (hfin : ∀ s' ps σ' H' T t, Inv XG ps σ' H' s' → Qd T H' → R (.ok (.ret (.int T t))) s') :
    ∀ (n : Nat) (s : Shared) (st : Int) (T : Int) (oS : Obj), (st = 0 ∨ st = 2) → s.heap.get? a = some oa → s.heap.get? S = some oS → RepSum oS T → a ≠ S →
      GSt (model X.prog X.w) A.in1.in1 (REndS XG a oa S RepSum σw Qd) (YOutS XG a oa S RepSum stpSum) a g n s → codeAny (model X.prog X.w) A (.builtin "sum.loop" ⟨[.ref a, .ref S, rawInt st, rawInt 0], []⟩) R s := by
  intro n
  induction n with
  | zero =>
    intro s st T oS hst2 hoa hS hRep haS ⟨hg, hl, gs, hgs, hgo⟩
    obtain ⟨tA, c, eS⟩ := hRep
    have hS2 := hS
    rw [eS] at hS2
    refine codeAny_builtin F.entry_sum_loop ?_
    rw [Around.under_plainId F.plain_sum_loop _]
    show wpAny _ A.in1 (seqItems? (.ref S) >>= _) _ _ s
    refine wpAny_bind (wpAny_seqItems hS2 rfl ?_)
    show wpAny _ A.in1 (tryCatch (pyNext (.ref a)) _ >>= _) _ _ s
    refine wpAny_bind (wpAny_tryCatch (next_sz (A := A.in1) hh hl hroom hg hgs hgo (fun v s₁ gs' hsz hb hv => ?_) (fun s₁ hsz hp h' hk => ?_)))
    · obtain ⟨γ, oS', y, H4, σ4, e1, e2, I4, r, k, rfl, nn⟩ := hv
      have e1 : s.heap.get? S = some oS' := e1
      rw [hS] at e1; cases e1
      have eγ : γ = T := repSum_uniq e2 ⟨tA, c, eS⟩
      subst eγ
      obtain ⟨t, rfl⟩ := r
      have hS' : s₁.heap.get? S = some (sumObj γ tA c) := by rw [← eS]; exact (I4.pin (S, oS) (by rw [hpn]; simp)).1
      have ha : s₁.heap.get? a = some oa := (I4.pin (a, oa) (by rw [hpn]; simp)).1
      obtain ⟨x, hx⟩ := gens_some hgs hsz rfl
      have fin : ∀ (h2 : Heap) (tk : Nat) (st' : Int), (st' = 0 ∨ st' = 2) → (∀ b o, b ≠ S → s₁.heap.get? b = some o → h2.get? b = some o) → (∃ t' c', h2.get? S = some (sumObj (γ + k) t' c')) →
          codeAny (model X.prog X.w) A (.builtin "sum.loop" ⟨[.ref a, .ref S, rawInt st', rawInt 0], []⟩) R { s₁.setGen g gs' with heap := h2, toks := tk } := fun h2 tk st' hst' hk ⟨t', c', hS3⟩ => by
        exact False.elim (nn { s₁.setGen g gs' with heap := h2, toks := tk } _ rfl (bare_set I4.bare hb) hk hS3 ⟨t', c', rfl⟩ (fun v z => by cases z))
      rcases hst2 with rfl | rfl
      · show wpAny _ A.in1 (if (_ : Bool) = true then (mkInt (γ + k) >>= _) else _) _ _ _
        split
        · refine wpAny_bind (wpAny_mkInt ?_)
          show wpAny _ A.in1 (updateSeq S (fun _ => #[.int (γ + k) s₁.toks]) >>= _) _ _ _
          refine wpAny_bind (wpAny_updateSeq hS' rfl (wpAny_pure ⟨plainId_quiet F.plain_sum_loop _, fin _ _ 0 (.inl rfl) (fun b o hb e => ?_) ⟨_, _, Heap.get?_update_self _ hS' rfl⟩⟩))
          exact (Heap.get?_update_other _ _ (Ne.symm hb)).trans e
        · refine wpAny_bind (wpAny_rule ?_)
          refine wpAny_bind (wpAny_attempt (wpAny_holding (wpAny_add_int ?_)))
          show wpAny _ A.in1 (updateSeq S (fun _ => #[.int (γ + k) s₁.toks]) >>= _) _ _ _
          refine wpAny_bind (wpAny_updateSeq hS' rfl ?_)
          have hS₂ := Heap.get?_update_self (Obj.mapSeq fun _ => #[Value.int (γ + k) s₁.toks]) hS' rfl
          refine wpAny_bind (wpAny_letGo ?_)
          refine wpAny_bind (wpAny_updateSeq hS₂ rfl (wpAny_pure ⟨plainId_quiet F.plain_sum_loop _, fin _ _ 2 (.inr rfl) (fun b o hb e => ?_) ⟨_, _, Heap.get?_update_self _ hS₂ rfl⟩⟩))
          exact (Heap.get?_update_other _ _ (Ne.symm hb)).trans ((Heap.get?_update_other _ _ (Ne.symm hb)).trans e)
      · show wpAny _ A.in1 ((holding [Value.int k t] (binaryOp .Add (.int γ tA) (.int k t))).attempt >>= _) _ _ _
        refine wpAny_bind (wpAny_attempt (wpAny_holding (wpAny_add_int ?_)))
        show wpAny _ A.in1 (updateSeq S (fun _ => #[.int (γ + k) s₁.toks]) >>= _) _ _ _
        refine wpAny_bind (wpAny_updateSeq hS' rfl ?_)
        have hS₂ := Heap.get?_update_self (Obj.mapSeq fun _ => #[Value.int (γ + k) s₁.toks]) hS' rfl
        refine wpAny_bind (wpAny_letGo ?_)
        refine wpAny_bind (wpAny_updateSeq hS₂ rfl (wpAny_pure ⟨plainId_quiet F.plain_sum_loop _, fin _ _ 2 (.inr rfl) (fun b o hb e => ?_) ⟨_, _, Heap.get?_update_self _ hS₂ rfl⟩⟩))
        exact (Heap.get?_update_other _ _ (Ne.symm hb)).trans ((Heap.get?_update_other _ _ (Ne.symm hb)).trans e)
    · obtain ⟨γ, oS', H4, e1, e2, I4, q⟩ := hp
      have e1 : s.heap.get? S = some oS' := e1
      rw [hS] at e1; cases e1
      have eγ : γ = T := repSum_uniq e2 ⟨tA, c, eS⟩
      subst eγ
      exact wpAny_pure (hfin _ _ σw H4 _ _ (Inv.kall I4 rfl (bare_set I4.bare rfl) hk) q)
  | succ n ih =>
    intro s st T oS hst2 hoa hS hRep haS ⟨hg, hl, gs, hgs, hgo⟩
    obtain ⟨tA, c, eS⟩ := hRep
    have hS2 := hS
    rw [eS] at hS2
    refine codeAny_builtin F.entry_sum_loop ?_
    rw [Around.under_plainId F.plain_sum_loop _]
    show wpAny _ A.in1 (seqItems? (.ref S) >>= _) _ _ s
    refine wpAny_bind (wpAny_seqItems hS2 rfl ?_)
    show wpAny _ A.in1 (tryCatch (pyNext (.ref a)) _ >>= _) _ _ s
    refine wpAny_bind (wpAny_tryCatch (next_sz (A := A.in1) hh hl hroom hg hgs hgo (fun v s₁ gs' hsz hb hv => ?_) (fun s₁ hsz hp h' hk => ?_)))
    · obtain ⟨γ, oS', y, H4, σ4, e1, e2, I4, r, k, rfl, nn⟩ := hv
      have e1 : s.heap.get? S = some oS' := e1
      rw [hS] at e1; cases e1
      have eγ : γ = T := repSum_uniq e2 ⟨tA, c, eS⟩
      subst eγ
      obtain ⟨t, rfl⟩ := r
      have hS' : s₁.heap.get? S = some (sumObj γ tA c) := by rw [← eS]; exact (I4.pin (S, oS) (by rw [hpn]; simp)).1
      have ha : s₁.heap.get? a = some oa := (I4.pin (a, oa) (by rw [hpn]; simp)).1
      obtain ⟨x, hx⟩ := gens_some hgs hsz rfl
      have fin : ∀ (h2 : Heap) (tk : Nat) (st' : Int), (st' = 0 ∨ st' = 2) → (∀ b o, b ≠ S → s₁.heap.get? b = some o → h2.get? b = some o) → (∃ t' c', h2.get? S = some (sumObj (γ + k) t' c')) →
          codeAny (model X.prog X.w) A (.builtin "sum.loop" ⟨[.ref a, .ref S, rawInt st', rawInt 0], []⟩) R { s₁.setGen g gs' with heap := h2, toks := tk } := fun h2 tk st' hst' hk ⟨t', c', hS3⟩ => by
        refine ih _ st' (γ + k) _ hst' (hk a oa haS ha) hS3 ⟨t', c', rfl⟩ haS ⟨isgen_of hg hoa (hk a oa haS ha), ?_, gs', setGen_self hx, ?_⟩
        · exact (Inv.kallS (ps := [(a, oa)]) (s'' := { s₁.setGen g gs' with heap := h2, toks := tk }) I4 hSy (by rw [hpn]; intro p hp; have := List.mem_singleton.mp hp; subst this; exact haS) rfl (bare_set I4.bare hb) hk hS3 (fun v z => by cases z)).nolimit
        · exact nn (Shared.setGen { s₁.setGen g gs' with heap := h2, toks := tk } g .running) _ rfl (bare_set (bare_set I4.bare hb) rfl) hk hS3 ⟨t', c', rfl⟩ (fun v z => by cases z)
      rcases hst2 with rfl | rfl
      · show wpAny _ A.in1 (if (_ : Bool) = true then (mkInt (γ + k) >>= _) else _) _ _ _
        split
        · refine wpAny_bind (wpAny_mkInt ?_)
          show wpAny _ A.in1 (updateSeq S (fun _ => #[.int (γ + k) s₁.toks]) >>= _) _ _ _
          refine wpAny_bind (wpAny_updateSeq hS' rfl (wpAny_pure ⟨plainId_quiet F.plain_sum_loop _, fin _ _ 0 (.inl rfl) (fun b o hb e => ?_) ⟨_, _, Heap.get?_update_self _ hS' rfl⟩⟩))
          exact (Heap.get?_update_other _ _ (Ne.symm hb)).trans e
        · refine wpAny_bind (wpAny_rule ?_)
          refine wpAny_bind (wpAny_attempt (wpAny_holding (wpAny_add_int ?_)))
          show wpAny _ A.in1 (updateSeq S (fun _ => #[.int (γ + k) s₁.toks]) >>= _) _ _ _
          refine wpAny_bind (wpAny_updateSeq hS' rfl ?_)
          have hS₂ := Heap.get?_update_self (Obj.mapSeq fun _ => #[Value.int (γ + k) s₁.toks]) hS' rfl
          refine wpAny_bind (wpAny_letGo ?_)
          refine wpAny_bind (wpAny_updateSeq hS₂ rfl (wpAny_pure ⟨plainId_quiet F.plain_sum_loop _, fin _ _ 2 (.inr rfl) (fun b o hb e => ?_) ⟨_, _, Heap.get?_update_self _ hS₂ rfl⟩⟩))
          exact (Heap.get?_update_other _ _ (Ne.symm hb)).trans ((Heap.get?_update_other _ _ (Ne.symm hb)).trans e)
      · show wpAny _ A.in1 ((holding [Value.int k t] (binaryOp .Add (.int γ tA) (.int k t))).attempt >>= _) _ _ _
        refine wpAny_bind (wpAny_attempt (wpAny_holding (wpAny_add_int ?_)))
        show wpAny _ A.in1 (updateSeq S (fun _ => #[.int (γ + k) s₁.toks]) >>= _) _ _ _
        refine wpAny_bind (wpAny_updateSeq hS' rfl ?_)
        have hS₂ := Heap.get?_update_self (Obj.mapSeq fun _ => #[Value.int (γ + k) s₁.toks]) hS' rfl
        refine wpAny_bind (wpAny_letGo ?_)
        refine wpAny_bind (wpAny_updateSeq hS₂ rfl (wpAny_pure ⟨plainId_quiet F.plain_sum_loop _, fin _ _ 2 (.inr rfl) (fun b o hb e => ?_) ⟨_, _, Heap.get?_update_self _ hS₂ rfl⟩⟩))
        exact (Heap.get?_update_other _ _ (Ne.symm hb)).trans ((Heap.get?_update_other _ _ (Ne.symm hb)).trans e)
    · obtain ⟨γ, oS', H4, e1, e2, I4, q⟩ := hp
      have e1 : s.heap.get? S = some oS' := e1
      rw [hS] at e1; cases e1
      have eγ : γ = T := repSum_uniq e2 ⟨tA, c, eS⟩
      subst eγ
      exact wpAny_pure (hfin _ _ σw H4 _ _ (Inv.kall I4 rfl (bare_set I4.bare rfl) hk) q)

def tSumG (P : Addr) (wi : TI) (g : TG) (tt : TT) (te : TE) (vs : List Nat) : TE := fun σ H Q => tGenS P wi g tt te vs stpSum (0 : Int) (fun T H' => Q (.int T) H') σ H
theorem pe_sumG {c P : Addr} {elt tg iter : Expr} {ifs : List Expr} {p pos gpos : Pos} {scope : Scope} {own : List (Str × Nat)} {wi : TI} {g : TG} {tt : TT} {te : TE} {k : Nat}
    (hr : Room (k + 1) X.A) (hgl : Gl X "sum") (hm : X.mg "sum" = none) (hc : X.calm = true) (hN : X.N.Nodup) (TB : TabB X.base X.mg c P) (hcode : X.env.code = .ref c) (S : GSc X.N X.env.scope scope own) (hi : PI X tg iter wi)
    (hg : ∀ (A' : Around), Room k A' → ∀ (s : Shared) (H : Hp) (cl : List (Str × Addr)) (C : Addr) (code : Value) (fp : List Addr), PG (gcx X A' s H (genEnv scope cl C code builtinsNs X.env) fp) tg g)
    (ht : ∀ (A' : Around), Room k A' → ∀ (s : Shared) (H : Hp) (cl : List (Str × Addr)) (C : Addr) (code : Value) (fp : List Addr), PTs (gcx X A' s H (genEnv scope cl C code builtinsNs X.env) fp) ifs tt)
    (he : ∀ (A' : Around), Room k A' → ∀ (s : Shared) (H : Hp) (cl : List (Str × Addr)) (C : Addr) (code : Value) (fp : List Addr), PE (gcx X A' s H (genEnv scope cl C code builtinsNs X.env) fp) elt te)
    (hs : ∀ v, genFold iter X.env v = pure v := by intro _; rfl)
    (hst : starEach [.GeneratorExp elt [⟨tg, iter, ifs, 0⟩] scope gpos] X.env = (false, eval (.GeneratorExp elt [⟨tg, iter, ifs, 0⟩] scope gpos) X.env) :: starEach [] X.env := by rfl)
    (hb : bootBuiltins "sum" = some (.builtin "sum") := by decide +kernel) :
    PE X (.Call (.Name "sum" p) [.GeneratorExp elt [⟨tg, iter, ifs, 0⟩] scope gpos] [] pos) (tSumG P wi g tt te (own.map (·.2))) := by
  refine ⟨fun pins s σ H Q I h => ?_⟩
  refine wpAny_Call_Name_kw (ld_blt I hgl hm hb ?_)
  refine PyProof.Rows.callWith_builtin1 ?_ hst (by rfl)
  rw [hst]
  show wpAny _ _ (spliced ((false, eval (.GeneratorExp elt [⟨tg, iter, ifs, 0⟩] scope gpos) X.env) :: backTo pos (starEach [] X.env))) _ _ s
  refine Calls.spliced_cons (gen_makeS (Rep := RepSum) hr hc hN TB hcode S hi hg ht he stpSum_mono hs I h fun XG a oa gn n σw s5 gs eP eW epn ha hG hgs hnl hb5 go hy back => ?_)
  refine Calls.spliced_nil ?_
  refine call_function_tree F.kind_sum F.plain_sum F.entry_sum (F.args_sum1 _) ?_
  unfold Builtin.«sum»
  simp only [List.length_cons, List.length_nil]
  rw [if_neg (by decide)]
  refine wpAny_bind (wpAny_of_eq (show Builtin.Builtins.bindParams "sum" ["start"] 0 { } = pure [none] from rfl) ?_)
  refine wpAny_bind (wpAny_pyIter_gen hG ?_)
  refine wpAny_bind (wpAny_mkInt ?_)
  refine wpAny_bind (wpAny_pure ?_)
  simp only [List.forIn_cons, List.forIn_nil]
  refine wpAny_bind (wpAny_bind (wpAny_bind (wpAny_isInstance (T := "int") (b := false) (typeIs_int _ _ _) PySem.sub_int_str ?_)))
  simp only [Bool.false_eq_true, if_false]
  refine wpAny_pure (wpAny_bind (wpAny_bind (wpAny_isInstance (T := "int") (b := false) (typeIs_int _ _ _) PySem.sub_int_bytes ?_)))
  simp only [Bool.false_eq_true, if_false]
  refine wpAny_pure (wpAny_bind (wpAny_bind (wpAny_isInstance (T := "int") (b := false) (typeIs_int _ _ _) PySem.sub_int_bytearray ?_)))
  simp only [Bool.false_eq_true, if_false]
  refine wpAny_pure (wpAny_pure ?_)
  refine wpAny_bind (wpAny_newObj_type ?_)
  have hS : (s5.heap.push (sumObj 0 s5.toks 0)).get? s5.heap.objs.size = some (sumObj 0 s5.toks 0) := Heap.get?_push_size _ rfl
  have keep : ∀ b o, s5.heap.get? b = some o → (s5.heap.push (sumObj 0 s5.toks 0)).get? b = some o := fun b o e => Heap.get?_push_of_some _ e
  refine wpAny_pure ⟨plainId_quiet F.plain_sum_loop _, sum_loop (X := X) (XG := XG) (oa := oa) (g := gn) (σw := σw) (Qd := fun T H' => Q (.int T) H') hr.hd (by have := hr.dp; omega) epn (.inr (hy _ (Nat.le_refl _))) (fun s' ps σ' H' T t I' q => ?_) n _ 0 0 _ (.inl rfl) (keep _ _ ha) hS ⟨_, _, rfl⟩ (Nat.ne_of_lt (Heap.lt_size ha)) ⟨isgen_of hG ha (keep _ _ ha), hnl.keeps keep, gs, hgs, ?_⟩⟩
  · exact ⟨.int T, H', back s' _ σ' H' I', ⟨t, rfl⟩, q⟩
  · exact go _ (Shared.setGen _ gn .running) _ (Nat.le_refl _) rfl (bare_set hb5 rfl) keep hS ⟨_, _, rfl⟩ (fun v z => by cases z)
end
end GAl

set_option Elab.async false
set_option linter.all false
set_option maxRecDepth 100000
set_option maxHeartbeats 4000000
namespace HK
open PySem PySem.Spec PyProof.Rows L2 GAl GxR
open Evl (pss_cut)
abbrev sNeededFrom : Stmt := topS 22
abbrev N_scNeededFrom : List Str := ["up", "late", "comes", "place", "moments", "comer", "way", "at"]
theorem scNeededFrom : FnScope N_scNeededFrom ["up", "late", "comes", "place"] (defScope sNeededFrom) := ⟨rfl, rfl, rfl, by decide +kernel, rfl, by decide +kernel, by decide +kernel⟩
abbrev sLeastL : Stmt := topS 30
abbrev N_scLeastL : List Str := ["up", "late", "comes", "one", "some", "place", "path", "k"]
theorem scLeastL : FnScope N_scLeastL ["up", "late", "comes", "one"] (defScope sLeastL) := ⟨rfl, rfl, rfl, by decide +kernel, rfl, by decide +kernel, by decide +kernel⟩
/-! ### least moments -/
open Classical in
noncomputable def wy (us : List (Option Int)) (v : Int) : List Int := if h : ∃ l, Up (upF us) v l then h.choose else []
theorem wy_eq {us : List (Option Int)} {v : Int} {l : List Int} (h : Up (upF us) v l) : wy us v = l := by
  unfold wy
  have hx : ∃ l, Up (upF us) v l := ⟨l, h⟩
  rw [dif_pos hx]
  exact hx.choose_spec.uniq h
theorem wy_up {us : List (Option Int)} (hW : Ways us) {v : Int} (v0 : 0 ≤ v) (v1 : v < us.length) : Up (upF us) v (wy us v) := by
  obtain ⟨l, hl⟩ := hW.ends v v0 v1
  rw [wy_eq hl]
  exact hl
def lateF (ls : List Int) (v : Int) : Int := ls.getD v.toNat 0
def idxI (l : List Int) (v : Int) : Nat := l.findIdx fun u => decide (u = v)
theorem idxI_at {l : List Int} {v : Int} (h : v ∈ l) : l[idxI l v]? = some v ∧ idxI l v < l.length := by
  have hlt : idxI l v < l.length := List.findIdx_lt_length_of_exists ⟨v, h, by simp⟩
  have := List.findIdx_getElem (xs := l) (p := fun u => decide (u = v)) (w := hlt)
  exact ⟨by rw [List.getElem?_eq_getElem hlt]; congr 1; exact of_decide_eq_true this, hlt⟩
theorem idxI_no {l : List Int} {v : Int} {m : Nat} {z : Int} (hm : m < idxI l v) (hz : l[m]? = some z) : z ≠ v := by
  have := List.not_of_lt_findIdx (xs := l) (p := fun u => decide (u = v)) hm
  obtain ⟨hl, e⟩ := List.getElem?_eq_some_iff.mp hz
  rw [← e]
  intro h
  rw [decide_eq_true h] at this
  cases this
/-- what one that comes gives for a place -/
noncomputable def contF (us : List (Option Int)) (ls : List Int) (one : Int) : Key × V → Option Int
  | (.inl i, .int x) => if one ∈ wy us i then some (x + (((wy us i).take (idxI (wy us i) one)).map (lateF ls)).sum) else none
  | _ => none
noncomputable def someL (us : List (Option Int)) (ls : List Int) (kvs : List (Key × V)) (one : Int) : List Int := kvs.filterMap (contF us ls one)
def IsMin (L : List Int) (m : Int) : Prop := m ∈ L ∧ ∀ x ∈ L, m ≤ x
def IsMax (L : List Int) (m : Int) : Prop := m ∈ L ∧ ∀ x ∈ L, x ≤ m
theorem IsMin.uniq {L : List Int} {m k : Int} (h : IsMin L m) (h' : IsMin L k) : m = k := by
  have := h.2 k h'.1
  have := h'.2 m h.1
  omega
theorem IsMax.uniq {L : List Int} {m k : Int} (h : IsMax L m) (h' : IsMax L k) : m = k := by
  have := h.2 k h'.1
  have := h'.2 m h.1
  omega
theorem someL_take {us : List (Option Int)} {ls : List Int} {kvs : List (Key × V)} {one : Int} {i : Nat} {e : Key × V} (h : kvs[i]? = some e) : someL us ls (kvs.take (i + 1)) one = someL us ls (kvs.take i) one ++ (contF us ls one e).toList := by
  unfold someL
  rw [List.take_add_one, h, List.filterMap_append]
  congr 1
theorem someL_len {us : List (Option Int)} {ls : List Int} {kvs : List (Key × V)} {one : Int} : (someL us ls kvs one).length ≤ kvs.length := List.length_filterMap_le _ _
theorem late_at {us : List (Option Int)} {ls : List Int} (hL : Lates us ls) {v : Int} (v0 : 0 ≤ v) (v1 : v < us.length) : atI (ls.map V.int) v = some (.int (lateF ls v)) := by
  obtain ⟨j, rfl⟩ := Int.eq_ofNat_of_zero_le v0
  have hj : j < ls.length := by rw [hL.len]; omega
  refine atI_nat ?_
  rw [List.getElem?_map, List.getElem?_eq_getElem hj]
  unfold lateF
  rw [List.getD_eq_getElem?_getD, Int.toNat_natCast, List.getElem?_eq_getElem hj]
  rfl
theorem cut_head (l : List Int) (j : Nat) : cutV (l.map V.int) none (some (j : Int)) = (l.take j).map V.int := by
  unfold cutV
  rw [HT.sIx_none, HT.sIx_nat, List.drop_zero, Nat.sub_zero, List.length_map, List.map_take]
  by_cases h : j ≤ l.length
  · rw [Nat.min_eq_left h]
  · rw [Nat.min_eq_right (by omega), List.take_of_length_le (by rw [List.length_map]; exact Nat.le_refl _), List.take_of_length_le (by rw [List.length_map]; omega)]
section
variable {P : Program} {w : World} {K : PySem.W.Frag} {mg : Str → Option Value} {base : Heap}
/-- what stands while moments are looked for -/
def MomA (K : PySem.W.Frag) (H : Hp) (p : Addr) (us : List (Option Int)) (q : Addr) (ls : List Int) (d : Addr) (kvs : List (Key × V)) (g : IF) : Prop := SqT K H p (us.map oV) ∧ Ways us ∧ SqT K H q (ls.map V.int) ∧ Lates us ls ∧ Rd H d (.dK kvs) ∧ DI kvs g ∧ kvs.length ≤ 100 ∧ ∀ v x, g v = some x → 0 ≤ v ∧ v < us.length
theorem MomA.k0 {H H' : Hp} {p : Addr} {us : List (Option Int)} {q : Addr} {ls : List Int} {d : Addr} {kvs : List (Key × V)} {g : IF} (h : MomA K H p us q ls d kvs g) (k : K0 H H') : MomA K H' p us q ls d kvs g := by
  obtain ⟨h1, h2, h3, h4, h5, h6⟩ := h
  exact ⟨k.sqT h1, h2, k.sqT h3, h4, k.rd h5, h6⟩
def spLeast (K : PySem.W.Frag) (Pf : Addr) : Sp := fun vs H Q _ => ∃ (p : Addr) (us : List (Option Int)) (q : Addr) (ls : List Int) (d : Addr) (kvs : List (Key × V)) (g : IF) (one : Int), vs = [.ref p, .ref q, .ref d, .int one] ∧ SqT K H p (us.map oV) ∧ Ways us ∧ SqT K H q (ls.map V.int) ∧ Lates us ls ∧ H d = some (.dK kvs) ∧ DI kvs g ∧ kvs.length ≤ 100 ∧ (∀ v x, g v = some x → 0 ≤ v ∧ v < us.length) ∧ 0 < (someL us ls kvs one).length ∧ TabG H Pf ∧
  ∀ (m : Int) (H' : Hp), K0 H H' → IsMin (someL us ls kvs one) m → Q (.int m) H'
theorem ok_neededfrom {f c Pf : Addr} {fd : FuncData} {f_wayup : Addr} {fd_wayup : FuncData} (F : FunC K "needed_from" "needed_from" sNeededFrom f fd c) (TB : TabB base mg c Pf) (k_wayup : PySem.W.keepIn K (.ref f_wayup) = true) (b_wayup : Binds K fd_wayup ["up", "place"] []) (g_wayup : mg "way_up" = some (.ref f_wayup)) (G_wayup : FnOk P w K mg base CX0 1 f_wayup fd_wayup ["up", "place"] (spWayUp K)) (m_sum : mg "sum" = none) (m_min : mg "min" = none) : FnOk P w K mg base CX0 3 f fd ["up", "late", "comes", "place"] (spLeast K Pf) := by
  refine F.ok scNeededFrom (fun vs H Q E h => ?_) (fun A outer s H vs Q E hr h => ?_)
  · obtain ⟨p, us, q, ls, d, kvs, g, one, rfl, _⟩ := h
    rfl
  · obtain ⟨p, us, q, ls, d, kvs, g, one, rfl, hp, hW, hq, hL, hd, hD, hkl, hg, hne, tf, qq⟩ := h
    have hu := hu_of hr
    refine ⟨_, (pss_cons (ps_set (i := 4) scNeededFrom.nd rfl (.inl rfl) (pe_lst pa_nil))
      (pss_cons (ps_lock (ps_for PassesOwn.never rfl (pi_keys (pv 2)) (pg_name (i := 5) scNeededFrom.nd rfl (.inl rfl))
      (pss_cons (ps_set (i := 6) scNeededFrom.nd rfl (.inl rfl) (pe_call G_wayup (hr.mono (by decide)) (by rfl) g_wayup k_wayup b_wayup .nil pass0 (pa_cons (pv 0) (pa_cons (pv 5) pa_nil))))
      (pss_one (ps_if (pt_cmpR op_in_seq (pv 3) (pv 6) rfl) (pss_one (ps_expr (pe_bm PySem.F.plainAttrs_list PySem.F.slot_list_append PySem.F.type_list_append mt_append (pv 4) (pa_cons (pe_op op_add (pe_dget hu (pv 2) (pv 5) (fun _ _ => rfl)) (pe_sumG (own := [("at", 7)]) (k := 0) (g := (gName 7)) (tt := tYes) (te := (tOp (rIxT K) (tVar 1) (tVar 7))) (hr.mono (by decide)) (by rfl) m_sum rfl scNeededFrom.nd TB rfl (gsc_by (N := N_scNeededFrom) (sc := defScope sNeededFrom) (by decide +kernel)) (pi_list (pe_slice sl_list (pv 6) po_none (po_some (pe_bm PySem.F.plainAttrs_list PySem.F.slot_list_index PySem.F.type_list_index mt_index (pv 6) (pa_cons (pv 3) pa_nil))))) (fun A' hr' _ _ _ _ _ _ => (pg_name (i := 7) scNeededFrom.nd rfl (.inl rfl))) (fun A' hr' _ _ _ _ _ _ => pts_nil) (fun A' hr' _ _ _ _ _ _ => (pe_ix ix_tup (pv 1) (pv 7) (fun _ _ => rfl))))) pa_nil)))) pss_nil)))))
      (pss_one (ps_ret (pe_callB (cr_min rfl) (by rfl) m_min (by decide +kernel) (pa_cons (pv 4) pa_nil)))))), ?_⟩
    have n8 := hW.n8
    refine ⟨Nat.zero_le _, fun L nL => ?_⟩
    have k1 : K0 H (upd H L (.lst [])) := K0.new nL
    have hL1 : upd H L (.lst []) L = some (.lst (([] : List Int).map V.int)) := upd_same
    have hd1 := k1.oth d _ hd (fun _ z => by cases z)
    have tf1 := k1.tab _ tf
    generalize upd H L (.lst []) = H1 at k1 hL1 hd1 tf1
    have hLd : L ≠ d := fun z => by rw [z, hd] at nL; cases nL
    refine ⟨d, _, hd1, trivial, fun od => ⟨_, rfl, d, od, rfl, .inl ⟨kvs, upd_same, ?_⟩⟩⟩
    refine for_it walk_keys (fun i σ' H' => ∃ y5 y6, σ' = [some (.ref p), some (.ref q), some (.ref d), some (.int one), some (.ref L), y5, y6, none] ∧ Kt L (upd H1 d (.frz od (.dK kvs))) H' ∧ H' L = some (.lst ((someL us ls (kvs.take i) one).map V.int)))
      ⟨none, none, rfl, Kt.refl _ _, by rw [upd_ne hLd, List.take_zero]; exact hL1⟩ (fun i σ' H' _ h => ?_) (fun i x σ' H' H2 hi h y => ?_) (fun σ' H' h => ?_)
    · obtain ⟨_, _, _, k, _⟩ := h
      exact k.frz _ _ _ upd_same
    · obtain ⟨rfl, k, v, hkv, rfl⟩ := y
      obtain ⟨j, z, e, e2⟩ := hD.at_ (List.mem_of_getElem? hkv)
      cases e
      obtain ⟨y5, y6, rfl, kk, hL2⟩ := h
      obtain ⟨j0, j1⟩ := hg j z e2
      have hp2 : SqT K H2 p (us.map oV) := kk.sqT (sqT_lock (k1.sqT hp) hd1)
      have hq2 : SqT K H2 q (ls.map V.int) := kk.sqT (sqT_lock (k1.sqT hq) hd1)
      have hd2 : H2 d = some (.frz od (.dK kvs)) := kk.frz _ _ _ upd_same
      have hUp := wy_up hW j0 j1
      refine ⟨_, rfl, _, rfl, p, us, j, wy us j, rfl, hp2, hW, j0, j1, hUp, fun wq H5 k5 nwq hwq => ?_⟩
      have hL5 := k5.oth L _ hL2 (fun _ z => by cases z)
      have hlen : (someL us ls (kvs.take i) one).length < 5000 := by
        have := someL_len (us := us) (ls := ls) (kvs := kvs.take i) (one := one)
        have := List.length_take_le i kvs
        omega
      have nLL : L ≠ wq := ne_of_none hL2 nwq
      refine ⟨_, rfl, _, rfl, wq, _, rfl, .inl (.inl (.inl hwq)), rfl, flatI _, _, rfl, ?_⟩
      show if inV (V.int one) ((wy us j).map V.int) = true then _ else _
      rw [inI]
      have hrn := hUp.rng hW j0 j1
      have hll := hUp.len hW j0 j1
      by_cases hm : one ∈ wy us j
      · rw [decide_eq_true hm]
        have ec : contF us ls one (Sum.inl j, V.int z) = some (z + (((wy us j).take (idxI (wy us j) one)).map (lateF ls)).sum) := if_pos hm
        obtain ⟨ia, il⟩ := idxI_at hm
        have dg := dgetR (.inr ⟨od, k5.oth d _ hd2 (fun _ z => by cases z)⟩) hD j
        rw [e2] at dg
        refine iteT ⟨_, rfl, .inl ⟨rfl, _, .inl (.inl hL5)⟩, ?_⟩
        refine ⟨_, rfl, _, rfl, d, _, rfl, dg, ?_⟩
        refine ⟨_, rfl, _, rfl, .inl ⟨rfl, _, .inl (.inl hwq)⟩, _, rfl, wq, _, .int one, idxI (wy us j) one, .int one, rfl, rfl, .inl (.inl hwq), rfl, flatI _, by rw [List.getElem?_map, ia]; rfl, by simp [eqV], fun m z' hm' hz' => ?_, _, rfl, wq, _, rfl, .inl (.inl hwq), fun sl nsl => ?_⟩
        · rw [List.getElem?_map] at hz'
          cases e3 : (wy us j)[m]? with
          | none => rw [e3] at hz'; cases hz'
          | some u =>
            rw [e3] at hz'
            cases hz'
            have := idxI_no hm' e3
            simp [eqV, this]
        rw [cut_head]
        generalize hwl : (wy us j).take (idxI (wy us j) one) = wl at ec
        have hwr : ∀ v ∈ wl, 0 ≤ v ∧ v < us.length := fun v hv => hrn v (by rw [← hwl] at hv; exact List.mem_of_mem_take hv)
        have hwll : wl.length ≤ 8 := by
          rw [← hwl]
          have := List.length_take_le (idxI (wy us j) one) (wy us j)
          omega
        have k6 := k5.mut (o := .lst (wl.map V.int)) (k5.dom sl nsl)
        have tf6 := k6.tab _ (kk.tab _ (tabG_lock hd1 (fun _ z => by cases z) tf1))
        have hsl : upd H5 sl (.lst (wl.map V.int)) sl = some (.lst (wl.map V.int)) := upd_same
        generalize upd H5 sl (.lst (wl.map V.int)) = H6 at k6 tf6 hsl
        refine ⟨sl, rfl, ⟨_, .inl (.inl hsl)⟩, tf6, fun H7 hT7 => ?_⟩
        have k67 : K0 H6 H7 := K0.tbd tf6 hT7
        refine ⟨fun i m T H8 => i + m = wl.length ∧ K0 H6 H8 ∧ T = ((wl.take i).map (lateF ls)).sum, ⟨wl.length, by omega, k67, rfl⟩, fun i' m T H8 hWi => ?_⟩
        obtain ⟨em, k68, eT⟩ := hWi
        have hs8 := k68.oth sl _ hsl (fun _ z => by cases z)
        have k28 := k6.trans k68
        by_cases hi' : i' < wl.length
        · have g1 : (wl.map V.int)[i']? = some (.int wl[i']) := by rw [List.getElem?_map, List.getElem?_eq_getElem hi']; rfl
          refine .inr ⟨⟨_, _, .inl (.inl hs8), g1⟩, fun T' H' => K0 H6 H' ∧ T' = ((wl.take (i' + 1)).map (lateF ls)).sum, fun T' H' hN => ⟨m - 1, by omega, by omega, hN.1, hN.2⟩, fun x H' hy => ?_⟩
          obtain ⟨rfl, fx⟩ := hy
          have ex : x = .int wl[i'] := Option.some.inj ((fx _ (.inl (.inl hs8))).symm.trans g1)
          subst ex
          obtain ⟨a0, a1⟩ := hwr wl[i'] (List.getElem_mem hi')
          refine ⟨rfl, tyes ⟨_, rfl, _, rfl, q, _, _, _, rfl, rfl, k28.sqT hq2, late_at hL a0 a1, ?_⟩⟩
          refine ⟨_, rfl, k68, ?_⟩
          rw [eT, List.take_add_one, List.getElem?_eq_getElem hi', List.map_append, List.sum_append]
          simp
        · refine .inl ⟨⟨_, .inl (.inl hs8), by rw [List.length_map]; omega⟩, ?_⟩
          rw [List.take_of_length_le (by omega)] at eT
          subst eT
          have hL8 := k28.oth L _ hL2 (fun _ z => by cases z)
          refine ⟨_, _, rfl, rfl, L, _, _, rfl, rfl, hL8, Nat.lt_of_le_of_lt (m := 5000) (by rw [List.length_map]; omega) (by decide), ?_⟩
          refine ⟨_, _, rfl, (kk.trans k28.kt).trans (Kt.set hL8), ?_⟩
          rw [someL_take hkv, ec, List.map_append]
          exact upd_same
      · rw [decide_eq_false hm]
        have ec : contF us ls one (Sum.inl j, V.int z) = none := if_neg hm
        refine iteF ⟨_, _, rfl, kk.trans k5.kt, ?_⟩
        rw [someL_take hkv, ec, List.map_append]
        show _ = some (HO.lst (_ ++ []))
        rw [List.append_nil]
        exact hL5
    · obtain ⟨y5, y6, rfl, kk, hL2⟩ := h
      rw [List.take_of_length_le (Nat.le_refl _)] at hL2
      have kl : Kt L H1 (upd H' d (.dK kvs)) := Kt.lock hd1 kk
      have k0 : K0 H (upd H' d (.dK kvs)) := ⟨fun b o e m => kl.oth b o (k1.oth b o e m) (ne_of_none e nL) m, fun P hP => kl.tab P (k1.tab P hP), fun b e => k1.dom b (kl.dom b e)⟩
      refine ⟨kk.frz _ _ _ upd_same, _, rfl, L, someL us ls kvs one, rfl, .inl (.inl (by rw [upd_ne hLd]; exact hL2)), hne, fun m hm hle => ?_⟩
      exact qq m _ k0 ⟨hm, hle⟩
def spLeastR (K : PySem.W.Frag) : Sp := fun vs H Q _ => ∃ (p : Addr) (us : List (Option Int)) (q : Addr) (ls : List Int) (d : Addr) (kvs : List (Key × V)) (g : IF) (one : Int), vs = [.ref p, .ref q, .ref d, .int one] ∧ SqT K H p (us.map oV) ∧ Ways us ∧ SqT K H q (ls.map V.int) ∧ Lates us ls ∧ Rd H d (.dK kvs) ∧ DI kvs g ∧ kvs.length ≤ 100 ∧ (∀ v x, g v = some x → 0 ≤ v ∧ v < us.length) ∧ 0 < (someL us ls kvs one).length ∧
  ∀ (m : Int) (H' : Hp), K0 H H' → IsMin (someL us ls kvs one) m → Q (.int m) H'
theorem ok_leastl {f : Addr} {fd : FuncData} {f_path : Addr} {fd_path : FuncData} (F : Fun K "_law_e_least" "_law_e_least" sLeastL f fd) (k_path : PySem.W.keepIn K (.ref f_path) = true) (b_path : Binds K fd_path ["up", "place"] []) (g_path : mg "_law_e_path" = some (.ref f_path)) (G_path : FnOk P w K mg base CX0 1 f_path fd_path ["up", "place"] (spWayUp K)) (m_sum : mg "sum" = none) (m_min : mg "min" = none) : FnOk P w K mg base CX0 2 f fd ["up", "late", "comes", "one"] (spLeastR K) := by
  refine F.ok scLeastL (fun vs H Q E h => ?_) (fun cdv A outer s H vs Q E hr h => ?_)
  · obtain ⟨p, us, q, ls, d, kvs, g, one, rfl, _⟩ := h
    rfl
  · obtain ⟨p, us, q, ls, d, kvs, g, one, rfl, hp, hW, hq, hL, hd, hD, hkl, hg, hne, qq⟩ := h
    have hu := hu_of hr
    rcases hd with hd | ⟨od, hd⟩
    · refine ⟨_, (pss_cons (ps_set (i := 4) scLeastL.nd rfl (.inl rfl) (pe_lst pa_nil))
      (pss_cons (ps_lock (ps_for PassesOwn.never rfl (pi_keys (pv 2)) (pg_name (i := 5) scLeastL.nd rfl (.inl rfl))
      (pss_cons (ps_set (i := 6) scLeastL.nd rfl (.inl rfl) (pe_call G_path (hr.mono (by decide)) (by rfl) g_path k_path b_path .nil pass0 (pa_cons (pv 0) (pa_cons (pv 5) pa_nil))))
      (pss_one (ps_if (pt_cmpR op_in_seq (pv 3) (pv 6) rfl) (pss_one (ps_expr (pe_bm PySem.F.plainAttrs_list PySem.F.slot_list_append PySem.F.type_list_append mt_append (pv 4) (pa_cons (pe_op op_add (pe_dget hu (pv 2) (pv 5) (fun _ _ => rfl)) (pe_callB (cr_sum rfl) (by rfl) m_sum boot_sum (pa_cons (pe_lc (own := [("k", 7)]) (g := (gName 7)) (tt := tYes) (te := (tOp (rIxT K) (tVar 1) (tVar 7))) rfl scLeastL.nd (pi_list (pe_slice sl_list (pv 6) po_none (po_some (pe_bm PySem.F.plainAttrs_list PySem.F.slot_list_index PySem.F.type_list_index mt_index (pv 6) (pa_cons (pv 3) pa_nil))))) (blkOk_by (N := N_scLeastL) (sc := defScope sLeastL) (by decide +kernel)) (fun _ _ _ _ _ => (pg_name (i := 7) scLeastL.nd rfl (.inl rfl))) (fun _ _ _ _ _ => pts_nil) (fun _ _ _ _ _ => (pe_ix ix_tup (pv 1) (pv 7) (fun _ _ => rfl)))) pa_nil))) pa_nil)))) pss_nil)))))
      (pss_one (ps_ret (pe_callB (cr_min rfl) (by rfl) m_min (by decide +kernel) (pa_cons (pv 4) pa_nil)))))), ?_⟩
      have n8 := hW.n8
      refine ⟨Nat.zero_le _, fun L nL => ?_⟩
      have k1 : K0 H (upd H L (.lst [])) := K0.new nL
      have hL1 : upd H L (.lst []) L = some (.lst (([] : List Int).map V.int)) := upd_same
      have hd1 := k1.oth d _ hd (fun _ z => by cases z)
      generalize upd H L (.lst []) = H1 at k1 hL1 hd1
      have hLd : L ≠ d := fun z => by rw [z, hd] at nL; cases nL
      refine ⟨d, _, hd1, trivial, fun od => ⟨_, rfl, d, od, rfl, .inl ⟨kvs, upd_same, ?_⟩⟩⟩
      refine for_it walk_keys (fun i σ' H' => ∃ y5 y6, σ' = [some (.ref p), some (.ref q), some (.ref d), some (.int one), some (.ref L), y5, y6, none] ∧ Kt L (upd H1 d (.frz od (.dK kvs))) H' ∧ H' L = some (.lst ((someL us ls (kvs.take i) one).map V.int)))
        ⟨none, none, rfl, Kt.refl _ _, by rw [upd_ne hLd, List.take_zero]; exact hL1⟩ (fun i σ' H' _ h => ?_) (fun i x σ' H' H2 hi h y => ?_) (fun σ' H' h => ?_)
      · obtain ⟨_, _, _, k, _⟩ := h
        exact k.frz _ _ _ upd_same
      · obtain ⟨rfl, k, v, hkv, rfl⟩ := y
        obtain ⟨j, z, e, e2⟩ := hD.at_ (List.mem_of_getElem? hkv)
        cases e
        obtain ⟨y5, y6, rfl, kk, hL2⟩ := h
        obtain ⟨j0, j1⟩ := hg j z e2
        have hp2 : SqT K H2 p (us.map oV) := kk.sqT (sqT_lock (k1.sqT hp) hd1)
        have hq2 : SqT K H2 q (ls.map V.int) := kk.sqT (sqT_lock (k1.sqT hq) hd1)
        have hd2 : H2 d = some (.frz od (.dK kvs)) := kk.frz _ _ _ upd_same
        have hUp := wy_up hW j0 j1
        refine ⟨_, rfl, _, rfl, p, us, j, wy us j, rfl, hp2, hW, j0, j1, hUp, fun wq H5 k5 nwq hwq => ?_⟩
        have hL5 := k5.oth L _ hL2 (fun _ z => by cases z)
        have hlen : (someL us ls (kvs.take i) one).length < 5000 := by
          have := someL_len (us := us) (ls := ls) (kvs := kvs.take i) (one := one)
          have := List.length_take_le i kvs
          omega
        have nLL : L ≠ wq := ne_of_none hL2 nwq
        refine ⟨_, rfl, _, rfl, wq, _, rfl, .inl (.inl (.inl hwq)), rfl, flatI _, _, rfl, ?_⟩
        show if inV (V.int one) ((wy us j).map V.int) = true then _ else _
        rw [inI]
        have hrn := hUp.rng hW j0 j1
        have hll := hUp.len hW j0 j1
        by_cases hm : one ∈ wy us j
        · rw [decide_eq_true hm]
          have ec : contF us ls one (Sum.inl j, V.int z) = some (z + (((wy us j).take (idxI (wy us j) one)).map (lateF ls)).sum) := if_pos hm
          obtain ⟨ia, il⟩ := idxI_at hm
          have dg := dgetR (.inr ⟨od, k5.oth d _ hd2 (fun _ z => by cases z)⟩) hD j
          rw [e2] at dg
          refine iteT ⟨_, rfl, .inl ⟨rfl, _, .inl (.inl hL5)⟩, ?_⟩
          refine ⟨_, rfl, _, rfl, d, _, rfl, dg, ?_⟩
          refine ⟨_, rfl, _, rfl, .inl ⟨rfl, _, .inl (.inl hwq)⟩, _, rfl, wq, _, .int one, idxI (wy us j) one, .int one, rfl, rfl, .inl (.inl hwq), rfl, flatI _, by rw [List.getElem?_map, ia]; rfl, by simp [eqV], fun m z' hm' hz' => ?_, _, rfl, wq, _, rfl, .inl (.inl hwq), fun sl nsl => ?_⟩
          · rw [List.getElem?_map] at hz'
            cases e3 : (wy us j)[m]? with
            | none => rw [e3] at hz'; cases hz'
            | some u =>
              rw [e3] at hz'
              cases hz'
              have := idxI_no hm' e3
              simp [eqV, this]
          rw [cut_head]
          generalize hwl : (wy us j).take (idxI (wy us j) one) = wl at ec
          have hwr : ∀ v ∈ wl, 0 ≤ v ∧ v < us.length := fun v hv => hrn v (by rw [← hwl] at hv; exact List.mem_of_mem_take hv)
          have hwll : wl.length ≤ 8 := by
            rw [← hwl]
            have := List.length_take_le (idxI (wy us j) one) (wy us j)
            omega
          refine ⟨sl, rfl, ⟨_, .inl (.inl upd_same)⟩, fun D nD => ?_⟩
          have k6 := k5.mut (o := .lst (wl.map V.int)) (k5.dom sl nsl)
          have hsl : upd H5 sl (.lst (wl.map V.int)) sl = some (.lst (wl.map V.int)) := upd_same
          generalize upd H5 sl (.lst (wl.map V.int)) = H6 at k6 hsl nD
          refine lc_list (K := K) (a := sl) (xs := wl.map V.int) (fun i H8 => K0 H6 H8 ∧ H8 D = some (.lst (((wl.take i).map (lateF ls)).map V.int))) ⟨K0.new nD, upd_same⟩ (fun i H8 _ h => .inl (.inl (h.1.oth sl _ hsl (fun _ z => by cases z)))) (fun i' x H8 hx h => ?_) (fun H8 h => ?_)
          · obtain ⟨k68, hD8⟩ := h
            rw [List.getElem?_map] at hx
            cases ev : wl[i']? with
            | none => rw [ev] at hx; cases hx
            | some u =>
            rw [ev] at hx
            cases hx
            have hi' : i' < wl.length := (List.getElem?_eq_some_iff.mp ev).1
            obtain ⟨a0, a1⟩ := hwr u (List.mem_of_getElem? ev)
            refine ⟨rfl, tyes ⟨_, rfl, _, rfl, q, _, _, _, rfl, rfl, (k6.trans k68).sqT hq2, late_at hL a0 a1, _, hD8, Nat.lt_of_le_of_lt (m := 5000) (by rw [List.length_map, List.length_map]; have := List.length_take_le i' wl; omega) (by decide), k68.mut nD, ?_⟩⟩
            rw [List.take_add_one, ev, List.map_append, List.map_append]
            exact upd_same
          · obtain ⟨k68, hD8⟩ := h
            rw [List.length_map, List.take_of_length_le (Nat.le_refl _)] at hD8
            have k28 := k6.trans k68
            have hL8 := k28.oth L _ hL2 (fun _ z => by cases z)
            refine ⟨D, _, rfl, .inl (.inl hD8), ?_⟩
            refine ⟨_, _, rfl, rfl, L, _, _, rfl, rfl, hL8, Nat.lt_of_le_of_lt (m := 5000) (by rw [List.length_map]; omega) (by decide), ?_⟩
            refine ⟨_, _, rfl, (kk.trans k28.kt).trans (Kt.set hL8), ?_⟩
            rw [someL_take hkv, ec, List.map_append]
            exact upd_same
        · rw [decide_eq_false hm]
          have ec : contF us ls one (Sum.inl j, V.int z) = none := if_neg hm
          refine iteF ⟨_, _, rfl, kk.trans k5.kt, ?_⟩
          rw [someL_take hkv, ec, List.map_append]
          show _ = some (HO.lst (_ ++ []))
          rw [List.append_nil]
          exact hL5
      · obtain ⟨y5, y6, rfl, kk, hL2⟩ := h
        rw [List.take_of_length_le (Nat.le_refl _)] at hL2
        have kl : Kt L H1 (upd H' d (.dK kvs)) := Kt.lock hd1 kk
        have k0 : K0 H (upd H' d (.dK kvs)) := ⟨fun b o e m => kl.oth b o (k1.oth b o e m) (ne_of_none e nL) m, fun P hP => kl.tab P (k1.tab P hP), fun b e => k1.dom b (kl.dom b e)⟩
        refine ⟨kk.frz _ _ _ upd_same, _, rfl, L, someL us ls kvs one, rfl, .inl (.inl (by rw [upd_ne hLd]; exact hL2)), hne, fun m hm hle => ?_⟩
        exact qq m _ k0 ⟨hm, hle⟩
    · refine ⟨_, (pss_cons (ps_set (i := 4) scLeastL.nd rfl (.inl rfl) (pe_lst pa_nil))
      (pss_cons (ps_for PassesOwn.never rfl (pi_keys (pv 2)) (pg_name (i := 5) scLeastL.nd rfl (.inl rfl))
      (pss_cons (ps_set (i := 6) scLeastL.nd rfl (.inl rfl) (pe_call G_path (hr.mono (by decide)) (by rfl) g_path k_path b_path .nil pass0 (pa_cons (pv 0) (pa_cons (pv 5) pa_nil))))
      (pss_one (ps_if (pt_cmpR op_in_seq (pv 3) (pv 6) rfl) (pss_one (ps_expr (pe_bm PySem.F.plainAttrs_list PySem.F.slot_list_append PySem.F.type_list_append mt_append (pv 4) (pa_cons (pe_op op_add (pe_dget hu (pv 2) (pv 5) (fun _ _ => rfl)) (pe_callB (cr_sum rfl) (by rfl) m_sum boot_sum (pa_cons (pe_lc (own := [("k", 7)]) (g := (gName 7)) (tt := tYes) (te := (tOp (rIxT K) (tVar 1) (tVar 7))) rfl scLeastL.nd (pi_list (pe_slice sl_list (pv 6) po_none (po_some (pe_bm PySem.F.plainAttrs_list PySem.F.slot_list_index PySem.F.type_list_index mt_index (pv 6) (pa_cons (pv 3) pa_nil))))) (blkOk_by (N := N_scLeastL) (sc := defScope sLeastL) (by decide +kernel)) (fun _ _ _ _ _ => (pg_name (i := 7) scLeastL.nd rfl (.inl rfl))) (fun _ _ _ _ _ => pts_nil) (fun _ _ _ _ _ => (pe_ix ix_tup (pv 1) (pv 7) (fun _ _ => rfl)))) pa_nil))) pa_nil)))) pss_nil))))
      (pss_one (ps_ret (pe_callB (cr_min rfl) (by rfl) m_min (by decide +kernel) (pa_cons (pv 4) pa_nil)))))), ?_⟩
      have n8 := hW.n8
      refine ⟨Nat.zero_le _, fun L nL => ?_⟩
      have k1 : K0 H (upd H L (.lst [])) := K0.new nL
      have hL1 : upd H L (.lst []) L = some (.lst (([] : List Int).map V.int)) := upd_same
      have hd1 := k1.oth d _ hd (fun _ z => by cases z)
      generalize upd H L (.lst []) = H1 at k1 hL1 hd1
      have hLd : L ≠ d := fun z => by rw [z, hd] at nL; cases nL
      refine ⟨_, rfl, d, od, rfl, .inl ⟨kvs, hd1, ?_⟩⟩
      refine for_it walk_keys (fun i σ' H' => ∃ y5 y6, σ' = [some (.ref p), some (.ref q), some (.ref d), some (.int one), some (.ref L), y5, y6, none] ∧ Kt L H1 H' ∧ H' L = some (.lst ((someL us ls (kvs.take i) one).map V.int)))
        ⟨none, none, rfl, Kt.refl _ _, by rw [List.take_zero]; exact hL1⟩ (fun i σ' H' _ h => ?_) (fun i x σ' H' H2 hi h y => ?_) (fun σ' H' h => ?_)
      · obtain ⟨_, _, _, k, _⟩ := h
        exact k.frz _ _ _ hd1
      · obtain ⟨rfl, k, v, hkv, rfl⟩ := y
        obtain ⟨j, z, e, e2⟩ := hD.at_ (List.mem_of_getElem? hkv)
        cases e
        obtain ⟨y5, y6, rfl, kk, hL2⟩ := h
        obtain ⟨j0, j1⟩ := hg j z e2
        have hp2 : SqT K H2 p (us.map oV) := kk.sqT (k1.sqT hp)
        have hq2 : SqT K H2 q (ls.map V.int) := kk.sqT (k1.sqT hq)
        have hd2 : H2 d = some (.frz od (.dK kvs)) := kk.frz _ _ _ hd1
        have hUp := wy_up hW j0 j1
        refine ⟨_, rfl, _, rfl, p, us, j, wy us j, rfl, hp2, hW, j0, j1, hUp, fun wq H5 k5 nwq hwq => ?_⟩
        have hL5 := k5.oth L _ hL2 (fun _ z => by cases z)
        have hlen : (someL us ls (kvs.take i) one).length < 5000 := by
          have := someL_len (us := us) (ls := ls) (kvs := kvs.take i) (one := one)
          have := List.length_take_le i kvs
          omega
        have nLL : L ≠ wq := ne_of_none hL2 nwq
        refine ⟨_, rfl, _, rfl, wq, _, rfl, .inl (.inl (.inl hwq)), rfl, flatI _, _, rfl, ?_⟩
        show if inV (V.int one) ((wy us j).map V.int) = true then _ else _
        rw [inI]
        have hrn := hUp.rng hW j0 j1
        have hll := hUp.len hW j0 j1
        by_cases hm : one ∈ wy us j
        · rw [decide_eq_true hm]
          have ec : contF us ls one (Sum.inl j, V.int z) = some (z + (((wy us j).take (idxI (wy us j) one)).map (lateF ls)).sum) := if_pos hm
          obtain ⟨ia, il⟩ := idxI_at hm
          have dg := dgetR (.inr ⟨od, k5.oth d _ hd2 (fun _ z => by cases z)⟩) hD j
          rw [e2] at dg
          refine iteT ⟨_, rfl, .inl ⟨rfl, _, .inl (.inl hL5)⟩, ?_⟩
          refine ⟨_, rfl, _, rfl, d, _, rfl, dg, ?_⟩
          refine ⟨_, rfl, _, rfl, .inl ⟨rfl, _, .inl (.inl hwq)⟩, _, rfl, wq, _, .int one, idxI (wy us j) one, .int one, rfl, rfl, .inl (.inl hwq), rfl, flatI _, by rw [List.getElem?_map, ia]; rfl, by simp [eqV], fun m z' hm' hz' => ?_, _, rfl, wq, _, rfl, .inl (.inl hwq), fun sl nsl => ?_⟩
          · rw [List.getElem?_map] at hz'
            cases e3 : (wy us j)[m]? with
            | none => rw [e3] at hz'; cases hz'
            | some u =>
              rw [e3] at hz'
              cases hz'
              have := idxI_no hm' e3
              simp [eqV, this]
          rw [cut_head]
          generalize hwl : (wy us j).take (idxI (wy us j) one) = wl at ec
          have hwr : ∀ v ∈ wl, 0 ≤ v ∧ v < us.length := fun v hv => hrn v (by rw [← hwl] at hv; exact List.mem_of_mem_take hv)
          have hwll : wl.length ≤ 8 := by
            rw [← hwl]
            have := List.length_take_le (idxI (wy us j) one) (wy us j)
            omega
          refine ⟨sl, rfl, ⟨_, .inl (.inl upd_same)⟩, fun D nD => ?_⟩
          have k6 := k5.mut (o := .lst (wl.map V.int)) (k5.dom sl nsl)
          have hsl : upd H5 sl (.lst (wl.map V.int)) sl = some (.lst (wl.map V.int)) := upd_same
          generalize upd H5 sl (.lst (wl.map V.int)) = H6 at k6 hsl nD
          refine lc_list (K := K) (a := sl) (xs := wl.map V.int) (fun i H8 => K0 H6 H8 ∧ H8 D = some (.lst (((wl.take i).map (lateF ls)).map V.int))) ⟨K0.new nD, upd_same⟩ (fun i H8 _ h => .inl (.inl (h.1.oth sl _ hsl (fun _ z => by cases z)))) (fun i' x H8 hx h => ?_) (fun H8 h => ?_)
          · obtain ⟨k68, hD8⟩ := h
            rw [List.getElem?_map] at hx
            cases ev : wl[i']? with
            | none => rw [ev] at hx; cases hx
            | some u =>
            rw [ev] at hx
            cases hx
            have hi' : i' < wl.length := (List.getElem?_eq_some_iff.mp ev).1
            obtain ⟨a0, a1⟩ := hwr u (List.mem_of_getElem? ev)
            refine ⟨rfl, tyes ⟨_, rfl, _, rfl, q, _, _, _, rfl, rfl, (k6.trans k68).sqT hq2, late_at hL a0 a1, _, hD8, Nat.lt_of_le_of_lt (m := 5000) (by rw [List.length_map, List.length_map]; have := List.length_take_le i' wl; omega) (by decide), k68.mut nD, ?_⟩⟩
            rw [List.take_add_one, ev, List.map_append, List.map_append]
            exact upd_same
          · obtain ⟨k68, hD8⟩ := h
            rw [List.length_map, List.take_of_length_le (Nat.le_refl _)] at hD8
            have k28 := k6.trans k68
            have hL8 := k28.oth L _ hL2 (fun _ z => by cases z)
            refine ⟨D, _, rfl, .inl (.inl hD8), ?_⟩
            refine ⟨_, _, rfl, rfl, L, _, _, rfl, rfl, hL8, Nat.lt_of_le_of_lt (m := 5000) (by rw [List.length_map]; omega) (by decide), ?_⟩
            refine ⟨_, _, rfl, (kk.trans k28.kt).trans (Kt.set hL8), ?_⟩
            rw [someL_take hkv, ec, List.map_append]
            exact upd_same
        · rw [decide_eq_false hm]
          have ec : contF us ls one (Sum.inl j, V.int z) = none := if_neg hm
          refine iteF ⟨_, _, rfl, kk.trans k5.kt, ?_⟩
          rw [someL_take hkv, ec, List.map_append]
          show _ = some (HO.lst (_ ++ []))
          rw [List.append_nil]
          exact hL5
      · obtain ⟨y5, y6, rfl, kk, hL2⟩ := h
        rw [List.take_of_length_le (Nat.le_refl _)] at hL2
        have kl : Kt L H1 H' := kk
        have k0 : K0 H H' := ⟨fun b o e m => kl.oth b o (k1.oth b o e m) (ne_of_none e nL) m, fun P hP => kl.tab P (k1.tab P hP), fun b e => k1.dom b (kl.dom b e)⟩
        refine ⟨_, rfl, L, someL us ls kvs one, rfl, .inl (.inl hL2), hne, fun m hm hle => ?_⟩
        exact qq m _ k0 ⟨hm, hle⟩
end
end HK

set_option Elab.async false
set_option linter.all false
set_option maxRecDepth 100000
set_option maxHeartbeats 4000000
namespace HK
open PySem PySem.Spec PyProof.Rows L2 GAl GxR
open Evl (pss_cut)
abbrev sFirst : Stmt := topS 21
abbrev N_scFirst : List Str := ["up", "late", "comes", "place", "moments", "at", "served", "above"]
theorem scFirst : FnScope N_scFirst ["up", "late", "comes", "place"] (defScope sFirst) := ⟨rfl, rfl, rfl, by decide +kernel, rfl, by decide +kernel, by decide +kernel⟩
abbrev sFirsts : Stmt := topS 15
abbrev N_scFirsts : List Str := ["up", "late", "comes", "place"]
theorem scFirsts : FnScope N_scFirsts ["up", "late", "comes"] (defScope sFirsts) := ⟨rfl, rfl, rfl, by decide +kernel, rfl, by decide +kernel, by decide +kernel⟩
abbrev sDueM : Stmt := topS 31
abbrev N_scDueM : List Str := ["up", "late", "comes", "place", "path", "some", "at", "far", "k"]
theorem scDueM : FnScope N_scDueM ["up", "late", "comes", "place"] (defScope sDueM) := ⟨rfl, rfl, rfl, by decide +kernel, rfl, by decide +kernel, by decide +kernel⟩
open Classical in
noncomputable def leastF (us : List (Option Int)) (ls : List Int) (kvs : List (Key × V)) (one : Int) : Int := if h : ∃ m, IsMin (someL us ls kvs one) m then h.choose else 0
theorem leastF_eq {us : List (Option Int)} {ls : List Int} {kvs : List (Key × V)} {one m : Int} (h : IsMin (someL us ls kvs one) m) : leastF us ls kvs one = m := by
  unfold leastF
  have hx : ∃ m, IsMin (someL us ls kvs one) m := ⟨m, h⟩
  rw [dif_pos hx]
  exact hx.choose_spec.uniq h
noncomputable def termF (us : List (Option Int)) (ls : List Int) (kvs : List (Key × V)) (v : Int) : Int := leastF us ls kvs v + lateF ls v - ((wy us ((upF us v).getD 0)).map (lateF ls)).sum
noncomputable def dueL (us : List (Option Int)) (ls : List Int) (kvs : List (Key × V)) (v : Int) : List Int := ((wy us v).dropLast).map (termF us ls kvs)
open Classical in
noncomputable def dueF (us : List (Option Int)) (ls : List Int) (kvs : List (Key × V)) (g : IF) (v : Int) : Int := if upF us v = none then (g v).getD 0 else (if h : ∃ m, IsMax (dueL us ls kvs v) m then h.choose else 0)
theorem dueF_top {us : List (Option Int)} {ls : List Int} {kvs : List (Key × V)} {g : IF} {v x : Int} (e : upF us v = none) (eg : g v = some x) : dueF us ls kvs g v = x := by
  unfold dueF
  rw [if_pos e, eg]
  rfl
theorem dueF_up {us : List (Option Int)} {ls : List Int} {kvs : List (Key × V)} {g : IF} {v m u : Int} (e : upF us v = some u) (h : IsMax (dueL us ls kvs v) m) : dueF us ls kvs g v = m := by
  unfold dueF
  have hx : ∃ m, IsMax (dueL us ls kvs v) m := ⟨m, h⟩
  rw [if_neg (by rw [e]; exact fun z => by cases z), dif_pos hx]
  exact hx.choose_spec.uniq h
theorem someL_pos {us : List (Option Int)} {ls : List Int} {kvs : List (Key × V)} {g : IF} (hD : DI kvs g) {v x one : Int} (e : g v = some x) (hm : one ∈ wy us v) : 0 < (someL us ls kvs one).length :=
  List.length_pos_of_mem (List.mem_filterMap.mpr ⟨_, hD.pair e, if_pos hm⟩)
theorem cut_last (l : List Int) : cutV (l.map V.int) none (some (-1)) = (l.dropLast).map V.int := by
  unfold cutV
  rw [HT.sIx_none, List.drop_zero, Nat.sub_zero, List.length_map, List.dropLast_eq_take, List.map_take]
  congr 1
  show (if (-1 : Int) < 0 then ((-1 : Int) + (l.length : Int)).toNat else min (-1 : Int).toNat l.length) = l.length - 1
  rw [if_pos (by decide)]
  omega
theorem cut_tail (l : List Int) (j : Nat) : cutV (l.map V.int) (some (j : Int)) none = (l.drop j).map V.int := by
  unfold cutV
  rw [HT.sIx_none, HT.sIx_nat, List.length_map, List.map_drop]
  by_cases h : j ≤ l.length
  · rw [Nat.min_eq_left h, List.take_of_length_le (by rw [List.length_drop, List.length_map]; exact Nat.le_refl _)]
  · rw [Nat.min_eq_right (by omega), Nat.sub_self, List.take_zero, List.drop_of_length_le (by rw [List.length_map]; omega)]
/-- going up: behind each but the last comes the way of the one ahead of it -/
theorem Up.drop {g : IF} {v : Int} {l : List Int} (h : Up g v l) : ∀ {i : Nat} {x : Int}, l[i]? = some x → i + 1 < l.length → ∃ u, g x = some u ∧ Up g u (l.drop (i + 1)) := by
  induction h with
  | top e => intro i x _ hi; rw [List.length_singleton] at hi; omega
  | @step v u l e h ih =>
    intro i x hx hi
    cases i with
    | zero =>
      cases hx
      exact ⟨u, e, h⟩
    | succ i =>
      rw [List.getElem?_cons_succ] at hx
      rw [List.length_cons] at hi
      exact ih hx (by omega)
theorem Up.two {g : IF} {v u : Int} {l : List Int} (h : Up g v l) (e : g v = some u) : 2 ≤ l.length := by
  cases h with
  | top e' => rw [e] at e'; cases e'
  | step _ h =>
    have := h.clm.2
    rw [List.length_cons]
    omega
theorem Up.one {g : IF} {v : Int} {l : List Int} (h : Up g v l) (e : g v = none) : l = [v] := by
  cases h with
  | top _ => rfl
  | step e' _ => rw [e] at e'; cases e'
theorem K0.fresh {L : Addr} {H H1 H' : Hp} (k1 : K0 H H1) (nL : H L = none) (kl : Kt L H1 H') : K0 H H' := ⟨fun b o e m => kl.oth b o (k1.oth b o e m) (ne_of_none e nL) m, fun P hP => kl.tab P (k1.tab P hP), fun b e => k1.dom b (kl.dom b e)⟩
section
variable {P : Program} {w : World} {K : PySem.W.Frag} {mg : Str → Option Value} {base : Heap}
def spFirst (K : PySem.W.Frag) (Pf Ph : Addr) : Sp := fun vs H Q _ => ∃ (p : Addr) (us : List (Option Int)) (q : Addr) (ls : List Int) (d : Addr) (kvs : List (Key × V)) (g : IF) (v x : Int), vs = [.ref p, .ref q, .ref d, .int v] ∧ SqT K H p (us.map oV) ∧ Ways us ∧ SqT K H q (ls.map V.int) ∧ Lates us ls ∧ H d = some (.dK kvs) ∧ DI kvs g ∧ kvs.length ≤ 100 ∧ (∀ v x, g v = some x → 0 ≤ v ∧ v < us.length) ∧ g v = some x ∧ TabG H Pf ∧ TabG H Ph ∧
  ∀ (H' : Hp), K0 H H' → Q (.int (dueF us ls kvs g v)) H'
theorem ok_first {f c Pf Ph : Addr} {fd : FuncData} {f_wayup f_neededfrom : Addr} {fd_wayup fd_neededfrom : FuncData} (F : FunC K "first_moment" "first_moment" sFirst f fd c) (TB : TabB base mg c Ph) (k_wayup : PySem.W.keepIn K (.ref f_wayup) = true) (b_wayup : Binds K fd_wayup ["up", "place"] []) (g_wayup : mg "way_up" = some (.ref f_wayup)) (G_wayup : FnOk P w K mg base CX0 1 f_wayup fd_wayup ["up", "place"] (spWayUp K))
    (k_neededfrom : PySem.W.keepIn K (.ref f_neededfrom) = true) (b_neededfrom : Binds K fd_neededfrom ["up", "late", "comes", "place"] []) (g_neededfrom : mg "needed_from" = some (.ref f_neededfrom)) (G_neededfrom : FnOk P w K mg base CX0 3 f_neededfrom fd_neededfrom ["up", "late", "comes", "place"] (spLeast K Pf)) (m_sum : mg "sum" = none) (m_max : mg "max" = none) : FnOk P w K mg base CX0 4 f fd ["up", "late", "comes", "place"] (spFirst K Pf Ph) := by
  refine F.ok scFirst (fun vs H Q E h => ?_) (fun A outer s H vs Q E hr h => ?_)
  · obtain ⟨p, us, q, ls, d, kvs, g, v, x, rfl, _⟩ := h
    rfl
  · obtain ⟨p, us, q, ls, d, kvs, g, v, x, rfl, hp, hW, hq, hL, hd, hD, hkl, hg, egv, tf, th, qq⟩ := h
    have hu := hu_of hr
    refine ⟨_, (pss_cons (ps_if (pt_cmp (pc_isN (pe_ix ix_tup (pv 0) (pv 3) (fun _ _ => rfl)))) (pss_one (ps_ret (pe_dget hu (pv 2) (pv 3) (fun _ _ => rfl)))) pss_nil)
      (pss_cons (ps_set (i := 4) scFirst.nd rfl (.inl rfl) (pe_lst pa_nil))
      (pss_cons (ps_for PassesOwn.never rfl (pi_list (pe_slice sl_list (pe_call G_wayup (hr.mono (by decide)) (by rfl) g_wayup k_wayup b_wayup .nil pass0 (pa_cons (pv 0) (pa_cons (pv 3) pa_nil))) po_none (po_some (pe_un un_neg pe_int)))) (pg_name (i := 5) scFirst.nd rfl (.inl rfl))
      (pss_cons (ps_set (i := 6) scFirst.nd rfl (.inl rfl) (pe_op op_add (pe_call G_neededfrom (hr.mono (by decide)) (by rfl) g_neededfrom k_neededfrom b_neededfrom .nil pass0 (pa_cons (pv 0) (pa_cons (pv 1) (pa_cons (pv 2) (pa_cons (pv 5) pa_nil))))) (pe_ix ix_tup (pv 1) (pv 5) (fun _ _ => rfl))))
      (pss_one (ps_expr (pe_bm PySem.F.plainAttrs_list PySem.F.slot_list_append PySem.F.type_list_append mt_append (pv 4) (pa_cons (pe_op op_sub (pv 6) (pe_sumG (own := [("above", 7)]) (k := 0) (g := (gName 7)) (tt := tYes) (te := (tOp (rIxT K) (tVar 1) (tVar 7))) (hr.mono (by decide)) (by rfl) m_sum rfl scFirst.nd TB rfl (gsc_by (N := N_scFirst) (sc := defScope sFirst) (by decide +kernel)) (pi_list (pe_call G_wayup (hr.mono (by decide)) (by rfl) g_wayup k_wayup b_wayup .nil pass0 (pa_cons (pv 0) (pa_cons (pe_ix ix_tup (pv 0) (pv 5) (fun _ _ => rfl)) pa_nil)))) (fun A' hr' _ _ _ _ _ _ => (pg_name (i := 7) scFirst.nd rfl (.inl rfl))) (fun A' hr' _ _ _ _ _ _ => pts_nil) (fun A' hr' _ _ _ _ _ _ => (pe_ix ix_tup (pv 1) (pv 7) (fun _ _ => rfl))))) pa_nil))))))
      (pss_one (ps_ret (pe_callB (cr_max rfl) (by rfl) m_max (by decide +kernel) (pa_cons (pv 4) pa_nil))))))), ?_⟩
    have n8 := hW.n8
    obtain ⟨v0, v1⟩ := hg v x egv
    have hUp := wy_up hW v0 v1
    have hrn := hUp.rng hW v0 v1
    have hll := hUp.len hW v0 v1
    refine ⟨_, rfl, _, rfl, p, _, v, _, rfl, rfl, hp, up_at v0 v1, ?_⟩
    cases e : upF us v with
    | none =>
      have dg := dgetR (.inl hd) hD v
      rw [egv] at dg
      refine ⟨_, rfl, iteT ⟨_, rfl, _, rfl, d, _, rfl, dg, ?_⟩⟩
      have := qq H (K0.refl _)
      rw [dueF_top e egv] at this
      exact this
    | some u =>
    refine ⟨_, rfl, iteF ?_⟩
    refine ⟨Nat.zero_le _, fun L nL => ?_⟩
    have k1 : K0 H (upd H L (.lst [])) := K0.new nL
    have hL1 : upd H L (.lst []) L = some (.lst (([] : List Int).map V.int)) := upd_same
    generalize upd H L (.lst []) = H1 at k1 hL1
    refine ⟨_, rfl, _, rfl, p, us, v, wy us v, rfl, k1.sqT hp, hW, v0, v1, hUp, fun wq H2 k2 nwq hwq => ?_⟩
    refine ⟨_, rfl, _, rfl, wq, _, rfl, .inl (.inl hwq), fun sl nsl => ?_⟩
    rw [show (-(1 : Int)) = -1 from rfl, cut_last]
    have k3 := k2.mut (o := .lst ((wy us v).dropLast.map V.int)) (k2.dom sl nsl)
    have hsl : upd H2 sl (.lst ((wy us v).dropLast.map V.int)) sl = some (.lst ((wy us v).dropLast.map V.int)) := upd_same
    generalize upd H2 sl (.lst ((wy us v).dropLast.map V.int)) = H3 at k3 hsl
    have k13 := k1.trans k3
    have hL3 := k3.oth L _ hL1 (fun _ z => by cases z)
    have hLs : sl ≠ L := fun z => by
      have := k2.oth L _ hL1 (fun _ z => by cases z)
      rw [← z, nsl] at this; cases this
    have hLd : d ≠ L := fun z => by rw [z, nL] at hd; cases hd
    have hdl : ∀ i (y : Int), (wy us v).dropLast[i]? = some y → (wy us v)[i]? = some y ∧ i + 1 < (wy us v).length := fun i y hy => by
      rw [List.dropLast_eq_take] at hy
      have := (List.getElem?_eq_some_iff.mp hy).1
      rw [List.length_take] at this
      rw [List.getElem?_take] at hy
      rw [if_pos (by omega)] at hy
      exact ⟨hy, by omega⟩
    refine ⟨sl, rfl, ⟨_, .inl (.inl hsl)⟩, for_list (K := K) (a := sl) (xs := (wy us v).dropLast.map V.int) (fun i σ' H' => ∃ y5 y6, σ' = [some (.ref p), some (.ref q), some (.ref d), some (.int v), some (.ref L), y5, y6, none] ∧ Kt L H3 H' ∧ H' L = some (.lst (((dueL us ls kvs v).take i).map V.int)))
      ⟨none, none, rfl, Kt.refl _ _, by rw [List.take_zero]; exact hL3⟩ (fun i σ' H' _ h => ?_) (fun i y σ' H' hy h => ?_) (fun σ' H' h => ?_)⟩
    · obtain ⟨_, _, _, k, _⟩ := h
      exact .inl (.inl (k.oth sl _ hsl hLs (fun _ z => by cases z)))
    · obtain ⟨y5, y6, rfl, kk, hL4⟩ := h
      rw [List.getElem?_map] at hy
      cases ev : (wy us v).dropLast[i]? with
      | none => rw [ev] at hy; cases hy
      | some a =>
      rw [ev] at hy
      cases hy
      obtain ⟨ea, ia⟩ := hdl i a ev
      obtain ⟨u', eu, hUu⟩ := hUp.drop ea ia
      have ham : a ∈ wy us v := List.mem_of_getElem? ea
      obtain ⟨a0, a1⟩ := hrn a ham
      obtain ⟨u0, u1⟩ := upF_rng hW eu
      have hp4 := kk.sqT (k13.sqT hp)
      have hq4 := kk.sqT (k13.sqT hq)
      have hd4 := kk.oth d _ (k13.oth d _ hd (fun _ z => by cases z)) hLd (fun _ z => by cases z)
      refine ⟨_, rfl, _, rfl, _, rfl, _, rfl, p, us, q, ls, d, kvs, g, a, rfl, hp4, hW, hq4, hL, hd4, hD, hkl, hg, someL_pos hD egv ham, kk.tab _ (k13.tab _ tf), fun m H5 k5 hm => ?_⟩
      refine ⟨_, rfl, _, rfl, q, _, _, _, rfl, rfl, k5.sqT hq4, late_at hL a0 a1, _, _, rfl, rfl, ?_⟩
      have hL5 := k5.oth L _ hL4 (fun _ z => by cases z)
      refine ⟨_, rfl, .inl ⟨rfl, _, .inl (.inl hL5)⟩, ?_⟩
      refine ⟨_, rfl, ?_⟩
      refine ⟨_, rfl, _, rfl, _, rfl, p, _, a, _, rfl, rfl, k5.sqT hp4, up_at a0 a1, ?_⟩
      rw [eu]
      refine ⟨p, us, u', wy us u', rfl, k5.sqT hp4, hW, u0, u1, wy_up hW u0 u1, fun uq H6 k6 nuq huq => ?_⟩
      have hrn' := (wy_up hW u0 u1).rng hW u0 u1
      have hll' := (wy_up hW u0 u1).len hW u0 u1
      have th6 := (k5.trans k6).tab _ (kk.tab _ (k13.tab _ th))
      refine ⟨uq, rfl, ⟨_, .inl (.inl huq)⟩, th6, fun H7 hT7 => ?_⟩
      have k67 : K0 H6 H7 := K0.tbd th6 hT7
      have tE : termF us ls kvs a = m + lateF ls a - ((wy us u').map (lateF ls)).sum := by
        unfold termF
        rw [leastF_eq hm, eu]
        rfl
      generalize wy us u' = wl at huq hrn' hll' tE
      refine ⟨fun i m T H8 => i + m = wl.length ∧ K0 H6 H8 ∧ T = ((wl.take i).map (lateF ls)).sum, ⟨wl.length, by omega, k67, rfl⟩, fun i' m' T H8 hWi => ?_⟩
      obtain ⟨em, k68, eT⟩ := hWi
      have hs8 := k68.oth uq _ huq (fun _ z => by cases z)
      have k48 := (k5.trans k6).trans k68
      by_cases hi' : i' < wl.length
      · have g1 : (wl.map V.int)[i']? = some (.int wl[i']) := by rw [List.getElem?_map, List.getElem?_eq_getElem hi']; rfl
        refine .inr ⟨⟨_, _, .inl (.inl hs8), g1⟩, fun T' H' => K0 H6 H' ∧ T' = ((wl.take (i' + 1)).map (lateF ls)).sum, fun T' H' hN => ⟨m' - 1, by omega, by omega, hN.1, hN.2⟩, fun x H' hy => ?_⟩
        obtain ⟨rfl, fx⟩ := hy
        have ex : x = .int wl[i'] := Option.some.inj ((fx _ (.inl (.inl hs8))).symm.trans g1)
        subst ex
        obtain ⟨b0, b1⟩ := hrn' wl[i'] (List.getElem_mem hi')
        refine ⟨rfl, tyes ⟨_, rfl, _, rfl, q, _, _, _, rfl, rfl, k48.sqT hq4, late_at hL b0 b1, ?_⟩⟩
        refine ⟨_, rfl, k68, ?_⟩
        rw [eT, List.take_add_one, List.getElem?_eq_getElem hi', List.map_append, List.sum_append]
        simp
      · refine .inl ⟨⟨_, .inl (.inl hs8), by rw [List.length_map]; omega⟩, ?_⟩
        rw [List.take_of_length_le (by omega)] at eT
        subst eT
        have hL8 := k48.oth L _ hL4 (fun _ z => by cases z)
        have hdll : (dueL us ls kvs v).length ≤ 8 := by
          unfold dueL
          rw [List.length_map, List.length_dropLast]
          omega
        refine ⟨_, _, rfl, rfl, L, _, _, rfl, rfl, hL8, Nat.lt_of_le_of_lt (m := 5000) (by rw [List.length_map]; have := List.length_take_le i (dueL us ls kvs v); omega) (by decide), ?_⟩
        refine ⟨_, _, rfl, (kk.trans k48.kt).trans (Kt.set hL8), ?_⟩
        have hdi : (dueL us ls kvs v)[i]? = some (termF us ls kvs a) := by
          unfold dueL
          rw [List.getElem?_map, ev]
          rfl
        rw [List.take_add_one, hdi, List.map_append, tE]
        exact upd_same
    · obtain ⟨y5, y6, rfl, kk, hL4⟩ := h
      have hlen2 := hUp.two e
      have hdll : (dueL us ls kvs v).length = (wy us v).length - 1 := by
        unfold dueL
        rw [List.length_map, List.length_dropLast]
      rw [List.take_of_length_le (by rw [List.length_map, List.length_dropLast, hdll]; exact Nat.le_refl _)] at hL4
      refine ⟨_, rfl, L, dueL us ls kvs v, rfl, .inl (.inl hL4), by omega, fun m hm hle => ?_⟩
      have := qq H' ((K0.fresh k1 nL ((k3.kt).trans kk)))
      rw [dueF_up e ⟨hm, hle⟩] at this
      exact this
end
end HK

set_option Elab.async false
set_option linter.all false
set_option maxRecDepth 100000
set_option maxHeartbeats 4000000
namespace HK
open PySem PySem.Spec PyProof.Rows L2 GAl GxR
open Evl (pss_cut)
theorem Kt.rd {L d : Addr} {H H' : Hp} {kvs : List (Key × V)} (k : Kt L H H') (n : d ≠ L) (h : Rd H d (.dK kvs)) : Rd H' d (.dK kvs) := by
  rcases h with h | ⟨o, h⟩
  · exact .inl (k.oth d _ h n (fun _ z => by cases z))
  · exact .inr ⟨o, k.frz _ _ _ h⟩
theorem Rd.ne {L d : Addr} {H : Hp} {kvs : List (Key × V)} (h : Rd H d (.dK kvs)) (n : H L = none) : d ≠ L := fun z => by
  rcases h with h | ⟨o, h⟩ <;> (rw [z, n] at h; cases h)
noncomputable def firstsF (us : List (Option Int)) (ls : List Int) (kvs : List (Key × V)) (g : IF) : IF := fun v => if (g v).isSome = true then some (dueF us ls kvs g v) else none
section
variable {P : Program} {w : World} {K : PySem.W.Frag} {mg : Str → Option Value} {base : Heap}
def spDueM (K : PySem.W.Frag) : Sp := fun vs H Q _ => ∃ (p : Addr) (us : List (Option Int)) (q : Addr) (ls : List Int) (d : Addr) (kvs : List (Key × V)) (g : IF) (v x : Int), vs = [.ref p, .ref q, .ref d, .int v] ∧ SqT K H p (us.map oV) ∧ Ways us ∧ SqT K H q (ls.map V.int) ∧ Lates us ls ∧ Rd H d (.dK kvs) ∧ DI kvs g ∧ kvs.length ≤ 100 ∧ (∀ v x, g v = some x → 0 ≤ v ∧ v < us.length) ∧ g v = some x ∧
  ∀ (H' : Hp), K0 H H' → Q (.int (dueF us ls kvs g v)) H'
theorem ok_duem {f : Addr} {fd : FuncData} {f_path f_leastl : Addr} {fd_path fd_leastl : FuncData} (F : Fun K "_law_e_due" "_law_e_due" sDueM f fd) (k_path : PySem.W.keepIn K (.ref f_path) = true) (b_path : Binds K fd_path ["up", "place"] []) (g_path : mg "_law_e_path" = some (.ref f_path)) (G_path : FnOk P w K mg base CX0 1 f_path fd_path ["up", "place"] (spWayUp K))
    (k_leastl : PySem.W.keepIn K (.ref f_leastl) = true) (b_leastl : Binds K fd_leastl ["up", "late", "comes", "one"] []) (g_leastl : mg "_law_e_least" = some (.ref f_leastl)) (G_leastl : FnOk P w K mg base CX0 2 f_leastl fd_leastl ["up", "late", "comes", "one"] (spLeastR K)) (m_len : mg "len" = none) (m_range : mg "range" = none) (m_sum : mg "sum" = none) (m_max : mg "max" = none) : FnOk P w K mg base CX0 3 f fd ["up", "late", "comes", "place"] (spDueM K) := by
  refine F.ok scDueM (fun vs H Q E h => ?_) (fun cdv A outer s H vs Q E hr h => ?_)
  · obtain ⟨p, us, q, ls, d, kvs, g, v, x, rfl, _⟩ := h
    rfl
  · obtain ⟨p, us, q, ls, d, kvs, g, v, x, rfl, hp, hW, hq, hL, hd, hD, hkl, hg, egv, qq⟩ := h
    have hu := hu_of hr
    refine ⟨_, (pss_cons (ps_set (i := 4) scDueM.nd rfl (.inl rfl) (pe_call G_path (hr.mono (by decide)) (by rfl) g_path k_path b_path .nil pass0 (pa_cons (pv 0) (pa_cons (pv 3) pa_nil))))
      (pss_cons (ps_if (pt_cmpR op_eq (pe_callB call_len_seq (by rfl) m_len PySem.boot_len (pa_cons (pv 4) pa_nil)) pe_int (nomark _)) (pss_one (ps_ret (pe_dget hu (pv 2) (pv 3) (fun _ _ => rfl)))) pss_nil)
      (pss_cons (ps_set (i := 5) scDueM.nd rfl (.inl rfl) (pe_lst pa_nil))
      (pss_cons (ps_for PassesOwn.never rfl (pi_range1 (by rfl) m_range (pa_cons (pe_op op_sub (pe_callB call_len_seq (by rfl) m_len PySem.boot_len (pa_cons (pv 4) pa_nil)) pe_int) pa_nil)) (pg_name (i := 6) scDueM.nd rfl (.inl rfl))
      (pss_cons (ps_set (i := 7) scDueM.nd rfl (.inl rfl) (pe_callB (cr_sum rfl) (by rfl) m_sum boot_sum (pa_cons (pe_lc (own := [("k", 8)]) (g := (gName 8)) (tt := tYes) (te := (tOp (rIxT K) (tVar 1) (tVar 8))) rfl scDueM.nd (pi_list (pe_slice sl_list (pv 4) (po_some (pe_op op_add (pv 6) pe_int)) po_none)) (blkOk_by (N := N_scDueM) (sc := defScope sDueM) (by decide +kernel)) (fun _ _ _ _ _ => (pg_name (i := 8) scDueM.nd rfl (.inl rfl))) (fun _ _ _ _ _ => pts_nil) (fun _ _ _ _ _ => (pe_ix ix_tup (pv 1) (pv 8) (fun _ _ => rfl)))) pa_nil)))
      (pss_one (ps_expr (pe_bm PySem.F.plainAttrs_list PySem.F.slot_list_append PySem.F.type_list_append mt_append (pv 5) (pa_cons (pe_op op_sub (pe_op op_add (pe_call G_leastl (hr.mono (by decide)) (by rfl) g_leastl k_leastl b_leastl .nil pass0 (pa_cons (pv 0) (pa_cons (pv 1) (pa_cons (pv 2) (pa_cons (pe_ix ix_list (pv 4) (pv 6) (fun _ _ => rfl)) pa_nil))))) (pe_ix ix_tup (pv 1) (pe_ix ix_list (pv 4) (pv 6) (fun _ _ => rfl)) (fun _ _ => rfl))) (pv 7)) pa_nil))))))
      (pss_one (ps_ret (pe_callB (cr_max rfl) (by rfl) m_max (by decide +kernel) (pa_cons (pv 5) pa_nil)))))))), ?_⟩
    have n8 := hW.n8
    obtain ⟨v0, v1⟩ := hg v x egv
    have hUp := wy_up hW v0 v1
    have hrn := hUp.rng hW v0 v1
    have hll := hUp.len hW v0 v1
    refine ⟨_, rfl, _, rfl, p, us, v, wy us v, rfl, hp, hW, v0, v1, hUp, fun wq H2 k2 nwq hwq => ?_⟩
    refine ⟨_, rfl, wq, _, rfl, .inl (.inl (.inl hwq)), rfl, _, rfl, ?_⟩
    rw [List.length_map]
    cases e : upF us v with
    | none =>
      rw [hUp.one e]
      refine iteT ?_
      have dg := dgetR (k2.rd hd) hD v
      rw [egv] at dg
      refine ⟨_, rfl, _, rfl, d, _, rfl, dg, ?_⟩
      have := qq H2 k2
      rw [dueF_top e egv] at this
      exact this
    | some u =>
    have hlen2 := hUp.two e
    rw [decide_eq_false (show ¬ V.int ((wy us v).length : Int) = V.int 1 from fun z => by have := V.int.inj z; omega)]
    refine iteF ?_
    refine ⟨Nat.zero_le _, fun L nL => ?_⟩
    have k3 : K0 H2 (upd H2 L (.lst [])) := K0.new nL
    have hL3 : upd H2 L (.lst []) L = some (.lst (([] : List Int).map V.int)) := upd_same
    have k13 := k2.trans k3
    have hd3 := k13.rd hd
    have nLH := k2.dom L nL
    have hLd := Rd.ne hd nLH
    have hwq3 := k3.oth wq _ hwq (fun _ z => by cases z)
    have hwL : wq ≠ L := ne_of_none hwq nL
    generalize upd H2 L (.lst []) = H3 at k3 hL3 k13 hd3 hwq3
    refine ⟨_, rfl, wq, _, rfl, .inl (.inl (.inl hwq3)), _, _, rfl, rfl, _, rfl, by rw [List.length_map]; omega, by rw [List.length_map]; omega, for_range (lo := 0) (n := (((wy us v).map V.int).length - 1 : Int).toNat) (fun i σ' H' => ∃ y5 y6, σ' = [some (.ref p), some (.ref q), some (.ref d), some (.int v), some (.ref wq), some (.ref L), y5, y6, none] ∧ Kt L H3 H' ∧ H' L = some (.lst (((dueL us ls kvs v).take i).map V.int)))
      ⟨none, none, rfl, Kt.refl _ _, by rw [List.take_zero]; exact hL3⟩ (fun i σ' H' hi h => ?_) (fun σ' H' h => ?_)⟩
    · obtain ⟨y5, y6, rfl, kk, hL4⟩ := h
      rw [List.length_map] at hi
      have hil : i < (wy us v).length := by omega
      obtain ⟨a, ea⟩ : ∃ a, (wy us v)[i]? = some a := ⟨_, List.getElem?_eq_getElem hil⟩
      obtain ⟨u', eu, hUu⟩ := hUp.drop ea (by omega)
      have ham : a ∈ wy us v := List.mem_of_getElem? ea
      obtain ⟨a0, a1⟩ := hrn a ham
      have hp4 := kk.sqT (k13.sqT hp)
      have hq4 := kk.sqT (k13.sqT hq)
      have hd4 := kk.rd hLd hd3
      have hwq4 := kk.oth wq _ hwq3 hwL (fun _ z => by cases z)
      have hwla : atI ((wy us v).map V.int) (0 + (i : Int)) = some (.int a) := by rw [Int.zero_add]; exact atI_nat (by rw [List.getElem?_map, ea]; rfl)
      -- far
      refine ⟨_, rfl, _, rfl, _, _, rfl, rfl, _, rfl, wq, _, rfl, .inl (.inl hwq4), fun sl nsl => ?_⟩
      rw [show (0 + (i : Int) + 1) = ((i + 1 : Nat) : Int) by omega, cut_tail, ← wy_eq hUu]
      have hrn' := (hUu).rng hW (upF_rng hW eu).1 (upF_rng hW eu).2
      have hll' := (hUu).len hW (upF_rng hW eu).1 (upF_rng hW eu).2
      rw [← wy_eq hUu] at hrn' hll'
      have k5 : K0 H' (upd H' sl (.lst ((wy us u').map V.int))) := K0.new nsl
      have hsl : upd H' sl (.lst ((wy us u').map V.int)) sl = some (.lst ((wy us u').map V.int)) := upd_same
      generalize upd H' sl (.lst ((wy us u').map V.int)) = H5 at k5 hsl
      refine ⟨sl, rfl, ⟨_, .inl (.inl hsl)⟩, fun D nD => ?_⟩
      refine lc_list (K := K) (a := sl) (xs := (wy us u').map V.int) (fun i H8 => K0 H5 H8 ∧ H8 D = some (.lst ((((wy us u').take i).map (lateF ls)).map V.int))) ⟨K0.new nD, upd_same⟩ (fun i H8 _ h => .inl (.inl (h.1.oth sl _ hsl (fun _ z => by cases z)))) (fun i' x H8 hx h => ?_) (fun H8 h => ?_)
      · obtain ⟨k68, hD8⟩ := h
        rw [List.getElem?_map] at hx
        cases ev : (wy us u')[i']? with
        | none => rw [ev] at hx; cases hx
        | some b =>
        rw [ev] at hx
        cases hx
        have hi' : i' < (wy us u').length := (List.getElem?_eq_some_iff.mp ev).1
        obtain ⟨b0, b1⟩ := hrn' b (List.mem_of_getElem? ev)
        refine ⟨rfl, tyes ⟨_, rfl, _, rfl, q, _, _, _, rfl, rfl, (k5.trans k68).sqT hq4, late_at hL b0 b1, _, hD8, Nat.lt_of_le_of_lt (m := 5000) (by rw [List.length_map, List.length_map]; have := List.length_take_le i' (wy us u'); omega) (by decide), k68.mut nD, ?_⟩⟩
        rw [List.take_add_one, ev, List.map_append, List.map_append]
        exact upd_same
      obtain ⟨k68, hD8⟩ := h
      rw [List.length_map, List.take_of_length_le (Nat.le_refl _)] at hD8
      have k58 := k5.trans k68
      refine ⟨D, _, rfl, .inl (.inl hD8), ?_⟩
      -- the term
      have hL8 := k58.oth L _ hL4 (fun _ z => by cases z)
      refine ⟨_, rfl, .inl ⟨rfl, _, .inl (.inl hL8)⟩, ?_⟩
      refine ⟨_, rfl, _, rfl, _, rfl, _, rfl, _, rfl, wq, _, _, .int a, rfl, rfl, .inl (.inl (k58.oth wq _ hwq4 (fun _ z => by cases z))), hwla, p, us, q, ls, d, kvs, g, a, rfl, k58.sqT hp4, hW, k58.sqT hq4, hL, k58.rd hd4, hD, hkl, hg, someL_pos hD egv ham, fun m H9 k9 hm => ?_⟩
      have k59 := k58.trans k9
      refine ⟨_, rfl, _, rfl, _, rfl, wq, _, _, .int a, rfl, rfl, .inl (.inl (k59.oth wq _ hwq4 (fun _ z => by cases z))), hwla, q, _, _, _, rfl, rfl, k59.sqT hq4, late_at hL a0 a1, _, _, rfl, rfl, _, rfl, _, _, rfl, rfl, ?_⟩
      have tE : termF us ls kvs a = m + lateF ls a - ((wy us u').map (lateF ls)).sum := by
        unfold termF
        rw [leastF_eq hm, eu]
        rfl
      have hL9 := k59.oth L _ hL4 (fun _ z => by cases z)
      have hdll : (dueL us ls kvs v).length ≤ 8 := by
        unfold dueL
        rw [List.length_map, List.length_dropLast]
        omega
      refine ⟨L, _, _, rfl, rfl, hL9, Nat.lt_of_le_of_lt (m := 5000) (by rw [List.length_map]; have := List.length_take_le i (dueL us ls kvs v); omega) (by decide), ?_⟩
      refine ⟨_, _, rfl, (kk.trans k59.kt).trans (Kt.set hL9), ?_⟩
      have hdi : (dueL us ls kvs v)[i]? = some (termF us ls kvs a) := by
        unfold dueL
        rw [List.getElem?_map, List.dropLast_eq_take, List.getElem?_take, if_pos (by omega), ea]
        rfl
      rw [List.take_add_one, hdi, List.map_append, tE]
      exact upd_same
    · obtain ⟨y5, y6, rfl, kk, hL4⟩ := h
      have hdll : (dueL us ls kvs v).length = (wy us v).length - 1 := by
        unfold dueL
        rw [List.length_map, List.length_dropLast]
      rw [List.take_of_length_le (by rw [hdll, List.length_map]; omega)] at hL4
      refine ⟨_, rfl, L, dueL us ls kvs v, rfl, .inl (.inl hL4), by omega, fun m hm hle => ?_⟩
      have := qq H' (K0.fresh k2 nLH (k3.kt.trans kk))
      rw [dueF_up e ⟨hm, hle⟩] at this
      exact this
def spFirsts (K : PySem.W.Frag) (Pw Px Pm Pf Ph : Addr) : Sp := fun vs H Q _ => ∃ (p : Addr) (us : List (Option Int)) (q : Addr) (ls : List Int) (d : Addr) (kvs : List (Key × V)) (g : IF), vs = [.ref p, .ref q, .ref d] ∧ WaysAt H p us ∧ Ways us ∧ SqT K H q (ls.map V.int) ∧ Lates us ls ∧ H d = some (.dK kvs) ∧ DI kvs g ∧ kvs.length ≤ 20 ∧ (∀ v x, g v = some x → 0 ≤ v ∧ v < us.length) ∧ (∀ v x, g v = some x → 0 ≤ x) ∧ TbL H [Pw, Px, Pm, Pf, Ph] ∧
  ∀ (fq : Addr) (fs : List (Key × V)) (H' : Hp), K0 H H' → H fq = none → H' fq = some (.dK fs) → DI fs (firstsF us ls kvs g) → fs.length ≤ 20 → Q (.ref fq) H'
theorem ok_firsts {f Pw Px Pm Pf Ph : Addr} {fd : FuncData} {f_needways f_needlates f_aremoments f_needplaces f_first : Addr} {fd_needways fd_needlates fd_aremoments fd_needplaces fd_first : FuncData} (F : Fun K "first_moments" "first_moments" sFirsts f fd) (k_needways : PySem.W.keepIn K (.ref f_needways) = true) (b_needways : Binds K fd_needways ["up"] []) (g_needways : mg "need_ways" = some (.ref f_needways)) (G_needways : FnOk P w K mg base CX0 5 f_needways fd_needways ["up"] (spNeedWays K Pw))
    (k_needlates : PySem.W.keepIn K (.ref f_needlates) = true) (b_needlates : Binds K fd_needlates ["up", "late"] []) (g_needlates : mg "need_lates" = some (.ref f_needlates)) (G_needlates : FnOk P w K mg base CX0 3 f_needlates fd_needlates ["up", "late"] (spNeedLates K))
    (k_aremoments : PySem.W.keepIn K (.ref f_aremoments) = true) (b_aremoments : Binds K fd_aremoments ["thing"] []) (g_aremoments : mg "are_moments" = some (.ref f_aremoments)) (G_aremoments : FnOk P w K mg base CX0 4 f_aremoments fd_aremoments ["thing"] (spAreMoments K Pm))
    (k_needplaces : PySem.W.keepIn K (.ref f_needplaces) = true) (b_needplaces : Binds K fd_needplaces ["up", "numbers"] []) (g_needplaces : mg "need_places" = some (.ref f_needplaces)) (G_needplaces : FnOk P w K mg base CX0 4 f_needplaces fd_needplaces ["up", "numbers"] (spNeedPlaces K Px))
    (k_first : PySem.W.keepIn K (.ref f_first) = true) (b_first : Binds K fd_first ["up", "late", "comes", "place"] []) (g_first : mg "first_moment" = some (.ref f_first)) (G_first : FnOk P w K mg base CX0 4 f_first fd_first ["up", "late", "comes", "place"] (spFirst K Pf Ph)) (m_list : mg "list" = none) (m_sorted : mg "sorted" = none) : FnOk P w K mg base CX0 6 f fd ["up", "late", "comes"] (spFirsts K Pw Px Pm Pf Ph) := by
  refine F.ok scFirsts (fun vs H Q E h => ?_) (fun cdv A outer s H vs Q E hr h => ?_)
  · obtain ⟨p, us, q, ls, d, kvs, g, rfl, _⟩ := h
    rfl
  · obtain ⟨p, us, q, ls, d, kvs, g, rfl, hp, hW, hq, hL, hd, hD, hkl, hg, hg0, tb, qq⟩ := h
    have hu := hu_of hr
    refine ⟨_, (pss_cons (ps_expr (pe_call G_needways (hr.mono (by decide)) (by rfl) g_needways k_needways b_needways .nil pass0 (pa_cons (pv 0) pa_nil)))
      (pss_cons (ps_expr (pe_call G_needlates (hr.mono (by decide)) (by rfl) g_needlates k_needlates b_needlates .nil pass0 (pa_cons (pv 0) (pa_cons (pv 1) pa_nil))))
      (pss_cons (ps_if (pt_not (pt_val (pe_call G_aremoments (hr.mono (by decide)) (by rfl) g_aremoments k_aremoments b_aremoments .nil pass0 (pa_cons (pv 2) pa_nil)))) pss_never pss_nil)
      (pss_cons (ps_expr (pe_call G_needplaces (hr.mono (by decide)) (by rfl) g_needplaces k_needplaces b_needplaces .nil pass0 (pa_cons (pv 0) (pa_cons (pe_callTy (call_list_dK rfl) (by rfl) m_list (by decide +kernel) (pa_cons (pv 2) pa_nil)) pa_nil))))
      (pss_one (ps_ret (pe_dc (own := [("place", 3)]) (g := (gName 3)) (tt := tYes) (tk := (tVar 3)) (tv := (tCall (spFirst K Pf Ph) [] E0 (tCons (tVar 0) (tCons (tVar 1) (tCons (tVar 2) (tCons (tVar 3) tNil))))))  rfl scFirsts.nd (pi_list (pe_callB (call_sortedDI rfl) (by rfl) m_sorted boot_sorted (pa_cons (pv 2) pa_nil))) (blkOk_by (N := N_scFirsts) (sc := defScope sFirsts) (by decide +kernel)) (fun _ _ _ _ _ => (pg_name (i := 3) scFirsts.nd rfl (.inl rfl))) (fun _ _ _ _ _ => pts_nil) (fun _ _ _ _ _ => (pv 3)) (fun _ _ _ _ _ => (pe_call G_first (hr.mono (by decide)) (by rfl) g_first k_first b_first .nil pass0 (pa_cons (pv 0) (pa_cons (pv 1) (pa_cons (pv 2) (pa_cons (pv 3) pa_nil))))))))))))), ?_⟩
    have n8 := hW.n8
    refine ⟨_, rfl, p, us, rfl, hp, hW, tb Pw (by simp), fun H1 k1 => ?_⟩
    refine ⟨_, rfl, _, rfl, p, q, us, ls, rfl, k1.sqT hp.sq, k1.sqT hq, hL, n8, fun H2 k2 => ?_⟩
    have k12 := k1.trans k2
    have hd2 := k12.oth d _ hd (fun _ z => by cases z)
    refine ⟨_, rfl, d, kvs, g, rfl, hd2, hD, hg0, k12.tab _ (tb Pm (by simp)), fun H3 k3 => ⟨_, rfl, iteF ?_⟩⟩
    have k13 := k12.trans k3
    have hd3 := k13.oth d _ hd (fun _ z => by cases z)
    obtain ⟨keys, eks, ksn, ksm⟩ := hD.ints
    have hkeysl : keys.length = kvs.length := by
      have := congrArg List.length eks
      rw [List.length_map, List.length_map] at this
      exact this.symm
    have ekv : (kvs.map fun kv => kV kv.1) = keys.map V.int := by
      have : (kvs.map fun kv => kV kv.1) = (kvs.map (·.1)).map kV := by rw [List.map_map]; rfl
      rw [this, eks, List.map_map]
      rfl
    refine ⟨_, rfl, _, rfl, d, kvs, rfl, hd3, fun l1 nl1 => ?_⟩
    rw [ekv]
    have k4 := k13.mut (o := .lst (keys.map V.int)) (k13.dom l1 nl1)
    refine ⟨p, l1, us, keys, rfl, k4.sqT hp.sq, .inl (.inl upd_same), fun v hv => ?_, k4.tab _ (tb Px (by simp)), fun H5 k5 => ?_⟩
    · obtain ⟨x, ex⟩ := Option.isSome_iff_exists.mp ((ksm v).mp hv)
      exact hg v x ex
    have k15 := k4.trans k5
    have hd5 := k15.oth d _ hd (fun _ z => by cases z)
    refine ⟨_, rfl, d, kvs, keys, rfl, .inl hd5, eks, by omega, fun ys sl hperm hsort nsl => ?_⟩
    have k6 := k15.mut (o := .lst (ys.map V.int)) (k15.dom sl nsl)
    have hsl : upd H5 sl (.lst (ys.map V.int)) sl = some (.lst (ys.map V.int)) := upd_same
    generalize upd H5 sl (.lst (ys.map V.int)) = H6 at k6 hsl
    have hys : ∀ v, v ∈ ys ↔ (g v).isSome = true := fun v => by rw [hperm.mem_iff, ksm v]
    have hyl : ys.length = kvs.length := by rw [hperm.length_eq, hkeysl]
    refine ⟨sl, rfl, ⟨_, .inl (.inl hsl)⟩, fun D nD => ?_⟩
    have nDH := k6.dom D nD
    refine ⟨fun i m H' => i + m = ys.length ∧ K0 H6 H' ∧ ∃ fs, H' D = some (.dK fs) ∧ DI fs (fun v => if v ∈ ys.take i then some (dueF us ls kvs g v) else none) ∧ fs.length ≤ i, ⟨ys.length, by omega, K0.new nD, [], upd_same, ?_, Nat.le_refl _⟩, fun i m H' hWi => ?_⟩
    · refine ⟨List.nodup_nil, fun p hp => (by cases hp), fun i => ?_⟩
      rw [List.take_zero, if_neg (fun z => by cases z)]
      rfl
    obtain ⟨em, k7, fs, hfs, hDf, hfl⟩ := hWi
    have hs7 := k7.oth sl _ hsl (fun _ z => by cases z)
    have k17 := k6.trans k7
    by_cases hi : i < ys.length
    · have g1 : (ys.map V.int)[i]? = some (.int ys[i]) := by rw [List.getElem?_map, List.getElem?_eq_getElem hi]; rfl
      refine .inr ⟨⟨_, _, .inl (.inl hs7), g1⟩, fun H2 => K0 H6 H2 ∧ ∃ fs, H2 D = some (.dK fs) ∧ DI fs (fun v => if v ∈ ys.take (i + 1) then some (dueF us ls kvs g v) else none) ∧ fs.length ≤ i + 1, fun H2 h2 => ⟨m - 1, by omega, by omega, h2⟩, fun x H2 y => ?_⟩
      obtain ⟨rfl, fx⟩ := y
      have ex : x = .int ys[i] := Option.some.inj ((fx _ (.inl (.inl hs7))).symm.trans g1)
      subst ex
      obtain ⟨z, ez⟩ := Option.isSome_iff_exists.mp ((hys ys[i]).mp (List.getElem_mem hi))
      refine ⟨rfl, tyes ⟨_, rfl, _, rfl, _, rfl, _, rfl, _, rfl, p, us, q, ls, d, kvs, g, ys[i], z, rfl, k17.sqT hp.sq, hW, k17.sqT hq, hL, k17.oth d _ hd (fun _ z => by cases z), hD, by omega, hg, ez, k17.tab _ (tb Pf (by simp)), k17.tab _ (tb Ph (by simp)), fun H8 k8 => ?_⟩⟩
      have hfs8 := k8.oth D _ hfs (fun _ z => by cases z)
      refine ⟨fs, Sum.inl ys[i], rfl, hfs8, Nat.lt_of_le_of_lt (m := 6000) (by omega) (by decide), (k7.trans k8).mut nD, _, upd_same, ?_, Nat.le_trans (length_putK _ _ _) (by omega)⟩
      have := hDf.put ys[i] (dueF us ls kvs g ys[i])
      have e2 : HK.put (fun v => if v ∈ ys.take i then some (dueF us ls kvs g v) else none) ys[i] (dueF us ls kvs g ys[i]) = fun v => if v ∈ ys.take (i + 1) then some (dueF us ls kvs g v) else none := by
        funext v
        unfold HK.put
        have : v ∈ ys.take (i + 1) ↔ v ∈ ys.take i ∨ v = ys[i] := by
          rw [List.take_add_one, List.getElem?_eq_getElem hi, List.mem_append]
          show _ ∨ v ∈ [ys[i]] ↔ _
          rw [List.mem_singleton]
        by_cases hv : v = ys[i]
        · rw [if_pos hv, if_pos (this.mpr (.inr hv)), hv]
        · rw [if_neg hv]
          show (if v ∈ ys.take i then some (dueF us ls kvs g v) else none) = _
          by_cases hv2 : v ∈ ys.take i
          · rw [if_pos hv2, if_pos (this.mpr (.inl hv2))]
          · rw [if_neg hv2, if_neg (fun z => (this.mp z).elim hv2 hv)]
      rw [e2] at this
      exact this
    · rw [List.take_of_length_le (by omega)] at hDf
      refine .inl ⟨⟨_, .inl (.inl hs7), by rw [List.length_map]; omega⟩, qq D fs H' k17 nDH hfs ?_ (by omega)⟩
      have e2 : (fun v => if v ∈ ys then some (dueF us ls kvs g v) else none) = firstsF us ls kvs g := by
        funext v
        unfold firstsF
        by_cases h : (g v).isSome = true
        · rw [if_pos h, if_pos ((hys v).mpr h)]
        · rw [if_neg h, if_neg (fun z => h ((hys v).mp z))]
      rw [e2] at hDf
      exact hDf
end
end HK

set_option Elab.async false
set_option linter.all false
set_option maxRecDepth 100000
set_option maxHeartbeats 4000000
namespace HK
open PySem PySem.Spec PyProof.Rows L2 GAl GxR
open Evl (pss_cut)
abbrev sLaw : Stmt := topS 32
abbrev N_scLaw : List Str := ["script", "tray", "k", "up", "late", "most", "comes", "place", "due", "handed", "turn", "found"]
theorem scLaw : FnScope N_scLaw ["script"] (defScope sLaw) := ⟨rfl, rfl, rfl, by decide +kernel, rfl, by decide +kernel, by decide +kernel⟩
section
variable {P : Program} {w : World} {K : PySem.W.Frag} {mg : Str → Option Value} {base : Heap}
theorem Tray.over {H H' H'' : Hp} {t s x : Addr} {ns : List Int} {b b' : Int} (h : Tray K H' t s ns b) (h0 : Tray K H t s ns b') (k : Kt t H H') (k' : Kt x H' H'') (n : H x = none) : Tray K H'' t s ns b := by
  obtain ⟨⟨p, v, e, r⟩, q⟩ := h
  exact ⟨⟨p, v, k'.oth t _ e (h0.ne n).symm (fun _ z => by cases z), r⟩, h0.scr.kt (k.over k' n)⟩
open Classical in
noncomputable def partF (us : List (Option Int)) (ls : List Int) (kvs : List (Key × V)) (g : IF) (l : List Key) : IF := fun v => if (Sum.inl v : Key) ∈ l then some (dueF us ls kvs g v) else none
def spLaw (K : PySem.W.Frag) (Pw Px Pm Pf Ph : Addr) : Sp := fun vs H Q _ => ∃ (a : Addr) (ns : List Int), vs = [.ref a] ∧ SqL K H a (ns.map V.int) ∧ TabG H Pw ∧ TabG H Px ∧ TabG H Pm ∧ TabG H Pf ∧ TabG H Ph ∧ ∀ H', Q (.bl true) H'
theorem ok_law {f : Addr} {fd : FuncData} {f_draw f_waysl f_latel f_duem f_firsts : Addr} {fd_draw fd_waysl fd_latel fd_duem fd_firsts : FuncData} {Pw Px Pm Pf Ph : Addr} (F : Fun K "law" "law" sLaw f fd)
    (k_draw : PySem.W.keepIn K (.ref f_draw) = true) (b_draw : Binds K fd_draw ["tray", "many"] []) (g_draw : mg "_law_e_draw" = some (.ref f_draw)) (G_draw : FnOk P w K mg base CX0 2 f_draw fd_draw ["tray", "many"] (spDraw K))
    (k_waysl : PySem.W.keepIn K (.ref f_waysl) = true) (b_waysl : Binds K fd_waysl ["tray"] []) (g_waysl : mg "_law_e_ways" = some (.ref f_waysl)) (G_waysl : FnOk P w K mg base CX0 3 f_waysl fd_waysl ["tray"] (spWaysL K))
    (k_latel : PySem.W.keepIn K (.ref f_latel) = true) (b_latel : Binds K fd_latel ["tray", "up"] []) (g_latel : mg "_law_e_late" = some (.ref f_latel)) (G_latel : FnOk P w K mg base CX0 3 f_latel fd_latel ["tray", "up"] (spLateL K))
    (k_duem : PySem.W.keepIn K (.ref f_duem) = true) (b_duem : Binds K fd_duem ["up", "late", "comes", "place"] []) (g_duem : mg "_law_e_due" = some (.ref f_duem)) (G_duem : FnOk P w K mg base CX0 3 f_duem fd_duem ["up", "late", "comes", "place"] (spDueM K))
    (k_firsts : PySem.W.keepIn K (.ref f_firsts) = true) (b_firsts : Binds K fd_firsts ["up", "late", "comes"] []) (g_firsts : mg "first_moments" = some (.ref f_firsts)) (G_firsts : FnOk P w K mg base CX0 6 f_firsts fd_firsts ["up", "late", "comes"] (spFirsts K Pw Px Pm Pf Ph))
    (m_len : mg "len" = none) (m_range : mg "range" = none) (m_dict : mg "dict" = none) (m_isinstance : mg "isinstance" = none) (m_bool : mg "bool" = none) : FnOk P w K mg base CX0 7 f fd ["script"] (spLaw K Pw Px Pm Pf Ph) := by
  refine F.ok scLaw (fun vs H Q E h => ?_) (fun cdv A outer s H vs Q E hr h => ?_)
  · obtain ⟨a, ns, rfl, _⟩ := h
    rfl
  · obtain ⟨a, ns, rfl, hS, t1, t2, t3, t4, t5, q⟩ := h
    have hu := hu_of hr
    refine ⟨_, (pss_cons (ps_set (i := 1) scLaw.nd rfl (.inl rfl) (pe_lst (pa_cons (pv 0) (pa_cons pe_int (pa_cons pe_int pa_nil)))))
      (pss_cons (ps_for PassesOwn.never rfl (pi_range1 (by rfl) m_range (pa_cons pe_int pa_nil)) (pg_name (i := 2) scLaw.nd rfl (.inl rfl))
      (pss_cut (ps_if (PW.pt (pw_and (pt_cmpR op_gt (pv 2) pe_int (nomark _)) (pw_and1 (pt_cmpR op_ge (pe_ix ix_list (pv 1) pe_int (fun _ _ => rfl)) (pe_callB call_len_seq (by rfl) m_len PySem.boot_len (pa_cons (pv 0) pa_nil)) (nomark _))))) (pss_one ps_break) pss_nil)
      (pss_cons (ps_set (i := 3) scLaw.nd rfl (.inl rfl) (pe_call G_waysl (hr.mono (by decide)) (by rfl) g_waysl k_waysl b_waysl .nil pass0 (pa_cons (pv 1) pa_nil)))
      (pss_cons (ps_set (i := 4) scLaw.nd rfl (.inl rfl) (pe_call G_latel (hr.mono (by decide)) (by rfl) g_latel k_latel b_latel .nil pass0 (pa_cons (pv 1) (pa_cons (pv 3) pa_nil))))
      (pss_cut (ps_set (i := 5) scLaw.nd rfl (.inl rfl) (pe_ix ix_list (pe_lst (pa_cons pe_int (pa_cons pe_int (pa_cons pe_int (pa_cons (pe_op op_pow pe_int pe_int) pa_nil))))) (pe_call G_draw (hr.mono (by decide)) (by rfl) g_draw k_draw b_draw .nil pass0 (pa_cons (pv 1) (pa_cons pe_int pa_nil))) (fun _ _ => rfl)))
      (pss_cons (ps_set (i := 6) scLaw.nd rfl (.inl rfl) pe_dnewK)
      (pss_cut (ps_for PassesOwn.never rfl (pi_range1 (by rfl) m_range (pa_cons (pe_callB call_len_seq (by rfl) m_len PySem.boot_len (pa_cons (pv 3) pa_nil)) pa_nil)) (pg_name (i := 7) scLaw.nd rfl (.inl rfl))
      (pss_one (ps_if (pt_cmpR op_gt (pe_call G_draw (hr.mono (by decide)) (by rfl) g_draw k_draw b_draw .nil pass0 (pa_cons (pv 1) (pa_cons pe_int pa_nil))) pe_int (nomark _)) (pss_one (ps_dput hu (pv 6) (pe_op op_sub (pe_op op_sub (pe_callB call_len_seq (by rfl) m_len PySem.boot_len (pa_cons (pv 3) pa_nil)) pe_int) (pv 7)) (pe_call G_draw (hr.mono (by decide)) (by rfl) g_draw k_draw b_draw .nil pass0 (pa_cons (pv 1) (pa_cons (pv 5) pa_nil))) rfl)) pss_nil)))
      (pss_cons (ps_set (i := 8) scLaw.nd rfl (.inl rfl) pe_dnewK)
      (pss_cut (ps_lock (ps_for PassesOwn.never rfl (pi_keys (pv 6)) (pg_name (i := 7) scLaw.nd rfl (.inl rfl))
      (pss_one (ps_dput hu (pv 8) (pv 7) (pe_call G_duem (hr.mono (by decide)) (by rfl) g_duem k_duem b_duem .nil pass0 (pa_cons (pv 3) (pa_cons (pv 4) (pa_cons (pv 6) (pa_cons (pv 7) pa_nil))))) rfl))))
      (pss_cons (ps_set (i := 9) scLaw.nd rfl (.inl rfl) (pe_callTy call_dictD (by rfl) m_dict (by decide +kernel) (pa_cons (pv 6) pa_nil)))
      (pss_one (ps_for PassesOwn.never rfl (pi_range1 (by rfl) m_range (pa_cons pe_int pa_nil)) (pg_name (i := 10) scLaw.nd rfl (.inl rfl))
      (pss_cons (ps_set (i := 11) scLaw.nd rfl (.inl rfl) (pe_call G_firsts (hr.mono (by decide)) (by rfl) g_firsts k_firsts b_firsts .nil pass0 (pa_cons (pv 3) (pa_cons (pv 4) (pa_cons (pv 9) pa_nil)))))
      (pss_cons (ps_if (PW.pt (pw_or (pt_not (pt_val (pe_callB call_isi (by rfl) m_isinstance boot_isinstance (pa_cons (pv 11) (pa_cons (pe_bltn (v := .ty "dict") (by rfl) m_dict (by decide +kernel) rfl) pa_nil))))) (pw_or (pt_cmpR (op_ne_dictA (Nat.lt_of_succ_lt hu)) (pv 11) (pv 8) (nomark _)) (pw_or1 (pt_cmpR (op_ne_dictA (Nat.lt_of_succ_lt hu)) (pv 9) (pv 6) (nomark _)))))) (pss_one (ps_ret pe_bl)) pss_nil)
      (pss_cons (ps_lock (ps_for PassesOwn.never rfl (pi_keys (pv 11)) (pg_name (i := 7) scLaw.nd rfl (.inl rfl))
      (pss_one (ps_if (PW.pt (pw_or (pt_val (pe_callB call_isi (by rfl) m_isinstance boot_isinstance (pa_cons (pe_dget hu (pv 11) (pv 7) (fun _ _ => rfl)) (pa_cons (pe_bltn (v := .ty "bool") (by rfl) m_bool (by decide +kernel) rfl) pa_nil)))) (pw_or1 (pt_val (pe_callB call_isi (by rfl) m_isinstance boot_isinstance (pa_cons (pv 7) (pa_cons (pe_bltn (v := .ty "bool") (by rfl) m_bool (by decide +kernel) rfl) pa_nil))))))) (pss_one (ps_ret pe_bl)) pss_nil))))
      (pss_one (ps_expr (pe_dclear (pv 11)))))))))))))))))))
      (pss_one (ps_ret pe_bl)))), ?_⟩
    -- tray
    refine ⟨.ref a, rfl, by show 3 ≤ sizeLine; decide, fun t hnt => ?_⟩
    have k1 : K0 H (upd H t (.lst [.ref a, .int 0, .int 0])) := K0.new hnt
    have tb0 : TbL H [Pw, Px, Pm, Pf, Ph] := fun P hP => by
      simp only [List.mem_cons, List.not_mem_nil, or_false] at hP
      rcases hP with rfl | rfl | rfl | rfl | rfl
      · exact t1
      · exact t2
      · exact t3
      · exact t4
      · exact t5
    have tb1 := tb0.k0 k1
    generalize hH1 : upd H t (.lst [.ref a, .int 0, .int 0]) = H1 at k1 tb1
    have htp : Tray K H1 t a ns 0 := by
      rw [← hH1]
      exact ⟨⟨0, 0, upd_same, by omega, by omega, by omega⟩, Scr.of hS hnt⟩
    refine ⟨5, rfl, by decide, by decide, for_range (lo := 0) (n := 5) (fun i σ' H' => ∃ y2 y3 y4 y5 y6 y7 y8 y9 y10 y11, σ' = [some (.ref a), some (.ref t), y2, y3, y4, y5, y6, y7, y8, y9, y10, y11] ∧ Kt t H1 H' ∧ Tray K H' t a ns (400 * i))
        ⟨none, none, none, none, none, none, none, none, none, none, rfl, Kt.refl _ _, htp.le (by omega)⟩ (fun i σ' H' hi h => ?_) (fun σ' H' h => q _)⟩
    obtain ⟨y2, y3, y4, y5, y6, y7, y8, y9, y10, y11, rfl, k, htp'⟩ := h
    refine ⟨fun σ' H' => σ' = [some (.ref a), some (.ref t), some (.int (0 + (i : Int))), y3, y4, y5, y6, y7, y8, y9, y10, y11] ∧ Kt t H1 H' ∧ Tray K H' t a ns (400 * i), ?_, ?_⟩
    · refine ⟨_, rfl, _, 1, rfl, rfl, _, rfl, ite2 (fun e => ?_) (fun e => iteF ⟨rfl, k, htp'⟩)⟩
      have htp'' := htp'
      obtain ⟨⟨p, v, et, _⟩, hscr⟩ := htp'
      refine ⟨.ref t, rfl, t, _, 1, .int p, rfl, rfl, .inl (.inl et), atI_nat (j := 1) rfl, .ref a, rfl, a, _, rfl, .inl hscr.sq, p, _, rfl, rfl, _, rfl, ite2 (fun e2 => ?_) (fun e2 => ⟨rfl, k, htp''⟩)⟩
      exact q _
    rintro σ' H2 ⟨rfl, k2, T2⟩
    have hi5 : i < 5 := hi
    -- up
    refine ⟨_, rfl, t, a, ns, 400 * i, rfl, T2, by omega, fun p us H3 k3 T3 np hp hW => ?_⟩
    have k13 := k2.trans k3
    have n8 := hW.n8
    have n1 := hW.n1
    -- late
    refine ⟨_, rfl, _, rfl, t, a, ns, 400 * i + 100, p, us, rfl, T3, by omega, hp, hW, fun lq ls H4 k4 T4 nlq hlq hL => ?_⟩
    have k14 := k13.trans k4
    have hp4 := hp.kt k4
    -- most
    refine ⟨fun σ' H' => ∃ most : Int, σ' = [some (.ref a), some (.ref t), some (.int (0 + (i : Int))), some (.ref p), some (.ref lq), some (.int most), y6, y7, y8, y9, y10, y11] ∧ Kt t H1 H' ∧ Kt t H4 H' ∧ Tray K H' t a ns (400 * i + 201) ∧ 1 ≤ most ∧ most ≤ 100000000000000000000, ?_, ?_⟩
    · refine ⟨_, _, rfl, rfl, ⟨by decide, by decide, by decide⟩, by show 4 ≤ sizeLine; decide, fun l nl => ?_⟩
      have k5 : K0 H4 (upd H4 l (.lst [.int 1, .int 6, .int 61, .int (10 ^ (20 : Int).toNat)])) := K0.new nl
      have hl5 : upd H4 l (.lst [.int 1, .int 6, .int 61, .int (10 ^ (20 : Int).toNat)]) l = some (.lst [.int 1, .int 6, .int 61, .int (10 ^ (20 : Int).toNat)]) := upd_same
      have hlt := T4.ne nl
      refine ⟨_, rfl, t, a, 4, ns, 400 * i + 100 + 100, rfl, T4.k0 k5, by omega, by omega, by omega, fun d H6 d0 d1 k6 T6 => ?_⟩
      have hp20 : (10 : Int) ^ (20 : Int).toNat = 100000000000000000000 := by decide
      have pk : ∃ y : Int, atI [V.int 1, .int 6, .int 61, .int (10 ^ (20 : Int).toNat)] d = some (.int y) ∧ 1 ≤ y ∧ y ≤ 100000000000000000000 := by
        rw [hp20]
        obtain ⟨k, rfl⟩ := Int.eq_ofNat_of_zero_le d0
        match k, d1 with
        | 0, _ => exact ⟨1, atI_nat rfl, by decide, by decide⟩
        | 1, _ => exact ⟨6, atI_nat rfl, by decide, by decide⟩
        | 2, _ => exact ⟨61, atI_nat rfl, by decide, by decide⟩
        | 3, _ => exact ⟨100000000000000000000, atI_nat rfl, by decide, by decide⟩
        | k + 4, h => exact absurd h (by omega)
      obtain ⟨y, ey, y0, y1⟩ := pk
      exact ⟨l, _, d, .int y, rfl, rfl, .inl (.inl (k6.oth l _ hl5 hlt (fun _ z => by cases z))), ey, y, rfl, k14.trans (k5.kt.trans k6), k5.kt.trans k6, T6.le (by omega), y0, y1⟩
    rintro σ' H5 ⟨most, rfl, k15, k45, T5, m1, m2⟩
    -- comes
    refine fun pd npd => ?_
    have nH1 := k15.dom pd npd
    have hpdt := T5.ne npd
    have k6 : K0 H5 (upd H5 pd (.dK [])) := K0.new npd
    have hpd6 : upd H5 pd (.dK []) pd = some (.dK []) := upd_same
    have d0 : DI [] (fun _ => none) := ⟨List.nodup_nil, fun p hp => (by cases hp), fun i => rfl⟩
    have nH4 := k45.dom pd npd
    have hpn : p ≠ pd := ne_of_none hp4.choose_spec.1 nH4
    have hln : lq ≠ pd := ne_of_none hlq nH4
    have k46 := k45.trans k6.kt
    have k16 := k15.trans k6.kt
    have T6 := T5.k0 k6
    generalize upd H5 pd (.dK []) = H6 at k6 hpd6 k46 k16 T6
    refine ⟨fun σ' H' => ∃ (y7 : Option V) (kvs : List (Key × V)) (g : IF), σ' = [some (.ref a), some (.ref t), some (.int (0 + (i : Int))), some (.ref p), some (.ref lq), some (.int most), some (.ref pd), y7, y8, y9, y10, y11] ∧ Kt t H1 H' ∧ Kt t H4 H' ∧ Tray K H' t a ns (400 * i + 230) ∧ H' pd = some (.dK kvs) ∧ DI kvs g ∧ kvs.length ≤ 8 ∧ (∀ v x, g v = some x → 0 ≤ v ∧ v < us.length) ∧ (∀ v x, g v = some x → 0 ≤ x), ?_, ?_⟩
    · have hpl : (us.map oV).length = us.length := List.length_map ..
      refine ⟨_, rfl, p, _, rfl, .inr (hp4.kt k46).sq, _, rfl, by rw [hpl]; omega, by rw [hpl]; omega, for_range (lo := 0) (n := (us.map oV).length) (fun j σ' H' => ∃ (y7 : Option V) (kvs : List (Key × V)) (g : IF), σ' = [some (.ref a), some (.ref t), some (.int (0 + (i : Int))), some (.ref p), some (.ref lq), some (.int most), some (.ref pd), y7, y8, y9, y10, y11] ∧ Kt t H1 H' ∧ Kt t H4 H' ∧ Tray K H' t a ns (400 * i + 201 + 2 * j) ∧ H' pd = some (.dK kvs) ∧ DI kvs g ∧ kvs.length ≤ j ∧ (∀ v x, g v = some x → 0 ≤ v ∧ v < us.length) ∧ (∀ v x, g v = some x → 0 ≤ x))
        ⟨_, [], _, rfl, k16, k46, T6.le (by omega), hpd6, d0, Nat.zero_le _, fun v x z => (by cases z), fun v x z => (by cases z)⟩ (fun j σ' H' hj h => ?_) (fun σ' H' h => ?_)⟩
      · rw [hpl] at hj
        obtain ⟨y7, kvs, g, rfl, k17, k47, T7, hpd7, hD, hkl, hg, hg0⟩ := h
        refine ⟨_, rfl, t, a, 5, ns, 400 * i + 201 + 2 * j, rfl, T7, by omega, by omega, by omega, fun d1 H8 d10 d11 k8 T8 => ?_⟩
        have hpd8 := k8.oth pd _ hpd7 hpdt (fun _ z => by cases z)
        refine ⟨_, _, rfl, rfl, _, rfl, ite2 (fun e => ?_) (fun e => ?_)⟩
        · refine ⟨_, rfl, _, rfl, t, a, most, ns, 400 * i + 201 + 2 * j + 1, rfl, T8, by omega, by omega, by omega, fun d2 H9 d20 d21 k9 T9 => ?_⟩
          have hpd9 := k9.oth pd _ hpd8 hpdt (fun _ z => by cases z)
          have k49 := (k47.trans k8).trans k9
          have k19 := (k17.trans k8).trans k9
          refine ⟨_, rfl, _, rfl, p, _, rfl, .inr (hp4.kt k49).sq, _, _, rfl, rfl, _, rfl, _, _, rfl, rfl, pd, _, rfl, DPut.k (k := Sum.inl ((((us.map oV).length : Int) - 1) - (0 + (j : Int)))) hpd9 (Nat.lt_of_le_of_lt (m := 6000) (by omega) (by decide)), ?_⟩
          refine ⟨_, _, _, rfl, k19.mut nH1, k49.mut nH4, (T9.le (by omega)).mut htp k19 nH1, upd_same, hD.put _ _, Nat.le_trans (length_putK _ _ _) (by omega), fun v x ev => ?_, fun v x ev => ?_⟩
          · by_cases hv : v = (((us.map oV).length : Int) - 1) - (0 + (j : Int))
            · rw [hpl] at hv
              omega
            · exact hg v x (by unfold HK.put at ev; rwa [if_neg hv] at ev)
          · by_cases hv : v = (((us.map oV).length : Int) - 1) - (0 + (j : Int))
            · unfold HK.put at ev
              rw [if_pos hv] at ev
              cases ev
              exact d20
            · exact hg0 v x (by unfold HK.put at ev; rwa [if_neg hv] at ev)
        · exact ⟨_, kvs, g, rfl, k17.trans k8, k47.trans k8, T8.le (by omega), hpd8, hD, by omega, hg, hg0⟩
      · obtain ⟨y7, kvs, g, rfl, k17, k47, T7, hpd7, hD, hkl, hg, hg0⟩ := h
        rw [hpl] at T7 hkl
        exact ⟨y7, kvs, g, rfl, k17, k47, T7.le (by omega), hpd7, hD, by omega, hg, hg0⟩
    rintro σ' H7 ⟨y7, kvs, g, rfl, k17, k47, T7, hpd7, hD, hkl, hg, hg0⟩
    -- due
    refine fun dd ndd => ?_
    have nd1 := k17.dom dd ndd
    have k8 : K0 H7 (upd H7 dd (.dK [])) := K0.new ndd
    have hdd8 : upd H7 dd (.dK []) dd = some (.dK []) := upd_same
    have hpd8 := k8.oth pd _ hpd7 (fun _ z => by cases z)
    have hdp : dd ≠ pd := fun z => by rw [z, hpd7] at ndd; cases ndd
    have k48 := k47.trans k8.kt
    have k18 := k17.trans k8.kt
    have T8 := T7.k0 k8
    have nd4 := k47.dom dd ndd
    generalize upd H7 dd (.dK []) = H8 at k8 hdd8 hpd8 k48 k18 T8
    have hp8 := hp4.kt k48
    have hlq8 : SqT K H8 lq (ls.map V.int) := k48.sqT (.inl (.inl hlq))
    refine ⟨fun σ' H' => ∃ (y7 : Option V) (dus : List (Key × V)), σ' = [some (.ref a), some (.ref t), some (.int (0 + (i : Int))), some (.ref p), some (.ref lq), some (.int most), some (.ref pd), y7, some (.ref dd), y9, y10, y11] ∧ Kt dd H8 H' ∧ H' dd = some (.dK dus) ∧ DI dus (firstsF us ls kvs g) ∧ dus.length ≤ 8, ?_, ?_⟩
    · refine ⟨pd, _, hpd8, trivial, fun od => ⟨_, rfl, pd, od, rfl, .inl ⟨kvs, upd_same, ?_⟩⟩⟩
      refine for_it walk_keys (fun j σ' H' => ∃ (y7 : Option V) (dus : List (Key × V)), σ' = [some (.ref a), some (.ref t), some (.int (0 + (i : Int))), some (.ref p), some (.ref lq), some (.int most), some (.ref pd), y7, some (.ref dd), y9, y10, y11] ∧ Kt dd (upd H8 pd (.frz od (.dK kvs))) H' ∧ H' dd = some (.dK dus) ∧ DI dus (partF us ls kvs g ((kvs.take j).map (fun p : Key × V => p.1))) ∧ dus.length ≤ j)
        ⟨_, [], rfl, Kt.refl _ _, by rw [upd_ne hdp]; exact hdd8, ?_, Nat.le_refl _⟩ (fun j σ' H' _ h => ?_) (fun j x σ' H' H9 hj h y => ?_) (fun σ' H' h => ?_)
      · refine ⟨List.nodup_nil, fun p hp => (by cases hp), fun i => ?_⟩
        unfold partF
        rw [List.take_zero, if_neg (fun z => by cases z)]
        rfl
      · obtain ⟨_, _, _, k, _⟩ := h
        exact k.frz _ _ _ upd_same
      · obtain ⟨rfl, kx, vx, hkv, rfl⟩ := y
        obtain ⟨v, x, e, e2⟩ := hD.at_ (List.mem_of_getElem? hkv)
        cases e
        obtain ⟨y7, dus, rfl, k9, hdd9, hDd, hdl⟩ := h
        refine ⟨_, rfl, _, rfl, _, rfl, _, rfl, p, us, lq, ls, pd, kvs, g, v, x, rfl, k9.sqT (sqT_lock hp8.sq hpd8), hW, k9.sqT (sqT_lock hlq8 hpd8), hL, .inr ⟨od, k9.frz _ _ _ upd_same⟩, hD, by omega, hg, e2, fun H10 k10 => ?_⟩
        have hdd10 := k10.oth dd _ hdd9 (fun _ z => by cases z)
        refine ⟨_, rfl, _, rfl, dd, _, rfl, DPut.k (k := Sum.inl v) hdd10 (Nat.lt_of_le_of_lt (m := 6000) (by omega) (by decide)), ?_⟩
        refine ⟨_, _, rfl, (k9.trans k10.kt).setD hdd10, upd_same, ?_, Nat.le_trans (length_putK _ _ _) (by omega)⟩
        have := hDd.put v (dueF us ls kvs g v)
        have e3 : HK.put (partF us ls kvs g ((kvs.take j).map (fun p : Key × V => p.1))) v (dueF us ls kvs g v) = partF us ls kvs g ((kvs.take (j + 1)).map (fun p : Key × V => p.1)) := by
          funext u
          unfold HK.put partF
          have : (Sum.inl u : Key) ∈ (kvs.take (j + 1)).map (fun p : Key × V => p.1) ↔ (Sum.inl u : Key) ∈ (kvs.take j).map (fun p : Key × V => p.1) ∨ u = v := by
            rw [List.take_add_one, hkv, List.map_append, List.mem_append]
            show _ ∨ Sum.inl u ∈ [Sum.inl v] ↔ _
            rw [List.mem_singleton]
            exact ⟨fun z => z.imp id fun h => by cases h; rfl, fun z => z.imp id fun h => by rw [h]⟩
          by_cases hv : u = v
          · rw [if_pos hv, if_pos (this.mpr (.inr hv)), hv]
          · rw [if_neg hv]
            by_cases hv2 : (Sum.inl u : Key) ∈ (kvs.take j).map (fun p : Key × V => p.1)
            · rw [if_pos hv2, if_pos (this.mpr (.inl hv2))]
            · rw [if_neg hv2, if_neg (fun z => (this.mp z).elim hv2 hv)]
        rw [e3] at this
        exact this
      · obtain ⟨y7, dus, rfl, k9, hdd9, hDd, hdl⟩ := h
        rw [List.take_of_length_le (Nat.le_refl _)] at hDd
        refine ⟨k9.frz _ _ _ upd_same, y7, dus, rfl, Kt.lock hpd8 k9, by rw [upd_ne hdp]; exact hdd9, ?_, by omega⟩
        have e3 : partF us ls kvs g (kvs.map (fun p : Key × V => p.1)) = firstsF us ls kvs g := by
          funext v
          unfold firstsF partF
          by_cases h : (g v).isSome = true
          · rw [if_pos h, if_pos ((hD.mem v).mpr h)]
          · rw [if_neg h, if_neg (fun z => h ((hD.mem v).mp z))]
        rw [e3] at hDd
        exact hDd
    rintro σ' H9 ⟨y7, dus, rfl, k9, hdd9, hDd, hdl⟩
    have k19 : Kt t H1 H9 := k18.over k9 nd1
    have T9 : Tray K H9 t a ns (400 * i + 230) := T8.over htp k18 k9 nd1
    have hpd9 := k9.oth pd _ hpd8 hdp.symm (fun _ z => by cases z)
    have hp9 := hp8.kt k9
    have hlq9 := k9.sqT hlq8
    have tb9 := tb1.kt k19
    -- handed
    refine ⟨_, rfl, pd, kvs, rfl, .inl hpd9, fun hq nhq => ?_⟩
    have k10 : K0 H9 (upd H9 hq (.dK kvs)) := K0.new nhq
    have hhq : upd H9 hq (.dK kvs) hq = some (.dK kvs) := upd_same
    generalize upd H9 hq (.dK kvs) = H10 at k10 hhq
    have hpd10 := k10.oth pd _ hpd9 (fun _ z => by cases z)
    have hdd10 := k10.oth dd _ hdd9 (fun _ z => by cases z)
    have hp10 := hp9.k0 k10
    have hlq10 := k10.sqT hlq9
    have tb10 := tb9.k0 k10
    refine ⟨2, rfl, by decide, by decide, for_range (lo := 0) (n := 2) (fun j σ' H' => ∃ y7 y10 y11, σ' = [some (.ref a), some (.ref t), some (.int (0 + (i : Int))), some (.ref p), some (.ref lq), some (.int most), some (.ref pd), y7, some (.ref dd), some (.ref hq), y10, y11] ∧ K0 H10 H')
      ⟨_, _, _, rfl, K0.refl _⟩ (fun j σ' H' hj h => ?_) (fun σ' H' h => ?_)⟩
    · obtain ⟨y7, y10, y11, rfl, k11⟩ := h
      refine ⟨_, rfl, _, rfl, _, rfl, p, us, lq, ls, hq, kvs, g, rfl, hp10.k0 k11, hW, k11.sqT hlq10, hL, k11.oth hq _ hhq (fun _ z => by cases z), hD, by omega, hg, hg0, tb10.k0 k11, fun fq fs H12 k12 nfq hfq hDf hfl => ?_⟩
      have k1012 := k11.trans k12
      refine ⟨_, rfl, .ref fq, .ty "dict", .type "dict", _, true, rfl, .ty "dict", .base (.dK hfq), kit_ty (tys_dict (by decide)), _, rfl, iteF ?_⟩
      obtain ⟨e5, e6⟩ := hDf.same hDd
      refine ⟨_, rfl, _, rfl, fq, dd, fs, dus, rfl, rfl, hfq, k1012.oth dd _ hdd10 (fun _ z => by cases z), e5, e6, _, rfl, iteF ?_⟩
      obtain ⟨e7, e8⟩ := hD.same hD
      refine ⟨_, rfl, _, rfl, hq, pd, kvs, kvs, rfl, rfl, k1012.oth hq _ hhq (fun _ z => by cases z), k1012.oth pd _ hpd10 (fun _ z => by cases z), e7, e8, _, rfl, iteF ?_⟩
      refine ⟨fq, _, hfq, trivial, fun od => ⟨_, rfl, fq, od, rfl, .inl ⟨fs, upd_same, ?_⟩⟩⟩
      refine for_it walk_keys (fun j' σ' H' => ∃ y7, σ' = [some (.ref a), some (.ref t), some (.int (0 + (i : Int))), some (.ref p), some (.ref lq), some (.int most), some (.ref pd), y7, some (.ref dd), some (.ref hq), some (.int (0 + (j : Int))), some (.ref fq)] ∧ H' = upd H12 fq (.frz od (.dK fs))) ⟨_, rfl, rfl⟩ (fun j' σ' H' _ h => ?_) (fun j' x σ' H' H13 hj' h y => ?_) (fun σ' H' h => ?_)
      · obtain ⟨_, _, rfl⟩ := h
        exact upd_same
      · obtain ⟨rfl, kx, vx, hkv, rfl⟩ := y
        obtain ⟨v, x, e, e2⟩ := hDf.at_ (List.mem_of_getElem? hkv)
        cases e
        obtain ⟨y7, rfl, rfl⟩ := h
        have dg := dgetR (.inr ⟨od, upd_same⟩) hDf v (H := upd H12 fq (.frz od (.dK fs)))
        rw [e2] at dg
        refine ⟨_, rfl, _, rfl, fq, _, rfl, dg, .int x, .ty "bool", .type "int", _, false, rfl, .ty "bool", .base (.int x), kit_ty (tys_bool (by decide)), _, rfl, iteF ?_⟩
        exact ⟨_, rfl, .int v, .ty "bool", .type "int", _, false, rfl, .ty "bool", .base (.int v), kit_ty (tys_bool (by decide)), _, rfl, iteF ⟨_, rfl, rfl⟩⟩
      · obtain ⟨y7, rfl, rfl⟩ := h
        refine ⟨upd_same, ?_⟩
        rw [upd_upd, upd_back hfq]
        refine ⟨_, rfl, .inr (.inr (.inl ⟨rfl, .inl ⟨_, hfq⟩⟩)), fq, _, rfl, rfl, hfq, ?_⟩
        exact ⟨_, _, _, rfl, k1012.mut (k11.dom fq nfq)⟩
    · obtain ⟨y7, y10, y11, rfl, k11⟩ := h
      exact ⟨_, _, _, _, _, _, _, _, _, _, rfl, (k19.trans k10.kt).trans k11.kt, ((T9.k0 k10).k0 k11).le (by omega)⟩
end
end HK

set_option Elab.async false
set_option linter.all false
set_option maxRecDepth 100000
set_option maxHeartbeats 4000000
namespace HK
open PySem PySem.Spec PyProof.Rows L2 GAl GxR
/-- every def's table of code objects is empty at the law's entry -/
def Tabs (q : Program) (mg : Str → Option Value) (h : Heap) : Prop := ∀ nm : Str, ((recsOf q).any fun e => e.name == nm) = true → ∃ a o fd c P, mg nm = some (.ref a) ∧ h.get? a = some o ∧ o.data = .func fd ∧ fd.code = .ref c ∧ PySem.W.CodeHd h c P ∧ h.get? P = some { cls := .none, data := .fields #[] }
theorem walk_tabs {l : PySem.W.OpenLaw} {n k : Nat} {q : Program} {loose : List Str} {XP : (Str → Option Value) → Heap → Prop} {YP : World → Heap → Prop} {d : DefRec} {K : Params → PySem.W.Frag} {CX : World → CXT} {x : Str}
    (hn : l.most = some n) (hn2 : n ≤ sizeLine) (hdf : d.params.defaults = []) (hr : Room k callerA) (hY : ∀ (w : World) (h : Heap), YP w h → (K w.params).In h)
    (F : ∀ (w : World) (mg : Str → Option Value) (fa : Addr) (h : Heap), YP w h → (K w.params).In h → h.Ns mainGlobals mg → mg d.name = some (.ref fa) → Tabs q mg h → LamX.LawAtS l w (K w.params) (CX w) k n x mg fa h)
    (hCX : ∀ (w : World) (H : Hp) (s : Shared) (e : Value) (s' : Shared), CX w [] H s (fun _ _ _ => False) e s' → False) :
    PySem.W.WalkO q loose XP YP l.row.toRowW d [] (fun f vs => PySem.call f vs) := by
  refine Att.attach_callB hn hdf fun w s₀ s₁ mg mb fa o pm cd doc a vs ns G Y ho hd hcd hmg hobj hints hlen hbits hg => ?_
  have KX := hY w _ Y
  have tabs : Tabs q mg s₁.heap := fun nm h => by
    obtain ⟨e, he, hnm⟩ := List.any_eq_true.mp h
    obtain ⟨a', o', fd', c', P', h1, h2, h3, h4, h5, h6⟩ := G.T.tab e he
    exact ⟨a', o', fd', c', P', by rw [← (beq_iff_eq.mp hnm)]; exact h1, h2, h3, h4, PySem.W.CodeHd.of h5 h6, h6.2⟩
  obtain ⟨fd, cs, sp, hT, nT, C, hb, hsp, hF⟩ := F w mg fa _ Y KX G.T.g hmg tabs
  exact LamX.law_callTs KX G.T.g G.T.b G.T.builtins G.T.nolimit hg hT nT C G.T.bmain hobj hints (Nat.le_trans hlen hn2) hr hF hb (fun H hH hS => hsp H a ns hlen hbits hH hS) fun H e s' => hCX w H s₁ e s'
/-- a def's table, by its code object in the written part -/
theorem tab_of {K : PySem.W.Frag} {q : Program} {mg : Str → Option Value} {h : Heap} {nm : Str} {f c P0 : Addr} {o : Obj} {fd : FuncData} {e : Value} {dd : Option Addr} {vs : Array Value} {sl : Array (Option Value)} (X : K.In h) (T : Tabs q mg h) (hq : ((recsOf q).any fun e => e.name == nm) = true)
    (g : mg nm = some (.ref f)) (l : K.lookup f = some o) (hd : o.data = .func fd) (hc : fd.code = .ref c) (lc : K.lookup c = some ⟨e, dd, .fields vs, sl⟩) (hv : vs[11]? = some (.ref P0)) :
    PySem.W.CodeHd h c P0 ∧ h.get? P0 = some { cls := .none, data := .fields #[] } := by
  obtain ⟨a', o', fd', c', P', h1, h2, h3, h4, h5, h6⟩ := T nm hq
  rw [g] at h1; cases h1
  rw [X _ _ l] at h2; cases h2
  rw [hd] at h3; cases h3
  rw [hc] at h4; cases h4
  have h5' := h5
  obtain ⟨oc, vc, _, _, _, _, _, _, _, e1, _, e3, e4, _⟩ := h5'
  rw [X _ _ lc] at e1; cases e1
  cases e3
  rw [hv] at e4; cases e4
  exact ⟨h5, h6⟩
theorem all_mk {l : PySem.W.OpenLaw} {q : Program} {w : World} {K : PySem.W.Frag} {h : Heap} {mg : Str → Option Value} {fa f1 f2 f3 f4 f5 f6 f7 f8 f9 f10 f11 f12 f13 f14 f15 f16 f17 f18 f19 f20 f21 cc11 P11 cc16 P16 cc15 P15 cc18 P18 cc19 P19 : Addr} (X : K.In h) (G : h.Ns mainGlobals mg) (hfa : mg "law" = some (.ref fa)) (T : Tabs q mg h) (hl : l.most = some 63)
    {od1 an1 od2 an2 od3 an3 od4 an4 od5 an5 od6 an6 od7 an7 od8 an8 od9 an9 od10 an10 od11 an11 od12 an12 od13 an13 od14 an14 od15 an15 od16 an16 od17 an17 od18 an18 od19 an19 od20 an20 od21 an21 dd11 dd16 dd15 dd18 dd19 : Option Addr} {sl1 sl2 sl3 sl4 sl5 sl6 sl7 sl8 sl9 sl10 sl11 sl12 sl13 sl14 sl15 sl16 sl17 sl18 sl19 sl20 sl21 sc11 sc16 sc15 sc18 sc19 : Array (Option Value)} {oc1 kV1 dc1 pm1 cd1 ct1 oc2 kV2 dc2 pm2 cd2 ct2 oc3 kV3 dc3 pm3 cd3 ct3 oc4 kV4 dc4 pm4 cd4 ct4 oc5 kV5 dc5 pm5 cd5 ct5 oc6 kV6 dc6 pm6 cd6 ct6 oc7 kV7 dc7 pm7 cd7 ct7 oc8 kV8 dc8 pm8 cd8 ct8 oc9 kV9 dc9 pm9 cd9 ct9 oc10 kV10 dc10 pm10 cd10 ct10 oc11 kV11 dc11 pm11 ct11 oc12 kV12 dc12 pm12 cd12 ct12 oc13 kV13 dc13 pm13 cd13 ct13 oc14 kV14 dc14 pm14 cd14 ct14 oc15 kV15 dc15 pm15 ct15 oc16 kV16 dc16 pm16 ct16 oc17 kV17 dc17 pm17 cd17 ct17 oc18 kV18 dc18 pm18 ct18 oc19 kV19 dc19 pm19 ct19 oc20 kV20 dc20 pm20 cd20 ct20 oc21 kV21 dc21 pm21 cd21 ct21 e11 e16 e15 e18 e19 : Value} {t1 t2 : Tok} {vs11 vs16 vs15 vs18 vs19 : Array Value}
    (a1 : PySem.W.nsIn K mainGlobals "_law_e_blend" = some (some (.ref f1))) (l1 : K.lookup f1 = some ⟨oc1, od1, .func (PySem.W.fnOf "_law_e_blend" "_law_e_blend" (defArgs sBlend) (defBody sBlend) (defScope sBlend) .none kV1 dc1 pm1 an1 cd1 ct1), sl1⟩) (c1 : PySem.W.codeIn K cd1 "_law_e_blend" = true) (k1 : PySem.W.keepIn K (.ref f1) = true)
    (a2 : PySem.W.nsIn K mainGlobals "_law_e_draw" = some (some (.ref f2))) (l2 : K.lookup f2 = some ⟨oc2, od2, .func (PySem.W.fnOf "_law_e_draw" "_law_e_draw" (defArgs sDraw) (defBody sDraw) (defScope sDraw) .none kV2 dc2 pm2 an2 cd2 ct2), sl2⟩) (c2 : PySem.W.codeIn K cd2 "_law_e_draw" = true) (k2 : PySem.W.keepIn K (.ref f2) = true)
    (a3 : PySem.W.nsIn K mainGlobals "_law_e_ways" = some (some (.ref f3))) (l3 : K.lookup f3 = some ⟨oc3, od3, .func (PySem.W.fnOf "_law_e_ways" "_law_e_ways" (defArgs sWaysL) (defBody sWaysL) (defScope sWaysL) .none kV3 dc3 pm3 an3 cd3 ct3), sl3⟩) (c3 : PySem.W.codeIn K cd3 "_law_e_ways" = true) (k3 : PySem.W.keepIn K (.ref f3) = true)
    (a4 : PySem.W.nsIn K mainGlobals "_law_e_late" = some (some (.ref f4))) (l4 : K.lookup f4 = some ⟨oc4, od4, .func (PySem.W.fnOf "_law_e_late" "_law_e_late" (defArgs sLateL) (defBody sLateL) (defScope sLateL) .none kV4 dc4 pm4 an4 cd4 ct4), sl4⟩) (c4 : PySem.W.codeIn K cd4 "_law_e_late" = true) (k4 : PySem.W.keepIn K (.ref f4) = true)
    (a5 : PySem.W.nsIn K mainGlobals "_law_e_path" = some (some (.ref f5))) (l5 : K.lookup f5 = some ⟨oc5, od5, .func (PySem.W.fnOf "_law_e_path" "_law_e_path" (defArgs sPath) (defBody sPath) (defScope sPath) .none kV5 dc5 pm5 an5 cd5 ct5), sl5⟩) (c5 : PySem.W.codeIn K cd5 "_law_e_path" = true) (k5 : PySem.W.keepIn K (.ref f5) = true)
    (a6 : PySem.W.nsIn K mainGlobals "_law_e_least" = some (some (.ref f6))) (l6 : K.lookup f6 = some ⟨oc6, od6, .func (PySem.W.fnOf "_law_e_least" "_law_e_least" (defArgs sLeastL) (defBody sLeastL) (defScope sLeastL) .none kV6 dc6 pm6 an6 cd6 ct6), sl6⟩) (c6 : PySem.W.codeIn K cd6 "_law_e_least" = true) (k6 : PySem.W.keepIn K (.ref f6) = true)
    (a7 : PySem.W.nsIn K mainGlobals "_law_e_due" = some (some (.ref f7))) (l7 : K.lookup f7 = some ⟨oc7, od7, .func (PySem.W.fnOf "_law_e_due" "_law_e_due" (defArgs sDueM) (defBody sDueM) (defScope sDueM) .none kV7 dc7 pm7 an7 cd7 ct7), sl7⟩) (c7 : PySem.W.codeIn K cd7 "_law_e_due" = true) (k7 : PySem.W.keepIn K (.ref f7) = true)
    (a8 : PySem.W.nsIn K mainGlobals "is_whole" = some (some (.ref f8))) (l8 : K.lookup f8 = some ⟨oc8, od8, .func (PySem.W.fnOf "is_whole" "is_whole" (defArgs sWhole) (defBody sWhole) (defScope sWhole) .none kV8 dc8 pm8 an8 cd8 ct8), sl8⟩) (c8 : PySem.W.codeIn K cd8 "is_whole" = true) (k8 : PySem.W.keepIn K (.ref f8) = true)
    (a9 : PySem.W.nsIn K mainGlobals "is_within" = some (some (.ref f9))) (l9 : K.lookup f9 = some ⟨oc9, od9, .func (PySem.W.fnOf "is_within" "is_within" (defArgs sWithin) (defBody sWithin) (defScope sWithin) .none kV9 dc9 pm9 an9 cd9 ct9), sl9⟩) (c9 : PySem.W.codeIn K cd9 "is_within" = true) (k9 : PySem.W.keepIn K (.ref f9) = true)
    (a10 : PySem.W.nsIn K mainGlobals "leads_up" = some (some (.ref f10))) (l10 : K.lookup f10 = some ⟨oc10, od10, .func (PySem.W.fnOf "leads_up" "leads_up" (defArgs sLeadsUp) (defBody sLeadsUp) (defScope sLeadsUp) .none kV10 dc10 pm10 an10 cd10 ct10), sl10⟩) (c10 : PySem.W.codeIn K cd10 "leads_up" = true) (k10 : PySem.W.keepIn K (.ref f10) = true)
    (a11 : PySem.W.nsIn K mainGlobals "are_ways" = some (some (.ref f11))) (l11 : K.lookup f11 = some ⟨oc11, od11, .func (PySem.W.fnOf "are_ways" "are_ways" (defArgs sAreWays) (defBody sAreWays) (defScope sAreWays) .none kV11 dc11 pm11 an11 (.ref cc11) ct11), sl11⟩) (c11 : PySem.W.codeIn K (.ref cc11) "are_ways" = true) (k11 : PySem.W.keepIn K (.ref f11) = true)
    (a12 : PySem.W.nsIn K mainGlobals "need_ways" = some (some (.ref f12))) (l12 : K.lookup f12 = some ⟨oc12, od12, .func (PySem.W.fnOf "need_ways" "need_ways" (defArgs sNeedWays) (defBody sNeedWays) (defScope sNeedWays) .none kV12 dc12 pm12 an12 cd12 ct12), sl12⟩) (c12 : PySem.W.codeIn K cd12 "need_ways" = true) (k12 : PySem.W.keepIn K (.ref f12) = true)
    (a13 : PySem.W.nsIn K mainGlobals "need_lates" = some (some (.ref f13))) (l13 : K.lookup f13 = some ⟨oc13, od13, .func (PySem.W.fnOf "need_lates" "need_lates" (defArgs sNeedLates) (defBody sNeedLates) (defScope sNeedLates) .none kV13 dc13 pm13 an13 cd13 ct13), sl13⟩) (c13 : PySem.W.codeIn K cd13 "need_lates" = true) (k13 : PySem.W.keepIn K (.ref f13) = true)
    (a14 : PySem.W.nsIn K mainGlobals "is_moment" = some (some (.ref f14))) (l14 : K.lookup f14 = some ⟨oc14, od14, .func (PySem.W.fnOf "is_moment" "is_moment" (defArgs sIsMoment) (defBody sIsMoment) (defScope sIsMoment) .none kV14 dc14 pm14 an14 cd14 ct14), sl14⟩) (c14 : PySem.W.codeIn K cd14 "is_moment" = true) (k14 : PySem.W.keepIn K (.ref f14) = true)
    (a15 : PySem.W.nsIn K mainGlobals "are_moments" = some (some (.ref f15))) (l15 : K.lookup f15 = some ⟨oc15, od15, .func (PySem.W.fnOf "are_moments" "are_moments" (defArgs sAreMoments) (defBody sAreMoments) (defScope sAreMoments) .none kV15 dc15 pm15 an15 (.ref cc15) ct15), sl15⟩) (c15 : PySem.W.codeIn K (.ref cc15) "are_moments" = true) (k15 : PySem.W.keepIn K (.ref f15) = true)
    (a16 : PySem.W.nsIn K mainGlobals "need_places" = some (some (.ref f16))) (l16 : K.lookup f16 = some ⟨oc16, od16, .func (PySem.W.fnOf "need_places" "need_places" (defArgs sNeedPlaces) (defBody sNeedPlaces) (defScope sNeedPlaces) .none kV16 dc16 pm16 an16 (.ref cc16) ct16), sl16⟩) (c16 : PySem.W.codeIn K (.ref cc16) "need_places" = true) (k16 : PySem.W.keepIn K (.ref f16) = true)
    (a17 : PySem.W.nsIn K mainGlobals "way_up" = some (some (.ref f17))) (l17 : K.lookup f17 = some ⟨oc17, od17, .func (PySem.W.fnOf "way_up" "way_up" (defArgs sWayUp) (defBody sWayUp) (defScope sWayUp) .none kV17 dc17 pm17 an17 cd17 ct17), sl17⟩) (c17 : PySem.W.codeIn K cd17 "way_up" = true) (k17 : PySem.W.keepIn K (.ref f17) = true)
    (a18 : PySem.W.nsIn K mainGlobals "needed_from" = some (some (.ref f18))) (l18 : K.lookup f18 = some ⟨oc18, od18, .func (PySem.W.fnOf "needed_from" "needed_from" (defArgs sNeededFrom) (defBody sNeededFrom) (defScope sNeededFrom) .none kV18 dc18 pm18 an18 (.ref cc18) ct18), sl18⟩) (c18 : PySem.W.codeIn K (.ref cc18) "needed_from" = true) (k18 : PySem.W.keepIn K (.ref f18) = true)
    (a19 : PySem.W.nsIn K mainGlobals "first_moment" = some (some (.ref f19))) (l19 : K.lookup f19 = some ⟨oc19, od19, .func (PySem.W.fnOf "first_moment" "first_moment" (defArgs sFirst) (defBody sFirst) (defScope sFirst) .none kV19 dc19 pm19 an19 (.ref cc19) ct19), sl19⟩) (c19 : PySem.W.codeIn K (.ref cc19) "first_moment" = true) (k19 : PySem.W.keepIn K (.ref f19) = true)
    (a20 : PySem.W.nsIn K mainGlobals "first_moments" = some (some (.ref f20))) (l20 : K.lookup f20 = some ⟨oc20, od20, .func (PySem.W.fnOf "first_moments" "first_moments" (defArgs sFirsts) (defBody sFirsts) (defScope sFirsts) .none kV20 dc20 pm20 an20 cd20 ct20), sl20⟩) (c20 : PySem.W.codeIn K cd20 "first_moments" = true) (k20 : PySem.W.keepIn K (.ref f20) = true)
    (a21 : PySem.W.nsIn K mainGlobals "law" = some (some (.ref f21))) (l21 : K.lookup f21 = some ⟨oc21, od21, .func (PySem.W.fnOf "law" "law" (defArgs sLaw) (defBody sLaw) (defScope sLaw) .none kV21 dc21 pm21 an21 cd21 ct21), sl21⟩) (c21 : PySem.W.codeIn K cd21 "law" = true) (k21 : PySem.W.keepIn K (.ref f21) = true)
    (z0 : PySem.W.nsIn K mainGlobals "len" = some none)
    (z1 : PySem.W.nsIn K mainGlobals "range" = some none)
    (z2 : PySem.W.nsIn K mainGlobals "tuple" = some none)
    (z3 : PySem.W.nsIn K mainGlobals "sum" = some none)
    (z4 : PySem.W.nsIn K mainGlobals "min" = some none)
    (z5 : PySem.W.nsIn K mainGlobals "max" = some none)
    (z6 : PySem.W.nsIn K mainGlobals "isinstance" = some none)
    (z7 : PySem.W.nsIn K mainGlobals "int" = some none)
    (z8 : PySem.W.nsIn K mainGlobals "bool" = some none)
    (z9 : PySem.W.nsIn K mainGlobals "all" = some none)
    (z10 : PySem.W.nsIn K mainGlobals "zip" = some none)
    (z11 : PySem.W.nsIn K mainGlobals "dict" = some none)
    (z12 : PySem.W.nsIn K mainGlobals "list" = some none)
    (z13 : PySem.W.nsIn K mainGlobals "sorted" = some none)
    (y0 : PySem.W.nsIn K mainGlobals "MOST_ENTRIES" = some (some (.int 8 t1)))
    (y1 : PySem.W.nsIn K mainGlobals "MOST_LATENESS" = some (some (.int 100 t2)))
    (w11 : K.lookup cc11 = some ⟨e11, dd11, .fields vs11, sc11⟩) (v11 : vs11[11]? = some (.ref P11)) (n11 : K.lookup P11 = none) (q11 : ((recsOf q).any fun e => e.name == ("are_ways" : Str)) = true) (w16 : K.lookup cc16 = some ⟨e16, dd16, .fields vs16, sc16⟩) (v16 : vs16[11]? = some (.ref P16)) (n16 : K.lookup P16 = none) (q16 : ((recsOf q).any fun e => e.name == ("need_places" : Str)) = true) (w15 : K.lookup cc15 = some ⟨e15, dd15, .fields vs15, sc15⟩) (v15 : vs15[11]? = some (.ref P15)) (n15 : K.lookup P15 = none) (q15 : ((recsOf q).any fun e => e.name == ("are_moments" : Str)) = true) (w18 : K.lookup cc18 = some ⟨e18, dd18, .fields vs18, sc18⟩) (v18 : vs18[11]? = some (.ref P18)) (n18 : K.lookup P18 = none) (q18 : ((recsOf q).any fun e => e.name == ("needed_from" : Str)) = true) (w19 : K.lookup cc19 = some ⟨e19, dd19, .fields vs19, sc19⟩) (v19 : vs19[11]? = some (.ref P19)) (n19 : K.lookup P19 = none) (q19 : ((recsOf q).any fun e => e.name == ("first_moment" : Str)) = true) :
    LamX.LawAtS l w K CX0 7 63 "script" mg fa h := by
  have e := hfa.symm.trans (PySem.W.mg_of X G a21)
  cases e
  have F1 := fun_mk (st := sBlend) l1 c1 k1
  have F2 := fun_mk (st := sDraw) l2 c2 k2
  have F3 := fun_mk (st := sWaysL) l3 c3 k3
  have F4 := fun_mk (st := sLateL) l4 c4 k4
  have F5 := fun_mk (st := sPath) l5 c5 k5
  have F6 := fun_mk (st := sLeastL) l6 c6 k6
  have F7 := fun_mk (st := sDueM) l7 c7 k7
  have F8 := fun_mk (st := sWhole) l8 c8 k8
  have F9 := fun_mk (st := sWithin) l9 c9 k9
  have F10 := fun_mk (st := sLeadsUp) l10 c10 k10
  have F11 := func_mk (st := sAreWays) l11 c11 k11
  have F12 := fun_mk (st := sNeedWays) l12 c12 k12
  have F13 := fun_mk (st := sNeedLates) l13 c13 k13
  have F14 := fun_mk (st := sIsMoment) l14 c14 k14
  have F15 := func_mk (st := sAreMoments) l15 c15 k15
  have F16 := func_mk (st := sNeedPlaces) l16 c16 k16
  have F17 := fun_mk (st := sWayUp) l17 c17 k17
  have F18 := func_mk (st := sNeededFrom) l18 c18 k18
  have F19 := func_mk (st := sFirst) l19 c19 k19
  have F20 := fun_mk (st := sFirsts) l20 c20 k20
  have F21 := fun_mk (st := sLaw) l21 c21 k21
  have b1 := F1.binds (ps := ["cell", "place"]) fun _ _ _ _ _ _ us hl => match us, hl with | [_, _], _ => rfl
  have b2 := F2.binds (ps := ["tray", "many"]) fun _ _ _ _ _ _ us hl => match us, hl with | [_, _], _ => rfl
  have b3 := F3.binds (ps := ["tray"]) fun _ _ _ _ _ _ us hl => match us, hl with | [_], _ => rfl
  have b4 := F4.binds (ps := ["tray", "up"]) fun _ _ _ _ _ _ us hl => match us, hl with | [_, _], _ => rfl
  have b5 := F5.binds (ps := ["up", "place"]) fun _ _ _ _ _ _ us hl => match us, hl with | [_, _], _ => rfl
  have b6 := F6.binds (ps := ["up", "late", "comes", "one"]) fun _ _ _ _ _ _ us hl => match us, hl with | [_, _, _, _], _ => rfl
  have b7 := F7.binds (ps := ["up", "late", "comes", "place"]) fun _ _ _ _ _ _ us hl => match us, hl with | [_, _, _, _], _ => rfl
  have b8 := F8.binds (ps := ["thing"]) fun _ _ _ _ _ _ us hl => match us, hl with | [_], _ => rfl
  have b9 := F9.binds (ps := ["thing", "least", "greatest"]) fun _ _ _ _ _ _ us hl => match us, hl with | [_, _, _], _ => rfl
  have b10 := F10.binds (ps := ["up", "place"]) fun _ _ _ _ _ _ us hl => match us, hl with | [_, _], _ => rfl
  have b11 := F11.toFun.binds (ps := ["thing"]) fun _ _ _ _ _ _ us hl => match us, hl with | [_], _ => rfl
  have b12 := F12.binds (ps := ["up"]) fun _ _ _ _ _ _ us hl => match us, hl with | [_], _ => rfl
  have b13 := F13.binds (ps := ["up", "late"]) fun _ _ _ _ _ _ us hl => match us, hl with | [_, _], _ => rfl
  have b14 := F14.binds (ps := ["thing"]) fun _ _ _ _ _ _ us hl => match us, hl with | [_], _ => rfl
  have b15 := F15.toFun.binds (ps := ["thing"]) fun _ _ _ _ _ _ us hl => match us, hl with | [_], _ => rfl
  have b16 := F16.toFun.binds (ps := ["up", "numbers"]) fun _ _ _ _ _ _ us hl => match us, hl with | [_, _], _ => rfl
  have b17 := F17.binds (ps := ["up", "place"]) fun _ _ _ _ _ _ us hl => match us, hl with | [_, _], _ => rfl
  have b18 := F18.toFun.binds (ps := ["up", "late", "comes", "place"]) fun _ _ _ _ _ _ us hl => match us, hl with | [_, _, _, _], _ => rfl
  have b19 := F19.toFun.binds (ps := ["up", "late", "comes", "place"]) fun _ _ _ _ _ _ us hl => match us, hl with | [_, _, _, _], _ => rfl
  have b20 := F20.binds (ps := ["up", "late", "comes"]) fun _ _ _ _ _ _ us hl => match us, hl with | [_, _, _], _ => rfl
  have g1 := PySem.W.mg_of X G a1
  have g2 := PySem.W.mg_of X G a2
  have g3 := PySem.W.mg_of X G a3
  have g4 := PySem.W.mg_of X G a4
  have g5 := PySem.W.mg_of X G a5
  have g6 := PySem.W.mg_of X G a6
  have g7 := PySem.W.mg_of X G a7
  have g8 := PySem.W.mg_of X G a8
  have g9 := PySem.W.mg_of X G a9
  have g10 := PySem.W.mg_of X G a10
  have g11 := PySem.W.mg_of X G a11
  have g12 := PySem.W.mg_of X G a12
  have g13 := PySem.W.mg_of X G a13
  have g14 := PySem.W.mg_of X G a14
  have g15 := PySem.W.mg_of X G a15
  have g16 := PySem.W.mg_of X G a16
  have g17 := PySem.W.mg_of X G a17
  have g18 := PySem.W.mg_of X G a18
  have g19 := PySem.W.mg_of X G a19
  have g20 := PySem.W.mg_of X G a20
  have g21 := PySem.W.mg_of X G a21
  have m0 := PySem.W.mg_none_of X G z0
  have m1 := PySem.W.mg_none_of X G z1
  have m2 := PySem.W.mg_none_of X G z2
  have m3 := PySem.W.mg_none_of X G z3
  have m4 := PySem.W.mg_none_of X G z4
  have m5 := PySem.W.mg_none_of X G z5
  have m6 := PySem.W.mg_none_of X G z6
  have m7 := PySem.W.mg_none_of X G z7
  have m8 := PySem.W.mg_none_of X G z8
  have m9 := PySem.W.mg_none_of X G z9
  have m10 := PySem.W.mg_none_of X G z10
  have m11 := PySem.W.mg_none_of X G z11
  have m12 := PySem.W.mg_none_of X G z12
  have m13 := PySem.W.mg_none_of X G z13
  have u0 := PySem.W.mg_of X G y0
  have u1 := PySem.W.mg_of X G y1
  obtain ⟨hc11, hp11⟩ := tab_of X T q11 g11 l11 rfl rfl w11 v11
  obtain ⟨hc16, hp16⟩ := tab_of X T q16 g16 l16 rfl rfl w16 v16
  obtain ⟨hc15, hp15⟩ := tab_of X T q15 g15 l15 rfl rfl w15 v15
  obtain ⟨hc18, hp18⟩ := tab_of X T q18 g18 l18 rfl rfl w18 v18
  obtain ⟨hc19, hp19⟩ := tab_of X T q19 g19 l19 rfl rfl w19 v19
  refine ⟨PySem.W.fnOf "law" "law" (defArgs sLaw) (defBody sLaw) (defScope sLaw) .none kV21 dc21 pm21 an21 cd21 ct21, [(cc11, P11), (cc16, P16), (cc15, P15), (cc18, P18), (cc19, P19)], spLaw K P11 P16 P15 P18 P19, fun p hp => ?_, fun p hp => ?_, fun p hp => ?_, fun s v => .of_eq rfl, fun H a ns _ _ hH hS => ?_, fun base hK hN hB => ?_⟩
  · simp only [List.mem_cons, List.not_mem_nil, or_false] at hp
    rcases hp with rfl | rfl | rfl | rfl | rfl
    · exact hp11
    · exact hp16
    · exact hp15
    · exact hp18
    · exact hp19
  · simp only [List.mem_cons, List.not_mem_nil, or_false] at hp
    rcases hp with rfl | rfl | rfl | rfl | rfl
    · exact n11
    · exact n16
    · exact n15
    · exact n18
    · exact n19
  · simp only [List.mem_cons, List.not_mem_nil, or_false] at hp
    rcases hp with rfl | rfl | rfl | rfl | rfl
    · exact hc11
    · exact hc16
    · exact hc15
    · exact hc18
    · exact hc19
  · have t11 : H P11 = some (.tbl #[]) := hH (cc11, P11) (by simp)
    have t16 : H P16 = some (.tbl #[]) := hH (cc16, P16) (by simp)
    have t15 : H P15 = some (.tbl #[]) := hH (cc15, P15) (by simp)
    have t18 : H P18 = some (.tbl #[]) := hH (cc18, P18) (by simp)
    have t19 : H P19 = some (.tbl #[]) := hH (cc19, P19) (by simp)
    exact ⟨a, ns, rfl, hS, ⟨_, t11, trivial⟩, ⟨_, t16, trivial⟩, ⟨_, t15, trivial⟩, ⟨_, t18, trivial⟩, ⟨_, t19, trivial⟩, fun _ => rfl⟩
  · obtain ⟨x11a, x11b, x11c⟩ := hB (cc11, P11) (by simp)
    have B11 : GxR.TabB base mg cc11 P11 := ⟨x11a, x11b, x11c⟩
    obtain ⟨x16a, x16b, x16c⟩ := hB (cc16, P16) (by simp)
    have B16 : GxR.TabB base mg cc16 P16 := ⟨x16a, x16b, x16c⟩
    obtain ⟨x15a, x15b, x15c⟩ := hB (cc15, P15) (by simp)
    have B15 : GxR.TabB base mg cc15 P15 := ⟨x15a, x15b, x15c⟩
    obtain ⟨x18a, x18b, x18c⟩ := hB (cc18, P18) (by simp)
    have B18 : GxR.TabB base mg cc18 P18 := ⟨x18a, x18b, x18c⟩
    obtain ⟨x19a, x19b, x19c⟩ := hB (cc19, P19) (by simp)
    have B19 : GxR.TabB base mg cc19 P19 := ⟨x19a, x19b, x19c⟩
    have O1 := ok_blend (P := l.prog) (w := w) (mg := mg) (base := base) F1
    have O2 := ok_draw (P := l.prog) (w := w) (mg := mg) (base := base) F2 k1 b1 g1 O1 m0
    have O3 := ok_waysL (P := l.prog) (w := w) (mg := mg) (base := base) F3 k2 b2 g2 O2 m1 m2
    have O4 := ok_latel (P := l.prog) (w := w) (mg := mg) (base := base) F4 k2 b2 g2 O2 m2
    have O5 := ok_path (P := l.prog) (w := w) (mg := mg) (base := base) F5
    have O6 := ok_leastl (P := l.prog) (w := w) (mg := mg) (base := base) F6 k5 b5 g5 O5 m3 m4
    have O7 := ok_duem (P := l.prog) (w := w) (mg := mg) (base := base) F7 k5 b5 g5 O5 k6 b6 g6 O6 m0 m1 m3 m5
    have O8 := ok_whole (P := l.prog) (w := w) (mg := mg) (base := base) F8 m6 m7 m8
    have O9 := ok_within (P := l.prog) (w := w) (mg := mg) (base := base) F9 F8 b8 g8 O8
    have O10 := ok_leadsup (P := l.prog) (w := w) (mg := mg) (base := base) F10 m1 m0
    have O11 := ok_areways (P := l.prog) (w := w) (mg := mg) (base := base) F11 B11 k9 b9 g9 O9 k10 b10 g10 O10 m6 m2 m0 m9 m1 u0
    have O12 := ok_needways (P := l.prog) (w := w) (mg := mg) (base := base) F12 k11 b11 g11 O11
    have O13 := ok_needlates (P := l.prog) (w := w) (mg := mg) (base := base) F13 k9 b9 g9 O9 m6 m2 m0 m10 u1
    have O14 := ok_ismoment (P := l.prog) (w := w) (mg := mg) (base := base) F14 k8 b8 g8 O8
    have O15 := ok_aremoments (P := l.prog) (w := w) (mg := mg) (base := base) F15 B15 k8 b8 g8 O8 k14 b14 g14 O14 m6 m11 m9
    have O16 := ok_needplaces (P := l.prog) (w := w) (mg := mg) (base := base) F16 B16 k9 b9 g9 O9 m9 m0
    have O17 := ok_wayup (P := l.prog) (w := w) (mg := mg) (base := base) F17
    have O18 := ok_neededfrom (P := l.prog) (w := w) (mg := mg) (base := base) F18 B18 k17 b17 g17 O17 m3 m4
    have O19 := ok_first (P := l.prog) (w := w) (mg := mg) (base := base) F19 B19 k17 b17 g17 O17 k18 b18 g18 O18 m3 m5
    have O20 := ok_firsts (P := l.prog) (w := w) (mg := mg) (base := base) F20 k12 b12 g12 O12 k13 b13 g13 O13 k15 b15 g15 O15 k16 b16 g16 O16 k19 b19 g19 O19 m12 m13
    exact ok_law F21 k2 b2 g2 O2 k3 b3 g3 O3 k4 b4 g4 O4 k7 b7 g7 O7 k20 b20 g20 O20 m0 m1 m11 m6 m8
end HK

open PySem PySem.W PyProof.Rows
set_option Elab.async false
set_option maxRecDepth 100000
set_option maxHeartbeats 0 in
theorem PySem.Challenge.cw_hearkenway_k52_first_moments_holds : PySem.Challenge.rw_hearkenway_k52_first_moments.Holds := by
  w_on; o_law; k_head; (case hw => w_witness2)
  k_fill
  refine HK.walk_tabs (l := PySem.Challenge.rw_hearkenway_k52_first_moments) (n := 63) (k := 7) (x := "script") (CX := fun _ => L2.CX0) rfl (by decide) rfl ⟨rfl, by decide, by decide⟩ (fun w h Y => PySem.W.kIn_of Y) ?F (fun _ _ _ _ _ h => h)
  case F =>
    intro w mg fa h Y KX G hmg tabs
    refine' HK.all_mk KX G hmg tabs rfl ?a1 ?l1 ?c1 ?k1 ?a2 ?l2 ?c2 ?k2 ?a3 ?l3 ?c3 ?k3 ?a4 ?l4 ?c4 ?k4 ?a5 ?l5 ?c5 ?k5 ?a6 ?l6 ?c6 ?k6 ?a7 ?l7 ?c7 ?k7 ?a8 ?l8 ?c8 ?k8 ?a9 ?l9 ?c9 ?k9 ?a10 ?l10 ?c10 ?k10 ?a11 ?l11 ?c11 ?k11 ?a12 ?l12 ?c12 ?k12 ?a13 ?l13 ?c13 ?k13 ?a14 ?l14 ?c14 ?k14 ?a15 ?l15 ?c15 ?k15 ?a16 ?l16 ?c16 ?k16 ?a17 ?l17 ?c17 ?k17 ?a18 ?l18 ?c18 ?k18 ?a19 ?l19 ?c19 ?k19 ?a20 ?l20 ?c20 ?k20 ?a21 ?l21 ?c21 ?k21 ?z0 ?z1 ?z2 ?z3 ?z4 ?z5 ?z6 ?z7 ?z8 ?z9 ?z10 ?z11 ?z12 ?z13 ?y0 ?y1 ?w11 ?v11 ?n11 ?q11 ?w16 ?v16 ?n16 ?q16 ?w15 ?v15 ?n15 ?q15 ?w18 ?v18 ?n18 ?q18 ?w19 ?v19 ?n19 ?q19
    (case a1 => k_is); (case l1 => k_is); (case c1 => k_is); (case k1 => k_is); (case a2 => k_is); (case l2 => k_is); (case c2 => k_is); (case k2 => k_is); (case a3 => k_is); (case l3 => k_is); (case c3 => k_is); (case k3 => k_is); (case a4 => k_is); (case l4 => k_is); (case c4 => k_is); (case k4 => k_is); (case a5 => k_is); (case l5 => k_is); (case c5 => k_is); (case k5 => k_is); (case a6 => k_is); (case l6 => k_is); (case c6 => k_is); (case k6 => k_is); (case a7 => k_is); (case l7 => k_is); (case c7 => k_is); (case k7 => k_is); (case a8 => k_is); (case l8 => k_is); (case c8 => k_is); (case k8 => k_is); (case a9 => k_is); (case l9 => k_is); (case c9 => k_is); (case k9 => k_is); (case a10 => k_is); (case l10 => k_is); (case c10 => k_is); (case k10 => k_is); (case a11 => k_is); (case l11 => k_is); (case c11 => k_is); (case k11 => k_is); (case a12 => k_is); (case l12 => k_is); (case c12 => k_is); (case k12 => k_is); (case a13 => k_is); (case l13 => k_is); (case c13 => k_is); (case k13 => k_is); (case a14 => k_is); (case l14 => k_is); (case c14 => k_is); (case k14 => k_is); (case a15 => k_is); (case l15 => k_is); (case c15 => k_is); (case k15 => k_is); (case a16 => k_is); (case l16 => k_is); (case c16 => k_is); (case k16 => k_is); (case a17 => k_is); (case l17 => k_is); (case c17 => k_is); (case k17 => k_is); (case a18 => k_is); (case l18 => k_is); (case c18 => k_is); (case k18 => k_is); (case a19 => k_is); (case l19 => k_is); (case c19 => k_is); (case k19 => k_is); (case a20 => k_is); (case l20 => k_is); (case c20 => k_is); (case k20 => k_is); (case a21 => k_is); (case l21 => k_is); (case c21 => k_is); (case k21 => k_is); (case z0 => k_is); (case z1 => k_is); (case z2 => k_is); (case z3 => k_is); (case z4 => k_is); (case z5 => k_is); (case z6 => k_is); (case z7 => k_is); (case z8 => k_is); (case z9 => k_is); (case z10 => k_is); (case z11 => k_is); (case z12 => k_is); (case z13 => k_is); (case y0 => k_is); (case y1 => k_is); (case w11 => k_is); (case w16 => k_is); (case w15 => k_is); (case w18 => k_is); (case w19 => k_is)
    (case v11 => rfl); (case n11 => rfl); (case v16 => rfl); (case n16 => rfl); (case v15 => rfl); (case n15 => rfl); (case v18 => rfl); (case n18 => rfl); (case v19 => rfl); (case n19 => rfl)
    (case q11 => decide +kernel); (case q16 => decide +kernel); (case q15 => decide +kernel); (case q18 => decide +kernel); (case q19 => decide +kernel)
