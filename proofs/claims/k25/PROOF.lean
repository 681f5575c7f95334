import PyProof.Rows.All
import Wide.All
import OpenK.AllK
import Wide.FinOn
import HandS.AnyAll
import HandS.GenOver
import HandS.ForMost
import HandS.IsInst
import HandS.EndTab
import HandS.Wide
import HandS.Style
import HandS.Evl
import HandS.TupAny
import HandS.DictComp
import HandS.More
import HandS.Walk
import HandS.WordsDict
import KE.KDictList
import HandS.ListItems
import HandS.Conv
import HandS.SetFor
import HandS.Strs
import HandS.Zip
import HandS.DeepEq
import HandS.Dict
import PyProof.SumAny
import HandS.EndOwn
import PySem.Challenge.RW_hearkenway_k25_roads_on_time
set_option Elab.async false
set_option linter.all false
set_option maxRecDepth 100000
set_option maxHeartbeats 2000000
namespace GAl
open PySem PySem.Spec PyProof.Rows L2 GxR
open Sem (wp)

theorem Inv.kall {X : Cx} {pins : List (Addr × Obj)} {σ : L2.St} {H : Hp} {s s'' : Shared} (I : Inv X pins σ H s) (ho : s''.os = s.os) (hb : AllBare s''.gens)
    (k : ∀ b o, s.heap.get? b = some o → s''.heap.get? b = some o) : Inv X pins σ H s'' := by
  obtain ⟨h', g', d', t', o'⟩ := s''
  have e : o' = s.os := ho
  subst e
  exact I.call (h' := h') (g' := g') (d' := d') (t' := t') (ch := []) (Un.kept k) (I.hok.kept k) hb (fun b z => absurd z (by simp))

theorem bare_set {s : Shared} {g : Nat} {x : GenState} (h : AllBare s.gens) (hx : x.bare = true) : AllBare (s.setGen g x).gens := by
  intro y hy
  simp only [Shared.setGen] at hy
  rcases Array.mem_or_eq_of_mem_setIfInBounds hy with z | z
  · exact h y z
  · rw [z]; exact hx

/-- the context of a generator expression's code -/
abbrev gcx (X : Cx) (A' : Around) (s : Shared) (H : Hp) (cenv : Env) (fp : List Addr) : Cx :=
  { X with A := A', s_0 := s, H_0 := H, env := cenv, outer := X.stack, stack := cenv :: X.stack, ex := fp, fn := fun _ => false, pn := [], xe := fun _ _ => False }

section
variable {X : Cx} {pins : List (Addr × Obj)} {σ : L2.St} {H : Hp} {s : Shared}

theorem gen_start {scope : Scope} {own : List (Str × Nat)} {fp : List Addr} {A' : Around} {cenv : Env} {code : Value} {m : Str → Option Value} {h5 : Heap} {g' : Array GenState} {t5 : Nat} {a : Addr} {oa : Obj}
    (I : Inv X pins σ H s) (ok : BlkOk X.N X.env.scope scope own) (hcell : ∀ y ∈ scope.names, y.2 ≠ .cell) (hN : X.N.Nodup)
    (hfp : ∀ b ∈ fp, FpOk X pins H b ∧ b < s.heap.objs.size)
    (hce : cenv = genEnv scope (cloFrom X.env.cells scope.names []) s.heap.objs.size code builtinsNs X.env)
    (hA : A'.frames = some (cenv :: X.stack)) (hh : A'.handled = none)
    (hns : h5.Ns s.heap.objs.size m) (kp : ∀ b o, s.heap.get? b = some o → h5.get? b = some o) (hb : AllBare g')
    (ha : h5.get? a = some oa) (hla : s.heap.objs.size < a) (hda : ∀ v, oa.data ≠ .cell v) :
    Inv (gcx X A' s H cenv fp) [(a, oa)] (wipe σ (own.map (·.2))) H { s with heap := h5, gens := g', toks := t5 } := by
  have hfree : ∀ y ∈ scope.names, y.2 = .free → ∃ c, X.env.cells.lookup y.1 = some c := fun y hy e => by
    rcases ok.free y hy e with k | k
    · exact I.ok.has _ (.inl k)
    · exact I.ok.has _ (.inr k)
  have hL : cenv.locals = s.heap.objs.size := by rw [hce]; rfl
  have hcl : cenv.cells = cloFrom X.env.cells scope.names [] := by rw [hce]; rfl
  have hsc : cenv.scope = scope := by rw [hce]; rfl
  have mem : ∀ {y c}, cenv.cells.lookup y = some c → X.env.cells.lookup y = some c ∧ c < s.heap.objs.size := fun {y c} e => by
    rw [hcl] at e
    rcases cloFrom_mem (PySem.mem_of_lookup e) with hm | ⟨h1, rfl⟩
    · cases hm
    · obtain ⟨c, hc⟩ := hfree _ h1 rfl
      rw [hc]
      obtain ⟨w, z⟩ := I.cell _ _ hc
      exact ⟨rfl, z.lt⟩
  have look : ∀ {y}, scope.names.lookup y = some .free → ∃ c, cenv.cells.lookup y = some c ∧ X.env.cells.lookup y = some c := fun {y} hl => by
    have hy : (y, NameKind.free) ∈ scope.names := PySem.mem_of_lookup hl
    obtain ⟨c', e'⟩ := mem_lookup (cloFrom_has (cells := X.env.cells) (acc := []) hy)
    rw [← hcl] at e'
    exact ⟨c', e', (mem e').1⟩
  have kfree : ∀ {y k}, cenv.kindOf y = some k → (k = .cell ∨ k = .free) → scope.names.lookup y = some .free := fun {y k} hk hk' => by
    unfold Env.kindOf at hk
    rw [hsc] at hk
    rcases hk' with rfl | rfl
    · exact absurd rfl (hcell _ (PySem.mem_of_lookup hk))
    · exact hk
  have okB : (gcx X A' s H cenv fp).Ok := by
    refine ⟨I.ok.mod, by show cenv.scope.kind = _; rw [hsc]; exact ok.kind, by show cenv.globals = _; rw [hce]; exact I.ok.glob, by show cenv.builtins = _; rw [hce]; rfl, by show s.heap.objs.size ≤ cenv.locals; rw [hL]; exact Nat.le_refl _,
      fun y z c e1 e2 => I.ok.inj y z c (mem e1).1 (mem e2).1, fun y hy => ?_, fun y c z e => (by cases z), fun _ => hh, hA, .inr ⟨rfl, by show cenv.frame = some cenv.locals; rw [hce]; rfl⟩, fun b hb => ⟨?_, fun y c e z => ?_⟩, I.bs, Nat.le_trans I.ok.bsz I.sz, fun b o e hb => ?_, fun b hb z => ?_, I.stack, I.stkFree⟩
    · rcases hy with hy | hy
      · obtain ⟨c, h1, _⟩ := look (kfree hy (.inl rfl)); exact ⟨c, h1⟩
      · obtain ⟨c, h1, _⟩ := look (kfree hy (.inr rfl)); exact ⟨c, h1⟩
    · show b ≠ cenv.locals
      rw [hL]; exact Nat.ne_of_lt (hfp b hb).2
    · exact (hfp b hb).1.2.2.2.2.1 y c (mem e).1 z
    · rcases (hfp b hb).1.2.2.2.1 with z | z
      · exact I.ok.noex b o e z
      · exact absurd (Nat.lt_of_lt_of_le (Heap.lt_size e) (Nat.le_trans I.ok.bsz z)) (Nat.lt_irrefl _)
    · rcases List.mem_cons.mp (I.stkSub b z) with z | z
      · exact (hfp b hb).1.2.1 z
      · exact (hfp b hb).1.2.2.1 z
  refine ⟨okB, rfl, hb, Un.kept kp, ⟨m, ?_, fun i y av e1 e2 e3 => ?_⟩, fun y c e => ?_, ?_, fun y c e => ?_, fun p hp => ?_, I.hok.kept kp, by rw [wipe_length]; exact I.len⟩
  · show Heap.Ns _ cenv.locals _
    rw [hL]
    exact hns
  · obtain ⟨e2, hne⟩ := wipe_some e2
    have hfr : scope.names.lookup y = some .free := by
      have key : ∀ k, scope.names.lookup y = some k → k = .local ∨ k = .cell ∨ k = .free → scope.names.lookup y = some .free := fun k hk hk' => by
        have no : ¬ (k = .local ∨ k = .cell) := fun hh => by
          rcases ok.own _ (PySem.mem_of_lookup hk) hh with e' | e'
          · obtain ⟨p, hp, hpy⟩ := List.mem_map.mp e'
            have e3 := ok.ix p hp
            have : p.1 = y := hpy
            rw [this] at e3
            exact hne (List.mem_map.mpr ⟨p, hp, nodup_ix hN e3 e1⟩)
          · exact e' (List.mem_of_getElem? e1)
        rcases hk' with rfl | rfl | rfl
        · exact absurd (.inl rfl) no
        · exact absurd (.inr rfl) no
        · exact hk
      have e3 : Vis cenv.scope y := e3
      rw [hsc] at e3
      rcases e3 with e3 | e3 | e3
      · exact key _ e3 (.inl rfl)
      · exact key _ e3 (.inr (.inl rfl))
      · exact key _ e3 (.inr (.inr rfl))
    obtain ⟨m, hn, hl⟩ := I.loc
    have hvis : Vis X.env.scope y := (ok.free _ (PySem.mem_of_lookup hfr) rfl).elim (fun k => .inr (.inl k)) (fun k => .inr (.inr k))
    obtain ⟨w, r, q⟩ := hl i y av e1 e2 hvis
    refine ⟨w, r, .inr ⟨.inr (by show cenv.scope.names.lookup y = _; rw [hsc]; exact hfr), ?_⟩⟩
    obtain ⟨c, h1, h2⟩ := look hfr
    rcases q with ⟨k, _⟩ | ⟨_, c', e', z⟩
    · have k : X.env.scope.names.lookup y = some .local := k
      rcases ok.free _ (PySem.mem_of_lookup hfr) rfl with k' | k' <;> rw [show X.env.scope.names.lookup y = _ from k'] at k <;> cases k
    · rw [h2] at e'; cases e'
      exact ⟨c, h1, z.keeps kp⟩
  · obtain ⟨w, z⟩ := I.cell y c (mem e).1
    exact ⟨w, z.keeps kp⟩
  · show H cenv.locals = none
    rw [hL]; exact I.hok.fresh (Nat.le_refl _)
  · exact I.freeC y c (mem e).1
  · have hp : p ∈ ([] : List (Addr × Obj)) ++ [(a, oa)] := hp
    simp only [List.nil_append, List.mem_singleton] at hp
    subst hp
    refine ⟨ha, I.hok.fresh (Nat.le_of_lt hla), ?_, ?_, hda⟩
    · show a ≠ cenv.locals
      rw [hL]; exact Nat.ne_of_gt hla
    · intro z
      have z : a ∈ frs X.stack := z
      obtain ⟨_, o, ho, _⟩ := I.stack.mem z
      exact absurd (Nat.lt_trans hla (Heap.lt_size ho)) (Nat.lt_irrefl _)
end
end GAl

set_option Elab.async false
set_option linter.all false
set_option maxRecDepth 100000
set_option maxHeartbeats 2000000
namespace GAl
open PySem PySem.Spec PyProof.Rows L2 GxR
open Sem (wp)

/-- the generator's end and what it hands out -/
def REnd (XG : Cx) (a : Addr) (oa : Obj) (σw : L2.St) (Qd : Hp → Prop) : Nat → Shared → Shared → Prop := fun _ _ s₁ => ∃ H4, Inv XG [(a, oa)] σw H4 s₁ ∧ Qd H4
def YOut (XG : Cx) (a : Addr) (oa : Obj) (stp : V → Hp → Prop → Prop) : Protocol := fun _ _ v s kap =>
  ∃ y H4 σ4, Inv XG [(a, oa)] σ4 H4 s ∧ RelV y v ∧ stp y H4 (∀ s'' : Shared, s''.os = s.os → AllBare s''.gens → (∀ b o, s.heap.get? b = some o → s''.heap.get? b = some o) → kap (.send .none) s'')

/-- what a turn asks (W by the turn and a measure) -/
def GTurn (J : It) (g : TG) (tt : TT) (te : TE) (vs : List Nat) (σw : L2.St) (Qd : Hp → Prop) (stp : V → Hp → Prop → Prop) (W : Nat → Nat → Hp → Prop) : Prop :=
  ∀ i m H, W i m H → (J.stop i H ∧ Qd H) ∨ (J.go i H ∧ ∃ Nx : Hp → Prop, (∀ H', Nx H' → ∃ m', m' < m ∧ W (i + 1) m' H') ∧ ∀ x H', J.yld i H x H' → g x σw H' fun σ2 H2 => wipe σ2 vs = σw ∧ tt σ2 H2 fun b H3 =>
    if b = true then te σ2 H3 fun y H4 => stp y H4 (Nx H4) else Nx H3)

section
variable {X : Cx} {σ : L2.St} {elt tg iter : Expr} {ifs : List Expr} {scope : Scope} {pos : Pos} {it a : Addr} {oa : Obj} {fp : List Addr} {cenv : Env} {AG : Around} {s4 : Shared} {Hs : Hp} {J : It} {tn : Nat → Heap → Prop}
  {g : TG} {tt : TT} {te : TE} {vs : List Nat} {σw : L2.St} {Qd : Hp → Prop} {stp : V → Hp → Prop → Prop} {W : Nat → Nat → Hp → Prop}

theorem gen_loop (hc : X.calm = true) (hco : cenv.scope.isCoroutine = false) (T : Turn X.prog X.w X.K tg J fp it tn) (hafp : ∀ b ∈ fp, a ≠ b)
    (hmono : ∀ y H (p q : Prop), (p → q) → stp y H p → stp y H q)
    (pg : PG (gcx X (AG.over (.compLoop (.GeneratorExp elt [⟨tg, iter, ifs, 0⟩] scope pos) 0 (.ref it) .none cenv) []) s4 Hs cenv fp) tg g)
    (pt : PTs (gcx X (AG.over (.compLoop (.GeneratorExp elt [⟨tg, iter, ifs, 0⟩] scope pos) 0 (.ref it) .none cenv) []) s4 Hs cenv fp) ifs tt)
    (pe : PE (gcx X (AG.over (.compLoop (.GeneratorExp elt [⟨tg, iter, ifs, 0⟩] scope pos) 0 (.ref it) .none cenv) []) s4 Hs cenv fp) elt te)
    (hW : GTurn J g tt te vs σw Qd stp W) :
    ∀ (m n i : Nat) (s₀ s : Shared) (H : Hp), m < n → W i m H → Inv (gcx X (AG.over (.compLoop (.GeneratorExp elt [⟨tg, iter, ifs, 0⟩] scope pos) 0 (.ref it) .none cenv) []) s4 Hs cenv fp) [(a, oa)] σw H s → tn i s.heap → (∀ b ∈ fp, H b = none) →
      Seg (model X.prog X.w) AG (fun n s₀ r s₁ => r = .ok .next ∧ REnd (gcx X (AG.over (.compLoop (.GeneratorExp elt [⟨tg, iter, ifs, 0⟩] scope pos) 0 (.ref it) .none cenv) []) s4 Hs cenv fp) a oa σw Qd n s₀ s₁)
        (YOut (gcx X (AG.over (.compLoop (.GeneratorExp elt [⟨tg, iter, ifs, 0⟩] scope pos) 0 (.ref it) .none cenv) []) s4 Hs cenv fp) a oa stp) n s₀
        (.compLoop (.GeneratorExp elt [⟨tg, iter, ifs, 0⟩] scope pos) 0 (.ref it) .none cenv)
        ((model X.prog X.w).den (.compLoop (.GeneratorExp elt [⟨tg, iter, ifs, 0⟩] scope pos) 0 (.ref it) .none cenv)) [] s := by
  generalize hXG : gcx X (AG.over (.compLoop (.GeneratorExp elt [⟨tg, iter, ifs, 0⟩] scope pos) 0 (.ref it) .none cenv) []) s4 Hs cenv fp = XG at pg pt pe ⊢
  have hA : XG.A = AG.over (.compLoop (.GeneratorExp elt [⟨tg, iter, ifs, 0⟩] scope pos) 0 (.ref it) .none cenv) [] := by rw [← hXG]
  have hP : XG.prog = X.prog := by rw [← hXG]
  have hw : XG.w = X.w := by rw [← hXG]
  have hK : XG.K = X.K := by rw [← hXG]
  have hcalm : XG.calm = true := by rw [← hXG]; exact hc
  have henv : XG.env = cenv := by rw [← hXG]
  have hxe : XG.xe = fun _ _ => False := by rw [← hXG]
  have hex : XG.ex = fp := by rw [← hXG]
  have hpn : XG.pn = [] := by rw [← hXG]
  have stat : ∀ {σ' : L2.St} {H' : Hp} {s' : Shared}, Inv XG [(a, oa)] σ' H' s' → (∀ b ∈ fp, H' b = none) → ∀ b ∈ fp, FpOk XG [(a, oa)] H' b := fun {σ' H' s'} I' hn b hb =>
    ⟨hn b hb, (I'.ok.exf b (by rw [hex]; exact hb)).1, I'.ok.exfs b (by rw [hex]; exact hb), .inl (by rw [hex]; exact hb), fun x c e => (I'.ok.exf b (by rw [hex]; exact hb)).2 x c e, fun p hp => by
      rw [hpn] at hp
      simp only [List.nil_append, List.mem_singleton] at hp
      subst hp
      exact hafp b hb⟩
  intro m
  induction m using Nat.strongRecOn with
  | ind m ih =>
    intro n i s₀ s H hmn w I st nH
    show Seg _ AG _ _ _ s₀ _ ((compTurn (.GeneratorExp elt [⟨tg, iter, ifs, 0⟩] scope pos) 0 (.ref it) .none cenv).onRaise (leaving cenv)) [] s
    rw [compTurn_gen, Sem.onRaise_eq_wrap]
    refine seg_bind_wrap (wpAny_standAt ?_)
    rcases hW i m H w with ⟨stop, qq⟩ | ⟨go, Nx, hNx, step⟩
    · have td := T.done XG hP hw hK hcalm i _ s _ H (fun _ _ => False) I (stat I nH) st stop
      rw [hA] at td
      refine seg_bind_wrap (thnF td fun r s1 ⟨hr, I1⟩ => ?_)
      subst hr
      exact seg_end (.ok .next) ⟨rfl, H, I1, qq⟩
    · have ti := T.item XG hP hw hK hcalm i _ s _ H (fun _ _ => False) I (stat I nH) st go
      rw [hA] at ti
      refine seg_bind_wrap (thnF ti fun r s1 ⟨u, hr, h1⟩ => ?_)
      subst hr
      refine seg_bind_wrap (thnF h1 fun _ s2 ⟨x, H2, I2, r2, y2, st2, n2⟩ => ?_)
      have I2' := I2.pinned (stat I2 n2) (T.obj _ _ st2)
      have rg := pg.run _ s2 _ H2 x u _ I2' r2 (step x H2 y2)
      rw [hA, hP, hw, henv, hxe] at rg
      refine seg_bind_wrap (thnF rg fun _ s3 ⟨σ3, H3, I3, hw3, q3⟩ => ?_)
      have rt := pt.run _ s3 σ3 H3 _ I3 q3
      rw [hA, hP, hw, henv, hxe] at rt
      refine seg_bind_wrap (thnF rt fun b s5 ⟨H5, I5, q5⟩ => ?_)
      have fin : ∀ {s' s'' : Shared} {H' : Hp}, Inv XG ([(a, oa)] ++ pinsAt fp s2.heap) σ3 H' s' → s''.os = s'.os → AllBare s''.gens → (∀ b o, s'.heap.get? b = some o → s''.heap.get? b = some o) → Nx H' →
          ∃ m', m' < m ∧ W (i + 1) m' H' ∧ Inv XG [(a, oa)] σw H' s'' ∧ tn (i + 1) s''.heap ∧ (∀ b ∈ fp, H' b = none) := fun {s' s'' H'} I' e1 e2 e3 nx => by
        obtain ⟨m', hm, w'⟩ := hNx H' nx
        have pin' : ∀ b ∈ fp, ∀ o, s2.heap.get? b = some o → s'.heap.get? b = some o ∧ H' b = none := fun b hb o e =>
          let z := I'.pin (b, o) (List.mem_append_right _ (List.mem_append_right _ (mem_pinsAt hb e)))
          ⟨z.1, z.2.1⟩
        have hl : σw.length = σ3.length := by rw [← hw3, wipe_length]
        refine ⟨m', hm, w', Inv.kall ((I'.unpinned (pins := [(a, oa)])).weak hl (fun j v e => ?_)) e1 e2 e3, T.keep _ _ _ st2 fun b hb o e => e3 b o (pin' b hb o e).1, fun b hb => ?_⟩
        · rw [← hw3] at e
          exact (wipe_some e).1
        · obtain ⟨o, e, _⟩ := T.obj _ _ st2 b hb
          exact (pin' b hb o e).2
      cases b with
      | false =>
        simp only [Bool.false_eq_true, if_false] at q5 ⊢
        obtain ⟨m', hm, w', I', st', n'⟩ := fin I5 rfl I5.bare (fun _ _ e => e) q5
        exact seg_again rfl (ih m' hm n (i + 1) s₀ s5 H5 (by omega) w' I' st' n')
      | true =>
        simp only [if_true] at q5 ⊢
        have hy : ∀ v, yieldOut cenv v = yieldValue v := fun v => by simp only [yieldOut, hco, Bool.false_eq_true, if_false]
        simp only [hy]
        rw [Sem.bind_eq_wrap', Sem.bind_eq_wrap', Sem.wrap_wrap, Sem.wrap_wrap]
        have re := pe.run _ s5 σ3 H5 _ I5 q5
        rw [hA, hP, hw, henv, hxe] at re
        refine seg_wrap (thnF re fun z s6 ⟨yv, H6, I6, r6, q6⟩ => ?_)
        cases n with
        | zero => exact absurd hmn (Nat.not_lt_zero _)
        | succ n =>
          refine seg_at (seg_yield rfl rfl rfl ⟨yv, H6, σ3, I6.unpinned (pins := [(a, oa)]), r6, hmono _ _ _ _ (fun nx s'' e1 e2 e3 => ?_) q6⟩)
          obtain ⟨m', hm, w', I', st', n'⟩ := fin I6 e1 e2 e3 nx
          exact seg_again rfl (ih m' hm n (i + 1) s'' s'' H6 (by omega) w' I' st' n')

theorem gen_begin (hc : X.calm = true) (hco : cenv.scope.isCoroutine = false) (T : Turn X.prog X.w X.K tg J fp it tn) (hafp : ∀ b ∈ fp, a ≠ b)
    (hmono : ∀ y H (p q : Prop), (p → q) → stp y H p → stp y H q)
    (pg : PG (gcx X (AG.over (.compLoop (.GeneratorExp elt [⟨tg, iter, ifs, 0⟩] scope pos) 0 (.ref it) .none cenv) []) s4 Hs cenv fp) tg g)
    (pt : PTs (gcx X (AG.over (.compLoop (.GeneratorExp elt [⟨tg, iter, ifs, 0⟩] scope pos) 0 (.ref it) .none cenv) []) s4 Hs cenv fp) ifs tt)
    (pe : PE (gcx X (AG.over (.compLoop (.GeneratorExp elt [⟨tg, iter, ifs, 0⟩] scope pos) 0 (.ref it) .none cenv) []) s4 Hs cenv fp) elt te)
    (hW : GTurn J g tt te vs σw Qd stp W) (m : Nat) (s₀ s : Shared) (H : Hp) (w : W 0 m H)
    (I : Inv (gcx X (AG.over (.compLoop (.GeneratorExp elt [⟨tg, iter, ifs, 0⟩] scope pos) 0 (.ref it) .none cenv) []) s4 Hs cenv fp) [(a, oa)] σw H s) (st : tn 0 s.heap) (nH : ∀ b ∈ fp, H b = none) :
      Seg (model X.prog X.w) AG (fun n s₀ r s₁ => r = .ok .next ∧ REnd (gcx X (AG.over (.compLoop (.GeneratorExp elt [⟨tg, iter, ifs, 0⟩] scope pos) 0 (.ref it) .none cenv) []) s4 Hs cenv fp) a oa σw Qd n s₀ s₁)
        (YOut (gcx X (AG.over (.compLoop (.GeneratorExp elt [⟨tg, iter, ifs, 0⟩] scope pos) 0 (.ref it) .none cenv) []) s4 Hs cenv fp) a oa stp) (m + 1) s₀
        (.compStart (.GeneratorExp elt [⟨tg, iter, ifs, 0⟩] scope pos) 0 (.ref it) .none cenv)
        ((model X.prog X.w).den (.compStart (.GeneratorExp elt [⟨tg, iter, ifs, 0⟩] scope pos) 0 (.ref it) .none cenv)) [] s := by
  have loop := gen_loop (a := a) (oa := oa) hc hco T hafp hmono pg pt pe hW m (m + 1) 0 s₀ s H (Nat.lt_succ_self _) w I st nH
  show Seg _ AG _ _ _ s₀ _ ((compStart (.GeneratorExp elt [⟨tg, iter, ifs, 0⟩] scope pos) 0 (.ref it) .none cenv).onRaise (leaving cenv)) [] s
  unfold compStart
  rw [Sem.onRaise_eq_wrap]
  show Seg _ AG _ _ _ s₀ _ ((ask >>= _).wrap _ _ _ _) [] s
  refine seg_bind_wrap (wpAny_askSetting ?_)
  split
  · exact seg_again rfl loop
  · first
      | exact seg_bind_wrap (wpAny_rule (seg_bind_wrap (wpAny_standAt (seg_bind_wrap (T.self _ 0 s _ _ st (seg_again rfl loop))))))
      | (refine seg_bind_wrap (wpAny_rule ?_); show Seg _ AG _ _ _ s₀ _ ((standAt iter.pos >>= _).wrap _ _ _ _) [] s; exact seg_bind_wrap (wpAny_standAt (seg_bind_wrap (T.self _ 0 s _ _ st (seg_again rfl loop)))))
end

/-! ### the consumer's side -/
section
variable {prog : Program} {w : World} {A : Around} {E : Value → Shared → Prop} {s : Shared}
theorem next_sz {a : Addr} {g n : Nat} {gs : GenState} {P : Nat → Shared → Shared → Prop} {Y : Protocol} {Q : Option Value → Shared → Prop} (hh : A.handled = none)
    (hl : s.heap.NoLimit) (hroom : A.depth < recursionLimit)
    (hg : s.heap.IsGen a g) (hgs : s.gens[g]? = some gs)
    (hgo : gs.Goes (model prog w) A.in1 (fun n s₀ r s₁ => r = .ok .next ∧ P n s₀ s₁) Y n (.send .none) (s.setGen g .running))
    (hY : ∀ v s₁ gs', s.gens.size ≤ s₁.gens.size → gs'.bare = true → Y (n - 1) (s.setGen g .running) v s₁ (fun r' s'' => match n with
        | 0 => False
        | m + 1 => gs'.Goes (model prog w) A.in1 (fun n s₀ r s₁ => r = .ok .next ∧ P n s₀ s₁) Y m r' s'') → Q (some v) (s₁.setGen g gs'))
    (hP : ∀ s₁, s.gens.size ≤ s₁.gens.size → P n (s.setGen g .running) s₁ → ∀ h', (∀ b o, s₁.heap.get? b = some o → h'.get? b = some o) → Q none { s₁.setGen g .finished with heap := h' }) :
    wpAny (model prog w) A (pyNext (.ref a)) Q E s := by
  refine GenW.wpAny_gsz (n := s.gens.size) (Nat.le_refl _) (wpAny_pyNext_genexpQ (E := fun e s' => s.gens.size ≤ s'.gens.size → E e s') (Q := fun r s' => s.gens.size ≤ s'.gens.size → Q r s') hh hl hroom hg hgs hgo
    (fun v s₁ gs' hb hv hz => hY v s₁ gs' (by rw [GenW.setGen_size] at hz; exact hz) hb hv)
    (fun s₁ hp h' hk hz => hP s₁ (by have z : s.gens.size ≤ (s₁.setGen g .finished).gens.size := hz; rw [GenW.setGen_size] at z; exact z) hp h' hk))
end
end GAl

set_option Elab.async false
set_option linter.all false
set_option maxRecDepth 100000
set_option maxHeartbeats 2000000
namespace GAl
open PySem PySem.Spec PyProof.Rows L2 GxR
open Sem (wp)

/-- the generator stands, ready for its next turn, at most n - 1 more are to come -/
def GSt (M : Model) (AG : Around) (P : Nat → Shared → Shared → Prop) (Y : Protocol) (a : Addr) (g n : Nat) (s : Shared) : Prop :=
  s.heap.IsGen a g ∧ s.heap.NoLimit ∧ ∃ gs, s.gens[g]? = some gs ∧ gs.Goes M AG (fun n s₀ r s₁ => r = .ok .next ∧ P n s₀ s₁) Y n (.send .none) (s.setGen g .running)

def stpAll (Qf : Hp → Prop) : V → Hp → Prop → Prop := fun y H N => ∃ c, y = .bl c ∧ (if c = true then N else Qf H)
def stpAny (Qt : Hp → Prop) : V → Hp → Prop → Prop := fun y H N => ∃ c, y = .bl c ∧ (if c = true then Qt H else N)
theorem stpAll_mono {Qf : Hp → Prop} : ∀ y H (p q : Prop), (p → q) → stpAll Qf y H p → stpAll Qf y H q := fun y H p q h ⟨c, e, k⟩ => ⟨c, e, by
  cases c with
  | true => simp only [if_true] at k ⊢; exact h k
  | false => simp only [Bool.false_eq_true, if_false] at k ⊢; exact k⟩
theorem stpAny_mono {Qf : Hp → Prop} : ∀ y H (p q : Prop), (p → q) → stpAny Qf y H p → stpAny Qf y H q := fun y H p q h ⟨c, e, k⟩ => ⟨c, e, by
  cases c with
  | false => simp only [Bool.false_eq_true, if_false] at k ⊢; exact h k
  | true => simp only [if_true] at k ⊢; exact k⟩

theorem gens_some {s : Shared} {g k : Nat} {gs : GenState} (h : s.gens[g]? = some gs) (hk : s.gens.size ≤ k) {s₁ : Shared} (e : s₁.gens.size = k) : ∃ x, s₁.gens[g]? = some x := by
  obtain ⟨hl, _⟩ := Array.getElem?_eq_some_iff.mp h
  exact ⟨_, Array.getElem?_eq_getElem (by omega)⟩

section
variable {X XG : Cx} {A : Around} {a : Addr} {oa : Obj} {g : Nat} {σw : L2.St} {Qd Qf : Hp → Prop} {R : Result → Shared → Prop}
theorem isgen_of {h h' : Heap} (hg : h.IsGen a g) (ho : h.get? a = some oa) (ho' : h'.get? a = some oa) : h'.IsGen a g := by
  obtain ⟨o, nm, qn, e, r⟩ := hg
  rw [ho] at e; cases e
  exact ⟨_, nm, qn, ho', r⟩

/-- all.loop over it -/
theorem all_loop (hprog : XG.prog = X.prog) (hw : XG.w = X.w) (hh : A.handled = none) (hroom : A.depth < recursionLimit) (hpn : XG.pn = [])
    (hfin : ∀ s' σ' H', Inv XG [(a, oa)] σ' H' s' → Qd H' → R (.ok (.ret (.bool true))) s')
    (hcut : ∀ s' σ' H', Inv XG [(a, oa)] σ' H' s' → Qf H' → R (.ok (.ret (.bool false))) s') :
    ∀ (n : Nat) (s : Shared), s.heap.get? a = some oa → GSt (model X.prog X.w) A.in1.in1 (REnd XG a oa σw Qd) (YOut XG a oa (stpAll Qf)) a g n s → codeAny (model X.prog X.w) A (.builtin "all.loop" ⟨[.ref a], []⟩) R s := by
  intro n
  induction n with
  | zero =>
    intro s hoa ⟨hg, hl, gs, hgs, hgo⟩
    refine codeAny_builtin F.entry_all_loop ?_
    rw [Around.under_plainId F.plain_all_loop _]
    show wpAny _ A.in1 (pyNext (.ref a) >>= _) _ _ s
    refine wpAny_bind (next_sz (A := A.in1) hh hl hroom hg hgs hgo (fun v s₁ gs' hsz hb hv => ?_) (fun s₁ hsz hp h' hk => ?_))
    · obtain ⟨y, H4, σ4, I4, r, c, e, k⟩ := hv
      subst e
      cases r
      refine wpAny_bind (wpAny_holding (wpAny_truthy_bool ?_))
      refine wpAny_bind (wpAny_letGo ?_)
      cases c with
      | true =>
        simp only [if_true] at k
        exact False.elim (k s₁ rfl I4.bare fun _ _ e => e)
      | false =>
        simp only [Bool.false_eq_true, if_false] at k ⊢
        refine wpAny_bind (wpAny_rule (wpAny_pure ?_))
        exact hcut _ σ4 H4 (Inv.kall I4 rfl (bare_set I4.bare hb) fun _ _ e => e) k
    · obtain ⟨H4, I4, q⟩ := hp
      refine wpAny_bind (wpAny_rule (wpAny_pure ?_))
      exact hfin _ σw H4 (Inv.kall I4 rfl (bare_set I4.bare rfl) hk) q
  | succ n ih =>
    intro s hoa ⟨hg, hl, gs, hgs, hgo⟩
    refine codeAny_builtin F.entry_all_loop ?_
    rw [Around.under_plainId F.plain_all_loop _]
    show wpAny _ A.in1 (pyNext (.ref a) >>= _) _ _ s
    refine wpAny_bind (next_sz (A := A.in1) hh hl hroom hg hgs hgo (fun v s₁ gs' hsz hb hv => ?_) (fun s₁ hsz hp h' hk => ?_))
    · obtain ⟨y, H4, σ4, I4, r, c, e, k⟩ := hv
      subst e
      cases r
      refine wpAny_bind (wpAny_holding (wpAny_truthy_bool ?_))
      refine wpAny_bind (wpAny_letGo ?_)
      cases c with
      | true =>
        simp only [if_true] at k ⊢
        have ha : s₁.heap.get? a = some oa := (I4.pin (a, oa) (by rw [hpn]; simp)).1
        obtain ⟨x, hx⟩ := gens_some hgs hsz rfl
        refine wpAny_pure ⟨plainId_quiet F.plain_all_loop _, ih (s₁.setGen g gs') ha ⟨isgen_of hg hoa ha, I4.nolimit, gs', setGen_self hx, ?_⟩⟩
        exact k ((s₁.setGen g gs').setGen g .running) rfl (bare_set (bare_set I4.bare hb) rfl) fun _ _ e => e
      | false =>
        simp only [Bool.false_eq_true, if_false] at k ⊢
        refine wpAny_bind (wpAny_rule (wpAny_pure ?_))
        exact hcut _ σ4 H4 (Inv.kall I4 rfl (bare_set I4.bare hb) fun _ _ e => e) k
    · obtain ⟨H4, I4, q⟩ := hp
      refine wpAny_bind (wpAny_rule (wpAny_pure ?_))
      exact hfin _ σw H4 (Inv.kall I4 rfl (bare_set I4.bare rfl) hk) q
/-- any.loop over it -/
theorem any_loop (hprog : XG.prog = X.prog) (hw : XG.w = X.w) (hh : A.handled = none) (hroom : A.depth < recursionLimit) (hpn : XG.pn = [])
    (hfin : ∀ s' σ' H', Inv XG [(a, oa)] σ' H' s' → Qd H' → R (.ok (.ret (.bool false))) s')
    (hcut : ∀ s' σ' H', Inv XG [(a, oa)] σ' H' s' → Qf H' → R (.ok (.ret (.bool true))) s') :
    ∀ (n : Nat) (s : Shared), s.heap.get? a = some oa → GSt (model X.prog X.w) A.in1.in1 (REnd XG a oa σw Qd) (YOut XG a oa (stpAny Qf)) a g n s → codeAny (model X.prog X.w) A (.builtin "any.loop" ⟨[.ref a], []⟩) R s := by
  intro n
  induction n with
  | zero =>
    intro s hoa ⟨hg, hl, gs, hgs, hgo⟩
    refine codeAny_builtin F.entry_any_loop ?_
    rw [Around.under_plainId F.plain_any_loop _]
    show wpAny _ A.in1 (pyNext (.ref a) >>= _) _ _ s
    refine wpAny_bind (next_sz (A := A.in1) hh hl hroom hg hgs hgo (fun v s₁ gs' hsz hb hv => ?_) (fun s₁ hsz hp h' hk => ?_))
    · obtain ⟨y, H4, σ4, I4, r, c, e, k⟩ := hv
      subst e
      cases r
      refine wpAny_bind (wpAny_holding (wpAny_truthy_bool ?_))
      refine wpAny_bind (wpAny_letGo ?_)
      cases c with
      | false =>
        simp only [Bool.false_eq_true, if_false] at k
        exact False.elim (k s₁ rfl I4.bare fun _ _ e => e)
      | true =>
        simp only [if_true] at k ⊢
        refine wpAny_bind (wpAny_rule (wpAny_pure ?_))
        exact hcut _ σ4 H4 (Inv.kall I4 rfl (bare_set I4.bare hb) fun _ _ e => e) k
    · obtain ⟨H4, I4, q⟩ := hp
      refine wpAny_bind (wpAny_rule (wpAny_pure ?_))
      exact hfin _ σw H4 (Inv.kall I4 rfl (bare_set I4.bare rfl) hk) q
  | succ n ih =>
    intro s hoa ⟨hg, hl, gs, hgs, hgo⟩
    refine codeAny_builtin F.entry_any_loop ?_
    rw [Around.under_plainId F.plain_any_loop _]
    show wpAny _ A.in1 (pyNext (.ref a) >>= _) _ _ s
    refine wpAny_bind (next_sz (A := A.in1) hh hl hroom hg hgs hgo (fun v s₁ gs' hsz hb hv => ?_) (fun s₁ hsz hp h' hk => ?_))
    · obtain ⟨y, H4, σ4, I4, r, c, e, k⟩ := hv
      subst e
      cases r
      refine wpAny_bind (wpAny_holding (wpAny_truthy_bool ?_))
      refine wpAny_bind (wpAny_letGo ?_)
      cases c with
      | false =>
        simp only [Bool.false_eq_true, if_false] at k ⊢
        have ha : s₁.heap.get? a = some oa := (I4.pin (a, oa) (by rw [hpn]; simp)).1
        obtain ⟨x, hx⟩ := gens_some hgs hsz rfl
        refine wpAny_pure ⟨plainId_quiet F.plain_any_loop _, ih (s₁.setGen g gs') ha ⟨isgen_of hg hoa ha, I4.nolimit, gs', setGen_self hx, ?_⟩⟩
        exact k ((s₁.setGen g gs').setGen g .running) rfl (bare_set (bare_set I4.bare hb) rfl) fun _ _ e => e
      | true =>
        simp only [if_true] at k ⊢
        refine wpAny_bind (wpAny_rule (wpAny_pure ?_))
        exact hcut _ σ4 H4 (Inv.kall I4 rfl (bare_set I4.bare hb) fun _ _ e => e) k
    · obtain ⟨H4, I4, q⟩ := hp
      refine wpAny_bind (wpAny_rule (wpAny_pure ?_))
      exact hfin _ σw H4 (Inv.kall I4 rfl (bare_set I4.bare rfl) hk) q
end
end GAl

set_option Elab.async false
set_option linter.all false
set_option maxRecDepth 100000
set_option maxHeartbeats 2000000
namespace GAl
open PySem PySem.Spec PyProof.Rows L2 GxR
open Sem (wp)

/-- the scope of a generator expression -/
structure GSc (N : List Str) (sc scope : Scope) (own : List (Str × Nat)) : Prop where
  blk : BlkOk N sc scope own
  co : scope.isCoroutine = false
  cell : ∀ y ∈ scope.names, y.2 ≠ .cell
  dot : scope.names.lookup (".0" : Str) = some NameKind.local
def gscC (N : List Str) (sc scope : Scope) (own : List (Str × Nat)) : Bool :=
  blkC N sc scope own && !scope.isCoroutine && (scope.names.all fun y => match y.2 with | .cell => false | _ => true) && (match scope.names.lookup (".0" : Str) with | some .local => true | _ => false)
theorem gsc_by {N : List Str} {sc scope : Scope} {own : List (Str × Nat)} (h : gscC N sc scope own = true) : GSc N sc scope own := by
  unfold gscC at h
  simp only [Bool.and_eq_true, List.all_eq_true, Bool.not_eq_true'] at h
  obtain ⟨⟨⟨h1, h2⟩, h3⟩, h4⟩ := h
  refine ⟨blkOk_by h1, h2, fun y hy e => ?_, ?_⟩
  · have q := h3 y hy
    rw [e] at q
    exact Bool.noConfusion q
  · split at h4
    · assumption
    · cases h4

/-- what a consumed generator expression asks: the walked thing, the def's table, the turns -/
def tGenB (P : Addr) (wi : TI) (g : TG) (tt : TT) (te : TE) (vs : List Nat) (stp : V → Hp → Prop → Prop) (Qd : Hp → Prop) : L2.St → Hp → Prop := fun σ H =>
  wi σ H fun J H1 => TabG H1 P ∧ ∀ H2, Tabbed P H1 H2 → ∃ W : Nat → Nat → Hp → Prop, (∃ m, W 0 m H2) ∧ GTurn J g tt te vs (wipe σ vs) Qd stp W
def tAllG (P : Addr) (wi : TI) (g : TG) (tt : TT) (te : TE) (vs : List Nat) : TE := fun σ H Q => tGenB P wi g tt te vs (stpAll (Q (.bl false))) (Q (.bl true)) σ H
def tAnyG (P : Addr) (wi : TI) (g : TG) (tt : TT) (te : TE) (vs : List Nat) : TE := fun σ H Q => tGenB P wi g tt te vs (stpAny (Q (.bl true))) (Q (.bl false)) σ H

section
variable {X : Cx} {pins : List (Addr × Obj)} {σ : L2.St} {H : Hp} {s : Shared}
theorem gen_make {c P : Addr} {elt tg iter : Expr} {ifs : List Expr} {gpos : Pos} {scope : Scope} {own : List (Str × Nat)} {wi : TI} {g : TG} {tt : TT} {te : TE} {k : Nat} {stp : V → Hp → Prop → Prop} {Qd : Hp → Prop} {Q' : Value → Shared → Prop}
    (hr : Room (k + 1) X.A) (hc : X.calm = true) (hN : X.N.Nodup) (TB : TabB X.base X.mg c P) (hcode : X.env.code = .ref c) (S : GSc X.N X.env.scope scope own) (hi : PI X tg iter wi)
    (hg : ∀ (A' : Around), Room k A' → ∀ (s : Shared) (H : Hp) (cl : List (Str × Addr)) (C : Addr) (code : Value) (fp : List Addr), PG (gcx X A' s H (genEnv scope cl C code builtinsNs X.env) fp) tg g)
    (ht : ∀ (A' : Around), Room k A' → ∀ (s : Shared) (H : Hp) (cl : List (Str × Addr)) (C : Addr) (code : Value) (fp : List Addr), PTs (gcx X A' s H (genEnv scope cl C code builtinsNs X.env) fp) ifs tt)
    (he : ∀ (A' : Around), Room k A' → ∀ (s : Shared) (H : Hp) (cl : List (Str × Addr)) (C : Addr) (code : Value) (fp : List Addr), PE (gcx X A' s H (genEnv scope cl C code builtinsNs X.env) fp) elt te)
    (hmono : ∀ y H (p q : Prop), (p → q) → stp y H p → stp y H q)
    (hs : ∀ v, genFold iter X.env v = pure v) (I : Inv X pins σ H s) (h : tGenB P wi g tt te (own.map (·.2)) stp Qd σ H)
    (hQ : ∀ (XG : Cx) (a : Addr) (oa : Obj) (gn n : Nat) (σw : L2.St) (s5 : Shared), XG.prog = X.prog → XG.w = X.w → XG.pn = [] → s5.heap.get? a = some oa →
      GSt (model X.prog X.w) X.A.in1.in1 (REnd XG a oa σw Qd) (YOut XG a oa stp) a gn n s5 → (∀ s' σ' H', Inv XG [(a, oa)] σ' H' s' → Inv X pins σ H' s') → Q' (.ref a) s5) :
    wpAny (model X.prog X.w) X.A (eval (.GeneratorExp elt [⟨tg, iter, ifs, 0⟩] scope gpos) X.env) Q' X.xe s := by
  have ok := S.blk
  have hfree : ∀ y ∈ scope.names, y.2 = .free → ∃ c, X.env.cells.lookup y.1 = some c := fun y hy e => by
    rcases ok.free y hy e with k | k
    · exact I.ok.has _ (.inl k)
    · exact I.ok.has _ (.inr k)
  refine wpAny_GeneratorExp_make S.co (closure_ok hfree) S.cell S.dot ok.kind (by have := hr.dp; omega) ?_ hs
  refine thn (hi.run pins s σ H _ I h) fun xv s1 hx => thn hx fun itv s2 h2 => ?_
  obtain ⟨it, fp, tn, J, H2, e, I2, T, st2, f2, ⟨ps, hP, hts⟩, q⟩ := h2
  subst e
  have hPs : s2.heap.get? P = some { cls := .none, data := .fields ps } := I2.hok P _ hP
  have cd : PySem.W.CodeHd s2.heap c P := TB.code.keeps fun b u e => I2.bk b u e
  have nP : ∀ b ∈ fp, b ≠ P := fun b hb z => by
    have := (f2 b hb).1
    rw [z, hP] at this; cases this
  have sz2 : ∀ b ∈ fp, b < s2.heap.objs.size := fun b hb => by
    obtain ⟨o, e, _⟩ := T.obj _ _ st2 b hb
    exact Heap.lt_size e
  have cont : ∀ (code : Value) (h3 : Heap) (tk : Nat) (ps' : Array Value), Heap.ExtBut P s2.heap h3 → s2.heap.objs.size ≤ h3.objs.size → h3.get? P = some { cls := .none, data := .fields ps' } → (∃ more, ps' = ps ++ more) → TriplesOk ps'.toList →
      wpAny (model X.prog X.w) X.A (builtinsFor X.env.globals X.env.builtins) (fun bi s₄ =>
        ∀ h', h'.Ns s₄.heap.objs.size (fun y => if y = ".0" then some (.ref it) else none) → Heap.SameBut s₄.heap.objs.size (s₄.heap.push { cls := .type "frame", data := .dict #[] }) h' →
          Q' (.ref h'.objs.size) { s₄ with
            gens := s₄.gens.push (.fresh (.compStart (.GeneratorExp elt [⟨tg, iter, ifs, 0⟩] scope gpos) 0 (.ref it) .none (genEnv scope (cloFrom X.env.cells scope.names []) s₄.heap.objs.size code bi X.env))),
            toks := s₄.toks + 1 + 1 + 1,
            heap := h'.push { cls := .type "generator", data := .fields #[.int s₄.gens.size 0, .str "<genexpr>" (s₄.toks + 1), .str (X.env.qual ++ "<genexpr>") (s₄.toks + 1 + 1)] } }) X.xe { s2 with heap := h3, toks := tk } := by
    intro code h3 tk ps' hx hsz hP3 hmore ht3
    obtain ⟨bm, ob, e1, e2, e3, e4, e5, e6, e7, e8⟩ := TB.bm
    have keep3 : ∀ b u, b ≠ P → s2.heap.get? b = some u → h3.get? b = some u := fun b u hb e => hx b u hb e
    refine wpAny_builtinsFor (m := X.mg) (by rw [I2.ok.glob]; exact (I2.mod.glob.keeps I2.bk).extBut hx TB.gP) e1 e2 (keep3 _ _ e4 (I2.bk _ _ e5)) e6 e7 e8 ?_
    intro h' hn' hs'
    obtain ⟨more, em⟩ := hmore
    have I3 : Inv X pins σ (upd H2 P (.tbl (ps ++ more))) { s2 with heap := h3, toks := tk } :=
      inv_tab (more := more) (h' := h3) (g' := s2.gens) (d' := s2.drawn) (t' := tk) I2 hP keep3 (by rw [← em]; exact hP3) I2.bare
    obtain ⟨W, ⟨m0, w0⟩, turn⟩ := q (upd H2 P (.tbl (ps ++ more))) ⟨⟨ps ++ more, upd_same, by rw [← em]; exact ht3⟩, fun b hb => upd_ne hb⟩
    generalize hH3 : upd H2 P (.tbl (ps ++ more)) = H3 at I3 w0
    generalize hs4 : ({ s2 with heap := h3, toks := tk } : Shared) = s4 at I3 hn' hs' ⊢
    have hh4 : s4.heap = h3 := by rw [← hs4]
    have st4 : tn 0 s4.heap := T.keep _ _ _ st2 fun b hb o e => by rw [hh4]; exact keep3 b o (nP b hb) e
    have f3 : ∀ b ∈ fp, FpOk X pins H3 b ∧ b < s4.heap.objs.size := fun b hb => by
      refine ⟨⟨?_, (f2 b hb).2⟩, by rw [hh4]; exact Nat.lt_of_lt_of_le (sz2 b hb) hsz⟩
      rw [← hH3, upd_ne (nP b hb)]
      exact (f2 b hb).1
    have hszh : h'.objs.size = s4.heap.objs.size + 1 := by rw [hs'.1, Heap.size_push]
    have keep' : ∀ b o, s4.heap.get? b = some o → h'.get? b = some o := fun b o e => hs'.extBut b o (Nat.ne_of_lt (Heap.lt_size e)) (Heap.get?_push_of_some _ e)
    generalize hoa : ({ cls := .type "generator", data := .fields #[.int s4.gens.size 0, .str "<genexpr>" (s4.toks + 1), .str (X.env.qual ++ "<genexpr>") (s4.toks + 1 + 1)] } : Obj) = oa
    have ga : (h'.push oa).get? h'.objs.size = some oa := Heap.get?_push_size _ (by rw [← hoa]; rfl)
    have isg : (h'.push oa).IsGen h'.objs.size s4.gens.size := by rw [← hoa]; exact ⟨_, _, _, Heap.get?_push_size _ rfl, rfl, rfl, rfl⟩
    generalize hce : genEnv scope (cloFrom X.env.cells scope.names []) s4.heap.objs.size code builtinsNs X.env = cenv
    generalize hA' : X.A.in1.in1.over (.compLoop (.GeneratorExp elt [⟨tg, iter, ifs, 0⟩] scope gpos) 0 (.ref it) .none cenv) [] = A'
    have hfr : A'.frames = some (cenv :: X.stack) := by
      rw [← hA']
      show pushEnvs [cenv] (pushEnvs [] X.A.frames) = _
      rw [I2.ok.frames]
      rfl
    have hdp : A'.depth = X.A.depth + 1 := by rw [← hA']; rfl
    have hun : A'.units = X.A.units + 5 := by rw [← hA']; rfl
    have hhd : A'.handled = none := by rw [← hA']; exact hr.hd
    have hr' : Room k A' := ⟨hhd, by rw [hdp]; have := hr.dp; omega, by rw [hun]; have := hr.un; omega⟩
    have bare5 : AllBare (s4.gens.push (.fresh (.compStart (.GeneratorExp elt [⟨tg, iter, ifs, 0⟩] scope gpos) 0 (.ref it) .none cenv))) := I3.bare.push rfl
    have I5 := gen_start (A' := A') (cenv := cenv) (code := code) (m := fun y => if y = ".0" then some (.ref it) else none) (h5 := h'.push oa) (g' := s4.gens.push (.fresh (.compStart (.GeneratorExp elt [⟨tg, iter, ifs, 0⟩] scope gpos) 0 (.ref it) .none cenv)))
      (t5 := s4.toks + 1 + 1 + 1) (a := h'.objs.size) (oa := oa) I3 ok S.cell hN f3 hce.symm hfr hhd (hn'.push _) (fun b o e => Heap.get?_push_of_some _ (keep' b o e)) bare5 ga (by omega) (by rw [← hoa]; intro v z; cases z)
    have back : ∀ s' σ' H', Inv (gcx X A' s4 H3 cenv fp) [(h'.objs.size, oa)] σ' H' s' → Inv X pins σ H' s' := fun s' σ' H' I' =>
      I3.call' (ch := fp) I'.os I'.base I'.hok I'.bare fun b hb => ⟨(f3 b hb).1.2.2.2.1, (f3 b hb).1.2.1, (f3 b hb).1.2.2.2.2.1, (f3 b hb).1.2.2.2.2.2⟩
    have pg : PG (gcx X A' s4 H3 cenv fp) tg g := by rw [← hce]; exact hg A' hr' _ _ _ _ _ _
    have pt : PTs (gcx X A' s4 H3 cenv fp) ifs tt := by rw [← hce]; exact ht A' hr' _ _ _ _ _ _
    have pe : PE (gcx X A' s4 H3 cenv fp) elt te := by rw [← hce]; exact he A' hr' _ _ _ _ _ _
    refine hQ (gcx X A' s4 H3 cenv fp) h'.objs.size oa s4.gens.size (m0 + 1) (wipe σ (own.map (·.2))) _ rfl rfl rfl ga ⟨isg, I5.nolimit, _, Array.getElem?_push_size .., ?_⟩ back
    refine ⟨rfl, ?_⟩
    subst hA'
    refine gen_begin hc (by rw [← hce]; exact S.co) T (fun b hb z => ?_) hmono pg pt pe turn m0 _ _ H3 w0 (Inv.kall I5 rfl (bare_set I5.bare rfl) fun _ _ e => e) ?_ (fun b hb => (f3 b hb).1.1)
    · have h9 := (f3 b hb).2
      rw [← z] at h9
      have h9 : h'.objs.size < s4.heap.objs.size := h9
      omega
    · exact T.keep _ _ _ st4 fun b hb o e => Heap.get?_push_of_some _ (keep' b o e)
  refine ⟨I2.nolimit, ?_⟩
  cases hf : codeAmong gpos ps.toList with
  | none =>
    refine wpAny_genexprCodeX hcode (cd.code hPs hts) (cd.tab hPs) hf fun c' h' tk hx hge hlt hco' _ htab' _ => ?_
    obtain ⟨o1, vs, f1, tf, fl, tg', inF, tx, tt', op, _, _, _, _, _, _, _, _, _, htr, _⟩ := hco'
    exact cont _ h' tk _ hx (Nat.le_trans hge (Nat.le_of_lt hlt)) htab'.2 ⟨_, rfl⟩ htr
  | some cv =>
    refine wpAny_genexprCode_hit hcode (cd.code hPs hts) hf ?_
    exact cont cv s2.heap s2.toks ps (Heap.ExtBut.refl _ _) (Nat.le_refl _) hPs ⟨#[], by simp⟩ hts

theorem pe_allG {c P : Addr} {elt tg iter : Expr} {ifs : List Expr} {p pos gpos : Pos} {scope : Scope} {own : List (Str × Nat)} {wi : TI} {g : TG} {tt : TT} {te : TE} {k : Nat}
    (hr : Room (k + 1) X.A) (hgl : Gl X "all") (hm : X.mg "all" = none) (hc : X.calm = true) (hN : X.N.Nodup) (TB : TabB X.base X.mg c P) (hcode : X.env.code = .ref c) (S : GSc X.N X.env.scope scope own) (hi : PI X tg iter wi)
    (hg : ∀ (A' : Around), Room k A' → ∀ (s : Shared) (H : Hp) (cl : List (Str × Addr)) (C : Addr) (code : Value) (fp : List Addr), PG (gcx X A' s H (genEnv scope cl C code builtinsNs X.env) fp) tg g)
    (ht : ∀ (A' : Around), Room k A' → ∀ (s : Shared) (H : Hp) (cl : List (Str × Addr)) (C : Addr) (code : Value) (fp : List Addr), PTs (gcx X A' s H (genEnv scope cl C code builtinsNs X.env) fp) ifs tt)
    (he : ∀ (A' : Around), Room k A' → ∀ (s : Shared) (H : Hp) (cl : List (Str × Addr)) (C : Addr) (code : Value) (fp : List Addr), PE (gcx X A' s H (genEnv scope cl C code builtinsNs X.env) fp) elt te)
    (hs : ∀ v, genFold iter X.env v = pure v := by intro _; rfl)
    (hst : starEach [.GeneratorExp elt [⟨tg, iter, ifs, 0⟩] scope gpos] X.env = (false, eval (.GeneratorExp elt [⟨tg, iter, ifs, 0⟩] scope gpos) X.env) :: starEach [] X.env := by rfl)
    (hb : bootBuiltins "all" = some (.builtin "all") := by decide +kernel) :
    PE X (.Call (.Name "all" p) [.GeneratorExp elt [⟨tg, iter, ifs, 0⟩] scope gpos] [] pos) (tAllG P wi g tt te (own.map (·.2))) := by
  refine ⟨fun pins s σ H Q I h => ?_⟩
  refine wpAny_Call_Name_kw (ld_blt I hgl hm hb ?_)
  refine PyProof.Rows.callWith_builtin1 ?_ hst (by rfl)
  rw [hst]
  show wpAny _ _ (spliced ((false, eval (.GeneratorExp elt [⟨tg, iter, ifs, 0⟩] scope gpos) X.env) :: backTo pos (starEach [] X.env))) _ _ s
  refine Calls.spliced_cons (gen_make hr hc hN TB hcode S hi hg ht he stpAll_mono hs I h fun XG a oa gn n σw s5 eP eW epn ha hG back => ?_)
  refine Calls.spliced_nil ?_
  refine call_function_tree F.kind_all F.plain_all F.entry_all (F.args_all1 _) ?_
  unfold Builtin.«all»
  refine wpAny_bind (m := oneArg "all" _) (wpAny_pure ?_)
  refine wpAny_bind (wpAny_pyIter_gen hG.1 ?_)
  refine wpAny_pure ⟨plainId_quiet F.plain_all_loop _, all_loop (X := X) (XG := XG) (σw := σw) (Qd := Q (.bl true)) (Qf := Q (.bl false)) eP eW hr.hd (by have := hr.dp; omega) epn (fun s' σ' H' I' q => ?_) (fun s' σ' H' I' q => ?_) n s5 ha hG⟩
  · exact ⟨.bl true, H', back s' σ' H' I', rfl, q⟩
  · exact ⟨.bl false, H', back s' σ' H' I', rfl, q⟩
theorem pe_anyG {c P : Addr} {elt tg iter : Expr} {ifs : List Expr} {p pos gpos : Pos} {scope : Scope} {own : List (Str × Nat)} {wi : TI} {g : TG} {tt : TT} {te : TE} {k : Nat}
    (hr : Room (k + 1) X.A) (hgl : Gl X "any") (hm : X.mg "any" = none) (hc : X.calm = true) (hN : X.N.Nodup) (TB : TabB X.base X.mg c P) (hcode : X.env.code = .ref c) (S : GSc X.N X.env.scope scope own) (hi : PI X tg iter wi)
    (hg : ∀ (A' : Around), Room k A' → ∀ (s : Shared) (H : Hp) (cl : List (Str × Addr)) (C : Addr) (code : Value) (fp : List Addr), PG (gcx X A' s H (genEnv scope cl C code builtinsNs X.env) fp) tg g)
    (ht : ∀ (A' : Around), Room k A' → ∀ (s : Shared) (H : Hp) (cl : List (Str × Addr)) (C : Addr) (code : Value) (fp : List Addr), PTs (gcx X A' s H (genEnv scope cl C code builtinsNs X.env) fp) ifs tt)
    (he : ∀ (A' : Around), Room k A' → ∀ (s : Shared) (H : Hp) (cl : List (Str × Addr)) (C : Addr) (code : Value) (fp : List Addr), PE (gcx X A' s H (genEnv scope cl C code builtinsNs X.env) fp) elt te)
    (hs : ∀ v, genFold iter X.env v = pure v := by intro _; rfl)
    (hst : starEach [.GeneratorExp elt [⟨tg, iter, ifs, 0⟩] scope gpos] X.env = (false, eval (.GeneratorExp elt [⟨tg, iter, ifs, 0⟩] scope gpos) X.env) :: starEach [] X.env := by rfl)
    (hb : bootBuiltins "any" = some (.builtin "any") := by decide +kernel) :
    PE X (.Call (.Name "any" p) [.GeneratorExp elt [⟨tg, iter, ifs, 0⟩] scope gpos] [] pos) (tAnyG P wi g tt te (own.map (·.2))) := by
  refine ⟨fun pins s σ H Q I h => ?_⟩
  refine wpAny_Call_Name_kw (ld_blt I hgl hm hb ?_)
  refine PyProof.Rows.callWith_builtin1 ?_ hst (by rfl)
  rw [hst]
  show wpAny _ _ (spliced ((false, eval (.GeneratorExp elt [⟨tg, iter, ifs, 0⟩] scope gpos) X.env) :: backTo pos (starEach [] X.env))) _ _ s
  refine Calls.spliced_cons (gen_make hr hc hN TB hcode S hi hg ht he stpAny_mono hs I h fun XG a oa gn n σw s5 eP eW epn ha hG back => ?_)
  refine Calls.spliced_nil ?_
  refine call_function_tree F.kind_any F.plain_any F.entry_any (F.args_any1 _) ?_
  unfold Builtin.«any»
  refine wpAny_bind (m := oneArg "any" _) (wpAny_pure ?_)
  refine wpAny_bind (wpAny_pyIter_gen hG.1 ?_)
  refine wpAny_pure ⟨plainId_quiet F.plain_any_loop _, any_loop (X := X) (XG := XG) (σw := σw) (Qd := Q (.bl false)) (Qf := Q (.bl true)) eP eW hr.hd (by have := hr.dp; omega) epn (fun s' σ' H' I' q => ?_) (fun s' σ' H' I' q => ?_) n s5 ha hG⟩
  · exact ⟨.bl false, H', back s' σ' H' I', rfl, q⟩
  · exact ⟨.bl true, H', back s' σ' H' I', rfl, q⟩
end
end GAl

set_option Elab.async false
set_option linter.all false
set_option maxRecDepth 100000
set_option maxHeartbeats 2000000
namespace HK
open PySem PySem.Spec PyProof.Rows L2 GAl GxR
/-! ### defs whose code object is known -/
structure FunC (K : PySem.W.Frag) (x qual : Str) (st : Stmt) (f : Addr) (fd : FuncData) (c : Addr) : Prop where
  ex : ∃ (oc : Value) (od : Option Addr) (kV doc pm : Value) (an : Option Addr) (ct : Value) (osl : Array (Option Value)),
    fd = PySem.W.fnOf x qual (defArgs st) (defBody st) (defScope st) .none kV doc pm an (.ref c) ct ∧ K.lookup f = some ⟨oc, od, .func fd, osl⟩ ∧ PySem.W.codeIn K (.ref c) qual = true
  kp : PySem.W.keepIn K (.ref f) = true
section
variable {P : Program} {w : World} {K : PySem.W.Frag} {mg : Str → Option Value} {base : Heap}
theorem FunC.toFun {x qual : Str} {st : Stmt} {f : Addr} {fd : FuncData} {c : Addr} (F : FunC K x qual st f fd c) : Fun K x qual st f fd := by
  obtain ⟨⟨oc, od, kV, doc, pm, an, ct, osl, e, l, h⟩, k⟩ := F
  exact ⟨⟨oc, od, kV, doc, pm, an, _, ct, osl, e, l, h⟩, k⟩
theorem FunC.ok {x qual : Str} {st : Stmt} {f : Addr} {fd : FuncData} {c : Addr} {N ps : List Str} {k : Nat} {sp : Sp} (F : FunC K x qual st f fd c) (S : FnScope N ps (defScope st)) (len : ∀ vs H Q E, sp vs H Q E → vs.length = ps.length)
    (hbody : ∀ (A : Around) (outer : List Env) (s : Shared) (H : Hp) (vs : List V) (Q : VK) (E : XK), Room k (A.deeper (envOfC qual (defScope st) s.heap.objs.size f (.ref c))) → sp vs H Q E →
      ∃ t, PSs (cxOf CX0 P w K mg base N qual (defScope st) f (.ref c) A outer s H E).nox (defBody st) t ∧ t { nx := fun _ H' => Q .non H', rt := Q } (start N vs) H) : FnOk P w K mg base CX0 (k + 1) f fd ps sp := by
  obtain ⟨oc, od, kV, doc, pm, an, ct, osl, rfl, lk, hcd⟩ := F.ex
  refine fn_of lk hcd S len fun A outer s H vs Q E hr hsp => ?_
  obtain ⟨t, h, q⟩ := hbody A outer s H vs Q E hr hsp
  exact ⟨t, h.nox, q⟩
theorem func_mk {x qual : Str} {st : Stmt} {f c : Addr} {oc : Value} {od an : Option Addr} {osl : Array (Option Value)} {kV doc pm ct : Value} (l : K.lookup f = some ⟨oc, od, .func (PySem.W.fnOf x qual (defArgs st) (defBody st) (defScope st) .none kV doc pm an (.ref c) ct), osl⟩)
    (h : PySem.W.codeIn K (.ref c) qual = true) (k : PySem.W.keepIn K (.ref f) = true) : FunC K x qual st f (PySem.W.fnOf x qual (defArgs st) (defBody st) (defScope st) .none kV doc pm an (.ref c) ct) c := ⟨⟨oc, od, kV, doc, pm, an, ct, osl, rfl, l, h⟩, k⟩
end

/-! ### what stays: everything but the list at t; tables stay tables -/
structure Kt (t : Addr) (H H' : Hp) : Prop where
  tup : ∀ b xs, H b = some (.tup xs) → H' b = some (.tup xs)
  frz : ∀ b o u, H b = some (.frz o u) → H' b = some (.frz o u)
  oth : ∀ b o, H b = some o → b ≠ t → (∀ ps, o ≠ .tbl ps) → H' b = some o
  tab : ∀ P, TabG H P → TabG H' P
  dom : ∀ b, H' b = none → H b = none
/-- everything; tables stay tables -/
structure K0 (H H' : Hp) : Prop where
  oth : ∀ b o, H b = some o → (∀ ps, o ≠ .tbl ps) → H' b = some o
  tab : ∀ P, TabG H P → TabG H' P
  dom : ∀ b, H' b = none → H b = none
theorem upd_none {H : Hp} {p b : Addr} {o : HO} (h : upd H p o b = none) : H b = none := by
  by_cases e : b = p
  · rw [e, upd_same] at h; cases h
  · rw [upd_ne e] at h; exact h
theorem K0.refl (H : Hp) : K0 H H := ⟨fun _ _ h _ => h, fun _ h => h, fun _ h => h⟩
theorem K0.trans {H H1 H2 : Hp} (a : K0 H H1) (b : K0 H1 H2) : K0 H H2 := ⟨fun x o h n => b.oth x o (a.oth x o h n) n, fun P h => b.tab P (a.tab P h), fun x h => a.dom x (b.dom x h)⟩
theorem K0.kt {t : Addr} {H H' : Hp} (a : K0 H H') : Kt t H H' := ⟨fun b xs h => a.oth b _ h (fun _ z => by cases z), fun b o u h => a.oth b _ h (fun _ z => by cases z), fun b o h _ n => a.oth b o h n, a.tab, a.dom⟩
theorem Kt.refl (t : Addr) (H : Hp) : Kt t H H := (K0.refl H).kt
theorem Kt.trans {t : Addr} {H H1 H2 : Hp} (a : Kt t H H1) (b : Kt t H1 H2) : Kt t H H2 := ⟨fun x xs h => b.tup x xs (a.tup x xs h), fun x o u h => b.frz x o u (a.frz x o u h), fun x o h n m => b.oth x o (a.oth x o h n m) n m, fun P h => b.tab P (a.tab P h), fun x h => a.dom x (b.dom x h)⟩
theorem tabG_upd {H : Hp} {p : Addr} {o : HO} (n : H p = none) {P : Addr} (h : TabG H P) : TabG (upd H p o) P := by
  obtain ⟨ps, e, ht⟩ := h
  exact ⟨ps, by rw [upd_ne (ne_of_none e n)]; exact e, ht⟩
theorem K0.new {H : Hp} {p : Addr} {o : HO} (n : H p = none) : K0 H (upd H p o) := ⟨fun b u e _ => by rw [upd_ne (ne_of_none e n)]; exact e, fun P h => tabG_upd n h, fun _ h => upd_none h⟩
theorem K0.tbd {P : Addr} {H H' : Hp} (h0 : TabG H P) (h : Tabbed P H H') : K0 H H' := ⟨fun b o e n => by
  have hb : b ≠ P := fun z => by
    obtain ⟨ps, e', _⟩ := h0
    rw [z, e'] at e
    exact n ps (Option.some.inj e).symm
  rw [h.2 b hb]; exact e, fun Q hq => by
  by_cases hQ : Q = P
  · rw [hQ]; exact h.1
  · obtain ⟨ps, e, ht⟩ := hq
    exact ⟨ps, by rw [h.2 Q hQ]; exact e, ht⟩, fun b e => by
  by_cases hb : b = P
  · obtain ⟨ps, e', _⟩ := h.1
    rw [hb, e'] at e; cases e
  · rw [h.2 b hb] at e; exact e⟩
/-- the list at t is written -/
theorem Kt.set {t : Addr} {H : Hp} {xs ys : List V} (h : H t = some (.lst xs)) : Kt t H (upd H t (.lst ys)) := ⟨fun b zs e => by
  rw [upd_ne (ne_of e h (fun z => by cases z))]; exact e, fun b o u e => by
  rw [upd_ne (ne_of e h (fun z => by cases z))]; exact e, fun b o e n _ => by rw [upd_ne n]; exact e, fun P hP => by
  obtain ⟨ps, e, ht⟩ := hP
  exact ⟨ps, by rw [upd_ne (ne_of e h (fun z => by cases z))]; exact e, ht⟩, fun _ e => upd_none e⟩
theorem Kt.sqT {K : PySem.W.Frag} {t a : Addr} {H H' : Hp} {xs : List V} (k : Kt t H H') (h : SqT K H a xs) : SqT K H' a xs := by
  rcases h with (h | ⟨o, h⟩) | h
  · exact .inl (.inl (k.tup _ _ h))
  · exact .inl (.inr ⟨o, k.frz _ _ _ h⟩)
  · exact .inr h
theorem K0.sqT {K : PySem.W.Frag} {a : Addr} {H H' : Hp} {xs : List V} (k : K0 H H') (h : SqT K H a xs) : SqT K H' a xs := (k.kt (t := 0)).sqT h
theorem K0.sqL {K : PySem.W.Frag} {a : Addr} {H H' : Hp} {xs : List V} (k : K0 H H') (h : SqL K H a xs) : SqL K H' a xs := by
  rcases h with (h | ⟨o, h⟩) | h
  · exact .inl (.inl (k.oth _ _ h (fun _ z => by cases z)))
  · exact .inl (.inr ⟨o, k.oth _ _ h (fun _ z => by cases z)⟩)
  · exact .inr h
theorem Kt.sqL {K : PySem.W.Frag} {t a : Addr} {H H' : Hp} {xs : List V} (k : Kt t H H') (n : a ≠ t) (h : SqL K H a xs) : SqL K H' a xs := by
  rcases h with (h | ⟨o, h⟩) | h
  · exact .inl (.inl (k.oth _ _ h n (fun _ z => by cases z)))
  · exact .inl (.inr ⟨o, k.frz _ _ _ h⟩)
  · exact .inr h
mutual
theorem K0.dp {K : PySem.W.Frag} {H H' : Hp} (k : K0 H H') : ∀ (d : PyData) (v : V), Dp K H v d → Dp K H' v d
  | .none, _, h => by cases h; exact .non
  | .bool _, _, h => by cases h; exact .bl _
  | .int _, _, h => by cases h; exact .int _
  | .str _, _, h => by cases h; exact .str _
  | .list ds, _, h => by cases h with | lst a b => exact .lst (k.sqL a) (K0.dpAll k ds _ b)
  | .tuple ds, _, h => by cases h with | tup a b => exact .tup (k.sqT a) (K0.dpAll k ds _ b)
  | .dict _, _, h => by cases h
theorem K0.dpAll {K : PySem.W.Frag} {H H' : Hp} (k : K0 H H') : ∀ (ds : List PyData) (vs : List V), DpAll K H vs ds → DpAll K H' vs ds
  | [], _, h => by cases h; exact .nil
  | d :: ds, _, h => by cases h with | cons a b => exact .cons (K0.dp k d _ a) (K0.dpAll k ds _ b)
end

/-! ### kinds -/
def tys : List String := ["NoneType", "bool", "int", "str", "list", "tuple", "dict"]
theorem tys_int {T : String} (h : T ∈ tys) : kitB T "int" = some (T == "int" || T == "bool") := by
  simp only [tys, List.mem_cons, List.not_mem_nil, or_false] at h
  rcases h with rfl | rfl | rfl | rfl | rfl | rfl | rfl <;> decide +kernel
theorem tys_bool {T : String} (h : T ∈ tys) : kitB T "bool" = some (T == "bool") := by
  simp only [tys, List.mem_cons, List.not_mem_nil, or_false] at h
  rcases h with rfl | rfl | rfl | rfl | rfl | rfl | rfl <;> decide +kernel
theorem tys_tuple {T : String} (h : T ∈ tys) : kitB T "tuple" = some (T == "tuple") := by
  simp only [tys, List.mem_cons, List.not_mem_nil, or_false] at h
  rcases h with rfl | rfl | rfl | rfl | rfl | rfl | rfl <;> decide +kernel
theorem tys_dict {T : String} (h : T ∈ tys) : kitB T "dict" = some (T == "dict") := by
  simp only [tys, List.mem_cons, List.not_mem_nil, or_false] at h
  rcases h with rfl | rfl | rfl | rfl | rfl | rfl | rfl <;> decide +kernel
theorem sqT_ty {K : PySem.W.Frag} {H : Hp} {a : Addr} {xs : List V} (h : SqT K H a xs) : TyX K H (.ref a) (.type "tuple") := by
  rcases h with (h | ⟨o, h⟩) | ⟨o, _, _, ho, h, _⟩
  · exact .base (.tup h)
  · exact .fTuple h
  · exact .kTuple ho h
theorem sqL_ty {K : PySem.W.Frag} {H : Hp} {a : Addr} {xs : List V} (h : SqL K H a xs) : TyX K H (.ref a) (.type "list") := by
  rcases h with (h | ⟨o, h⟩) | ⟨o, _, _, ho, h, _⟩
  · exact .base (.lst h)
  · exact .base (.frz h)
  · exact .kList ho h
def tyD : PyData → String
  | .none => "NoneType" | .bool _ => "bool" | .int _ => "int" | .str _ => "str" | .list _ => "list" | .tuple _ => "tuple" | .dict _ => "dict"
theorem tyD_mem (d : PyData) : tyD d ∈ tys := by cases d <;> simp [tyD, tys]
theorem dp_ty {K : PySem.W.Frag} {H : Hp} {v : V} {d : PyData} (h : Dp K H v d) : TyX K H v (.type (tyD d)) := by
  cases h with
  | non => exact .base .non
  | bl b => exact .base (.bl b)
  | int i => exact .base (.int i)
  | str x => exact .base (.str x)
  | lst a _ => exact sqL_ty a
  | tup a _ => exact sqT_ty a
def isWholeD : PyData → Bool
  | .int _ => true
  | _ => false
def withinD (d : PyData) (lo hi : Int) : Bool := match d with
  | .int i => decide (lo ≤ i) && decide (i ≤ hi)
  | _ => false
theorem whole_ty (d : PyData) : ((tyD d == "int" || tyD d == "bool") && !(tyD d == "bool")) = isWholeD d := by cases d <;> simp [tyD, isWholeD]
theorem dp_int {K : PySem.W.Frag} {H : Hp} {x : V} {d : PyData} (h : Dp K H x d) (e : isWholeD d = true) : ∃ i, x = .int i ∧ d = .int i := by
  cases h <;> first | exact ⟨_, rfl, rfl⟩ | cases e
end HK

set_option Elab.async false
set_option linter.all false
set_option maxRecDepth 100000
set_option maxHeartbeats 2000000
namespace HK
open PySem PySem.Spec PyProof.Rows L2 GAl GxR
def topS (i : Nat) : Stmt := PySem.Challenge.pw_hearkenway_k25_roads_on_time.main.body.getD i (.Pass ⟨0, 0, 0, 0⟩)
abbrev sWhole : Stmt := topS 6
abbrev sWithin : Stmt := topS 7
abbrev sRises : Stmt := topS 8
abbrev sIsNet : Stmt := topS 14
abbrev sIsRoad : Stmt := topS 15
theorem scWhole : FnScope ["thing"] ["thing"] (defScope sWhole) := ⟨rfl, rfl, rfl, by decide +kernel, rfl, by decide +kernel, by decide +kernel⟩
theorem scWithin : FnScope ["thing", "least", "greatest"] ["thing", "least", "greatest"] (defScope sWithin) := ⟨rfl, rfl, rfl, by decide +kernel, rfl, by decide +kernel, by decide +kernel⟩
theorem scIsRoad : FnScope ["many", "thing", "start", "end", "cost", "late"] ["many", "thing"] (defScope sIsRoad) := ⟨rfl, rfl, rfl, by decide +kernel, rfl, by decide +kernel, by decide +kernel⟩

theorem qeq {Q : VK} {a b : Bool} {H : Hp} (q : Q (.bl a) H) (e : a = b) : Q (.bl b) H := e ▸ q
section
variable {P : Program} {w : World} {K : PySem.W.Frag} {mg : Str → Option Value} {base : Heap}
def spWhole (K : PySem.W.Frag) : Sp := fun vs H Q _ => ∃ x d, vs = [x] ∧ Dp K H x d ∧ Q (.bl (isWholeD d)) H
theorem ok_whole {f : Addr} {fd : FuncData} (F : Fun K "is_whole" "is_whole" sWhole f fd) (mi : mg "isinstance" = none) (mI : mg "int" = none) (mB : mg "bool" = none) : FnOk P w K mg base CX0 1 f fd ["thing"] (spWhole K) := by
  refine F.ok scWhole (fun vs H Q E h => ?_) (fun cdv A outer s H vs Q E hr h => ?_)
  · obtain ⟨x, d, rfl, _⟩ := h
    rfl
  · obtain ⟨x, d, rfl, hd, q⟩ := h
    refine ⟨_, pss_one (ps_ret (pe_and (pe_callB call_isi (by rfl) mi boot_isinstance (pa_cons (pv 0) (pa_cons (pe_bltn (v := .ty "int") (by rfl) mI (by decide +kernel) rfl) pa_nil)))
      (pe_one (pe_not (pe_callB call_isi (by rfl) mi boot_isinstance (pa_cons (pv 0) (pa_cons (pe_bltn (v := .ty "bool") (by rfl) mB (by decide +kernel) rfl) pa_nil))))))), ?_⟩
    refine ⟨x, rfl, x, .ty "int", _, _, _, rfl, .ty "int", dp_ty hd, kit_ty (tys_int (tyD_mem d)), _, rfl, ite2 (fun e => ?_) (fun e => ?_)⟩
    · refine ⟨x, rfl, x, .ty "bool", _, _, _, rfl, .ty "bool", dp_ty hd, kit_ty (tys_bool (tyD_mem d)), _, rfl, ?_⟩
      exact qeq q (by rw [← whole_ty d, e, Bool.true_and])
    · have e' : (tyD d == "int" || tyD d == "bool") = false := by simpa using e
      exact qeq q (by rw [← whole_ty d, e', Bool.false_and])
def spWithin (K : PySem.W.Frag) : Sp := fun vs H Q _ => ∃ x d lo hi, vs = [x, .int lo, .int hi] ∧ Dp K H x d ∧ Q (.bl (withinD d lo hi)) H
theorem ok_within {f fW : Addr} {fd fdW : FuncData} (F : Fun K "is_within" "is_within" sWithin f fd) (FW : Fun K "is_whole" "is_whole" sWhole fW fdW) (bW : Binds K fdW ["thing"] []) (gW : mg "is_whole" = some (.ref fW))
    (GW : FnOk P w K mg base CX0 1 fW fdW ["thing"] (spWhole K)) : FnOk P w K mg base CX0 2 f fd ["thing", "least", "greatest"] (spWithin K) := by
  refine F.ok scWithin (fun vs H Q E h => ?_) (fun cdv A outer s H vs Q E hr h => ?_)
  · obtain ⟨x, d, lo, hi, rfl, _⟩ := h
    rfl
  · obtain ⟨x, d, lo, hi, rfl, hd, q⟩ := h
    refine ⟨_, pss_one (ps_ret (pe_and (pe_call GW hr (by rfl) gW FW.kp bW .nil pass0 (pa_cons (pv 0) pa_nil)) (pe_one (pe_chain op_le op_le (pv 1) (pv 0) (pv 2))))), ?_⟩
    refine ⟨x, rfl, x, d, rfl, hd, _, rfl, ite2 (fun e => ?_) (fun e => ?_)⟩
    · obtain ⟨i, rfl, rfl⟩ := dp_int hd e
      refine ⟨_, rfl, _, rfl, _, _, rfl, rfl, _, rfl, ite2 (fun e1 => ?_) (fun e1 => ?_)⟩
      · refine ⟨_, rfl, _, _, rfl, rfl, ?_⟩
        exact qeq q (by show (decide (lo ≤ i) && decide (i ≤ hi)) = _; rw [e1, Bool.true_and])
      · exact qeq q (by show (decide (lo ≤ i) && decide (i ≤ hi)) = _; simp only [Bool.not_eq_true] at e1; rw [e1, Bool.false_and])
    · exact qeq q (by cases d <;> first | rfl | exact absurd rfl e)
end
end HK

set_option Elab.async false
set_option linter.all false
set_option maxRecDepth 100000
set_option maxHeartbeats 2000000
namespace HK
open PySem PySem.Spec PyProof.Rows L2 GAl GxR
def neD : PyData → PyData → Bool
  | .int a, .int b => !decide (a = b)
  | _, _ => false
def isRoadD (n : Int) : PyData → Bool
  | .tuple [s, e, c, l] => (withinD s 0 (n - 1) && withinD e 0 (n - 1) && neD s e) && (withinD c 0 1000 && withinD l 1 1000)
  | _ => false
theorem dpAll_len {K : PySem.W.Frag} {H : Hp} : ∀ {xs : List V} {ds : List PyData}, DpAll K H xs ds → xs.length = ds.length
  | _, _, .nil => rfl
  | _, _, .cons _ t => by rw [List.length_cons, List.length_cons, dpAll_len t]
theorem within_int {d : PyData} {lo hi : Int} (h : withinD d lo hi = true) : ∃ i, d = .int i ∧ lo ≤ i ∧ i ≤ hi := by
  cases d <;> simp only [withinD] at h <;> first | cases h | skip
  rename_i i
  simp only [Bool.and_eq_true, decide_eq_true_eq] at h
  exact ⟨i, rfl, h.1, h.2⟩
theorem dp_int' {K : PySem.W.Frag} {H : Hp} {x : V} {i : Int} (h : Dp K H x (.int i)) : x = .int i := by cases h; rfl
theorem dp_tup {K : PySem.W.Frag} {H : Hp} {x : V} {ds : List PyData} (h : Dp K H x (.tuple ds)) : ∃ a xs, x = .ref a ∧ SqT K H a xs ∧ DpAll K H xs ds := by cases h with | tup a b => exact ⟨_, _, rfl, a, b⟩

section
variable {P : Program} {w : World} {K : PySem.W.Frag} {mg : Str → Option Value} {base : Heap}
def spRoad (K : PySem.W.Frag) : Sp := fun vs H Q _ => ∃ (n : Int) (x : V) (d : PyData), vs = [.int n, x] ∧ Dp K H x d ∧ Q (.bl (isRoadD n d)) H
theorem ok_road {f fW : Addr} {fd fdW : FuncData} {t1 t2 t3 : Tok} (F : Fun K "is_road" "is_road" sIsRoad f fd) (FW : Fun K "is_within" "is_within" sWithin fW fdW) (bW : Binds K fdW ["thing", "least", "greatest"] []) (gW : mg "is_within" = some (.ref fW))
    (GW : FnOk P w K mg base CX0 2 fW fdW ["thing", "least", "greatest"] (spWithin K)) (mi : mg "isinstance" = none) (mT : mg "tuple" = none) (ml : mg "len" = none)
    (g1 : mg "MOST_PRICE" = some (.int 1000 t1)) (g2 : mg "LEAST_LATE" = some (.int 1 t2)) (g3 : mg "MOST_LATE" = some (.int 1000 t3)) : FnOk P w K mg base CX0 3 f fd ["many", "thing"] (spRoad K) := by
  refine F.ok scIsRoad (fun vs H Q E h => ?_) (fun cdv A outer s H vs Q E hr h => ?_)
  · obtain ⟨n, x, d, rfl, _⟩ := h
    rfl
  · obtain ⟨n, x, d, rfl, hd, q⟩ := h
    refine ⟨_, pss_cons (ps_if (pt_not (PW.pt (pw_and (pt_val (pe_callB call_isi (by rfl) mi boot_isinstance (pa_cons (pv 1) (pa_cons (pe_bltn (v := .ty "tuple") (by rfl) mT (by decide +kernel) rfl) pa_nil))))
        (pw_and1 (pt_cmpR op_eq (pe_callB call_len_seq (by rfl) ml PySem.boot_len (pa_cons (pv 1) pa_nil)) pe_int (nomark _)))))) (pss_one (ps_ret pe_bl)) pss_nil)
      (pss_cons (ps_asg (pv 1) (pg_tup rfl (pgs_cons (pg_name (i := 2) scIsRoad.nd rfl (.inl rfl)) (pgs_cons (pg_name (i := 3) scIsRoad.nd rfl (.inl rfl)) (pgs_cons (pg_name (i := 4) scIsRoad.nd rfl (.inl rfl)) (pgs_cons (pg_name (i := 5) scIsRoad.nd rfl (.inl rfl)) pgs_nil))))))
      (pss_cons (ps_if (pt_not (PW.pt (pw_and (pt_val (pe_call GW hr (by rfl) gW FW.kp bW .nil pass0 (pa_cons (pv 2) (pa_cons pe_int (pa_cons (pe_op op_sub (pv 0) pe_int) pa_nil)))))
        (pw_and (pt_val (pe_call GW hr (by rfl) gW FW.kp bW .nil pass0 (pa_cons (pv 3) (pa_cons pe_int (pa_cons (pe_op op_sub (pv 0) pe_int) pa_nil)))))
          (pw_and1 (pt_cmpR op_ne (pv 2) (pv 3) (nomark _))))))) (pss_one (ps_ret pe_bl)) pss_nil)
      (pss_one (ps_ret (pe_and (pe_call GW hr (by rfl) gW FW.kp bW .nil pass0 (pa_cons (pv 4) (pa_cons pe_int (pa_cons (pe_glob (v := .int 1000) (by rfl) g1 ⟨_, rfl⟩) pa_nil))))
        (pe_one (pe_call GW hr (by rfl) gW FW.kp bW .nil pass0 (pa_cons (pv 5) (pa_cons (pe_glob (v := .int 1) (by rfl) g2 ⟨_, rfl⟩) (pa_cons (pe_glob (v := .int 1000) (by rfl) g3 ⟨_, rfl⟩) pa_nil)))))))))), ?_⟩
    -- isinstance(thing, tuple) and len(thing) == 4
    refine ⟨x, rfl, x, .ty "tuple", _, _, _, rfl, .ty "tuple", dp_ty hd, kit_ty (tys_tuple (tyD_mem d)), _, rfl, ite2 (fun e => ?_) (fun e => ?_)⟩
    · obtain ⟨ds, rfl⟩ : ∃ ds, d = .tuple ds := by cases d <;> first | exact ⟨_, rfl⟩ | (simp [tyD] at e)
      obtain ⟨a, xs, rfl, hq, hall⟩ := dp_tup hd
      refine ⟨.ref a, rfl, a, xs, rfl, .inr hq, rfl, _, rfl, ?_⟩
      by_cases h4 : xs.length = 4
      · rw [decide_eq_true (show (V.int (xs.length : Int)) = .int 4 by rw [h4]; rfl)]
        refine iteF ?_
        have h4' : ds.length = 4 := by rw [← dpAll_len hall]; exact h4
        obtain ⟨s1, e1, c1, l1, rfl⟩ : ∃ s1 e1 c1 l1, ds = [s1, e1, c1, l1] := by
          match ds, h4' with
          | [a, b, c, d], _ => exact ⟨a, b, c, d, rfl⟩
        cases hall with
        | cons d1 hall => cases hall with
          | cons d2 hall => cases hall with
            | cons d3 hall => cases hall with
              | cons d4 hall =>
                cases hall
                rename_i v1 v2 v3 v4
                refine ⟨.ref a, rfl, a, _, rfl, hq, rfl, v1, _, rfl, v2, _, rfl, v3, _, rfl, v4, _, rfl, rfl, ?_⟩
                refine ⟨v1, rfl, .int n, rfl, n, 1, rfl, rfl, v1, s1, 0, n - 1, rfl, d1, _, rfl, ite2 (fun b1 => ?_) (fun b1 => ?_)⟩
                · refine ⟨v2, rfl, .int n, rfl, n, 1, rfl, rfl, v2, e1, 0, n - 1, rfl, d2, _, rfl, ite2 (fun b2 => ?_) (fun b2 => ?_)⟩
                  · obtain ⟨i, rfl, _⟩ := within_int b1
                    obtain ⟨j, rfl, _⟩ := within_int b2
                    obtain rfl := dp_int' d1
                    obtain rfl := dp_int' d2
                    refine ⟨_, rfl, _, rfl, rfl, _, rfl, ?_⟩
                    have hne : (!decide (V.int i = V.int j)) = neD (.int i) (.int j) := by
                      show (!decide (V.int i = V.int j)) = !decide (i = j)
                      congr 1
                      exact decide_eq_decide.mpr ⟨fun z => V.int.inj z, fun z => by rw [z]⟩
                    rw [hne]
                    cases b3 : neD (.int i) (.int j) with
                    | true =>
                      refine iteF ?_
                      refine ⟨v3, rfl, v3, c1, 0, 1000, rfl, d3, _, rfl, ite2 (fun b4 => ?_) (fun b4 => ?_)⟩
                      · refine ⟨v4, rfl, v4, l1, 1, 1000, rfl, d4, ?_⟩
                        exact qeq q (by show ((_ && _ && _) && (_ && _)) = _; rw [b1, b2, b3, b4]; rfl)
                      · simp only [Bool.not_eq_true] at b4
                        exact qeq q (by show ((_ && _ && _) && (_ && _)) = _; rw [b4, Bool.false_and, Bool.and_false])
                    | false =>
                      refine iteT ?_
                      exact qeq q (by show ((_ && _ && _) && (_ && _)) = _; rw [b3, Bool.and_false, Bool.false_and])
                  · simp only [Bool.not_eq_true] at b2
                    refine iteT ?_
                    exact qeq q (by show ((_ && _ && _) && (_ && _)) = _; rw [b2, Bool.and_false, Bool.false_and, Bool.false_and])
                · simp only [Bool.not_eq_true] at b1
                  refine iteT ?_
                  exact qeq q (by show ((_ && _ && _) && (_ && _)) = _; rw [b1, Bool.false_and, Bool.false_and, Bool.false_and])
      · rw [decide_eq_false (show ¬ (V.int (xs.length : Int)) = .int 4 from fun z => h4 (by have := V.int.inj z; omega))]
        refine iteT ?_
        refine qeq q ?_
        have h4' : ds.length ≠ 4 := by rw [← dpAll_len hall]; exact h4
        unfold isRoadD
        split
        · rename_i heq
          cases heq
          exact absurd rfl h4'
        · rfl
    · refine iteT ?_
      refine qeq q ?_
      cases d <;> first | rfl | (exact absurd rfl e)
end
end HK

set_option Elab.async false
set_option linter.all false
set_option maxRecDepth 100000
set_option maxHeartbeats 2000000
namespace HK
open PySem PySem.Spec PyProof.Rows L2 GAl GxR
theorem tyes {σ : L2.St} {H : Hp} {A B : Hp → Prop} (h : A H) : tYes σ H (fun b H3 => if b = true then A H3 else B H3) := by
  show (fun (b : Bool) (H3 : Hp) => if b = true then A H3 else B H3) true H
  simp only [if_true]
  exact h
def risesB (l : List (List Int)) : Bool := (List.range (l.length - 1)).all fun i => HT.lexLt (l.getD i []) (l.getD (i + 1) [])
theorem risesB_yes {l : List (List Int)} (h : ∀ j, j < l.length - 1 → HT.lexLt (l.getD j []) (l.getD (j + 1) []) = true) : risesB l = true := by
  unfold risesB
  rw [List.all_eq_true]
  exact fun j hj => h j (List.mem_range.mp hj)
theorem risesB_no {l : List (List Int)} {j : Nat} (hj : j < l.length - 1) (h : HT.lexLt (l.getD j []) (l.getD (j + 1) []) = false) : risesB l = false := by
  unfold risesB
  rw [Bool.eq_false_iff]
  intro z
  have := List.all_eq_true.mp z j (List.mem_range.mpr hj)
  rw [h] at this
  cases this
theorem cut1 (xs : List V) : cutV xs (some 1) none = xs.drop 1 := by
  unfold cutV
  rw [show HT.sIx xs.length 0 (some 1) = min 1 xs.length from HT.sIx_nat xs.length 0 1, HT.sIx_none]
  cases xs with
  | nil => rfl
  | cons x r =>
    rw [show min 1 (x :: r).length = 1 by
      rw [List.length_cons]
      omega]
    show (List.take ((x :: r).length - 1) r) = r
    rw [List.length_cons, Nat.add_sub_cancel]
    exact List.take_length
theorem scRises : FnScope ["row", "low", "high"] ["row"] (defScope sRises) := ⟨rfl, rfl, rfl, by decide +kernel, rfl, by decide +kernel, by decide +kernel⟩
section
variable {P : Program} {w : World} {K : PySem.W.Frag} {mg : Str → Option Value} {base : Heap}
/-- the list at a holds tuples of ints -/
def TupsAt (K : PySem.W.Frag) (H : Hp) (xs : List V) (l : List (List Int)) : Prop := xs.length = l.length ∧ ∀ (i : Nat) (x : V), xs[i]? = some x → ∃ t, x = .ref t ∧ SqT K H t ((l.getD i []).map V.int)
theorem TupsAt.k0 {H H' : Hp} {xs : List V} {l : List (List Int)} (h : TupsAt K H xs l) (k : K0 H H') : TupsAt K H' xs l := ⟨h.1, fun i x e => by
  obtain ⟨t, e, s⟩ := h.2 i x e
  exact ⟨t, e, k.sqT s⟩⟩
def spRises (K : PySem.W.Frag) (Pr : Addr) : Sp := fun vs H Q _ => ∃ (a : Addr) (xs : List V) (l : List (List Int)), vs = [.ref a] ∧ SqL K H a xs ∧ TupsAt K H xs l ∧ TabG H Pr ∧ ∀ H', K0 H H' → Q (.bl (risesB l)) H'
theorem ok_rises {f c Pr : Addr} {fd : FuncData} (F : FunC K "rises" "rises" sRises f fd c) (TB : TabB base mg c Pr) (mz : mg "zip" = none) (ma : mg "all" = none) : FnOk P w K mg base CX0 2 f fd ["row"] (spRises K Pr) := by
  refine F.ok scRises (fun vs H Q E h => ?_) (fun A outer s H vs Q E hr h => ?_)
  · obtain ⟨a, xs, l, rfl, _⟩ := h
    rfl
  · obtain ⟨a, xs, l, rfl, hS, hT, hP, q⟩ := h
    refine ⟨_, pss_one (ps_ret (pe_allG (own := [("low", 1), ("high", 2)]) (k := 0) (g := gTup K 2 (gCons (gName 1) (gCons (gName 2) gNil))) (tt := tYes) (te := tOp (rLtT K) (tVar 1) (tVar 2)) hr (by rfl) ma rfl scRises.nd TB rfl (gsc_by (N := ["row", "low", "high"]) (sc := defScope sRises) (by decide +kernel))
      (pi_zip (by rfl) mz (pa_cons (pv 0) (pa_cons (pe_slice sl_list (pv 0) (po_some pe_int) po_none) pa_nil)))
      (fun A' hr' _ _ _ _ _ _ => pg_tup rfl (pgs_cons (pg_name (i := 1) scRises.nd rfl (.inl rfl)) (pgs_cons (pg_name (i := 2) scRises.nd rfl (.inl rfl)) pgs_nil)))
      (fun A' hr' _ _ _ _ _ _ => pts_nil)
      (fun A' hr' _ _ _ _ _ _ => pe_cmpR (op_ltT hr'.units0) (pv 1) (pv 2) (nomark _)))), ?_⟩
    refine ⟨.ref a, rfl, .ref a, rfl, 1, rfl, a, xs, rfl, hS, fun c nc => ?_⟩
    have k1 : K0 H (upd H c (.lst (cutV xs (some 1) none))) := K0.new nc
    refine ⟨a, c, xs, _, rfl, k1.sqL hS, .inl (.inl upd_same), k1.tab _ hP, fun H2 hT2 => ?_⟩
    have k2 : K0 H H2 := k1.trans (K0.tbd (k1.tab _ hP) hT2)
    have hc2 : H2 c = some (.lst (xs.drop 1)) := by
      have := (K0.tbd (k1.tab _ hP) hT2).oth c _ upd_same (fun _ z => by cases z)
      rw [cut1] at this
      exact this
    refine ⟨fun i m H3 => i + m = xs.length - 1 ∧ K0 H H3 ∧ H3 c = some (.lst (xs.drop 1)) ∧ ∀ j, j < i → HT.lexLt (l.getD j []) (l.getD (j + 1) []) = true, ⟨xs.length - 1, by omega, k2, hc2, fun j hj => absurd hj (Nat.not_lt_zero _)⟩, fun i m H3 hW => ?_⟩
    obtain ⟨em, k3, ec, hlt⟩ := hW
    have hA : SqL K H3 a xs := k3.sqL hS
    have hC : SqL K H3 c (xs.drop 1) := .inl (.inl ec)
    by_cases hi : i < xs.length - 1
    · have h1 : i < xs.length := by omega
      have h2 : i + 1 < xs.length := by omega
      have g1 : xs[i]? = some xs[i] := List.getElem?_eq_getElem h1
      have g2 : (xs.drop 1)[i]? = some xs[i + 1] := by rw [List.getElem?_drop, Nat.add_comm 1 i]; exact List.getElem?_eq_getElem h2
      refine .inr ⟨⟨_, _, _, _, hA, hC, g1, g2⟩, fun H' => K0 H H' ∧ H' c = some (.lst (xs.drop 1)) ∧ HT.lexLt (l.getD i []) (l.getD (i + 1) []) = true, fun H' hN => ?_, fun x H' hy => ?_⟩
      · obtain ⟨k', ec', hl'⟩ := hN
        refine ⟨m - 1, by omega, by omega, k', ec', fun j hj => ?_⟩
        by_cases e : j = i
        · rw [e]; exact hl'
        · exact hlt j (by omega)
      · obtain ⟨T, x1, x2, rfl, nT, rfl, f1, f2⟩ := hy
        have ex1 : x1 = xs[i] := Option.some.inj ((f1 _ hA).symm.trans g1)
        have ex2 : x2 = xs[i + 1] := Option.some.inj ((f2 _ hC).symm.trans g2)
        have kT : K0 H3 (upd H3 T (.tup [x1, x2])) := K0.new nT
        obtain ⟨t1, e1, s1⟩ := hT.2 i x1 (by rw [ex1]; exact g1)
        obtain ⟨t2, e2, s2⟩ := hT.2 (i + 1) x2 (by rw [ex2]; exact List.getElem?_eq_getElem h2)
        refine ⟨T, [x1, x2], rfl, .inl (.inl upd_same), rfl, x1, [x2], rfl, x2, [], rfl, rfl, rfl, ?_⟩
        refine tyes ?_
        have k4 := k3.trans kT
        refine ⟨x1, rfl, x2, rfl, t1, t2, _, _, e1, e2, k4.sqT s1, k4.sqT s2, _, rfl, ?_⟩
        cases hb : HT.lexLt (l.getD i []) (l.getD (i + 1) []) with
        | true => exact iteT ⟨k4, kT.oth c _ ec (fun _ z => by cases z), rfl⟩
        | false => exact iteF (qeq (q _ k4) (risesB_no (by rw [← hT.1]; exact hi) hb))
    · refine .inl ⟨⟨_, _, hA, hC, .inr (by rw [List.length_drop]; omega)⟩, ?_⟩
      exact qeq (q _ k3) (risesB_yes fun j hj => hlt j (by rw [← hT.1] at hj; omega))
end
end HK

set_option Elab.async false
set_option linter.all false
set_option maxRecDepth 100000
set_option maxHeartbeats 2000000
namespace HK
open PySem PySem.Spec PyProof.Rows L2 GAl GxR
def pairD : PyData → List Int
  | .tuple (.int s :: .int e :: _) => [s, e]
  | _ => []
def isNetD : PyData → Bool
  | .tuple [.int m, .tuple rs] => (decide (1 ≤ m) && decide (m ≤ 12)) && (rs.all (isRoadD m) && risesB (rs.map pairD))
  | _ => false
theorem road_ints {n : Int} {d : PyData} (h : isRoadD n d = true) : ∃ s e c l : Int, d = .tuple [.int s, .int e, .int c, .int l] ∧ 0 ≤ s ∧ s ≤ n - 1 ∧ 0 ≤ e ∧ e ≤ n - 1 ∧ s ≠ e ∧ 0 ≤ c ∧ c ≤ 1000 ∧ 1 ≤ l ∧ l ≤ 1000 := by
  unfold isRoadD at h
  split at h
  · rename_i s e c l
    simp only [Bool.and_eq_true] at h
    obtain ⟨⟨⟨h1, h2⟩, h3⟩, h4, h5⟩ := h
    obtain ⟨i, rfl, a1, a2⟩ := within_int h1
    obtain ⟨j, rfl, b1, b2⟩ := within_int h2
    obtain ⟨k, rfl, c1, c2⟩ := within_int h4
    obtain ⟨q, rfl, d1, d2⟩ := within_int h5
    refine ⟨i, j, k, q, rfl, a1, a2, b1, b2, fun z => ?_, c1, c2, d1, d2⟩
    rw [z] at h3
    simp [neD] at h3
  · cases h
theorem dp_ints4 {K : PySem.W.Frag} {H : Hp} {x : V} {s e c l : Int} (h : Dp K H x (.tuple [.int s, .int e, .int c, .int l])) : ∃ a, x = .ref a ∧ SqT K H a [.int s, .int e, .int c, .int l] := by
  obtain ⟨a, xs, rfl, hq, hall⟩ := dp_tup h
  cases hall with
  | cons d1 hall => cases hall with
    | cons d2 hall => cases hall with
      | cons d3 hall => cases hall with
        | cons d4 hall =>
          cases hall
          obtain rfl := dp_int' d1
          obtain rfl := dp_int' d2
          obtain rfl := dp_int' d3
          obtain rfl := dp_int' d4
          exact ⟨a, rfl, hq⟩
theorem dpAll_get {K : PySem.W.Frag} {H : Hp} : ∀ {xs : List V} {ds : List PyData} {i : Nat} {x : V}, DpAll K H xs ds → xs[i]? = some x → ∃ d, ds[i]? = some d ∧ Dp K H x d
  | _, _, _, _, .nil, e => by simp at e
  | _, _, 0, _, .cons h _, e => by simp at e; subst e; exact ⟨_, rfl, h⟩
  | _, _, i + 1, x, .cons _ t, e => by
    obtain ⟨d, h1, h2⟩ := dpAll_get (i := i) (x := x) t (by simpa using e)
    exact ⟨d, by simpa using h1, h2⟩
theorem K0.mut {H H' : Hp} {p : Addr} {o : HO} (k : K0 H H') (n : H p = none) : K0 H (upd H' p o) := ⟨fun b u e m => by
  rw [upd_ne (ne_of_none e n)]; exact k.oth b u e m, fun P h => by
  obtain ⟨ps, e, ht⟩ := h
  obtain ⟨ps', e', ht'⟩ := k.tab P ⟨ps, e, ht⟩
  exact ⟨ps', by rw [upd_ne (ne_of_none e n)]; exact e', ht'⟩, fun b e => k.dom b (upd_none e)⟩
theorem TupsAt.kt {K : PySem.W.Frag} {t : Addr} {H H' : Hp} {xs : List V} {l : List (List Int)} (h : TupsAt K H xs l) (k : Kt t H H') : TupsAt K H' xs l := ⟨h.1, fun i x e => by
  obtain ⟨t, e, s⟩ := h.2 i x e
  exact ⟨t, e, k.sqT s⟩⟩
theorem TupsAt.snoc {K : PySem.W.Frag} {H : Hp} {xs : List V} {l : List (List Int)} {t : Addr} {ns : List Int} (h : TupsAt K H xs l) (s : SqT K H t (ns.map V.int)) : TupsAt K H (xs ++ [.ref t]) (l ++ [ns]) := by
  refine ⟨by simp [h.1], fun i x e => ?_⟩
  by_cases hi : i < xs.length
  · rw [List.getElem?_append_left hi] at e
    obtain ⟨t', e', s'⟩ := h.2 i x e
    refine ⟨t', e', ?_⟩
    have : (l ++ [ns]).getD i [] = l.getD i [] := by
      simp only [List.getD_eq_getElem?_getD]
      rw [List.getElem?_append_left (by rw [← h.1]; exact hi)]
    rw [this]; exact s'
  · have hx : i = xs.length := by
      have : i < (xs ++ [V.ref t]).length := (List.getElem?_eq_some_iff.mp e).1
      rw [List.length_append, List.length_singleton] at this
      omega
    subst hx
    rw [List.getElem?_append_right (Nat.le_refl _), Nat.sub_self] at e
    have e : V.ref t = x := Option.some.inj e
    refine ⟨t, e.symm, ?_⟩
    have : (l ++ [ns]).getD xs.length [] = ns := by
      simp only [List.getD_eq_getElem?_getD]
      rw [h.1, List.getElem?_append_right (Nat.le_refl _), Nat.sub_self]; rfl
    rw [this]; exact s
theorem scIsNet : FnScope ["thing", "many", "roads", "road"] ["thing"] (defScope sIsNet) := ⟨rfl, rfl, rfl, by decide +kernel, rfl, by decide +kernel, by decide +kernel⟩
theorem all_no {rs : List PyData} {p : PyData → Bool} {i : Nat} {d : PyData} (h : rs[i]? = some d) (hd : p d = false) : rs.all p = false := by
  rw [Bool.eq_false_iff]
  intro z
  have := List.all_eq_true.mp z d (List.mem_of_getElem? h)
  rw [hd] at this; cases this
theorem all_yes {rs : List PyData} {p : PyData → Bool} (h : ∀ (j : Nat) (d : PyData), rs[j]? = some d → p d = true) : rs.all p = true := by
  rw [List.all_eq_true]
  intro d hd
  obtain ⟨j, hj, e⟩ := List.getElem_of_mem hd
  exact h j d (by rw [← e]; exact List.getElem?_eq_getElem hj)

section
variable {P : Program} {w : World} {K : PySem.W.Frag} {mg : Str → Option Value} {base : Heap}
def NetAns (K : PySem.W.Frag) (H : Hp) (v : V) (b : Bool) : Prop := (∃ d, Dp K H v d ∧ (∀ m rs, d = .tuple [m, .tuple rs] → rs.length ≤ 1000) ∧ b = isNetD d) ∨ (∃ T, T ∈ tys ∧ TyX K H v (.type T) ∧ (T == "tuple") = false ∧ b = false)
def spIsNet (K : PySem.W.Frag) (Pn Pr : Addr) : Sp := fun vs H Q _ => ∃ (v : V) (b : Bool), vs = [v] ∧ NetAns K H v b ∧ TabG H Pn ∧ TabG H Pr ∧ ∀ H', K0 H H' → Q (.bl b) H'
theorem ok_isnet {f c Pn Pr fW fR fS : Addr} {fd fdW fdR fdS : FuncData} {t1 : Tok} (F : FunC K "is_net" "is_net" sIsNet f fd c) (TB : TabB base mg c Pn)
    (kW : PySem.W.keepIn K (.ref fW) = true) (bW : Binds K fdW ["thing", "least", "greatest"] []) (gW : mg "is_within" = some (.ref fW)) (GW : FnOk P w K mg base CX0 2 fW fdW ["thing", "least", "greatest"] (spWithin K))
    (kR : PySem.W.keepIn K (.ref fR) = true) (bR : Binds K fdR ["many", "thing"] []) (gR : mg "is_road" = some (.ref fR)) (GR : FnOk P w K mg base CX0 3 fR fdR ["many", "thing"] (spRoad K))
    (kS : PySem.W.keepIn K (.ref fS) = true) (bS : Binds K fdS ["row"] []) (gS : mg "rises" = some (.ref fS)) (GS : FnOk P w K mg base CX0 2 fS fdS ["row"] (spRises K Pr))
    (mi : mg "isinstance" = none) (mT : mg "tuple" = none) (ml : mg "len" = none) (ma : mg "all" = none) (g1 : mg "MOST_PLACES" = some (.int 12 t1)) : FnOk P w K mg base CX0 5 f fd ["thing"] (spIsNet K Pn Pr) := by
  refine F.ok scIsNet (fun vs H Q E h => ?_) (fun A outer s H vs Q E hr h => ?_)
  · obtain ⟨v, b, rfl, _⟩ := h
    rfl
  · obtain ⟨v, b, rfl, hA, hPn, hPr, q⟩ := h
    refine ⟨_, pss_cons (ps_if (pt_not (PW.pt (pw_and (pt_val (pe_callB call_isi (by rfl) mi boot_isinstance (pa_cons (pv 0) (pa_cons (pe_bltn (v := .ty "tuple") (by rfl) mT (by decide +kernel) rfl) pa_nil))))
        (pw_and1 (pt_cmpR op_eq (pe_callB call_len_seq (by rfl) ml PySem.boot_len (pa_cons (pv 0) pa_nil)) pe_int (nomark _)))))) (pss_one (ps_ret pe_bl)) pss_nil)
      (pss_cons (ps_asg (pv 0) (pg_tup rfl (pgs_cons (pg_name (i := 1) scIsNet.nd rfl (.inr rfl)) (pgs_cons (pg_name (i := 2) scIsNet.nd rfl (.inl rfl)) pgs_nil))))
      (pss_cons (ps_if (pt_not (PW.pt (pw_and (pt_val (pe_call GW (hr.mono (by decide)) (by rfl) gW kW bW .nil pass0 (pa_cons (pv 1) (pa_cons pe_int (pa_cons (pe_glob (v := .int 12) (by rfl) g1 ⟨_, rfl⟩) pa_nil)))))
        (pw_and1 (pt_val (pe_callB call_isi (by rfl) mi boot_isinstance (pa_cons (pv 2) (pa_cons (pe_bltn (v := .ty "tuple") (by rfl) mT (by decide +kernel) rfl) pa_nil)))))))) (pss_one (ps_ret pe_bl)) pss_nil)
      (pss_cons (ps_if (pt_not (pt_val (pe_allG (own := [("road", 3)]) (k := 3) (g := gName 3) (tt := tYes) (te := tCall (spRoad K) [] E0 (tCons (tVar 1) (tCons (tVar 3) tNil))) hr (by rfl) ma rfl scIsNet.nd TB rfl (gsc_by (N := ["thing", "many", "roads", "road"]) (sc := defScope sIsNet) (by decide +kernel))
          (pi_tup (pv 2)) (fun A' hr' _ _ _ _ _ _ => pg_name (i := 3) scIsNet.nd rfl (.inl rfl)) (fun A' hr' _ _ _ _ _ _ => pts_nil)
          (fun A' hr' _ _ _ _ _ _ => pe_call GR hr' (by rfl) gR kR bR .nil pass0 (pa_cons (pv 1) (pa_cons (pv 3) pa_nil)))))) (pss_one (ps_ret pe_bl)) pss_nil)
      (pss_one (ps_ret (pe_call GS (hr.mono (by decide)) (by rfl) gS kS bS .nil pass0 (pa_cons (pe_lc (own := [("road", 3)]) (g := gName 3) (tt := tYes) (te := tSl (rSlT K) (tVar 3) tNoPart (tPart (tC (.int 2)))) rfl scIsNet.nd (pi_tup (pv 2))
          (blkOk_by (N := ["thing", "many", "roads", "road"]) (sc := defScope sIsNet) (by decide +kernel)) (fun _ _ _ _ _ => pg_name (i := 3) scIsNet.nd rfl (Or.inl rfl)) (fun _ _ _ _ _ => pts_nil)
          (fun _ _ _ _ _ => pe_slice sl_tup (pv 3) po_none (po_some pe_int))) pa_nil))))))), ?_⟩
    rcases hA with ⟨d, hd, hsz, rfl⟩ | ⟨T, hT, hty, hne, rfl⟩
    · refine ⟨v, rfl, v, .ty "tuple", _, _, _, rfl, .ty "tuple", dp_ty hd, kit_ty (tys_tuple (tyD_mem d)), _, rfl, ite2 (fun e => ?_) (fun e => ?_)⟩
      · obtain ⟨ds, rfl⟩ : ∃ ds, d = .tuple ds := by cases d <;> first | exact ⟨_, rfl⟩ | (simp [tyD] at e)
        obtain ⟨a, xs, rfl, hq, hall⟩ := dp_tup hd
        refine ⟨.ref a, rfl, a, xs, rfl, .inr hq, rfl, _, rfl, ?_⟩
        by_cases h4 : xs.length = 2
        · rw [decide_eq_true (show (V.int (xs.length : Int)) = .int 2 by rw [h4]; rfl)]
          refine iteF ?_
          have h4' : ds.length = 2 := by rw [← dpAll_len hall]; exact h4
          obtain ⟨dm, dr, rfl⟩ : ∃ dm dr, ds = [dm, dr] := by
            match ds, h4' with
            | [a, b], _ => exact ⟨a, b, rfl⟩
          cases hall with
          | cons d1 hall => cases hall with
            | cons d2 hall =>
              cases hall
              rename_i v1 v2
              refine ⟨.ref a, rfl, a, _, rfl, hq, rfl, v1, _, rfl, v2, _, rfl, rfl, ?_⟩
              refine ⟨v1, rfl, v1, dm, 1, 12, rfl, d1, _, rfl, ite2 (fun b1 => ?_) (fun b1 => ?_)⟩
              · obtain ⟨m, rfl, m1, m2⟩ := within_int b1
                obtain rfl := dp_int' d1
                refine ⟨v2, rfl, v2, .ty "tuple", _, _, _, rfl, .ty "tuple", dp_ty d2, kit_ty (tys_tuple (tyD_mem dr)), _, rfl, ?_⟩
                cases hb2 : (tyD dr == "tuple") with
                | false =>
                  refine iteT (qeq (q _ (K0.refl _)) ?_)
                  cases dr <;> first | rfl | (simp [tyD] at hb2)
                | true =>
                  refine iteF ?_
                  obtain ⟨rs, rfl⟩ : ∃ ds, dr = .tuple ds := by cases dr <;> first | exact ⟨_, rfl⟩ | (simp [tyD] at hb2)
                  obtain ⟨r, ys, rfl, hqr, hallr⟩ := dp_tup d2
                  have hm : isNetD (.tuple [.int m, .tuple rs]) = (rs.all (isRoadD m) && risesB (rs.map pairD)) := by
                    show ((decide (1 ≤ m) && decide (m ≤ 12)) && _) = _
                    rw [decide_eq_true m1, decide_eq_true m2, Bool.true_and, Bool.true_and]
                  rw [hm] at q
                  have hlen : ys.length = rs.length := dpAll_len hallr
                  -- all(is_road(many, road) for road in roads)
                  refine ⟨.ref r, rfl, r, rfl, ⟨_, hqr⟩, hPn, fun H2 hT2 => ?_⟩
                  have k2 : K0 H H2 := K0.tbd hPn hT2
                  refine ⟨fun i mm H3 => i + mm = ys.length ∧ K0 H H3 ∧ ∀ (j : Nat) (d : PyData), j < i → rs[j]? = some d → isRoadD m d = true, ⟨ys.length, by omega, k2, fun j _ hj => absurd hj (Nat.not_lt_zero _)⟩, fun i mm H3 hW => ?_⟩
                  obtain ⟨em, k3, hlt⟩ := hW
                  have hY : SqT K H3 r ys := k3.sqT hqr
                  by_cases hi : i < ys.length
                  · have g1 : ys[i]? = some ys[i] := List.getElem?_eq_getElem hi
                    obtain ⟨di, hdi, hDi⟩ := dpAll_get hallr g1
                    refine .inr ⟨⟨_, _, hY, g1⟩, fun H' => K0 H H' ∧ isRoadD m di = true, fun H' hN => ?_, fun x H' hy => ?_⟩
                    · obtain ⟨k', hb'⟩ := hN
                      refine ⟨mm - 1, by omega, by omega, k', fun j d hj hd => ?_⟩
                      by_cases e : j = i
                      · subst e
                        rw [hdi] at hd; cases hd; exact hb'
                      · exact hlt j d (by omega) hd
                    · obtain ⟨rfl, fx⟩ := hy
                      have ex : x = ys[i] := Option.some.inj ((fx _ hY).symm.trans g1)
                      subst ex
                      refine ⟨rfl, tyes ?_⟩
                      refine ⟨.int m, rfl, _, rfl, m, _, di, rfl, K0.dp k3 di _ hDi, _, rfl, ?_⟩
                      cases hb3 : isRoadD m di with
                      | true => exact iteT ⟨k3, rfl⟩
                      | false =>
                        refine iteF ⟨_, rfl, iteT (qeq (q _ k3) ?_)⟩
                        rw [all_no hdi hb3, Bool.false_and]
                  · refine .inl ⟨⟨_, hY, by omega⟩, _, rfl, iteF ?_⟩
                    have hallR : ∀ (j : Nat) (d : PyData), rs[j]? = some d → isRoadD m d = true := fun j d hd => hlt j d (by
                      have := (List.getElem?_eq_some_iff.mp hd).1
                      omega) hd
                    have hat : rs.all (isRoadD m) = true := all_yes hallR
                    rw [hat, Bool.true_and] at q
                    -- rises([road[:2] for road in roads])
                    refine ⟨.ref r, rfl, r, rfl, ⟨_, hY⟩, fun D nD => lc_tup (K := K) (a := r) (xs := ys) (fun i H4 => K0 H3 H4 ∧ ∃ zs, H4 D = some (.lst zs) ∧ TupsAt K H4 zs ((rs.take i).map pairD)) ⟨K0.new nD, [], upd_same, rfl, fun i x e => by simp at e⟩ (fun i H4 _ h => h.1.sqT hY) (fun i x H4 hx h => ?_) (fun H4 h => ?_)⟩
                    · obtain ⟨k4, zs, ez, hz⟩ := h
                      obtain ⟨di, hdi, hDi⟩ := dpAll_get hallr hx
                      obtain ⟨s1, e1, c1, l1, rfl, _⟩ := road_ints (hallR i di hdi)
                      obtain ⟨ar, rfl, hqa⟩ := dp_ints4 (K0.dp (k3.trans k4) _ _ hDi)
                      refine ⟨rfl, tyes ?_⟩
                      refine ⟨.ref ar, rfl, 2, rfl, ar, _, rfl, hqa, fun z => absurd z.2 (by show ¬ (HT.sIx 4 4 (some 2) = 4); decide), fun p np => ?_⟩
                      have kp : K0 H4 (upd H4 p (.tup (cutV [.int s1, .int e1, .int c1, .int l1] none (some 2)))) := K0.new np
                      have ez' := kp.oth D _ ez (fun _ z => by cases z)
                      have hl : zs.length ≤ rs.length := by
                        rw [hz.1, List.length_map, List.length_take]; omega
                      refine ⟨zs, ez', small1000 (Nat.le_trans hl (hsz _ _ rfl)), ?_⟩
                      refine ⟨(k4.trans kp).mut nD, zs ++ [.ref p], upd_same, ?_⟩
                      have : (rs.take (i + 1)).map pairD = (rs.take i).map pairD ++ [[s1, e1]] := by
                        rw [List.take_add_one, hdi, List.map_append]; rfl
                      rw [this]
                      refine TupsAt.snoc ((hz.k0 kp).kt (Kt.set ez')) ?_
                      exact (Kt.set ez').sqT (.inl (.inl upd_same))
                    · obtain ⟨k4, zs, ez, hz⟩ := h
                      rw [hlen, List.take_length] at hz
                      exact ⟨D, zs, _, rfl, .inl (.inl ez), hz, (k3.trans k4).tab _ hPr, fun H5 k5 => q _ ((k3.trans k4).trans k5)⟩
              · simp only [Bool.not_eq_true] at b1
                refine iteT (qeq (q _ (K0.refl _)) ?_)
                unfold isNetD
                split
                · rename_i heq
                  cases heq
                  show (withinD (.int _) 1 12 && _) = false
                  rw [b1, Bool.false_and]
                · rfl
        · rw [decide_eq_false (show ¬ (V.int (xs.length : Int)) = .int 2 from fun z => h4 (by have := V.int.inj z; omega))]
          refine iteT (qeq (q _ (K0.refl _)) ?_)
          have h4' : ds.length ≠ 2 := by rw [← dpAll_len hall]; exact h4
          unfold isNetD
          split
          · rename_i heq
            cases heq
            exact absurd rfl h4'
          · rfl
      · refine iteT (qeq (q _ (K0.refl _)) ?_)
        cases d <;> first | rfl | (exact absurd rfl e)
    · refine ⟨v, rfl, v, .ty "tuple", _, _, _, rfl, .ty "tuple", hty, kit_ty (tys_tuple hT), _, rfl, ?_⟩
      rw [hne]
      exact iteF (iteT (q _ (K0.refl _)))
end
end HK

set_option Elab.async false
set_option linter.all false
set_option maxRecDepth 100000
set_option maxHeartbeats 2000000
namespace HK
open PySem PySem.Spec PyProof.Rows L2 GAl GxR
open Evl (pss_cut)
theorem dpInts {K : PySem.W.Frag} {H : Hp} : ∀ ns : List Int, DpAll K H (ns.map V.int) (ns.map PyData.int)
  | [] => .nil
  | n :: ns => .cons (.int n) (dpInts ns)
/-- the script, at s: written, locked, or a list apart from the tape's at t -/
def Scr (K : PySem.W.Frag) (t : Addr) (H : Hp) (s : Addr) (ns : List Int) : Prop := (H s = some (.lst (ns.map V.int)) ∧ s ≠ t) ∨ (∃ o, H s = some (.frz o (.lst (ns.map V.int)))) ∨
  ∃ (o : Obj) (its : Array Value) (n : Nat), K.lookup s = some o ∧ o.cls = .type "list" ∧ o.dict = none ∧ o.data = .seq its n ∧ its.size ≤ sizeLine ∧ Vals (ns.map V.int) its.toList
theorem Scr.sq {K : PySem.W.Frag} {t : Addr} {H : Hp} {s : Addr} {ns : List Int} (h : Scr K t H s ns) : SqL K H s (ns.map V.int) := by
  rcases h with ⟨h, _⟩ | h | h
  · exact .inl (.inl h)
  · exact .inl (.inr h)
  · exact .inr h
theorem Scr.kt {K : PySem.W.Frag} {t : Addr} {H H' : Hp} {s : Addr} {ns : List Int} (h : Scr K t H s ns) (k : Kt t H H') : Scr K t H' s ns := by
  rcases h with ⟨h, n⟩ | ⟨o, h⟩ | h
  · exact .inl ⟨k.oth _ _ h n (fun _ z => by cases z), n⟩
  · exact .inr (.inl ⟨o, k.frz _ _ _ h⟩)
  · exact .inr (.inr h)
theorem Scr.of {K : PySem.W.Frag} {t : Addr} {H : Hp} {s : Addr} {ns : List Int} {o : HO} (h : SqL K H s (ns.map V.int)) (n : H t = none) : Scr K t (upd H t o) s ns := by
  rcases h with (h | ⟨o', h⟩) | h
  · have z := ne_of_none h n
    exact .inl ⟨by rw [upd_ne z]; exact h, z⟩
  · have z := ne_of_none h n
    exact .inr (.inl ⟨o', by rw [upd_ne z]; exact h⟩)
  · exact .inr (.inr h)
/-- the tape: the script, the next place, what is left of the number -/
def TapeV (H : Hp) (t s : Addr) : Prop := ∃ p v : Int, H t = some (.lst [.ref s, .int p, .int v]) ∧ 0 ≤ p ∧ 0 ≤ v
structure Tape (K : PySem.W.Frag) (H : Hp) (t s : Addr) (ns : List Int) : Prop where
  v : TapeV H t s
  scr : Scr K t H s ns
theorem canLay_ints : ∀ ns : List Int, SeqAt.shaped (.list (ns.map PyData.int)) = true := PySem.W.shaped_ints
theorem eqv_nil (ns : List Int) : PyData.eqv (.list (ns.map PyData.int)) (.list []) = ns.isEmpty := by
  cases ns <;> simp [PyData.eqv, PyData.eqvAll]
section
variable {P : Program} {w : World} {K : PySem.W.Frag} {mg : Str → Option Value} {base : Heap}
def spSpread : Sp := fun vs H Q _ => ∃ cell place : Int, vs = [.int cell, .int place] ∧ 0 ≤ place ∧ ∀ v : Int, 0 ≤ v → Q (.int v) H
theorem mulR {i j : Int} (h : -(2 ^ 64) < j) (h2 : j < 2 ^ 64) : CMul i j := .inr ⟨h, h2⟩
theorem mulL {i j : Int} (h : -(2 ^ 64) < i) (h2 : i < 2 ^ 64) : CMul i j := .inl ⟨h, h2⟩
def spDigit (K : PySem.W.Frag) : Sp := fun vs H Q _ => ∃ (t sc : Addr) (many : Int) (ns : List Int), vs = [.ref t, .int many] ∧ Tape K H t sc ns ∧ 0 < many ∧ many ≤ 100000000000000000000 ∧
  ∀ (d : Int) (H' : Hp), 0 ≤ d → d < many → Kt t H H' → Tape K H' t sc ns → Q (.int d) H'
end
end HK

set_option Elab.async false
set_option linter.all false
set_option maxRecDepth 100000
set_option maxHeartbeats 2000000
namespace HK
open PySem PySem.Spec PyProof.Rows L2 GAl GxR
section
variable {X : Cx}
/-- tuple(xs) of a list: the new object is known -/
theorem call_tuple_fz : CallR X (.type "tuple") (fun xs H Q => ∃ p ys, xs = [.ref p] ∧ SqL X.K H p ys ∧ ∀ l o, H l = none → o.cls = .type "tuple" → o.dict = none → Q (.ref l) (upd H l (.frz o (.tup ys)))) := by
  intro pins s σ H xs us Q I r h
  obtain ⟨p, ys, rfl, hq, q⟩ := h
  obtain ⟨u, rfl, rx⟩ := vals1 r
  cases rx
  obtain ⟨its, r', pl, hz⟩ := I.list hq
  have hlen := r'.length
  refine call_tuple_list pl.isList (fun h' kp => ?_) (by simp only [List.size_toArray] <;> omega)
  have I1 : Inv X pins σ H { s with heap := h' } := I.kept (t' := s.toks) kp
  have hget : (h'.push { cls := .type "tuple", data := .seq its.toArray }).get? h'.objs.size = some { cls := .type "tuple", data := .seq its.toArray } := Heap.get?_push_size _ rfl
  have I2 : Inv X pins σ (upd H h'.objs.size (.frz { cls := .type "tuple", data := .seq its.toArray } (.tup ys))) { s with heap := h'.push { cls := .type "tuple", data := .seq its.toArray } } :=
    I1.laid (t' := s.toks) (fun b o e => Heap.get?_push_of_some _ e) (Nat.le_refl _) (show ObjOk X.prog X.w _ _ _ (.frz _ (.tup ys)) from ⟨hget, hz, its, r', IsTup.new _ _⟩)
  exact ⟨.ref h'.objs.size, _, I2, rfl, q _ _ (I1.hok.fresh (Nat.le_refl _)) rfl rfl⟩
/-- a method of a built-in type, of an object that is known -/
def tBMF (T : String) (r : V → List V → Hp → VK → Prop) (to : TE) (t : TA) : TE := fun σ H Q => to σ H fun x H1 => (∃ a ob u, x = .ref a ∧ H1 a = some (.frz ob u) ∧ ob.cls = .type T ∧ ob.dict = none) ∧ t σ H1 fun xs H2 => r x xs H2 Q
theorem pe_bmF {o e : Expr} {es : List Expr} {to : TE} {t : TA} {name : Str} {apos cpos : Pos} {T id : String} {r : V → List V → Hp → VK → Prop}
    (pa : PlainAttrs T) (slot : Slot T name id) (hty : typeOf (.builtin id) = pure (.type "method_descriptor")) (hm : MtR X id r) (ho : PE X o to) (ha : PA X (e :: es) t)
    (hbase : attributeBase o name X.env (eval o X.env) = eval o X.env := by rfl)
    (hfew : ((backTo cpos (starEach (e :: es) X.env)).all (fun x => !x.1) && (backToKw cpos (keywordEach [] X.env)).all (fun x => x.1.isSome)
      && decide ((e :: es).length + ([] : List Keyword).length + (if ([] : List Keyword).isEmpty then 0 else 1) < 30)) = true := by rfl)
    (hline : (apos.endLine == cpos.line) = true := by rfl) (hs : starEach (e :: es) X.env = (false, eval e X.env) :: starEach es X.env := by rfl) (hplain : (backTo cpos (starEach es X.env)).any (·.1) = false := by rfl) :
    PE X (.Call (.Attribute o name apos) (e :: es) [] cpos) (tBMF T r to t) := by
  refine ⟨fun pins s σ H Q I h => ?_⟩
  refine wpAny_Call_method_late hbase hfew hline rfl (thn (ho.run pins s σ H _ I h) fun v s1 ⟨x, H1, I1, r1, ⟨a, ob, u, ex, hob, hc, hd⟩, q1⟩ => ?_)
  subst ex
  have hget := (show ObjOk X.prog X.w H1 s1.heap a (.frz ob u) from I1.hok a _ hob).1
  have ev : v = .ref a := r1
  refine ⟨T, id, pa, slot, hty, by rw [ev]; exact ⟨ob, hget, hc⟩, fun b e2 => ?_, ?_⟩
  · rw [ev] at e2
    cases e2
    exact ⟨ob, hget, hd⟩
  have hA := ha.run cpos pins s1 σ H1 _ I1 q1
  rw [hs] at hA ⊢
  refine Calls.callWith_builtin (by show (false || (backTo cpos (starEach es X.env)).any (·.1)) = false; rw [hplain] <;> rfl) (Calls.evalArgs_plain ?_)
  exact thn hA fun us s2 ⟨vs, H2, I2, r2, q2⟩ => hm pins s2 σ H2 (.ref a) vs v us Q I2 r1 r2 q2
end
end HK

set_option Elab.async false
set_option linter.all false
set_option maxRecDepth 100000
set_option maxHeartbeats 2000000
namespace HK
open PySem PySem.Spec PyProof.Rows L2 GAl GxR
open Evl (pss_cut)
structure R4 where
  s : Int
  e : Int
  c : Int
  l : Int
def R4.vs (r : R4) : List V := [.int r.s, .int r.e, .int r.c, .int r.l]
def R4.d (r : R4) : PyData := .tuple [.int r.s, .int r.e, .int r.c, .int r.l]
structure RoadOk (n : Int) (r : R4) : Prop where
  s0 : 0 ≤ r.s
  s1 : r.s < n
  e0 : 0 ≤ r.e
  e1 : r.e < n
  ne : r.s ≠ r.e
  c0 : 0 ≤ r.c
  c1 : r.c ≤ 1000
  l0 : 1 ≤ r.l
  l1 : r.l ≤ 1000
def R4.lt (a b : R4) : Prop := a.s < b.s ∨ (a.s = b.s ∧ a.e < b.e)
structure Good (n : Int) (rs : List R4) : Prop where
  n1 : 1 ≤ n
  n2 : n ≤ 12
  ok : ∀ r ∈ rs, RoadOk n r
  up : rs.Pairwise R4.lt
/-- the roads' tuples -/
def Roads (K : PySem.W.Frag) (H : Hp) (xs : List V) (rs : List R4) : Prop := DpAll K H xs (rs.map R4.d)
theorem dp_r4 {K : PySem.W.Frag} {H : Hp} {x : V} {r : R4} (h : Dp K H x r.d) : ∃ a, x = .ref a ∧ SqT K H a r.vs := dp_ints4 h
theorem r4_dp {K : PySem.W.Frag} {H : Hp} {a : Addr} {r : R4} (h : SqT K H a r.vs) : Dp K H (.ref a) r.d := .tup h (.cons (.int _) (.cons (.int _) (.cons (.int _) (.cons (.int _) .nil))))
theorem Kt.roads {K : PySem.W.Frag} {t : Addr} {H H' : Hp} (k : Kt t H H') : ∀ {xs : List V} {rs : List R4}, Roads K H xs rs → Roads K H' xs rs
  | _, [], .nil => .nil
  | _, r :: rs, .cons a b => .cons (by
      obtain ⟨p, rfl, h⟩ := dp_r4 (r := r) a
      exact r4_dp (r := r) (k.sqT h)) (Kt.roads k (rs := rs) b)
theorem dpAll_snoc {K : PySem.W.Frag} {H : Hp} : ∀ {xs : List V} {ds : List PyData} {x : V} {d : PyData}, DpAll K H xs ds → Dp K H x d → DpAll K H (xs ++ [x]) (ds ++ [d])
  | _, _, _, _, .nil, h => .cons h .nil
  | _, _, _, _, .cons a b, h => .cons a (dpAll_snoc b h)
theorem Roads.snoc {K : PySem.W.Frag} {H : Hp} {xs : List V} {rs : List R4} {a : Addr} {r : R4} (h : Roads K H xs rs) (s : SqT K H a r.vs) : Roads K H (xs ++ [.ref a]) (rs ++ [r]) := by
  unfold Roads
  rw [List.map_append]
  exact dpAll_snoc h (r4_dp s)
theorem Roads.len {K : PySem.W.Frag} {H : Hp} {xs : List V} {rs : List R4} (h : Roads K H xs rs) : xs.length = rs.length := by
  have := dpAll_len h
  rw [List.length_map] at this
  exact this
theorem Kt.mut {t : Addr} {H H' : Hp} {p : Addr} {o : HO} (k : Kt t H H') (n : H p = none) : Kt t H (upd H' p o) := ⟨fun b u e => by
  rw [upd_ne (ne_of_none e n)]; exact k.tup b u e, fun b o u e => by
  rw [upd_ne (ne_of_none e n)]; exact k.frz b o u e, fun b u e m m' => by
  rw [upd_ne (ne_of_none e n)]; exact k.oth b u e m m', fun P h => by
  obtain ⟨ps, e, ht⟩ := h
  obtain ⟨ps', e', ht'⟩ := k.tab P ⟨ps, e, ht⟩
  exact ⟨ps', by rw [upd_ne (ne_of_none e n)]; exact e', ht'⟩, fun b e => k.dom b (upd_none e)⟩
theorem Tape.k0 {K : PySem.W.Frag} {H H' : Hp} {t s : Addr} {ns : List Int} (h : Tape K H t s ns) (k : K0 H H') : Tape K H' t s ns := by
  obtain ⟨⟨p, v, e, r⟩, q⟩ := h
  exact ⟨⟨p, v, k.oth t _ e (fun _ z => by cases z), r⟩, q.kt k.kt⟩
theorem Tape.ne {K : PySem.W.Frag} {H : Hp} {t s b : Addr} {ns : List Int} (h : Tape K H t s ns) (n : H b = none) : b ≠ t := fun z => by
  obtain ⟨_, _, e, _⟩ := h.v
  rw [z, e] at n; cases n
/-- a list of the law's own, at b, is written -/
theorem Tape.mut {K : PySem.W.Frag} {H H' : Hp} {t s b : Addr} {ns : List Int} {o : HO} (h : Tape K H' t s ns) (h0 : Scr K t H s ns) (k : Kt t H H') (n : H b = none) (nb : b ≠ t) : Tape K (upd H' b o) t s ns := by
  obtain ⟨⟨p, v, e, r⟩, q⟩ := h
  exact ⟨⟨p, v, by rw [upd_ne nb.symm]; exact e, r⟩, h0.kt (k.mut n)⟩
theorem pick8 {x d : Int} (h0 : 0 ≤ d) (h1 : d < 8) (hx : 0 ≤ x ∧ x ≤ 1000) : ∃ y : Int, atI [V.int 0, .int 1, .int 1, .int 2, .int 3, .int 7, .int 1000, .int x] d = some (.int y) ∧ 0 ≤ y ∧ y ≤ 1000 := by
  obtain ⟨k, rfl⟩ := Int.eq_ofNat_of_zero_le h0
  match k, h1 with
  | 0, _ => exact ⟨0, atI_nat rfl, by omega, by omega⟩
  | 1, _ => exact ⟨1, atI_nat rfl, by omega, by omega⟩
  | 2, _ => exact ⟨1, atI_nat rfl, by omega, by omega⟩
  | 3, _ => exact ⟨2, atI_nat rfl, by omega, by omega⟩
  | 4, _ => exact ⟨3, atI_nat rfl, by omega, by omega⟩
  | 5, _ => exact ⟨7, atI_nat rfl, by omega, by omega⟩
  | 6, _ => exact ⟨1000, atI_nat rfl, by omega, by omega⟩
  | 7, _ => exact ⟨x, atI_nat rfl, hx⟩
  | k + 8, h => exact absurd h (by omega)
theorem pick7 {x d : Int} (h0 : 0 ≤ d) (h1 : d < 7) (hx : 1 ≤ x ∧ x ≤ 1000) : ∃ y : Int, atI [V.int 1, .int 1, .int 2, .int 3, .int 5, .int 1000, .int x] d = some (.int y) ∧ 1 ≤ y ∧ y ≤ 1000 := by
  obtain ⟨k, rfl⟩ := Int.eq_ofNat_of_zero_le h0
  match k, h1 with
  | 0, _ => exact ⟨1, atI_nat rfl, by omega, by omega⟩
  | 1, _ => exact ⟨1, atI_nat rfl, by omega, by omega⟩
  | 2, _ => exact ⟨2, atI_nat rfl, by omega, by omega⟩
  | 3, _ => exact ⟨3, atI_nat rfl, by omega, by omega⟩
  | 4, _ => exact ⟨5, atI_nat rfl, by omega, by omega⟩
  | 5, _ => exact ⟨1000, atI_nat rfl, by omega, by omega⟩
  | 6, _ => exact ⟨x, atI_nat rfl, hx⟩
  | k + 7, h => exact absurd h (by omega)

section
variable {P : Program} {w : World} {K : PySem.W.Frag} {mg : Str → Option Value} {base : Heap}
/-- what the law's net is -/
def NetAt (K : PySem.W.Frag) (H : Hp) (a : Addr) (n : Int) (rs : List R4) : Prop := ∃ (r : Addr) (xs : List V) (_ : Unit), SqT K H a [.int n, .ref r] ∧ SqT K H r xs ∧ True ∧ True ∧ Roads K H xs rs
theorem NetAt.kt {t : Addr} {H H' : Hp} {a : Addr} {n : Int} {rs : List R4} (h : NetAt K H a n rs) (k : Kt t H H') : NetAt K H' a n rs := by
  obtain ⟨r, xs, o, h1, h2, hc, hd, h3⟩ := h
  exact ⟨r, xs, o, k.sqT h1, k.sqT h2, hc, hd, k.roads h3⟩
def spNet (K : PySem.W.Frag) : Sp := fun vs H Q _ => ∃ (t sc : Addr) (most : Int) (ns : List Int), vs = [.ref t, .int most] ∧ Tape K H t sc ns ∧ 1 ≤ most ∧ most ≤ 12 ∧
  ∀ (a : Addr) (n : Int) (rs : List R4) (H' : Hp), Kt t H H' → Tape K H' t sc ns → NetAt K H' a n rs → n ≤ most → Good n rs → rs.length ≤ 156 → Q (.ref a) H'
/-- between the turns -/
structure NI (K : PySem.W.Frag) (H : Hp) (t sc ra : Addr) (ns : List Int) (n : Int) (i j : Nat) (H3 : Hp) : Prop where
  kt : Kt t H H3
  tp : Tape K H3 t sc ns
  ex : ∃ xs rs, H3 ra = some (.lst xs) ∧ Roads K H3 xs rs ∧ Good n rs ∧ (∀ r ∈ rs, r.s < i ∨ (r.s = i ∧ r.e < j)) ∧ rs.length ≤ 12 * i + j
end
end HK

set_option Elab.async false
set_option linter.all false
set_option maxRecDepth 100000
set_option maxHeartbeats 2000000
namespace HK
open PySem PySem.Spec PyProof.Rows L2 GAl GxR
mutual
/-- data whose lists are tracked, apart from the tape -/
inductive Dq (K : PySem.W.Frag) (T : Addr → Prop) (H : Hp) : V → PyData → Prop
  | non : Dq K T H .non .none
  | bl (b : Bool) : Dq K T H (.bl b) (.bool b)
  | int (i : Int) : Dq K T H (.int i) (.int i)
  | str (x : Str) : Dq K T H (.str x) (.str x)
  | lst {a : Addr} {xs : List V} {ds : List PyData} : H a = some (.lst xs) → ¬ T a → DqAll K T H xs ds → Dq K T H (.ref a) (.list ds)
  | tup {a : Addr} {xs : List V} {ds : List PyData} : SqT K H a xs → DqAll K T H xs ds → Dq K T H (.ref a) (.tuple ds)
inductive DqAll (K : PySem.W.Frag) (T : Addr → Prop) (H : Hp) : List V → List PyData → Prop
  | nil : DqAll K T H [] []
  | cons {v : V} {vs : List V} {d : PyData} {ds : List PyData} : Dq K T H v d → DqAll K T H vs ds → DqAll K T H (v :: vs) (d :: ds)
end
mutual
theorem Dq.dp {K : PySem.W.Frag} {T : Addr → Prop} {H : Hp} : ∀ (d : PyData) (v : V), Dq K T H v d → Dp K H v d
  | .none, _, h => by cases h; exact .non
  | .bool _, _, h => by cases h; exact .bl _
  | .int _, _, h => by cases h; exact .int _
  | .str _, _, h => by cases h; exact .str _
  | .list ds, _, h => by cases h with | lst a _ b => exact .lst (.inl (.inl a)) (DqAll.dp ds _ b)
  | .tuple ds, _, h => by cases h with | tup a b => exact .tup a (DqAll.dp ds _ b)
  | .dict _, _, h => by cases h
theorem DqAll.dp {K : PySem.W.Frag} {T : Addr → Prop} {H : Hp} : ∀ (ds : List PyData) (vs : List V), DqAll K T H vs ds → DpAll K H vs ds
  | [], _, h => by cases h; exact .nil
  | d :: ds, _, h => by cases h with | cons a b => exact .cons (Dq.dp d _ a) (DqAll.dp ds _ b)
end
mutual
theorem Dq.kt {K : PySem.W.Frag} {T : Addr → Prop} {t : Addr} {H H' : Hp} (hT : T t) (k : Kt t H H') : ∀ (d : PyData) (v : V), Dq K T H v d → Dq K T H' v d
  | .none, _, h => by cases h; exact .non
  | .bool _, _, h => by cases h; exact .bl _
  | .int _, _, h => by cases h; exact .int _
  | .str _, _, h => by cases h; exact .str _
  | .list ds, _, h => by cases h with | lst a n b => exact .lst (k.oth _ _ a (fun z => n (z ▸ hT)) (fun _ z => by cases z)) n (DqAll.kt hT k ds _ b)
  | .tuple ds, _, h => by cases h with | tup a b => exact .tup (k.sqT a) (DqAll.kt hT k ds _ b)
  | .dict _, _, h => by cases h
theorem DqAll.kt {K : PySem.W.Frag} {T : Addr → Prop} {t : Addr} {H H' : Hp} (hT : T t) (k : Kt t H H') : ∀ (ds : List PyData) (vs : List V), DqAll K T H vs ds → DqAll K T H' vs ds
  | [], _, h => by cases h; exact .nil
  | d :: ds, _, h => by cases h with | cons a b => exact .cons (Dq.kt hT k d _ a) (DqAll.kt hT k ds _ b)
end
theorem DqAll.len {K : PySem.W.Frag} {T : Addr → Prop} {H : Hp} : ∀ {vs : List V} {ds : List PyData}, DqAll K T H vs ds → vs.length = ds.length
  | _, _, .nil => rfl
  | _, _, .cons _ b => by rw [List.length_cons, List.length_cons, b.len]
theorem DqAll.app {K : PySem.W.Frag} {T : Addr → Prop} {H : Hp} : ∀ {vs ws : List V} {ds es : List PyData}, DqAll K T H vs ds → DqAll K T H ws es → DqAll K T H (vs ++ ws) (ds ++ es)
  | _, _, _, _, .nil, h => h
  | _, _, _, _, .cons a b, h => .cons a (b.app h)
theorem DqAll.take {K : PySem.W.Frag} {T : Addr → Prop} {H : Hp} : ∀ {vs : List V} {ds : List PyData} (k : Nat), DqAll K T H vs ds → DqAll K T H (vs.take k) (ds.take k)
  | _, _, 0, _ => .nil
  | _, _, _ + 1, .nil => .nil
  | _, _, k + 1, .cons a b => .cons a (b.take k)
theorem DqAll.drop {K : PySem.W.Frag} {T : Addr → Prop} {H : Hp} : ∀ {vs : List V} {ds : List PyData} (k : Nat), DqAll K T H vs ds → DqAll K T H (vs.drop k) (ds.drop k)
  | _, _, 0, h => h
  | _, _, _ + 1, .nil => .nil
  | _, _, k + 1, .cons _ b => b.drop k
theorem DqAll.get {K : PySem.W.Frag} {T : Addr → Prop} {H : Hp} : ∀ {vs : List V} {ds : List PyData} {i : Nat} {x : V}, DqAll K T H vs ds → vs[i]? = some x → ∃ d, ds[i]? = some d ∧ Dq K T H x d
  | _, _, _, _, .nil, e => by simp at e
  | _, _, 0, _, .cons h _, e => by simp at e; subst e; exact ⟨_, rfl, h⟩
  | _, _, i + 1, x, .cons _ b, e => by
    obtain ⟨d, h1, h2⟩ := DqAll.get (i := i) (x := x) b (by simpa using e)
    exact ⟨d, by simpa using h1, h2⟩
theorem DqAll.rev {K : PySem.W.Frag} {T : Addr → Prop} {H : Hp} : ∀ {vs : List V} {ds : List PyData}, DqAll K T H vs ds → DqAll K T H vs.reverse ds.reverse
  | _, _, .nil => .nil
  | _, _, .cons a b => by
    rw [List.reverse_cons, List.reverse_cons]
    exact b.rev.app (.cons a .nil)
theorem roads_dq {K : PySem.W.Frag} {T : Addr → Prop} {H : Hp} : ∀ {xs : List V} {rs : List R4}, Roads K H xs rs → DqAll K T H xs (rs.map R4.d)
  | _, [], .nil => .nil
  | _, r :: rs, .cons a b => .cons (by
      obtain ⟨p, rfl, h⟩ := dp_r4 (r := r) a
      exact .tup h (.cons (.int _) (.cons (.int _) (.cons (.int _) (.cons (.int _) .nil))))) (roads_dq (rs := rs) b)

/-- what stays, the tape a tape -/
structure Kp (K : PySem.W.Frag) (t sc : Addr) (ns : List Int) (H H' : Hp) : Prop where
  kt : Kt t H H'
  tp : Tape K H t sc ns → Tape K H' t sc ns
theorem Kp.refl {K : PySem.W.Frag} {t sc : Addr} {ns : List Int} (H : Hp) : Kp K t sc ns H H := ⟨Kt.refl _ _, fun h => h⟩
theorem Kp.trans {K : PySem.W.Frag} {t sc : Addr} {ns : List Int} {H H1 H2 : Hp} (a : Kp K t sc ns H H1) (b : Kp K t sc ns H1 H2) : Kp K t sc ns H H2 := ⟨a.kt.trans b.kt, fun h => b.tp (a.tp h)⟩
theorem K0.kp {K : PySem.W.Frag} {t sc : Addr} {ns : List Int} {H H' : Hp} (k : K0 H H') : Kp K t sc ns H H' := ⟨k.kt, fun h => h.k0 k⟩

section
variable {K : PySem.W.Frag} {T : Addr → Prop} {t sc : Addr} {ns : List Int} {H0 : Hp} {σ : L2.St}
/-- an expression makes data of which P holds -/
def Mk (K : PySem.W.Frag) (T : Addr → Prop) (t sc : Addr) (ns : List Int) (H0 : Hp) (σ : L2.St) (te : TE) (P : PyData → Prop) : Prop := T t → (∀ b, T b → H0 b ≠ none) → ∀ H, Kp K t sc ns H0 H → ∀ Q : VK, (∀ v H' d, Kp K t sc ns H H' → P d → Dq K T H' v d → Q v H') → te σ H Q
def MkL (K : PySem.W.Frag) (T : Addr → Prop) (t sc : Addr) (ns : List Int) (H0 : Hp) (σ : L2.St) (ta : TA) (P : List PyData → Prop) : Prop := T t → (∀ b, T b → H0 b ≠ none) → ∀ H, Kp K t sc ns H0 H → ∀ Q : List V → Hp → Prop, (∀ vs H' ds, Kp K t sc ns H H' → P ds → DqAll K T H' vs ds → Q vs H') → ta σ H Q
def MkI (K : PySem.W.Frag) (T : Addr → Prop) (t sc : Addr) (ns : List Int) (H0 : Hp) (σ : L2.St) (te : TE) (i : Int) : Prop := Mk K T t sc ns H0 σ te (· = .int i)
theorem Mk.imp {te : TE} {P P' : PyData → Prop} (h : Mk K T t sc ns H0 σ te P) (i : ∀ d, P d → P' d) : Mk K T t sc ns H0 σ te P' := fun hTt hdm H k Q q => h hTt hdm H k Q fun v H' d k' p dq => q v H' d k' (i d p) dq
theorem mk_int {i : Int} : Mk K T t sc ns H0 σ (tC (.int i)) (· = .int i) := fun _ _ H _ _ q => q _ H _ (Kp.refl H) rfl (.int i)
theorem mk_bl {b : Bool} : Mk K T t sc ns H0 σ (tC (.bl b)) (· = .bool b) := fun _ _ H _ _ q => q _ H _ (Kp.refl H) rfl (.bl b)
theorem mk_non : Mk K T t sc ns H0 σ (tC .non) (· = .none) := fun _ _ H _ _ q => q _ H _ (Kp.refl H) rfl .non
theorem mk_str {x : Str} : Mk K T t sc ns H0 σ (tC (.str x)) (· = .str x) := fun _ _ H _ _ q => q _ H _ (Kp.refl H) rfl (.str x)
theorem mk_var {i : Nat} {v : V} {d : PyData} (e : σ[i]? = some (some v)) (h : Dq K T H0 v d) : Mk K T t sc ns H0 σ (tVar i) (· = d) := fun hTt hdm H k _ q => ⟨v, e, q v H d (Kp.refl H) rfl (Dq.kt hTt k.kt d v h)⟩
theorem mk_add {ta tb : TE} {i j : Int} (ha : Mk K T t sc ns H0 σ ta (· = .int i)) (hb : Mk K T t sc ns H0 σ tb (· = .int j)) : Mk K T t sc ns H0 σ (tOp (rI0 fun i j => .int (i + j)) ta tb) (· = .int (i + j)) := fun hTt hdm H k Q q => ha hTt hdm H k _ fun v H1 d k1 e dq => by
  subst e; cases dq
  exact hb hTt hdm H1 (k.trans k1) _ fun v H2 d k2 e dq => by
    subst e; cases dq
    exact ⟨i, j, rfl, rfl, q _ H2 _ (k1.trans k2) rfl (.int _)⟩
theorem mk_sub {ta tb : TE} {i j : Int} (ha : Mk K T t sc ns H0 σ ta (· = .int i)) (hb : Mk K T t sc ns H0 σ tb (· = .int j)) : Mk K T t sc ns H0 σ (tOp (rI0 fun i j => .int (i - j)) ta tb) (· = .int (i - j)) := fun hTt hdm H k Q q => ha hTt hdm H k _ fun v H1 d k1 e dq => by
  subst e; cases dq
  exact hb hTt hdm H1 (k.trans k1) _ fun v H2 d k2 e dq => by
    subst e; cases dq
    exact ⟨i, j, rfl, rfl, q _ H2 _ (k1.trans k2) rfl (.int _)⟩
theorem mk_neg {ta : TE} {i : Int} (ha : Mk K T t sc ns H0 σ ta (· = .int i)) : Mk K T t sc ns H0 σ (tUn (rU fun i => .int (-i)) ta) (· = .int (-i)) := fun hTt hdm H k Q q => ha hTt hdm H k _ fun v H1 d k1 e dq => by
  subst e; cases dq
  exact ⟨i, rfl, q _ H1 _ k1 rfl (.int _)⟩
theorem mkl_nil : MkL K T t sc ns H0 σ tNil (· = []) := fun _ _ H _ _ q => q [] H [] (Kp.refl H) rfl .nil
theorem mkl_cons {te : TE} {ta : TA} {d : PyData} {ds : List PyData} (h : Mk K T t sc ns H0 σ te (· = d)) (hr : MkL K T t sc ns H0 σ ta (· = ds)) : MkL K T t sc ns H0 σ (tCons te ta) (· = d :: ds) := fun hTt hdm H k Q q => h hTt hdm H k _ fun v H1 d1 k1 e dq => hr hTt hdm H1 (k.trans k1) _ fun vs H2 es k2 e2 dqs => by
  subst e e2
  exact q _ H2 _ (k1.trans k2) rfl (.cons (Dq.kt hTt k2.kt _ _ dq) dqs)
theorem mkl_consP {te : TE} {ta : TA} {P : PyData → Prop} {ds : List PyData} (h : Mk K T t sc ns H0 σ te P) (hr : MkL K T t sc ns H0 σ ta (· = ds)) : MkL K T t sc ns H0 σ (tCons te ta) (fun l => ∃ d, P d ∧ l = d :: ds) := fun hTt hdm H k Q q => h hTt hdm H k _ fun v H1 d1 k1 e dq => hr hTt hdm H1 (k.trans k1) _ fun vs H2 es k2 e2 dqs => by
  subst e2
  exact q _ H2 _ (k1.trans k2) ⟨d1, e, rfl⟩ (.cons (Dq.kt hTt k2.kt _ _ dq) dqs)
theorem mk_tup {ta : TA} {P : List PyData → Prop} (h : MkL K T t sc ns H0 σ ta P) (hl : ∀ ds, P ds → ds.length ≤ 1000) : Mk K T t sc ns H0 σ (tTup ta) (fun d => ∃ ds, P ds ∧ d = .tuple ds) := fun hTt hdm H k Q q => h hTt hdm H k _ fun vs H1 ds k1 p dqs => by
  refine ⟨by rw [dqs.len]; exact Nat.le_of_lt (small1000 (hl ds p)), fun a na => ?_⟩
  have kn : K0 H1 (upd H1 a (.tup vs)) := K0.new na
  exact q _ _ _ (k1.trans kn.kp) ⟨ds, p, rfl⟩ (.tup (.inl (.inl upd_same)) (DqAll.kt hTt kn.kt _ _ dqs))
theorem mk_tupE {ta : TA} {ds : List PyData} (h : MkL K T t sc ns H0 σ ta (· = ds)) (hl : ds.length ≤ 1000 := by decide) : Mk K T t sc ns H0 σ (tTup ta) (· = .tuple ds) := (mk_tup h fun es e => by rw [e]; exact hl).imp fun d ⟨es, e, e2⟩ => by rw [e2, e]
theorem mk_lst {ta : TA} {P : List PyData → Prop} (h : MkL K T t sc ns H0 σ ta P) (hl : ∀ ds, P ds → ds.length ≤ 1000) : Mk K T t sc ns H0 σ (tLst ta) (fun d => ∃ ds, P ds ∧ d = .list ds) := fun hTt hdm H k Q q => h hTt hdm H k _ fun vs H1 ds k1 p dqs => by
  refine ⟨by rw [dqs.len]; exact Nat.le_of_lt (small1000 (hl ds p)), fun a na => ?_⟩
  have kn : K0 H1 (upd H1 a (.lst vs)) := K0.new na
  exact q _ _ _ (k1.trans kn.kp) ⟨ds, p, rfl⟩ (.lst upd_same (fun z => hdm _ z ((k.trans k1).kt.dom _ na)) (DqAll.kt hTt kn.kt _ _ dqs))
theorem mk_lstE {ta : TA} {ds : List PyData} (h : MkL K T t sc ns H0 σ ta (· = ds)) (hl : ds.length ≤ 1000 := by decide) : Mk K T t sc ns H0 σ (tLst ta) (· = .list ds) := (mk_lst h fun es e => by rw [e]; exact hl).imp fun d ⟨es, e, e2⟩ => by rw [e2, e]
/-- xs + ys, two lists -/
theorem mk_catL {ta tb : TE} {ds es : List PyData} (ha : Mk K T t sc ns H0 σ ta (· = .list ds)) (hb : Mk K T t sc ns H0 σ tb (· = .list es)) (hl : ds.length + es.length ≤ 1000 := by decide) : Mk K T t sc ns H0 σ (tOp rCat ta tb) (· = .list (ds ++ es)) := fun hTt hdm H k Q q => ha hTt hdm H k _ fun v H1 d k1 e dq => by
  subst e
  exact hb hTt hdm H1 (k.trans k1) _ fun v2 H2 d k2 e dq2 => by
    subst e
    have dq' := Dq.kt hTt k2.kt _ _ dq
    cases dq' with
    | @lst a xs _ h1 n1 a1 => cases dq2 with
      | @lst b ys _ h2 n2 a2 =>
        refine ⟨_, _, _, _, rfl, rfl, h1, h2, ?_, fun p np => ?_⟩
        · rw [a1.len, a2.len]; exact Nat.le_of_lt (small1000 hl)
        · have kn : K0 H2 (upd H2 p (.lst (xs ++ ys))) := K0.new np
          exact q _ _ _ ((k1.trans k2).trans kn.kp) rfl (.lst upd_same (fun z => hdm _ z (((k.trans k1).trans k2).kt.dom _ np)) (DqAll.kt hTt kn.kt _ _ (a1.app a2)))
/-- t + u, two tuples -/
theorem mk_catT {ta tb : TE} {P1 P2 : List PyData → Prop} (ha : Mk K T t sc ns H0 σ ta (fun d => ∃ ds, P1 ds ∧ d = .tuple ds)) (hb : Mk K T t sc ns H0 σ tb (fun d => ∃ ds, P2 ds ∧ d = .tuple ds)) (hl : ∀ ds es, P1 ds → P2 es → ds.length + es.length ≤ 1000) :
    Mk K T t sc ns H0 σ (tOp (rCatA K) ta tb) (fun d => ∃ ds, (∃ d1 d2, P1 d1 ∧ P2 d2 ∧ ds = d1 ++ d2) ∧ d = .tuple ds) := fun hTt hdm H k Q q => ha hTt hdm H k _ fun v H1 d k1 e dq => by
  obtain ⟨ds, p1, rfl⟩ := e
  exact hb hTt hdm H1 (k.trans k1) _ fun v2 H2 d k2 e dq2 => by
    obtain ⟨es, p2, rfl⟩ := e
    have dq' := Dq.kt hTt k2.kt _ _ dq
    cases dq' with
    | @tup a xs _ h1 a1 => cases dq2 with
      | @tup b ys _ h2 a2 =>
        refine ⟨_, _, _, _, rfl, rfl, h1, h2, ?_, fun e => ?_, fun e1 e2 => ?_, fun _ _ p np => ?_⟩
        · rw [a1.len, a2.len]; exact Nat.le_of_lt (small1000 (hl _ _ p1 p2))
        · subst e
          cases a1
          exact q _ _ _ (k1.trans k2) ⟨es, ⟨[], es, p1, p2, rfl⟩, rfl⟩ (.tup h2 a2)
        · subst e2
          cases a2
          exact q _ _ _ (k1.trans k2) ⟨ds, ⟨ds, [], p1, p2, by simp⟩, rfl⟩ (.tup h1 a1)
        · have kn : K0 H2 (upd H2 p (.tup (xs ++ ys))) := K0.new np
          exact q _ _ _ ((k1.trans k2).trans kn.kp) ⟨_, ⟨ds, es, p1, p2, rfl⟩, rfl⟩ (.tup (.inl (.inl upd_same)) (DqAll.kt hTt kn.kt _ _ (a1.app a2)))
def cutD (ds : List PyData) (lo hi : Option Int) : List PyData := (ds.drop (HT.sIx ds.length 0 lo)).take (HT.sIx ds.length ds.length hi - HT.sIx ds.length 0 lo)
def MkO (K : PySem.W.Frag) (T : Addr → Prop) (t sc : Addr) (ns : List Int) (H0 : Hp) (σ : L2.St) (to : TO) (o : Option Int) : Prop := T t → (∀ b, T b → H0 b ≠ none) → ∀ H, Kp K t sc ns H0 H → ∀ Q : Option Int → Hp → Prop, (∀ H', Kp K t sc ns H H' → Q o H') → to σ H Q
theorem mko_none : MkO K T t sc ns H0 σ tNoPart none := fun _ _ H _ _ q => q H (Kp.refl H)
theorem mko_some {te : TE} {i : Int} (h : Mk K T t sc ns H0 σ te (· = .int i)) : MkO K T t sc ns H0 σ (tPart te) (some i) := fun hTt hdm H k _ q => h hTt hdm H k _ fun v H1 d k1 e dq => by
  subst e; cases dq
  exact ⟨i, rfl, q H1 k1⟩
theorem mk_sl {te : TE} {tl th : TO} {lo hi : Option Int} {ds : List PyData} (h : Mk K T t sc ns H0 σ te (· = .tuple ds)) (h1 : MkO K T t sc ns H0 σ tl lo) (h2 : MkO K T t sc ns H0 σ th hi) : Mk K T t sc ns H0 σ (tSl (rSlA K) te tl th) (· = .tuple (cutD ds lo hi)) := fun hTt hdm H k Q q => h hTt hdm H k _ fun v H1 d k1 e dq => by
  subst e
  exact h1 hTt hdm H1 (k.trans k1) _ fun H2 k2 => h2 hTt hdm H2 ((k.trans k1).trans k2) _ fun H3 k3 => by
    have dq' := Dq.kt hTt (k2.trans k3).kt _ _ dq
    cases dq' with
    | @tup a xs _ hq hall =>
      refine ⟨_, _, rfl, hq, fun hw => ?_, fun hw p np => ?_⟩
      · have : cutD ds lo hi = ds := by
          unfold cutD
          rw [← hall.len, hw.1, hw.2, List.drop_zero, Nat.sub_zero]
          exact List.take_of_length_le (by rw [hall.len]; exact Nat.le_refl _)
        rw [this] at q
        exact q _ H3 _ ((k1.trans k2).trans k3) rfl (.tup hq hall)
      · have kn : K0 H3 (upd H3 p (.tup (cutV xs lo hi))) := K0.new np
        refine q _ _ _ (((k1.trans k2).trans k3).trans kn.kp) rfl (.tup (.inl (.inl upd_same)) (DqAll.kt hTt kn.kt _ _ ?_))
        unfold cutV cutD
        rw [hall.len]
        exact (hall.drop _).take _
/-- t[i], a tuple at a written place -/
theorem mk_ixT {te ti : TE} {ds : List PyData} {j : Nat} {d : PyData} (h : Mk K T t sc ns H0 σ te (· = .tuple ds)) (hi : Mk K T t sc ns H0 σ ti (· = .int j)) (hd : ds[j]? = some d) : Mk K T t sc ns H0 σ (tOp (rIxT K) te ti) (· = d) := fun hTt hdm H k Q q => h hTt hdm H k _ fun v H1 d1 k1 e dq => by
  subst e
  exact hi hTt hdm H1 (k.trans k1) _ fun v2 H2 d2 k2 e dq2 => by
    subst e; cases dq2
    have dq' := Dq.kt hTt k2.kt _ _ dq
    cases dq' with
    | @tup a xs _ hq hall =>
      have hl : j < xs.length := by rw [hall.len]; exact (List.getElem?_eq_some_iff.mp hd).1
      obtain ⟨d', e1, e2⟩ := hall.get (List.getElem?_eq_getElem hl)
      rw [hd] at e1; cases e1
      exact ⟨_, _, _, _, rfl, rfl, hq, atI_nat (List.getElem?_eq_getElem hl), q _ H2 _ (k1.trans k2) rfl e2⟩
end
end HK

set_option Elab.async false
set_option linter.all false
set_option maxRecDepth 100000
set_option maxHeartbeats 2000000
namespace HK
open PySem PySem.Spec PyProof.Rows L2 GAl GxR
open Evl (pss_cut)
section
variable {P : Program} {w : World} {K : PySem.W.Frag} {mg : Str → Option Value} {base : Heap}
def spSome (K : PySem.W.Frag) : Sp := fun vs H Q _ => ∃ (t sc r : Addr) (ns : List Int) (xs : List V), vs = [.ref t, .ref r] ∧ Tape K H t sc ns ∧ (SqT K H r xs ∨ (H r = some (.lst xs) ∧ r ≠ t)) ∧ 0 < xs.length ∧ xs.length ≤ 100000 ∧
  ∀ (j : Nat) (x : V) (H' : Hp), xs[j]? = some x → Kp K t sc ns H H' → Q x H'
end
end HK

set_option Elab.async false
set_option linter.all false
set_option maxHeartbeats 2000000
namespace HK
/-! ### the mathematics: going through the roads as often as there are places -/
abbrev IF := Int → Option Int
def put (f : IF) (i x : Int) : IF := fun j => if j = i then some x else f j
def Le (g f : IF) : Prop := ∀ v a, f v = some a → ∃ b, g v = some b ∧ b ≤ a
theorem Le.refl (f : IF) : Le f f := fun v a h => ⟨a, h, Int.le_refl _⟩
theorem Le.trans {f g h : IF} (a : Le f g) (b : Le g h) : Le f h := fun v x e => by
  obtain ⟨y, e1, l1⟩ := b v x e
  obtain ⟨z, e2, l2⟩ := a v y e1
  exact ⟨z, e2, by omega⟩
def rlx (src g : IF) (r : R4) : IF := match src r.s with
  | none => g
  | some a => match g r.e with
    | none => put g r.e (a + r.l)
    | some b => if a + r.l < b then put g r.e (a + r.l) else g
structure IInv (n : Int) (rs : List R4) (root : Int) (f : IF) : Prop where
  rt0 : f root = some 0
  rng : ∀ v a, f v = some a → 0 ≤ v ∧ v < n ∧ 0 ≤ a
  wt : ∀ v b, f v = some b → v = root ∨ ∃ r ∈ rs, r.e = v ∧ ∃ a, f r.s = some a ∧ a + r.l ≤ b
def Closed (rs : List R4) (f : IF) : Prop := ∀ r ∈ rs, ∀ a, f r.s = some a → ∃ b, f r.e = some b ∧ b ≤ a + r.l
section
variable {n root : Int} {rs : List R4}
theorem put_inv {g : IF} {r : R4} {x a' : Int} (I : IInv n rs root g) (hr : RoadOk n r) (hm : r ∈ rs) (ha : g r.s = some a') (hx : a' + r.l ≤ x) (hlt : ∀ b, g r.e = some b → x < b) : IInv n rs root (put g r.e x) ∧ Le (put g r.e x) g := by
  have h0 := (I.rng _ _ ha).2.2
  have hl := hr.l0
  have ne : r.e ≠ root := fun z => by
    have := hlt 0 (by rw [z]; exact I.rt0)
    omega
  have le : Le (put g r.e x) g := fun v b e => by
    by_cases hv : v = r.e
    · subst hv
      exact ⟨x, if_pos rfl, Int.le_of_lt (hlt b e)⟩
    · exact ⟨b, by unfold put; rw [if_neg hv]; exact e, Int.le_refl _⟩
  refine ⟨⟨?_, fun v b e => ?_, fun v b e => ?_⟩, le⟩
  · unfold put; rw [if_neg (fun z => ne z.symm)]; exact I.rt0
  · unfold put at e
    by_cases hv : v = r.e
    · rw [if_pos hv] at e
      cases e
      rw [hv]
      exact ⟨hr.e0, hr.e1, by omega⟩
    · rw [if_neg hv] at e
      exact I.rng v b e
  · by_cases hv : v = r.e
    · unfold put at e
      rw [if_pos hv] at e
      cases e
      exact .inr ⟨r, hm, hv.symm, a', by unfold put; rw [if_neg hr.ne]; exact ha, hx⟩
    · unfold put at e
      rw [if_neg hv] at e
      rcases I.wt v b e with h | ⟨r', h1, h2, a, h3, h4⟩
      · exact .inl h
      · obtain ⟨a2, h5, h6⟩ := le _ _ h3
        exact .inr ⟨r', h1, h2, a2, h5, by omega⟩
theorem rlx_inv {src g : IF} {r : R4} (I : IInv n rs root g) (hr : RoadOk n r) (hm : r ∈ rs) (hs : Le g src) :
    IInv n rs root (rlx src g r) ∧ Le (rlx src g r) g ∧ ∀ a, src r.s = some a → ∃ b, rlx src g r r.e = some b ∧ b ≤ a + r.l := by
  unfold rlx
  cases e : src r.s with
  | none => exact ⟨I, .refl _, fun a z => by cases z⟩
  | some a =>
    obtain ⟨a', e1, l1⟩ := hs _ _ e
    cases e2 : g r.e with
    | none =>
      obtain ⟨h1, h2⟩ := put_inv (x := a + r.l) I hr hm e1 (by omega) (fun b z => by rw [e2] at z; cases z)
      exact ⟨h1, h2, fun a2 z => by cases z; exact ⟨_, if_pos rfl, Int.le_refl _⟩⟩
    | some b =>
      by_cases hb : a + r.l < b
      · simp only [hb, if_true]
        obtain ⟨h1, h2⟩ := put_inv (x := a + r.l) I hr hm e1 (by omega) (fun b' z => by rw [e2] at z; cases z; exact hb)
        exact ⟨h1, h2, fun a2 z => by cases z; exact ⟨_, if_pos rfl, Int.le_refl _⟩⟩
      · simp only [hb, if_false]
        exact ⟨I, .refl _, fun a2 z => by cases z; exact ⟨b, e2, by omega⟩⟩
def rnd (S : IF → IF) (l : List R4) (g : IF) : IF := l.foldl (fun g r => rlx (S g) g r) g
theorem rnd_inv {S : IF → IF} {f : IF} (hS : ∀ g, Le g f → Le g (S g) ∧ Le (S g) f) : ∀ (l : List R4) (g : IF), (∀ r ∈ l, r ∈ rs ∧ RoadOk n r) → IInv n rs root g → Le g f →
    IInv n rs root (rnd S l g) ∧ Le (rnd S l g) g ∧ ∀ r ∈ l, ∀ a, f r.s = some a → ∃ b, rnd S l g r.e = some b ∧ b ≤ a + r.l
  | [], g, _, I, _ => ⟨I, .refl _, fun r h => by cases h⟩
  | r :: l, g, hl, I, hf => by
    obtain ⟨s1, s2⟩ := hS g hf
    obtain ⟨i1, i2, i3⟩ := rlx_inv I (hl r (List.mem_cons_self ..)).2 (hl r (List.mem_cons_self ..)).1 s1
    obtain ⟨j1, j2, j3⟩ := rnd_inv hS l (rlx (S g) g r) (fun q h => hl q (List.mem_cons_of_mem _ h)) i1 (i2.trans hf)
    refine ⟨j1, j2.trans i2, fun q hq a ha => ?_⟩
    rcases List.mem_cons.mp hq with rfl | hq
    · obtain ⟨a', e, le⟩ := s2 _ _ ha
      obtain ⟨b, e2, le2⟩ := i3 a' e
      obtain ⟨c, e3, le3⟩ := j2 _ _ e2
      exact ⟨c, e3, by omega⟩
    · exact j3 q hq a ha
def iter (F : IF → IF) : Nat → IF → IF
  | 0, f => f
  | k + 1, f => F (iter F k f)
theorem half {D f : IF} (hok : ∀ r ∈ rs, RoadOk n r) (c : Closed rs D) (d0 : D root = some 0) (I : IInv n rs root f) : Le D f := by
  have key : ∀ (N : Nat) (v b : Int), f v = some b → b.toNat < N → ∃ c, D v = some c ∧ c ≤ b := by
    intro N
    induction N with
    | zero => intro v b _ h; omega
    | succ N ih =>
      intro v b e hb
      have h0 := (I.rng v b e).2.2
      rcases I.wt v b e with rfl | ⟨r, hm, rfl, a, e2, le⟩
      · exact ⟨0, d0, h0⟩
      · have hl := (hok r hm).l0
        have ha := (I.rng _ _ e2).2.2
        obtain ⟨x, e3, l3⟩ := ih r.s a e2 (by omega)
        obtain ⟨y, e4, l4⟩ := c r hm x e3
        exact ⟨y, e4, by omega⟩
  exact fun v b e => key (b.toNat + 1) v b e (by omega)
theorem two_same {f g : IF} (hok : ∀ r ∈ rs, RoadOk n r) (cf : Closed rs f) (If : IInv n rs root f) (cg : Closed rs g) (Ig : IInv n rs root g) : f = g := by
  have h1 := half hok cf If.rt0 Ig
  have h2 := half hok cg Ig.rt0 If
  funext v
  cases e : f v with
  | none =>
    cases e2 : g v with
    | none => rfl
    | some b => obtain ⟨c, e3, _⟩ := h1 v b e2; rw [e] at e3; cases e3
  | some a =>
    obtain ⟨b, e2, l2⟩ := h2 v a e
    obtain ⟨c, e3, l3⟩ := h1 v b e2
    rw [e] at e3
    cases e3
    rw [e2]
    have : a = b := by omega
    rw [this]
theorem countP_lt {α : Type} {p q : α → Bool} : ∀ {l : List α}, (∀ x ∈ l, p x = true → q x = true) → (∃ x ∈ l, q x = true ∧ ¬ p x = true) → l.countP p < l.countP q
  | [], _, h => by obtain ⟨x, hx, _⟩ := h; cases hx
  | y :: l, h, hx => by
    have hm : l.countP p ≤ l.countP q := List.countP_mono_left (fun x hx => h x (List.mem_cons_of_mem _ hx))
    obtain ⟨x, hx, hq, hp⟩ := hx
    rw [List.countP_cons, List.countP_cons]
    rcases List.mem_cons.mp hx with rfl | hx
    · rw [if_pos hq, if_neg hp]; omega
    · have ih := countP_lt (fun x hx => h x (List.mem_cons_of_mem _ hx)) ⟨x, hx, hq, hp⟩
      have := h y (List.mem_cons_self ..)
      by_cases hy : p y = true
      · rw [if_pos hy, if_pos (this hy)]; omega
      · rw [if_neg hy]
        split <;> omega
variable {F : IF → IF} {f0 : IF}
def Turns (n : Int) (rs : List R4) (root : Int) (F : IF → IF) : Prop := ∀ f, IInv n rs root f → IInv n rs root (F f) ∧ Le (F f) f ∧ ∀ r ∈ rs, ∀ a, f r.s = some a → ∃ b, F f r.e = some b ∧ b ≤ a + r.l
theorem iter_inv (hF : Turns n rs root F) (I0 : IInv n rs root f0) : ∀ k, IInv n rs root (iter F k f0)
  | 0 => I0
  | k + 1 => (hF _ (iter_inv hF I0 k)).1
theorem iter_le (hF : Turns n rs root F) (I0 : IInv n rs root f0) (k : Nat) : ∀ j, Le (iter F (k + j) f0) (iter F k f0)
  | 0 => .refl _
  | j + 1 => ((hF _ (iter_inv hF I0 (k + j))).2.1).trans (iter_le hF I0 k j)
theorem stab (hF : Turns n rs root F) (I0 : IInv n rs root f0) (v : Int) : ∃ K, ∀ k, K ≤ k → iter F k f0 v = iter F K f0 v := by
  have key : ∀ (N k : Nat) (m : Int), iter F k f0 v = some m → m.toNat < N → ∃ K, ∀ k, K ≤ k → iter F k f0 v = iter F K f0 v := by
    intro N
    induction N with
    | zero => intro k m _ h; omega
    | succ N ih =>
      intro k m e hm
      by_cases hh : ∀ j, k ≤ j → iter F j f0 v = some m
      · exact ⟨k, fun j hj => by rw [hh j hj, e]⟩
      · have ⟨j, hj⟩ := Classical.not_forall.mp hh
        have ⟨hk, hj⟩ := Classical.not_imp.mp hj
        obtain ⟨d, rfl⟩ := Nat.exists_eq_add_of_le hk
        obtain ⟨b, e2, l2⟩ := iter_le hF I0 k d v m e
        have hb := ((iter_inv hF I0 (k + d)).rng _ _ e2).2.2
        have : b ≠ m := fun z => hj (by rw [e2, z])
        exact ih (k + d) b e2 (by omega)
  by_cases h : ∃ k m, iter F k f0 v = some m
  · obtain ⟨k, m, e⟩ := h
    exact key (m.toNat + 1) k m e (by omega)
  · have none : ∀ k, iter F k f0 v = none := fun k => by
      cases e : iter F k f0 v with
      | none => rfl
      | some m => exact absurd ⟨k, m, e⟩ h
    exact ⟨0, fun k _ => by rw [none k, none 0]⟩
theorem stab_all (hF : Turns n rs root F) (I0 : IInv n rs root f0) : ∀ N : Nat, ∃ K, ∀ (i : Nat), i < N → ∀ k, K ≤ k → iter F k f0 (i : Int) = iter F K f0 (i : Int)
  | 0 => ⟨0, fun i h => by omega⟩
  | N + 1 => by
    obtain ⟨K1, h1⟩ := stab_all hF I0 N
    obtain ⟨K2, h2⟩ := stab hF I0 (N : Int)
    refine ⟨max K1 K2, fun i hi k hk => ?_⟩
    have a1 : K1 ≤ max K1 K2 := Nat.le_max_left ..
    have a2 : K2 ≤ max K1 K2 := Nat.le_max_right ..
    by_cases hi' : i = N
    · subst hi'
      rw [h2 k (by omega), h2 _ a2]
    · rw [h1 i (by omega) k (by omega), h1 i (by omega) _ a1]
theorem limit (hF : Turns n rs root F) (I0 : IInv n rs root f0) : ∃ D, IInv n rs root D ∧ Closed rs D := by
  obtain ⟨K, h⟩ := stab_all hF I0 n.toNat
  have same : iter F (K + 1) f0 = iter F K f0 := by
    funext v
    by_cases hv : 0 ≤ v ∧ v < n
    · obtain ⟨i, rfl⟩ := Int.eq_ofNat_of_zero_le hv.1
      exact h i (by omega) (K + 1) (by omega)
    · have none : ∀ k, iter F k f0 v = none := fun k => by
        cases e : iter F k f0 v with
        | none => rfl
        | some m =>
          have := (iter_inv hF I0 k).rng _ _ e
          exact absurd ⟨this.1, this.2.1⟩ hv
      rw [none, none]
  refine ⟨_, iter_inv hF I0 K, fun r hr a ha => ?_⟩
  obtain ⟨b, e, l⟩ := (hF _ (iter_inv hF I0 K)).2.2 r hr a ha
  exact ⟨b, by rw [← same]; exact e, l⟩
theorem conv (hok : ∀ r ∈ rs, RoadOk n r) (hF : Turns n rs root F) (I0 : IInv n rs root f0) : Closed rs (iter F n.toNat f0) := by
  obtain ⟨D, ID, cD⟩ := limit hF I0
  have low : ∀ k, Le D (iter F k f0) := fun k => half hok cD ID.rt0 (iter_inv hF I0 k)
  have stay : ∀ k v b, D v = some b → iter F k f0 v = some b → iter F (k + 1) f0 v = some b := fun k v b hd e => by
    obtain ⟨c, e1, l1⟩ := (hF _ (iter_inv hF I0 k)).2.1 v b e
    obtain ⟨c', e2, l2⟩ := low (k + 1) v c e1
    rw [hd] at e2
    cases e2
    have : c = b := by omega
    rw [← this]; exact e1
  have prog : ∀ (k N : Nat) (v b : Int), D v = some b → b.toNat < N → iter F k f0 v ≠ some b → ∃ v' b', D v' = some b' ∧ iter F k f0 v' ≠ some b' ∧ iter F (k + 1) f0 v' = some b' := by
    intro k N
    induction N with
    | zero => intro v b _ h; omega
    | succ N ih =>
      intro v b hd hb hne
      rcases ID.wt v b hd with rfl | ⟨r, hm, rfl, a, e2, le⟩
      · rw [ID.rt0] at hd
        cases hd
        exact absurd (iter_inv hF I0 k).rt0 hne
      · have hl := (hok r hm).l0
        have ha := (ID.rng _ _ e2).2.2
        by_cases hs : iter F k f0 r.s = some a
        · obtain ⟨b', e3, l3⟩ := (hF _ (iter_inv hF I0 k)).2.2 r hm a hs
          obtain ⟨c, e4, l4⟩ := low (k + 1) r.e b' e3
          rw [hd] at e4
          cases e4
          have : b' = b := by omega
          exact ⟨r.e, b, hd, hne, by rw [← this]; exact e3⟩
        · exact ih r.s a e2 (by omega) hs
  let fin : Nat → Nat → Bool := fun k i => decide (iter F k f0 (i : Int) = D (i : Int)) && (D (i : Int)).isSome
  have hn : ∀ v b, D v = some b → ∃ i : Nat, v = (i : Int) ∧ i ∈ List.range n.toNat := fun v b e => by
    have := ID.rng v b e
    obtain ⟨i, rfl⟩ := Int.eq_ofNat_of_zero_le this.1
    exact ⟨i, rfl, List.mem_range.mpr (by omega)⟩
  have main : ∀ k, (∀ v b, D v = some b → iter F k f0 v = some b) ∨ k + 1 ≤ (List.range n.toNat).countP (fin k) := by
    intro k
    induction k with
    | zero =>
      obtain ⟨i, hi, hm⟩ := hn root 0 ID.rt0
      refine .inr (List.countP_pos_iff.mpr ⟨i, hm, ?_⟩)
      show (decide (f0 (i : Int) = D (i : Int)) && (D (i : Int)).isSome) = true
      rw [← hi, I0.rt0, ID.rt0]
      rfl
    | succ k ih =>
      rcases ih with h | h
      · exact .inl fun v b e => stay k v b e (h v b e)
      · by_cases all : ∀ v b, D v = some b → iter F k f0 v = some b
        · exact .inl fun v b e => stay k v b e (all v b e)
        · refine .inr (Nat.lt_of_le_of_lt h (countP_lt (fun i _ hi => ?_) ?_))
          · have hi' := Bool.and_eq_true_iff.mp hi
            have h1 := of_decide_eq_true hi'.1
            obtain ⟨b, e⟩ := Option.isSome_iff_exists.mp hi'.2
            have := stay k i b e (h1.trans e)
            exact Bool.and_eq_true_iff.mpr ⟨decide_eq_true (this.trans e.symm), hi'.2⟩
          · have ⟨v, hv⟩ := Classical.not_forall.mp all
            have ⟨b, hb⟩ := Classical.not_forall.mp hv
            have ⟨hd, hne⟩ := Classical.not_imp.mp hb
            obtain ⟨v', b', d', n', e'⟩ := prog k (b.toNat + 1) v b hd (by omega) hne
            obtain ⟨i, rfl, hm⟩ := hn v' b' d'
            refine ⟨i, hm, Bool.and_eq_true_iff.mpr ⟨decide_eq_true (e'.trans d'.symm), by rw [d']; rfl⟩, fun z => ?_⟩
            exact n' ((of_decide_eq_true (Bool.and_eq_true_iff.mp z).1).trans d')
  have fin' : ∀ v b, D v = some b → iter F n.toNat f0 v = some b := by
    rcases main n.toNat with h | h
    · exact h
    · have := List.countP_le_length (p := fin n.toNat) (l := List.range n.toNat)
      rw [List.length_range] at this
      omega
  have eq : iter F n.toNat f0 = D := by
    funext v
    cases e : D v with
    | some b => exact fin' v b e
    | none =>
      cases e2 : iter F n.toNat f0 v with
      | none => rfl
      | some b => obtain ⟨c, e3, _⟩ := low n.toNat v b e2; rw [e] at e3; cases e3
  rw [eq]; exact cD
/-- the two ways of going through -/
theorem turns_at (hok : ∀ r ∈ rs, RoadOk n r) : Turns n rs root (fun f => rnd id rs f) := fun f I => by
  obtain ⟨h1, h2, h3⟩ := rnd_inv (S := id) (f := f) (n := n) (rs := rs) (root := root) (fun g h => ⟨.refl _, h⟩) rs f (fun r h => ⟨h, hok r h⟩) I (.refl _)
  exact ⟨h1, h2, h3⟩
theorem turns_by (hok : ∀ r ∈ rs, RoadOk n r) : Turns n rs root (fun f => rnd (fun _ => f) rs f) := fun f I => by
  obtain ⟨h1, h2, h3⟩ := rnd_inv (S := fun _ => f) (f := f) (n := n) (rs := rs) (root := root) (fun g h => ⟨h, .refl _⟩) rs f (fun r h => ⟨h, hok r h⟩) I (.refl _)
  exact ⟨h1, h2, h3⟩
def ini (root : Int) : IF := put (fun _ => none) root 0
theorem ini_inv (h0 : 0 ≤ root) (h1 : root < n) : IInv n rs root (ini root) := by
  refine ⟨if_pos rfl, fun v a e => ?_, fun v b e => ?_⟩
  · unfold ini put at e
    by_cases hv : v = root
    · rw [if_pos hv] at e; cases e; subst hv; exact ⟨h0, h1, Int.le_refl _⟩
    · rw [if_neg hv] at e; cases e
  · unfold ini put at e
    by_cases hv : v = root
    · exact .inl hv
    · rw [if_neg hv] at e; cases e
end
/-- what is found -/
def due (n : Int) (rs : List R4) (root : Int) : IF := iter (fun f => rnd id rs f) n.toNat (ini root)
theorem due_inv {n root : Int} {rs : List R4} (hok : ∀ r ∈ rs, RoadOk n r) (h0 : 0 ≤ root) (h1 : root < n) : IInv n rs root (due n rs root) := iter_inv (turns_at hok) (ini_inv h0 h1) _
theorem due_closed {n root : Int} {rs : List R4} (hok : ∀ r ∈ rs, RoadOk n r) (h0 : 0 ≤ root) (h1 : root < n) : Closed rs (due n rs root) := conv hok (turns_at hok) (ini_inv h0 h1)
theorem due_by {n root : Int} {rs : List R4} (hok : ∀ r ∈ rs, RoadOk n r) (h0 : 0 ≤ root) (h1 : root < n) : iter (fun f => rnd (fun _ => f) rs f) n.toNat (ini root) = due n rs root :=
  two_same hok (conv hok (turns_by hok) (ini_inv h0 h1)) (iter_inv (turns_by hok) (ini_inv h0 h1) _) (due_closed hok h0 h1) (due_inv hok h0 h1)
end HK

set_option Elab.async false
set_option linter.all false
set_option maxRecDepth 100000
set_option maxHeartbeats 2000000
namespace HK
open PySem PySem.Spec PyProof.Rows L2 GAl GxR
/-! ### a dict of whole numbers by whole numbers -/
structure DI (kvs : List (Key × V)) (f : IF) : Prop where
  nd : (kvs.map (·.1)).Nodup
  ks : ∀ p ∈ kvs, ∃ i x : Int, p = (Sum.inl i, V.int x)
  val : ∀ i : Int, valV kvs (Sum.inl i) = (f i).map V.int
theorem valV_mem {κ : Type} [DecidableEq κ] : ∀ {kvs : List (κ × V)} {p : κ × V}, (kvs.map (·.1)).Nodup → p ∈ kvs → valV kvs p.1 = some p.2
  | q :: r, p, nd, h => by
    have nd' := List.nodup_cons.mp nd
    rcases List.mem_cons.mp h with rfl | h
    · exact valV_pos rfl
    · have : ¬ q.1 = p.1 := fun z => nd'.1 (List.mem_map.mpr ⟨p, h, z.symm⟩)
      rw [valV_neg this]
      exact valV_mem nd'.2 h
theorem DI.at_ {kvs : List (Key × V)} {f : IF} (h : DI kvs f) {p : Key × V} (hp : p ∈ kvs) : ∃ i x : Int, p = (Sum.inl i, V.int x) ∧ f i = some x := by
  obtain ⟨i, x, rfl⟩ := h.ks p hp
  have e := valV_mem h.nd hp
  rw [h.val] at e
  cases e2 : f i with
  | none => rw [e2] at e; cases e
  | some y => rw [e2] at e; cases e; exact ⟨i, _, rfl, e2⟩
theorem DI.mem {kvs : List (Key × V)} {f : IF} (h : DI kvs f) (i : Int) : (Sum.inl i : Key) ∈ kvs.map (·.1) ↔ (f i).isSome = true := by
  constructor
  · intro hm
    obtain ⟨p, hp, e⟩ := List.mem_map.mp hm
    obtain ⟨j, x, rfl, e2⟩ := h.at_ hp
    have e : (Sum.inl j : Key) = Sum.inl i := e
    cases e
    rw [e2]; rfl
  · intro hs
    obtain ⟨x, e⟩ := Option.isSome_iff_exists.mp hs
    exact valV_in (v := .int x) (by rw [h.val, e]; rfl)
theorem DI.put {kvs : List (Key × V)} {f : IF} (h : DI kvs f) (i x : Int) : DI (putK kvs (Sum.inl i) (.int x)) (HK.put f i x) := by
  refine ⟨?_, fun p hp => ?_, fun j => ?_⟩
  · cases e : valV kvs (Sum.inl i) with
    | none => exact nd_putK _ h.nd e
    | some v =>
      unfold putK
      rw [valV_any, e]
      simp only [Option.isSome_some, if_true]
      have : (kvs.map fun kv => if kv.1 = (Sum.inl i : Key) then (kv.1, V.int x) else kv).map (·.1) = kvs.map (·.1) := by
        rw [List.map_map]
        exact List.map_congr_left fun p _ => by
          show (if p.1 = (Sum.inl i : Key) then (p.1, V.int x) else p).1 = p.1
          split <;> rfl
      rw [this]; exact h.nd
  · unfold putK at hp
    split at hp
    · obtain ⟨q, hq, rfl⟩ := List.mem_map.mp hp
      obtain ⟨j, y, rfl⟩ := h.ks q hq
      by_cases e : (Sum.inl j : Key) = Sum.inl i
      · exact ⟨j, x, by simp only [e, if_true]⟩
      · exact ⟨j, y, by simp only [e, if_false]⟩
    · rcases List.mem_append.mp hp with hp | hp
      · exact h.ks p hp
      · exact ⟨i, x, List.mem_singleton.mp hp⟩
  · rw [valV_put, h.val]
    unfold HK.put
    by_cases e : j = i
    · subst e; simp
    · simp [e]
theorem DI.one (root : Int) : DI (mergeK [] [(Sum.inl root, V.int 0)]) (ini root) := by
  have h0 : DI [] (fun _ => none) := ⟨List.nodup_nil, fun p hp => (by cases hp), fun i => rfl⟩
  exact h0.put root 0
theorem DI.same {ks ls : List (Key × V)} {f : IF} (h : DI ks f) (g : DI ls f) : ks.length = ls.length ∧ ∀ p ∈ ks, valV ls p.1 = some p.2 ∧ flatB p.2 = true := by
  constructor
  · have : (ks.map (·.1)).Perm (ls.map (·.1)) := (List.perm_ext_iff_of_nodup h.nd g.nd).mpr fun k => by
      cases k with
      | inl i => rw [h.mem, g.mem]
      | inr s =>
        constructor
        · intro hm
          obtain ⟨p, hp, e⟩ := List.mem_map.mp hm
          obtain ⟨j, x, rfl⟩ := h.ks p hp
          cases e
        · intro hm
          obtain ⟨p, hp, e⟩ := List.mem_map.mp hm
          obtain ⟨j, x, rfl⟩ := g.ks p hp
          cases e
    have := this.length_eq
    rwa [List.length_map, List.length_map] at this
  · intro p hp
    obtain ⟨i, x, rfl, e⟩ := h.at_ hp
    exact ⟨by show valV ls (Sum.inl i) = _; rw [g.val, e]; rfl, rfl⟩
theorem DI.pair {kvs : List (Key × V)} {f : IF} (h : DI kvs f) {v x : Int} (e : f v = some x) : (Sum.inl v, V.int x) ∈ kvs := by
  have := (h.mem v).mpr (by rw [e]; rfl)
  obtain ⟨pp, hpp, ep⟩ := List.mem_map.mp this
  obtain ⟨j, z, rfl, ej⟩ := h.at_ hpp
  cases ep
  rw [e] at ej
  cases ej
  exact hpp
theorem rnd_take {S : IF → IF} {rs : List R4} {g : IF} {j : Nat} {r : R4} (h : rs[j]? = some r) : rnd S (rs.take (j + 1)) g = rlx (S (rnd S (rs.take j) g)) (rnd S (rs.take j) g) r := by
  have : rs.take (j + 1) = rs.take j ++ [r] := by rw [List.take_add_one, h]; rfl
  rw [this]
  unfold rnd
  rw [List.foldl_append]
  rfl
/-! ### a good net is one -/
def pr (r : R4) : List Int := [r.s, r.e]
theorem pairs_map (rs : List R4) : (rs.map R4.d).map pairD = rs.map pr := by rw [List.map_map]; rfl
abbrev nt (m : PyData) (ds : List PyData) : PyData := .tuple [m, .tuple ds]
theorem lex_fore {a b : R4} (h : a.lt b) : HT.lexLt (pr a) (pr b) = true := by
  have h : a.s < b.s ∨ (a.s = b.s ∧ a.e < b.e) := h
  simp only [pr, HT.lexLt]
  rcases h with h | ⟨h, h2⟩
  · rw [if_neg (by omega)]
    exact decide_eq_true (by omega)
  · rw [if_pos h, if_neg (by omega)]
    exact decide_eq_true (by omega)
/-- a good net is one -/
theorem road_yes {n : Int} {r : R4} (h : RoadOk n r) : isRoadD n r.d = true := by
  obtain ⟨h1, h2, h3, h4, h5, h6, h7, h8, h9⟩ := h
  have a1 : r.s ≤ n - 1 := by omega
  have a2 : r.e ≤ n - 1 := by omega
  simp [R4.d, isRoadD, withinD, neD, h1, a1, h3, a2, h5, h6, h7, h8, h9]
theorem net_yes {n : Int} {rs : List R4} (G : Good n rs) : isNetD (nt (.int n) (rs.map R4.d)) = true := by
  show ((decide (1 ≤ n) && decide (n ≤ 12)) && (((rs.map R4.d).all (isRoadD n)) && risesB ((rs.map R4.d).map pairD))) = true
  rw [decide_eq_true G.n1, decide_eq_true G.n2, pairs_map]
  have h1 : (rs.map R4.d).all (isRoadD n) = true := by
    rw [List.all_map, List.all_eq_true]
    exact fun r hr => road_yes (G.ok r hr)
  have h2 : risesB (rs.map pr) = true := risesB_yes fun j hj => by
    rw [List.length_map] at hj
    have hp := List.pairwise_iff_getElem.mp G.up j (j + 1) (by omega) (by omega) (by omega)
    have e1 : (rs.map pr).getD j [] = pr rs[j] := by simp [List.getD_eq_getElem?_getD, List.getElem?_eq_getElem (show j < rs.length by omega)]
    have e2 : (rs.map pr).getD (j + 1) [] = pr rs[j + 1] := by simp [List.getD_eq_getElem?_getD, List.getElem?_eq_getElem (show j + 1 < rs.length by omega)]
    rw [e1, e2]
    exact lex_fore hp
  rw [h1, h2]
  rfl
theorem NetAt.k0 {K : PySem.W.Frag} {H H' : Hp} {a : Addr} {n : Int} {rs : List R4} (h : NetAt K H a n rs) (k : K0 H H') : NetAt K H' a n rs := h.kt (k.kt (t := 0))
theorem NetAt.ans {K : PySem.W.Frag} {H : Hp} {a : Addr} {n : Int} {rs : List R4} (h : NetAt K H a n rs) (G : Good n rs) (hl : rs.length ≤ 156) : NetAns K H (.ref a) true := by
  obtain ⟨r, xs, o, h1, h2, hc, hd, h3⟩ := h
  refine .inl ⟨nt (.int n) (rs.map R4.d), .tup h1 (.cons (.int _) (.cons (.tup (h2) h3) .nil)), fun m rs' e => ?_, (net_yes G).symm⟩
  cases e
  rw [List.length_map]; omega
end HK

set_option Elab.async false
set_option linter.all false
set_option maxRecDepth 100000
set_option maxHeartbeats 2000000
namespace HK
open PySem PySem.Spec PyProof.Rows L2 GAl GxR
abbrev sIsPlace : Stmt := topS 16
abbrev sNeedNet : Stmt := topS 19
abbrev sNeedPlace : Stmt := topS 20
theorem scIsPlace : FnScope ["net", "thing"] ["net", "thing"] (defScope sIsPlace) := ⟨rfl, rfl, rfl, by decide +kernel, rfl, by decide +kernel, by decide +kernel⟩
theorem scNeedNet : FnScope ["net"] ["net"] (defScope sNeedNet) := ⟨rfl, rfl, rfl, by decide +kernel, rfl, by decide +kernel, by decide +kernel⟩
theorem scNeedPlace : FnScope ["net", "place"] ["net", "place"] (defScope sNeedPlace) := ⟨rfl, rfl, rfl, by decide +kernel, rfl, by decide +kernel, by decide +kernel⟩
theorem K0.lock {H H' : Hp} {p : Addr} {u : HO} {od : Obj} (h : H p = some u) (nt : ∀ ps, u ≠ .tbl ps) (k : K0 (upd H p (.frz od u)) H') : K0 H (upd H' p u) := by
  refine ⟨fun b o e m => ?_, fun P hP => ?_, fun b e => ?_⟩
  · by_cases hb : b = p
    · subst hb
      rw [h] at e
      cases e
      exact upd_same
    · rw [upd_ne hb]
      exact k.oth b o (by rw [upd_ne hb]; exact e) m
  · obtain ⟨ps, e, ht⟩ := hP
    have hb : P ≠ p := fun z => by
      rw [z, h] at e
      exact nt ps (Option.some.inj e)
    obtain ⟨ps', e', ht'⟩ := k.tab P ⟨ps, by rw [upd_ne hb]; exact e, ht⟩
    exact ⟨ps', by rw [upd_ne hb]; exact e', ht'⟩
  · by_cases hb : b = p
    · rw [hb, upd_same] at e; cases e
    · rw [upd_ne hb] at e
      have := k.dom b e
      rwa [upd_ne hb] at this
section
variable {P : Program} {w : World} {K : PySem.W.Frag} {mg : Str → Option Value} {base : Heap}
def spIsPlace (K : PySem.W.Frag) : Sp := fun vs H Q _ => ∃ (a : Addr) (n : Int) (rs : List R4) (v : Int), vs = [.ref a, .int v] ∧ NetAt K H a n rs ∧ Q (.bl (decide (0 ≤ v) && decide (v ≤ n - 1))) H
theorem ok_isplace {f fW : Addr} {fd fdW : FuncData} (F : Fun K "is_place" "is_place" sIsPlace f fd)
    (kW : PySem.W.keepIn K (.ref fW) = true) (bW : Binds K fdW ["thing", "least", "greatest"] []) (gW : mg "is_within" = some (.ref fW)) (GW : FnOk P w K mg base CX0 2 fW fdW ["thing", "least", "greatest"] (spWithin K)) :
    FnOk P w K mg base CX0 3 f fd ["net", "thing"] (spIsPlace K) := by
  refine F.ok scIsPlace (fun vs H Q E h => ?_) (fun cdv A outer s H vs Q E hr h => ?_)
  · obtain ⟨a, n, rs, v, rfl, _⟩ := h
    rfl
  · obtain ⟨a, n, rs, v, rfl, hN, q⟩ := h
    obtain ⟨r, xs, o, h1, h2, hc, hd, h3⟩ := hN
    refine ⟨_, pss_one (ps_ret (pe_call GW hr (by rfl) gW kW bW .nil pass0 (pa_cons (pv 1) (pa_cons pe_int (pa_cons (pe_op op_sub (pe_ix ix_tup (pv 0) pe_int (fun _ _ => rfl)) pe_int) pa_nil))))), ?_⟩
    exact ⟨_, rfl, _, rfl, a, _, _, _, rfl, rfl, h1, atI_nat (j := 0) rfl, _, _, rfl, rfl, .int v, .int v, 0, n - 1, rfl, .int _, q⟩
def spNeedNet (K : PySem.W.Frag) (Pn Pr : Addr) : Sp := fun vs H Q _ => ∃ (a : Addr) (n : Int) (rs : List R4), vs = [.ref a] ∧ NetAt K H a n rs ∧ Good n rs ∧ rs.length ≤ 156 ∧ TabG H Pn ∧ TabG H Pr ∧ ∀ H', K0 H H' → Q .non H'
theorem ok_neednet {f fN Pn Pr : Addr} {fd fdN : FuncData} (F : Fun K "need_net" "need_net" sNeedNet f fd)
    (kN : PySem.W.keepIn K (.ref fN) = true) (bN : Binds K fdN ["thing"] []) (gN : mg "is_net" = some (.ref fN)) (GN : FnOk P w K mg base CX0 5 fN fdN ["thing"] (spIsNet K Pn Pr)) :
    FnOk P w K mg base CX0 6 f fd ["net"] (spNeedNet K Pn Pr) := by
  refine F.ok scNeedNet (fun vs H Q E h => ?_) (fun cdv A outer s H vs Q E hr h => ?_)
  · obtain ⟨a, n, rs, rfl, _⟩ := h
    rfl
  · obtain ⟨a, n, rs, rfl, hN, hG, hl, tn, tr, q⟩ := h
    refine ⟨_, pss_one (ps_if (pt_not (pt_val (pe_call GN hr (by rfl) gN kN bN .nil pass0 (pa_cons (pv 0) pa_nil)))) pss_never pss_nil), ?_⟩
    exact ⟨_, rfl, .ref a, true, rfl, hN.ans hG hl, tn, tr, fun H' k => ⟨_, rfl, iteF (q H' k)⟩⟩
def spNeedPlace (K : PySem.W.Frag) : Sp := fun vs H Q _ => ∃ (a : Addr) (n : Int) (rs : List R4) (v : Int), vs = [.ref a, .int v] ∧ NetAt K H a n rs ∧ 0 ≤ v ∧ v < n ∧ Q .non H
theorem ok_needplace {f fN : Addr} {fd fdN : FuncData} (F : Fun K "need_place" "need_place" sNeedPlace f fd)
    (kN : PySem.W.keepIn K (.ref fN) = true) (bN : Binds K fdN ["net", "thing"] []) (gN : mg "is_place" = some (.ref fN)) (GN : FnOk P w K mg base CX0 3 fN fdN ["net", "thing"] (spIsPlace K)) :
    FnOk P w K mg base CX0 4 f fd ["net", "place"] (spNeedPlace K) := by
  refine F.ok scNeedPlace (fun vs H Q E h => ?_) (fun cdv A outer s H vs Q E hr h => ?_)
  · obtain ⟨a, n, rs, v, rfl, _⟩ := h
    rfl
  · obtain ⟨a, n, rs, v, rfl, hN, h0, h1, q⟩ := h
    refine ⟨_, pss_one (ps_if (pt_not (pt_val (pe_call GN hr (by rfl) gN kN bN .nil pass0 (pa_cons (pv 0) (pa_cons (pv 1) pa_nil))))) pss_never pss_nil), ?_⟩
    refine ⟨_, rfl, _, rfl, a, n, rs, v, rfl, hN, _, rfl, ?_⟩
    rw [decide_eq_true h0, decide_eq_true (show v ≤ n - 1 by omega)]
    exact iteF q
theorem road_at {H : Hp} {xs : List V} {rs : List R4} {j : Nat} {x : V} (h3 : Roads K H xs rs) (hx : xs[j]? = some x) : ∃ (t : R4) (q1 : Addr), rs[j]? = some t ∧ x = .ref q1 ∧ SqT K H q1 t.vs := by
  obtain ⟨d, e1, e2⟩ := dpAll_get h3 hx
  obtain ⟨t, rfl, hrd⟩ : ∃ t : R4, d = t.d ∧ rs[j]? = some t := by
    rw [List.getElem?_map] at e1
    cases e3 : rs[j]? with
    | none => rw [e3] at e1; cases e1
    | some t => rw [e3] at e1; cases e1; exact ⟨t, rfl, rfl⟩
  obtain ⟨q1, rfl, hs⟩ := dp_r4 e2
  exact ⟨t, q1, hrd, rfl, hs⟩
theorem dget {H : Hp} {p : Addr} {kvs : List (Key × V)} {g : IF} {v x : Int} (hk : H p = some (.dK kvs)) (hD : DI kvs g) (e : g v = some x) : DGet H p (.int v) (some (.int x)) := by
  have := DGet.k (k := Sum.inl v) hk
  rw [hD.val, e] at this
  exact this
theorem inV_mem {i : Int} {js : List Int} (h : i ∈ js) : inV (.int i) (js.map V.int) = true := by
  unfold inV
  rw [List.any_map, List.any_eq_true]
  exact ⟨i, h, by simp [eqV]⟩
theorem upd_back {H : Hp} {p : Addr} {o : HO} (h : H p = some o) : upd H p o = H := by
  funext b
  by_cases e : b = p
  · rw [e, upd_same, h]
  · rw [upd_ne e]
theorem sqT_lock {H : Hp} {a p : Addr} {xs : List V} {kvs : List (Key × V)} {o : HO} (h : SqT K H a xs) (hp : H p = some (.dK kvs)) : SqT K (upd H p o) a xs := by
  rcases h with (h | ⟨o', h⟩) | h
  · exact .inl (.inl (by rw [upd_ne (ne_of h hp (fun z => by cases z))]; exact h))
  · exact .inl (.inr ⟨o', by rw [upd_ne (ne_of h hp (fun z => by cases z))]; exact h⟩)
  · exact .inr h
end
end HK

set_option Elab.async false
set_option linter.all false
set_option maxRecDepth 100000
set_option maxHeartbeats 4000000
namespace HK
open PySem PySem.Spec PyProof.Rows L2 GAl GxR
open Evl (pss_cut)
theorem dgetR {H : Hp} {p : Addr} {kvs : List (Key × V)} {g : IF} (hk : Rd H p (.dK kvs)) (hD : DI kvs g) (v : Int) : DGet H p (.int v) ((g v).map V.int) := .inl ⟨kvs, Sum.inl v, hk, rfl, by rw [hD.val]⟩
theorem K0.rd {H H' : Hp} {p : Addr} {kvs : List (Key × V)} (k : K0 H H') (h : Rd H p (.dK kvs)) : Rd H' p (.dK kvs) := by
  rcases h with h | ⟨o, h⟩
  · exact .inl (k.oth p _ h (fun _ z => by cases z))
  · exact .inr ⟨o, k.oth p _ h (fun _ z => by cases z)⟩
section
variable {P : Program} {w : World} {K : PySem.W.Frag} {mg : Str → Option Value} {base : Heap}
theorem tabG_lock {H : Hp} {p : Addr} {u o : HO} {Pp : Addr} (h : H p = some u) (nt : ∀ ps, u ≠ .tbl ps) (hT : TabG H Pp) : TabG (upd H p o) Pp := by
  obtain ⟨ps, e, ht⟩ := hT
  exact ⟨ps, by rw [upd_ne (fun z => by rw [z, h] at e; exact nt ps (Option.some.inj e))]; exact e, ht⟩
theorem netAt_lock {H : Hp} {a p : Addr} {n : Int} {rs : List R4} {kvs : List (Key × V)} {od : Obj} (h : NetAt K H a n rs) (hp : H p = some (.dK kvs)) : NetAt K (upd H p (.frz od (.dK kvs))) a n rs := by
  obtain ⟨r, xs, o, h1, h2, hc, hd, h3⟩ := h
  refine ⟨r, xs, o, sqT_lock h1 hp, sqT_lock h2 hp, hc, hd, ?_⟩
  clear h1 h2
  unfold Roads at h3 ⊢
  induction rs generalizing xs with
  | nil => cases h3; exact .nil
  | cons r rs ih =>
    cases h3 with
    | cons a b =>
      refine .cons ?_ (ih _ b)
      obtain ⟨q, rfl, h⟩ := dp_r4 (r := r) a
      exact r4_dp (r := r) (sqT_lock h hp)
end
end HK

set_option Elab.async false
set_option linter.all false
set_option maxRecDepth 100000
set_option maxHeartbeats 4000000
namespace HK
open PySem PySem.Spec PyProof.Rows L2 GAl GxR
open Evl (pss_cut)
abbrev sACell : Stmt := topS 38
abbrev N_scACell : List Str := ["script", "k"]
theorem scACell : FnScope N_scACell ["script", "k"] (defScope sACell) := ⟨rfl, rfl, rfl, by decide +kernel, rfl, by decide +kernel, by decide +kernel⟩
abbrev sATape : Stmt := topS 39
abbrev N_scATape : List Str := ["script", "k", "cell", "p", "number", "last", "turn"]
theorem scATape : FnScope N_scATape ["script", "k"] (defScope sATape) := ⟨rfl, rfl, rfl, by decide +kernel, rfl, by decide +kernel, by decide +kernel⟩
abbrev sADigit : Stmt := topS 40
abbrev N_scADigit : List Str := ["tape", "many", "found"]
theorem scADigit : FnScope N_scADigit ["tape", "many"] (defScope sADigit) := ⟨rfl, rfl, rfl, by decide +kernel, rfl, by decide +kernel, by decide +kernel⟩
/-- the tape of one number, of any size and sign -/
def TpA (H : Hp) (t : Addr) : Prop := ∃ v : Int, H t = some (.lst [.int v])
theorem TpA.k0 {H H' : Hp} {t : Addr} (h : TpA H t) (k : K0 H H') : TpA H' t := by
  obtain ⟨v, e⟩ := h
  exact ⟨v, k.oth t _ e (fun _ z => by cases z)⟩
theorem TpA.ne {H : Hp} {t b : Addr} (h : TpA H t) (n : H b = none) : b ≠ t := fun z => by
  obtain ⟨_, e⟩ := h
  rw [z, e] at n; cases n
theorem TpA.mut {H : Hp} {t b : Addr} {o : HO} (h : TpA H t) (n : b ≠ t) : TpA (upd H b o) t := by
  obtain ⟨v, e⟩ := h
  exact ⟨v, by rw [upd_ne n.symm]; exact e⟩
section
variable {P : Program} {w : World} {K : PySem.W.Frag} {mg : Str → Option Value} {base : Heap}
def spACell (K : PySem.W.Frag) : Sp := fun vs H Q _ => ∃ (a : Addr) (ns : List Int) (k : Int), vs = [.ref a, .int k] ∧ SqL K H a (ns.map V.int) ∧ 0 ≤ k ∧ ∀ c : Int, Q (.int c) H
theorem ok_acell {f : Addr} {fd : FuncData} (F : Fun K "_law_acell" "_law_acell" sACell f fd) (m_len : mg "len" = none) : FnOk P w K mg base CX0 1 f fd ["script", "k"] (spACell K) := by
  refine F.ok scACell (fun vs H Q E h => ?_) (fun cdv A outer s H vs Q E hr h => ?_)
  · obtain ⟨a, ns, k, rfl, _⟩ := h
    rfl
  · obtain ⟨a, ns, k, rfl, hS, hk, q⟩ := h
    have hu := hu_of hr
    refine ⟨_, (pss_cons (ps_if (pt_cmpR op_lt (pv 1) (pe_callB call_len_seq (by rfl) m_len PySem.boot_len (pa_cons (pv 0) pa_nil)) (nomark _)) (pss_one (ps_ret (pe_ix ix_list (pv 0) (pv 1) (fun _ _ => rfl)))) pss_nil)
      (pss_one (ps_ret pe_int))), ?_⟩
    refine ⟨_, rfl, _, rfl, a, _, rfl, .inl hS, _, _, rfl, rfl, _, rfl, ite2 (fun e => ?_) (fun e => q 0)⟩
    have hlt : k < ((ns.map V.int).length : Int) := of_decide_eq_true e
    rw [List.length_map] at hlt
    obtain ⟨j, rfl⟩ := Int.eq_ofNat_of_zero_le hk
    have hj : j < ns.length := by omega
    exact ⟨_, rfl, _, rfl, a, _, _, .int ns[j], rfl, rfl, hS, atI_nat (by rw [List.getElem?_map, List.getElem?_eq_getElem hj]; rfl), q _⟩
def spATape (K : PySem.W.Frag) : Sp := fun vs H Q _ => ∃ (a : Addr) (ns : List Int) (k : Int), vs = [.ref a, .int k] ∧ SqL K H a (ns.map V.int) ∧ 0 ≤ k ∧ ∀ (t : Addr) (H' : Hp), H t = none → K0 H H' → TpA H' t → Q (.ref t) H'
theorem ok_atape {f : Addr} {fd : FuncData} {f_acell : Addr} {fd_acell : FuncData} (F : Fun K "_law_atape" "_law_atape" sATape f fd) (k_acell : PySem.W.keepIn K (.ref f_acell) = true) (b_acell : Binds K fd_acell ["script", "k"] []) (g_acell : mg "_law_acell" = some (.ref f_acell)) (G_acell : FnOk P w K mg base CX0 1 f_acell fd_acell ["script", "k"] (spACell K)) (m_range : mg "range" = none) : FnOk P w K mg base CX0 2 f fd ["script", "k"] (spATape K) := by
  refine F.ok scATape (fun vs H Q E h => ?_) (fun cdv A outer s H vs Q E hr h => ?_)
  · obtain ⟨a, ns, k, rfl, _⟩ := h
    rfl
  · obtain ⟨a, ns, k, rfl, hS, hk, q⟩ := h
    have hu := hu_of hr
    refine ⟨_, (pss_cons (ps_set (i := 2) scATape.nd rfl (.inl rfl) (pe_call G_acell (hr.mono (by decide)) (by rfl) g_acell k_acell b_acell .nil pass0 (pa_cons (pv 0) (pa_cons (pv 1) pa_nil))))
      (pss_cons (ps_if (pt_cmpR op_eq (pe_op op_mod (pv 2) pe_int) pe_int (nomark _)) (pss_one (ps_ret (pe_lst (pa_cons (pe_op op_fdivW (pv 2) pe_int) pa_nil)))) pss_nil)
      (pss_cons (ps_set (i := 3) scATape.nd rfl (.inl rfl) pe_int)
      (pss_cons (ps_set (i := 4) scATape.nd rfl (.inl rfl) pe_int)
      (pss_cons (ps_set (i := 5) scATape.nd rfl (.inl rfl) (pe_op op_mod (pe_op op_add (pe_op op_add (pe_op op_mul (pe_op op_mod (pv 2) (pv 3)) pe_int) (pe_op op_mul pe_int (pv 1))) pe_int) (pv 3)))
      (pss_cons (ps_for PassesOwn.never rfl (pi_range1 (by rfl) m_range (pa_cons pe_int pa_nil)) (pg_name (i := 6) scATape.nd rfl (.inl rfl))
      (pss_cons (ps_set (i := 4) scATape.nd rfl (.inl rfl) (pe_op op_add (pe_op op_mul (pv 4) (pv 3)) (pv 5)))
      (pss_one (ps_set (i := 5) scATape.nd rfl (.inl rfl) (pe_op op_mod (pe_op op_add (pe_op op_add (pe_op op_mul (pv 5) (pv 5)) (pe_op op_mul pe_int (pv 1))) (pv 6)) (pv 3))))))
      (pss_one (ps_ret (pe_lst (pa_cons (pv 4) pa_nil)))))))))), ?_⟩
    refine ⟨_, rfl, _, rfl, a, ns, k, rfl, hS, hk, fun c => ?_⟩
    refine ⟨_, rfl, c, 2, rfl, rfl, (show (0 : Int) < 2 by decide), rfl, _, rfl, ite2 (fun e => ?_) (fun e => ?_)⟩
    · exact ⟨_, rfl, c, 2, rfl, rfl, wide_div (b := 5) (by decide) (by decide) (by decide) (by decide), by show 1 ≤ sizeLine; decide, fun t nt => q t _ nt (K0.new nt) ⟨_, upd_same⟩⟩
    refine ⟨_, rfl, _, rfl, c, _, rfl, rfl, (show (0 : Int) < 2305843009213693951 by decide), _, 48271, rfl, rfl, mulR (by decide) (by decide), _, rfl, 69621, k, rfl, rfl, mulL (by decide) (by decide), _, _, rfl, rfl, _, 11, rfl, rfl, _, rfl, _, _, rfl, rfl, (show (0 : Int) < 2305843009213693951 by decide), ?_⟩
    refine ⟨9, rfl, by decide, by decide, for_range (lo := 0) (n := 9) (fun i σ' H' => ∃ (nm ls : Int) (y6 : Option V), σ' = [some (.ref a), some (.int k), some (.int c), some (.int 2305843009213693951), some (.int nm), some (.int ls), y6] ∧ H' = H ∧ 0 ≤ ls ∧ ls < 2305843009213693951)
      ⟨0, _, none, rfl, rfl, Int.emod_nonneg _ (by decide), Int.emod_lt_of_pos _ (by decide)⟩ (fun i σ' H' hi h => ?_) (fun σ' H' h => ?_)⟩
    · obtain ⟨nm, ls, y6, rfl, rfl, h1, h2⟩ := h
      exact ⟨_, rfl, _, rfl, nm, _, rfl, rfl, mulR (by decide) (by decide), _, rfl, _, _, rfl, rfl, _, rfl, _, rfl, ls, ls, rfl, rfl, mulL (by omega) (by omega), _, rfl, 40692, k, rfl, rfl, mulL (by decide) (by decide), _, _, rfl, rfl, _, rfl, _, _, rfl, rfl, _, rfl, _, _, rfl, rfl, (show (0 : Int) < 2305843009213693951 by decide),
        _, _, _, rfl, rfl, Int.emod_nonneg _ (by decide), Int.emod_lt_of_pos _ (by decide)⟩
    · obtain ⟨nm, ls, y6, rfl, rfl, h1, h2⟩ := h
      exact ⟨_, rfl, by show 1 ≤ sizeLine; decide, fun t nt => q t _ nt (K0.new nt) ⟨_, upd_same⟩⟩
def spADigit : Sp := fun vs H Q _ => ∃ (t : Addr) (many : Int), vs = [.ref t, .int many] ∧ TpA H t ∧ 0 < many ∧ many ≤ 1000000 ∧ ∀ (d : Int) (H' : Hp), 0 ≤ d → d < many → Kt t H H' → TpA H' t → Q (.int d) H'
theorem ok_adigit {f : Addr} {fd : FuncData} (F : Fun K "_law_adigit" "_law_adigit" sADigit f fd) : FnOk P w K mg base CX0 1 f fd ["tape", "many"] spADigit := by
  refine F.ok scADigit (fun vs H Q E h => ?_) (fun cdv A outer s H vs Q E hr h => ?_)
  · obtain ⟨t, many, rfl, _⟩ := h
    rfl
  · obtain ⟨t, many, rfl, ⟨v, ht⟩, hm, hm2, q⟩ := h
    have hu := hu_of hr
    refine ⟨_, (pss_cons (ps_set (i := 2) scADigit.nd rfl (.inl rfl) (pe_op op_mod (pe_ix ix_list (pv 0) pe_int (fun _ _ => rfl)) (pv 1)))
      (pss_cons (ps_asg (pe_op op_fdivW (pe_ix ix_list (pv 0) pe_int (fun _ _ => rfl)) (pv 1)) (pg_sub (pv 0) pe_int set_list))
      (pss_one (ps_ret (pv 2))))), ?_⟩
    refine ⟨.ref t, rfl, t, _, 0, .int v, rfl, rfl, .inl (.inl ht), atI_nat (j := 0) rfl, .int many, rfl, v, many, rfl, rfl, hm, ?_⟩
    refine ⟨.ref t, rfl, t, _, 0, .int v, rfl, rfl, .inl (.inl ht), atI_nat (j := 0) rfl, .int many, rfl, v, many, rfl, rfl, wide_div (b := 70) hm (by omega) (by decide) (by decide), .ref t, rfl, t, _, 0, 0, rfl, rfl, ht, rfl, ?_⟩
    exact ⟨_, rfl, q _ _ (Int.emod_nonneg _ (by omega)) (Int.emod_lt_of_pos _ hm) (Kt.set ht) ⟨_, upd_same⟩⟩
end
end HK

set_option Elab.async false
set_option linter.all false
set_option maxRecDepth 100000
set_option maxHeartbeats 4000000
namespace HK
open PySem PySem.Spec PyProof.Rows L2 GAl GxR
open Evl (pss_cut)
abbrev sANet : Stmt := topS 41
abbrev N_scANet : List Str := ["tape", "most", "n", "often", "wide", "roads", "i", "j", "cost", "late"]
theorem scANet : FnScope N_scANet ["tape", "most"] (defScope sANet) := ⟨rfl, rfl, rfl, by decide +kernel, rfl, by decide +kernel, by decide +kernel⟩
theorem pick6 {d : Int} (h0 : 0 ≤ d) (h1 : d < 6) : ∃ y : Int, atI [V.int 0, .int 1, .int 2, .int 3, .int 5, .int 8] d = some (.int y) ∧ 0 ≤ y ∧ y ≤ 8 := by
  obtain ⟨k, rfl⟩ := Int.eq_ofNat_of_zero_le h0
  match k, h1 with
  | 0, _ => exact ⟨0, atI_nat rfl, by omega, by omega⟩
  | 1, _ => exact ⟨1, atI_nat rfl, by omega, by omega⟩
  | 2, _ => exact ⟨2, atI_nat rfl, by omega, by omega⟩
  | 3, _ => exact ⟨3, atI_nat rfl, by omega, by omega⟩
  | 4, _ => exact ⟨5, atI_nat rfl, by omega, by omega⟩
  | 5, _ => exact ⟨8, atI_nat rfl, by omega, by omega⟩
  | k + 6, h => exact absurd h (by omega)
section
variable {P : Program} {w : World} {K : PySem.W.Frag} {mg : Str → Option Value} {base : Heap}
def spANet (K : PySem.W.Frag) : Sp := fun vs H Q _ => ∃ (t : Addr) (most : Int), vs = [.ref t, .int most] ∧ TpA H t ∧ 1 ≤ most ∧ most ≤ 12 ∧
  ∀ (a : Addr) (n : Int) (rs : List R4) (H' : Hp), Kt t H H' → TpA H' t → NetAt K H' a n rs → n ≤ most → Good n rs → rs.length ≤ 156 → Q (.ref a) H'
/-- between the turns -/
structure NA (K : PySem.W.Frag) (H : Hp) (t ra : Addr) (n : Int) (i j : Nat) (H3 : Hp) : Prop where
  kt : Kt t H H3
  tp : TpA H3 t
  ex : ∃ xs rs, H3 ra = some (.lst xs) ∧ Roads K H3 xs rs ∧ Good n rs ∧ (∀ r ∈ rs, r.s < i ∨ (r.s = i ∧ r.e < j)) ∧ rs.length ≤ 12 * i + j
theorem ok_anet {f : Addr} {fd : FuncData} {f_adigit : Addr} {fd_adigit : FuncData} (F : Fun K "_law_anet" "_law_anet" sANet f fd) (k_adigit : PySem.W.keepIn K (.ref f_adigit) = true) (b_adigit : Binds K fd_adigit ["tape", "many"] []) (g_adigit : mg "_law_adigit" = some (.ref f_adigit)) (G_adigit : FnOk P w K mg base CX0 1 f_adigit fd_adigit ["tape", "many"] (spADigit)) (m_range : mg "range" = none) (m_tuple : mg "tuple" = none) : FnOk P w K mg base CX0 2 f fd ["tape", "most"] (spANet K) := by
  refine F.ok scANet (fun vs H Q E h => ?_) (fun cdv A outer s H vs Q E hr h => ?_)
  · obtain ⟨t, most, rfl, _⟩ := h
    rfl
  · obtain ⟨t, most, rfl, htp, hm1, hm2, q⟩ := h
    have hu := hu_of hr
    refine ⟨_, (pss_cons (ps_set (i := 2) scANet.nd rfl (.inl rfl) (pe_op op_add pe_int (pe_call G_adigit (hr.mono (by decide)) (by rfl) g_adigit k_adigit b_adigit .nil pass0 (pa_cons (pv 0) (pa_cons (pv 1) pa_nil)))))
      (pss_cons (ps_set (i := 3) scANet.nd rfl (.inl rfl) (pe_op op_add pe_int (pe_call G_adigit (hr.mono (by decide)) (by rfl) g_adigit k_adigit b_adigit .nil pass0 (pa_cons (pv 0) (pa_cons pe_int pa_nil)))))
      (pss_cons (ps_set (i := 4) scANet.nd rfl (.inl rfl) (pe_call G_adigit (hr.mono (by decide)) (by rfl) g_adigit k_adigit b_adigit .nil pass0 (pa_cons (pv 0) (pa_cons pe_int pa_nil))))
      (pss_cons (ps_set (i := 5) scANet.nd rfl (.inl rfl) (pe_lst pa_nil))
      (pss_cons (ps_for PassesOwn.never rfl (pi_range1 (by rfl) m_range (pa_cons (pv 2) pa_nil)) (pg_name (i := 6) scANet.nd rfl (.inl rfl))
      (pss_one (ps_for PassesOwn.never rfl (pi_range1 (by rfl) m_range (pa_cons (pv 2) pa_nil)) (pg_name (i := 7) scANet.nd rfl (.inl rfl))
      (pss_one (ps_if (PW.pt (pw_and (pt_cmpR op_ne (pv 6) (pv 7) (nomark _)) (pw_and1 (pt_cmpR op_lt (pe_call G_adigit (hr.mono (by decide)) (by rfl) g_adigit k_adigit b_adigit .nil pass0 (pa_cons (pv 0) (pa_cons pe_int pa_nil))) (pv 3) (nomark _))))) (pss_cons (ps_set (i := 8) scANet.nd rfl (.inl rfl) (pe_ix ix_list (pe_lst (pa_cons pe_int (pa_cons pe_int (pa_cons pe_int (pa_cons pe_int (pa_cons pe_int (pa_cons pe_int pa_nil))))))) (pe_call G_adigit (hr.mono (by decide)) (by rfl) g_adigit k_adigit b_adigit .nil pass0 (pa_cons (pv 0) (pa_cons pe_int pa_nil))) (fun _ _ => rfl)))
      (pss_cons (ps_set (i := 9) scANet.nd rfl (.inl rfl) (pe_op op_add pe_int (pe_call G_adigit (hr.mono (by decide)) (by rfl) g_adigit k_adigit b_adigit .nil pass0 (pa_cons (pv 0) (pa_cons pe_int pa_nil)))))
      (pss_cut (ps_if (pt_cmpR op_eq (pv 4) pe_int (nomark _)) (pss_cons (ps_set (i := 8) scANet.nd rfl (.inl rfl) (pe_op op_sub pe_int (pe_op op_mul pe_int (pv 8))))
      (pss_one (ps_set (i := 9) scANet.nd rfl (.inl rfl) (pe_op op_sub pe_int (pe_op op_mul pe_int (pe_op op_sub (pv 9) pe_int)))))) pss_nil)
      (pss_one (ps_expr (pe_bm PySem.F.plainAttrs_list PySem.F.slot_list_append PySem.F.type_list_append mt_append (pv 5) (pa_cons (pe_tup (pa_cons (pv 6) (pa_cons (pv 7) (pa_cons (pv 8) (pa_cons (pv 9) pa_nil))))) pa_nil))))))) pss_nil)))))
      (pss_one (ps_ret (pe_tup (pa_cons (pv 2) (pa_cons (pe_callTy call_tuple_fz (by rfl) m_tuple (by decide +kernel) (pa_cons (pv 5) pa_nil)) pa_nil)))))))))), ?_⟩
    -- n, often, wide
    refine ⟨.ref t, rfl, .int most, rfl, t, most, rfl, htp, by omega, by omega, fun d1 H1 hd1 hd1' k1 tp1 => ⟨1, d1, rfl, rfl, ?_⟩⟩
    refine ⟨.ref t, rfl, t, 4, rfl, tp1, by omega, by omega, fun d2 H2 hd2 hd2' k2 tp2 => ⟨1, d2, rfl, rfl, ?_⟩⟩
    refine ⟨.ref t, rfl, t, 5, rfl, tp2, by omega, by omega, fun dw H2' hdw hdw' kw tp2' => ?_⟩
    -- roads = []
    refine ⟨Nat.zero_le _, fun ra nra => ?_⟩
    have k12 : Kt t H H2' := (k1.trans k2).trans kw
    have nHra : H ra = none := k12.dom _ nra
    have hn1 : 1 ≤ 1 + d1 := by omega
    have hn2 : 1 + d1 ≤ 12 := by omega
    have hra : ra ≠ t := tp2'.ne nra
    have stepI : ∀ {H3 H4 : Hp} {i j : Nat}, NA K H t ra (1 + d1) i j H3 → Kt t H3 H4 → TpA H4 t → NA K H t ra (1 + d1) i j H4 := fun {H3 H4 i j} h k tp => by
      obtain ⟨xs, rs, e1, e2, e3⟩ := h.ex
      exact ⟨h.kt.trans k, tp, xs, rs, k.oth ra _ e1 hra (fun _ z => by cases z), k.roads e2, e3⟩
    have step0 : ∀ {H3 H4 : Hp} {i j : Nat}, NA K H t ra (1 + d1) i j H3 → K0 H3 H4 → NA K H t ra (1 + d1) i j H4 := fun {H3 H4 i j} h k => stepI h k.kt (h.tp.k0 k)
    refine ⟨.int (1 + d1), rfl, 1 + d1, rfl, by omega, by omega, for_range (lo := 0) (n := (1 + d1).toNat) (fun i σ' H' => ∃ y6 y7 y8 y9, σ' = [some (.ref t), some (.int most), some (.int (1 + d1)), some (.int (1 + d2)), some (.int dw), some (.ref ra), y6, y7, y8, y9] ∧ NA K H t ra (1 + d1) i 0 H')
      ⟨none, none, none, none, rfl, ?_⟩ (fun i σ' H' hi h => ?_) (fun σ' H' h => ?_)⟩
    · exact ⟨k12.mut nHra, tp2'.k0 (K0.new nra), [], [], upd_same, .nil, ⟨hn1, hn2, fun r hr => (by cases hr), .nil⟩, fun r hr => (by cases hr), by simp⟩
    · obtain ⟨y6, y7, y8, y9, rfl, hI⟩ := h
      refine ⟨.int (1 + d1), rfl, 1 + d1, rfl, by omega, by omega, for_range (lo := 0) (n := (1 + d1).toNat) (fun j σ' H' => ∃ y7 y8 y9, σ' = [some (.ref t), some (.int most), some (.int (1 + d1)), some (.int (1 + d2)), some (.int dw), some (.ref ra), some (.int (0 + (i : Int))), y7, y8, y9] ∧ NA K H t ra (1 + d1) i j H')
        ⟨y7, y8, y9, rfl, hI⟩ (fun j σ' H' hj h => ?_) (fun σ' H' h => ?_)⟩
      · obtain ⟨y7, y8, y9, rfl, hI⟩ := h
        have next : ∀ {H4 : Hp}, NA K H t ra (1 + d1) i j H4 → NA K H t ra (1 + d1) i (j + 1) H4 := fun {H4} h => by
          obtain ⟨xs, rs, e1, e2, e3, e4, e5⟩ := h.ex
          exact ⟨h.kt, h.tp, xs, rs, e1, e2, e3, fun r hr => by
            rcases e4 r hr with z | ⟨z, z2⟩
            · exact .inl z
            · exact .inr ⟨z, by omega⟩, by omega⟩
        refine ⟨_, rfl, _, rfl, rfl, _, rfl, ite2 (fun e => ?_) (fun e => iteF ⟨_, y8, y9, rfl, next hI⟩)⟩
        have hij : (i : Int) ≠ j := by
          have e : (!decide (V.int (0 + (i : Int)) = V.int (0 + (j : Int)))) = true := e
          simp only [Bool.not_eq_true', decide_eq_false_iff_not] at e
          intro z
          exact e (by rw [z])
        refine ⟨.ref t, rfl, t, 6, rfl, hI.tp, by omega, by omega, fun d3 H3 hd3 hd3' k3 tp3 => ⟨_, rfl, d3, _, rfl, rfl, _, rfl, ite2 (fun e2 => ?_) (fun e2 => ⟨_, y8, y9, rfl, next (stepI hI k3 tp3)⟩)⟩⟩
        have I3 := stepI hI k3 tp3
        -- cost
        refine ⟨by show 6 ≤ sizeLine; decide, fun pl npl => ?_⟩
        have I4 := step0 I3 (K0.new (o := .lst [.int 0, .int 1, .int 2, .int 3, .int 5, .int 8]) npl)
        have npt := tp3.ne npl
        refine ⟨.ref t, rfl, t, 6, rfl, I4.tp, by omega, by omega, fun d5 H5 hd5 hd5' k5 tp5 => ?_⟩
        have I5 := stepI I4 k5 tp5
        obtain ⟨pay, hpay, p0, p1⟩ := pick6 hd5 hd5'
        refine ⟨pl, _, d5, .int pay, rfl, rfl, .inl (.inl (k5.oth pl _ upd_same npt (fun _ z => by cases z))), hpay, ?_⟩
        -- late
        refine ⟨.ref t, rfl, t, 4, rfl, tp5, by omega, by omega, fun d7 H7 hd7 hd7' k7 tp7 => ⟨1, d7, rfl, rfl, ?_⟩⟩
        have I7 := stepI I5 k7 tp7
        clear k3 tp3 k5 tp5 k7 tp7 hpay I3 I4 I5 npl npt
        refine ⟨fun σ' H4 => ∃ pay late : Int, σ' = [some (.ref t), some (.int most), some (.int (1 + d1)), some (.int (1 + d2)), some (.int dw), some (.ref ra), some (.int (0 + (i : Int))), some (.int (0 + (j : Int))), some (.int pay), some (.int late)] ∧ H4 = H7 ∧ 0 ≤ pay ∧ pay ≤ 1000 ∧ 1 ≤ late ∧ late ≤ 1000, ?_, ?_⟩
        · refine ⟨_, rfl, rfl, _, rfl, ite2 (fun e => ?_) (fun e => ⟨pay, 1 + d7, rfl, rfl, by omega, by omega, by omega, by omega⟩)⟩
          exact ⟨_, rfl, 20, pay, rfl, rfl, mulL (by decide) (by decide), 1000, _, rfl, rfl, _, rfl, _, 1, rfl, rfl, 300, _, rfl, rfl, mulL (by decide) (by decide), 1000, _, rfl, rfl, _, _, rfl, rfl, by omega, by omega, by omega, by omega⟩
        rintro σ' H4 ⟨pay, late, rfl, rfl, p0, p1, l0, l1⟩
        -- roads.append((i, j, cost, late))
        obtain ⟨xs, rs, e1, e2', e3, e4, e5⟩ := I7.ex
        refine ⟨.ref ra, rfl, .inl ⟨rfl, _, .inl (.inl e1)⟩, _, rfl, _, rfl, _, rfl, _, rfl, by show 4 ≤ sizeLine; decide, fun tp ntp => ?_⟩
        have kT : K0 H4 (upd H4 tp (.tup [.int (0 + (i : Int)), .int (0 + (j : Int)), .int pay, .int late])) := K0.new ntp
        have e1' := kT.oth ra _ e1 (fun _ z => by cases z)
        have hlen : xs.length ≤ 200 := by
          rw [e2'.len]
          omega
        refine ⟨ra, _, _, rfl, rfl, e1', Nat.lt_of_le_of_lt hlen (by decide), _, _, _, rfl, ?_⟩
        have kA := (I7.kt.trans kT.kt).mut (o := .lst (xs ++ [.ref tp])) nHra
        refine ⟨kA, (I7.tp.k0 kT).mut hra, xs ++ [.ref tp], rs ++ [⟨0 + (i : Int), 0 + (j : Int), pay, late⟩], upd_same, ?_, ⟨hn1, hn2, fun r hr => ?_, ?_⟩, fun r hr => ?_, ?_⟩
        · exact Roads.snoc (r := ⟨0 + (i : Int), 0 + (j : Int), pay, late⟩) ((Kt.set e1').roads (kT.kt (t := t) |>.roads e2')) ((Kt.set e1').sqT (.inl (.inl upd_same)))
        · rcases List.mem_append.mp hr with z | z
          · exact e3.ok r z
          · have z := List.mem_singleton.mp z
            subst z
            exact ⟨by show 0 ≤ 0 + (i : Int); omega, by show 0 + (i : Int) < 1 + d1; omega, by show 0 ≤ 0 + (j : Int); omega, by show 0 + (j : Int) < 1 + d1; omega, by show 0 + (i : Int) ≠ 0 + (j : Int); omega, p0, p1, l0, l1⟩
        · rw [List.pairwise_append]
          refine ⟨e3.up, List.pairwise_singleton _ _, fun a ha b hb => ?_⟩
          have z := List.mem_singleton.mp hb
          subst z
          rcases e4 a ha with z | ⟨z, z2⟩
          · exact .inl (by show a.s < 0 + (i : Int); omega)
          · exact .inr ⟨by show a.s = 0 + (i : Int); omega, by show a.e < 0 + (j : Int); omega⟩
        · rcases List.mem_append.mp hr with z | z
          · rcases e4 r z with z | ⟨z, z2⟩
            · exact .inl z
            · exact .inr ⟨z, by omega⟩
          · have z := List.mem_singleton.mp z
            subst z
            exact .inr ⟨by show 0 + (i : Int) = i; omega, by show 0 + (j : Int) < _; omega⟩
        · rw [List.length_append, List.length_singleton]; omega
      · obtain ⟨y7, y8, y9, rfl, hI⟩ := h
        obtain ⟨xs, rs, e1, e2, e3, e4, e5⟩ := hI.ex
        refine ⟨_, _, _, _, rfl, hI.kt, hI.tp, xs, rs, e1, e2, e3, fun r hr => ?_, by omega⟩
        have hro := e3.ok r hr
        rcases e4 r hr with z | ⟨z, z2⟩
        · exact .inl (by omega)
        · exact .inl (by omega)
    · obtain ⟨y6, y7, y8, y9, rfl, hI⟩ := h
      obtain ⟨xs, rs, e1, e2, e3, e4, e5⟩ := hI.ex
      refine ⟨_, rfl, .ref ra, rfl, ra, xs, rfl, .inl (.inl e1), fun tl ob ntl hoc hod => ?_⟩
      have kT : K0 H' (upd H' tl (.frz ob (.tup xs))) := K0.new ntl
      refine ⟨by show 2 ≤ sizeLine; decide, fun tn ntn => ?_⟩
      have kN : K0 (upd H' tl (.frz ob (.tup xs))) (upd (upd H' tl (.frz ob (.tup xs))) tn (.tup [.int (1 + d1), .ref tl])) := K0.new ntn
      have kk := kT.trans kN
      refine q tn (1 + d1) rs _ (hI.kt.trans kk.kt) (hI.tp.k0 kk) ⟨tl, xs, (), .inl (.inl upd_same), kN.sqT (.inl (.inr ⟨ob, upd_same⟩)), trivial, trivial, kk.kt (t := t) |>.roads e2⟩ (by omega) e3 (by omega)
end
end HK

set_option Elab.async false
set_option linter.all false
set_option maxRecDepth 100000
set_option maxHeartbeats 4000000
namespace HK
open PySem PySem.Spec PyProof.Rows L2 GAl GxR
theorem sub_len {l ks : List Int} (nl : l.Nodup) (nk : ks.Nodup) (h : ∀ x ∈ l, x ∈ ks) : l.length ≤ ks.length := by
  have pm : (ks.filter fun x => decide (x ∈ l)).Perm l := (List.perm_ext_iff_of_nodup (List.Nodup.sublist List.filter_sublist nk) nl).mpr fun x => by
    rw [List.mem_filter]
    exact ⟨fun z => of_decide_eq_true z.2, fun z => ⟨h x z, decide_eq_true z⟩⟩
  rw [← pm.length_eq]
  exact List.length_filter_le _ _
/-- the tables of generator expressions -/
def TbL (H : Hp) (l : List Addr) : Prop := ∀ P ∈ l, TabG H P
theorem TbL.kt {t : Addr} {H H' : Hp} {l : List Addr} (h : TbL H l) (k : Kt t H H') : TbL H' l := fun P hP => k.tab P (h P hP)
theorem TbL.k0 {H H' : Hp} {l : List Addr} (h : TbL H l) (k : K0 H H') : TbL H' l := fun P hP => k.tab P (h P hP)
end HK

set_option Elab.async false
set_option linter.all false
set_option maxRecDepth 100000
set_option maxHeartbeats 2000000
/-! list(d.values()); set(t) of a tuple of whole numbers -/
namespace HkL
open PySem PySem.Spec PyProof.Rows L2
section
variable {X : Cx} {e : Expr} {te : TE} {p apos cpos pos : Pos}
def tListVals (te : TE) : TE := fun σ H Q => te σ H fun x H1 => ∃ (d : Addr) (kvs : List (Key × V)), x = .ref d ∧ Rd H1 d (.dK kvs) ∧ kvs.length ≤ sizeLine ∧ ∀ q, H1 q = none → Q (.ref q) (upd H1 q (.lst (kvs.map (·.2))))
theorem dict_at {pins : List (Addr × Obj)} {σ : L2.St} {H : Hp} {s : Shared} {d : Addr} {kvs : List (Key × V)} (I : Inv X pins σ H s) (h : Rd H d (.dK kvs)) : ∃ vs ep, KV kvs vs ∧ s.heap.DictAt (mixKind X.prog X.w) d vs ep ∧ (d == sysModules) = false := by
  rcases h with h | ⟨o, h⟩
  · obtain ⟨z, lo, vs, rk, hd⟩ := (show ObjOk X.prog X.w H s.heap d (.dK kvs) from I.hok d _ h)
    obtain ⟨ep, hat⟩ := hd.dictAt
    exact ⟨vs, ep, rk, hat, lo⟩
  · obtain ⟨hs, hgd, hx, es, ep, vs, hdt, hsz, kv, hm⟩ := I.frzK h
    exact ⟨vs, ep, kv, hm, hs⟩
theorem pe_listVals (hc : X.calm = true) (he : PE X e te) (hg : Gl X "list") (hm : X.mg "list" = none) (hv : bootBuiltins "list" = some (.type "list")) (hbase : attributeBase e "values" X.env (eval e X.env) = eval e X.env := by rfl) (hline : (apos.endLine == cpos.line) = true := by rfl)
    (hs : starEach [.Call (.Attribute e "values" apos) [] [] cpos] X.env = (false, eval (.Call (.Attribute e "values" apos) [] [] cpos) X.env) :: starEach [] X.env := by rfl) :
    PE X (.Call (.Name "list" p) [.Call (.Attribute e "values" apos) [] [] cpos] [] pos) (tListVals te) := by
  refine ⟨fun pins s σ H Q I hq => ?_⟩
  refine wpAny_Call_Name_kw (ld_blt I hg hm hv ?_)
  refine PyProof.Rows.callWith_type1 ?_ hs rfl
  rw [hs]
  show wpAny _ _ (spliced ((false, eval (.Call (.Attribute e "values" apos) [] [] cpos) X.env) :: backTo pos (starEach [] X.env))) _ _ s
  refine Calls.spliced_cons ?_
  refine wpAny_Call_method (T := "dict") (id := "dict.values") hbase rfl hline F.plainAttrs_dict F.slot_dict_values F.type_dict_values (thn (he.run pins s σ H _ I hq) fun u s1 ⟨x, H1, I1, rx, d, kvs, ex, hd, hz, q⟩ => ?_)
  subst ex
  obtain rfl : u = Value.ref d := rx
  obtain ⟨vs, ep, kv, hat, hs0⟩ := dict_at I1 hd
  have hdo := hat.dictOf
  have lk : kvs.length = vs.length := Paired.length kv
  have I2 : Inv X pins σ H1 { s1 with heap := s1.heap.push { cls := .type "dict_values", data := .fields #[.ref d] } } := I1.kept (t' := s1.toks) fun b ob q => Heap.get?_push_of_some _ q
  refine ⟨hdo.typeIs, hdo.mapOf.noDict, ?_⟩
  show wpAny _ _ (callWith cpos (.builtin "dict.values") [.ref d] [] []) _ X.xe s1
  refine method_meetsIn F.slot_dict_values F.entry_dict_values rfl (PySem.evalArgs_none ⟨rfl, hdo.typeIs, F.args_dict_values_1 _, _, meets_dict_values (mixKind X.prog X.w) d hs0, ⟨vs, hdo⟩, ?_⟩)
  refine Calls.spliced_nil ?_
  refine PySem.W.kdl_call (PySem.W.kdl_values (knd := mixKind X.prog X.w) (kvs := vs) (ep := ep) (r := s1.heap.objs.size) (d := d)) (I1.ok.hd hc) ⟨⟨_, Heap.get?_push_size _ rfl, rfl, rfl⟩, hat.push _⟩ (by rw [← lk]; exact hz) fun h' tk acc' c' hkeep hS hacc => ?_
  refine ⟨.ref _, upd H1 _ (.lst (kvs.map (·.2))), I2.laid hkeep (Nat.le_refl _) (show ObjOk X.prog X.w _ _ _ (.lst (kvs.map (·.2))) from ⟨?_, acc'.toList, c', ?_, ?_⟩), rfl, q _ (I2.hok.fresh (Nat.le_refl _))⟩
  · rw [List.length_map]; exact hz
  · have el : acc'.toList.length = acc'.size := by simp
    refine vals_of_at (by rw [List.length_map, el, hacc.1, lk]) fun j x w h1 h2 => ?_
    obtain ⟨k, hky⟩ := hacc.2 j w (by rw [← Array.getElem?_toList]; exact h2)
    rw [List.getElem?_map] at h1
    cases e2 : kvs[j]? with
    | none => rw [e2] at h1; cases h1
    | some pk =>
      rw [e2] at h1
      cases h1
      obtain ⟨qv, g1, g2, g3⟩ := LiI.paired_get kv e2
      rw [hky] at g1
      cases g1
      exact g3
  · rw [Array.toArray_toList]; exact hS
/-- tuple(l), tuple(t) -/
def rTup (K : PySem.W.Frag) : List V → Hp → VK → Prop := fun xs H Q => ∃ p ys, xs = [.ref p] ∧ ((SqL K H p ys ∧ ∀ l, H l = none → Q (.ref l) (upd H l (.tup ys))) ∨ (SqT K H p ys ∧ Q (.ref p) H))
theorem call_tupR : CallR X (.type "tuple") (rTup X.K) := call_tuple_of
/-- set(t) -/
def rSetT (K : PySem.W.Frag) (w : World) : List V → Hp → VK → Prop := fun vs H Q => ∃ (l : Addr) (ns : List Int), vs = [.ref l] ∧ SqT K H l (ns.map V.int) ∧ ns.length ≤ 1000 ∧ ∀ (p : Addr) (c : Nat), H p = none → c ≤ ns.length → Q (.ref p) (upd H p (SetO w p (fun j => decide (j ∈ ns)) c))
theorem cr_setT (hc : X.calm = true) : CallR X (.type "set") (rSetT X.K X.w) := by
  intro pins s σ H vs us Q I r h
  obtain ⟨l, ns, rfl, hl, hb, q⟩ := h
  cases r with
  | cons r rr =>
    cases rr
    cases r
    obtain ⟨its, rv, pt, hz⟩ := I.tuple hl
    have hi : IntsAre its.toArray.toList ns := ints_of_vals rv
    refine call_set_tupI ns (I.ok.hd hc) (show s.heap.IsTuple l its.toArray from pt) hi (by unfold scanBound; omega) fun h' tk c R1 hcn k => ?_
    exact ⟨.ref _, upd H s.heap.objs.size (SetO X.w s.heap.objs.size (fun j => decide (j ∈ ns)) c), I.laid k (Nat.le_refl _) (setO_new R1), rfl, q _ c (I.hok.fresh (Nat.le_refl _)) hcn⟩
end
end HkL

set_option Elab.async false
set_option linter.all false
set_option maxRecDepth 100000
set_option maxHeartbeats 4000000
namespace HK
open PySem PySem.Spec PyProof.Rows L2 GAl GxR
open Evl (pss_cut)
abbrev sAreP : Stmt := topS 17
abbrev N_scAreP : List Str := ["net", "thing", "place"]
theorem scAreP : FnScope N_scAreP ["net", "thing"] (defScope sAreP) := ⟨rfl, rfl, rfl, by decide +kernel, rfl, by decide +kernel, by decide +kernel⟩
abbrev N_scRises : List Str := ["row", "low", "high"]
/-! ### rising tuples of places -/
def risI (l : List Int) : Bool := (List.range (l.length - 1)).all fun i => decide (l.getD i 0 < l.getD (i + 1) 0)
theorem risI_yes {l : List Int} (h : ∀ j, j < l.length - 1 → l.getD j 0 < l.getD (j + 1) 0) : risI l = true := by
  unfold risI
  rw [List.all_eq_true]
  exact fun j hj => decide_eq_true (h j (List.mem_range.mp hj))
theorem risI_no {l : List Int} {j : Nat} (hj : j < l.length - 1) (h : ¬ l.getD j 0 < l.getD (j + 1) 0) : risI l = false := by
  unfold risI
  rw [Bool.eq_false_iff]
  intro z
  exact h (of_decide_eq_true (List.all_eq_true.mp z j (List.mem_range.mpr hj)))
theorem risI_iff {l : List Int} : risI l = true ↔ l.Pairwise (· < ·) := by
  constructor
  · intro h
    have step : ∀ j, j < l.length - 1 → l.getD j 0 < l.getD (j + 1) 0 := fun j hj => by
      unfold risI at h
      exact of_decide_eq_true (List.all_eq_true.mp h j (List.mem_range.mpr hj))
    have far : ∀ d i, i + d + 1 < l.length → l.getD i 0 < l.getD (i + d + 1) 0 := fun d => by
      induction d with
      | zero => exact fun i hi => step i (by omega)
      | succ d ih =>
        intro i hi
        have h1 := ih i (by omega)
        have h2 := step (i + d + 1) (by omega)
        rw [show i + (d + 1) + 1 = i + d + 1 + 1 by omega]
        omega
    rw [List.pairwise_iff_getElem]
    intro i j hi hj hij
    have := far (j - i - 1) i (by omega)
    rw [show i + (j - i - 1) + 1 = j by omega] at this
    simpa [List.getD_eq_getElem?_getD, List.getElem?_eq_getElem hi, List.getElem?_eq_getElem hj] using this
  · intro h
    refine risI_yes fun j hj => ?_
    have := List.pairwise_iff_getElem.mp h j (j + 1) (by omega) (by omega) (by omega)
    simpa [List.getD_eq_getElem?_getD, List.getElem?_eq_getElem (show j < l.length by omega), List.getElem?_eq_getElem (show j + 1 < l.length by omega)] using this
def AreP (n : Int) (l : List Int) : Prop := (∀ v ∈ l, 0 ≤ v ∧ v < n) ∧ l.Pairwise (· < ·)
theorem AreP.len {n : Int} {l : List Int} (h : AreP n l) : l.length ≤ n.toNat := by
  have nd : l.Nodup := h.2.imp fun a => Int.ne_of_lt a
  have := sub_len (ks := (List.range n.toNat).map fun (i : Nat) => (i : Int)) nd (List.pairwise_map.mpr (List.pairwise_lt_range.imp fun a z => by omega)) fun x hx => by
    obtain ⟨h0, h1⟩ := h.1 x hx
    exact List.mem_map.mpr ⟨x.toNat, List.mem_range.mpr (by omega), by omega⟩
  simpa using this
theorem cut1' (xs : List V) : cutV xs (some 1) none = xs.drop 1 := cut1 xs
theorem getI {ns : List Int} {i : Nat} {x : V} (h : (ns.map V.int)[i]? = some x) : x = .int (ns.getD i 0) := by
  rw [List.getElem?_map] at h
  cases e : ns[i]? with
  | none => rw [e] at h; cases h
  | some v => rw [e] at h; cases h; rw [List.getD_eq_getElem?_getD, e]; rfl
section
variable {P : Program} {w : World} {K : PySem.W.Frag} {mg : Str → Option Value} {base : Heap}
def spRisesI (K : PySem.W.Frag) (Pr : Addr) : Sp := fun vs H Q _ => ∃ (a : Addr) (ns : List Int), vs = [.ref a] ∧ SqT K H a (ns.map V.int) ∧ TabG H Pr ∧ ∀ H', K0 H H' → Q (.bl (risI ns)) H'
theorem ok_risesI {f c Pr : Addr} {fd : FuncData} (F : FunC K "rises" "rises" sRises f fd c) (TB : TabB base mg c Pr) (m_zip : mg "zip" = none) (m_all : mg "all" = none) : FnOk P w K mg base CX0 2 f fd ["row"] (spRisesI K Pr) := by
  refine F.ok scRises (fun vs H Q E h => ?_) (fun A outer s H vs Q E hr h => ?_)
  · obtain ⟨a, ns, rfl, _⟩ := h
    rfl
  · obtain ⟨a, ns, rfl, hS, hP, q⟩ := h
    refine ⟨_, (pss_one (ps_ret (pe_allG (own := [("low", 1), ("high", 2)]) (k := 0) (g := (gTup K 2 (gCons (gName 1) (gCons (gName 2) gNil)))) (tt := tYes) (te := (tOp (rI0 fun i j => .bl (decide (i < j))) (tVar 1) (tVar 2))) (hr.mono (by decide)) (by rfl) m_all rfl scRises.nd TB rfl (gsc_by (N := N_scRises) (sc := defScope sRises) (by decide +kernel)) (RZ.pi_zipA (by rfl) m_zip (pa_cons (pv 0) (pa_cons (pe_slice sl_tupA (pv 0) (po_some pe_int) po_none) pa_nil))) (fun A' hr' _ _ _ _ _ _ => (pg_tup rfl (pgs_cons (pg_name (i := 1) scRises.nd rfl (.inl rfl)) (pgs_cons (pg_name (i := 2) scRises.nd rfl (.inl rfl)) pgs_nil)))) (fun A' hr' _ _ _ _ _ _ => pts_nil) (fun A' hr' _ _ _ _ _ _ => (pe_cmpR op_lt (pv 1) (pv 2) (nomark _)))))), ?_⟩
    have go : ∀ (c : Addr) (H1 : Hp), K0 H H1 → SqT K H1 c ((ns.map V.int).drop 1) → ∃ xs ys, xs = ns.map V.int ∧ SqT K H1 a xs ∧ SqT K H1 c ys ∧ TabG H1 Pr ∧ ∀ H2, Tabbed Pr H1 H2 → ∃ W : Nat → Nat → Hp → Prop, (∃ m, W 0 m H2) ∧
        GTurn (RZ.ItzT K a c) (gTup K 2 (gCons (gName 1) (gCons (gName 2) gNil))) tYes (tOp (rI0 fun i j => .bl (decide (i < j))) (tVar 1) (tVar 2)) [1, 2] [some (.ref a), none, none] (Q (.bl true)) (stpAll (Q (.bl false))) W := fun c H1 k1 hC1 => by
      refine ⟨_, _, rfl, k1.sqT hS, hC1, k1.tab _ hP, fun H2 hT2 => ?_⟩
      have kt := K0.tbd (k1.tab _ hP) hT2
      have k2 : K0 H H2 := k1.trans kt
      refine ⟨fun i m H3 => i + m = ns.length - 1 ∧ K0 H2 H3 ∧ ∀ j, j < i → ns.getD j 0 < ns.getD (j + 1) 0, ⟨ns.length - 1, by omega, K0.refl _, fun j hj => absurd hj (Nat.not_lt_zero _)⟩, fun i m H3 hW => ?_⟩
      obtain ⟨em, k3, hlt⟩ := hW
      have k13 := k2.trans k3
      have hA : SqT K H3 a (ns.map V.int) := k13.sqT hS
      have hC : SqT K H3 c ((ns.map V.int).drop 1) := (kt.trans k3).sqT hC1
      by_cases hi : i < ns.length - 1
      · have h1 : i < (ns.map V.int).length := by rw [List.length_map]; omega
        have h2 : i + 1 < (ns.map V.int).length := by rw [List.length_map]; omega
        have g1 : (ns.map V.int)[i]? = some (ns.map V.int)[i] := List.getElem?_eq_getElem h1
        have g2 : ((ns.map V.int).drop 1)[i]? = some (ns.map V.int)[i + 1] := by rw [List.getElem?_drop, Nat.add_comm 1 i]; exact List.getElem?_eq_getElem h2
        refine .inr ⟨⟨_, _, _, _, hA, hC, g1, g2⟩, fun H' => K0 H2 H' ∧ ns.getD i 0 < ns.getD (i + 1) 0, fun H' hN => ?_, fun x H' hy => ?_⟩
        · obtain ⟨k', hl'⟩ := hN
          refine ⟨m - 1, by omega, by omega, k', fun j hj => ?_⟩
          by_cases e : j = i
          · rw [e]; exact hl'
          · exact hlt j (by omega)
        · obtain ⟨T, x1, x2, rfl, nT, rfl, f1, f2⟩ := hy
          have ex1 : x1 = .int (ns.getD i 0) := getI (f1 _ hA)
          have ex2 : x2 = .int (ns.getD (i + 1) 0) := getI (by
            have := f2 _ hC
            rwa [List.getElem?_drop, Nat.add_comm 1 i] at this)
          subst ex1 ex2
          have kT : K0 H3 (upd H3 T (.tup [.int (ns.getD i 0), .int (ns.getD (i + 1) 0)])) := K0.new nT
          refine ⟨T, _, rfl, .inl (.inl upd_same), rfl, _, _, rfl, _, _, rfl, rfl, rfl, tyes ?_⟩
          refine ⟨_, rfl, _, rfl, _, _, rfl, rfl, _, rfl, ?_⟩
          by_cases hb : ns.getD i 0 < ns.getD (i + 1) 0
          · rw [decide_eq_true hb]
            exact iteT ⟨k3.trans kT, hb⟩
          · rw [decide_eq_false hb]
            exact iteF (qeq (q _ (k13.trans kT)) (risI_no hi hb))
      · refine .inl ⟨⟨_, _, hA, hC, .inr (by rw [List.length_drop, List.length_map]; omega)⟩, ?_⟩
        exact qeq (q _ k13) (risI_yes fun j hj => hlt j (by omega))
    refine ⟨.ref a, rfl, .ref a, rfl, 1, rfl, a, _, rfl, hS, fun z => ?_, fun _ c nc => ?_⟩
    · have e0 : (ns.map V.int).drop 1 = ns.map V.int := by
        cases ns with
        | nil => rfl
        | cons v r =>
          have := z.1
          rw [show HT.sIx ((v :: r).map V.int).length 0 (some 1) = min 1 ((v :: r).map V.int).length from HT.sIx_nat _ 0 1, List.length_map, List.length_cons] at this
          omega
      obtain ⟨xs, ys, e, h1, h2, h3⟩ := go a H (K0.refl H) (by rw [e0]; exact hS)
      exact ⟨a, a, xs, ys, rfl, .inr ⟨h1, h2, h3⟩⟩
    · obtain ⟨xs, ys, e, h1, h2, h3⟩ := go c _ (K0.new nc) (by rw [← cut1]; exact .inl (.inl upd_same))
      exact ⟨a, c, xs, ys, rfl, .inr ⟨h1, h2, h3⟩⟩
def spAreP (K : PySem.W.Frag) (Pr Pa : Addr) : Sp := fun vs H Q _ => ∃ (a : Addr) (n : Int) (rs : List R4) (p : Addr) (ns : List Int), vs = [.ref a, .ref p] ∧ NetAt K H a n rs ∧ SqT K H p (ns.map V.int) ∧ TabG H Pr ∧ TabG H Pa ∧ ∀ (H' : Hp) (b : Bool), K0 H H' → (b = true ↔ AreP n ns) → Q (.bl b) H'
theorem ok_arep {f c Pr Pa : Addr} {fd : FuncData} {f_isplace f_rises : Addr} {fd_isplace fd_rises : FuncData} (F : FunC K "are_places" "are_places" sAreP f fd c) (TB : TabB base mg c Pa)
    (k_isplace : PySem.W.keepIn K (.ref f_isplace) = true) (b_isplace : Binds K fd_isplace ["net", "thing"] []) (g_isplace : mg "is_place" = some (.ref f_isplace)) (G_isplace : FnOk P w K mg base CX0 3 f_isplace fd_isplace ["net", "thing"] (spIsPlace K))
    (k_rises : PySem.W.keepIn K (.ref f_rises) = true) (b_rises : Binds K fd_rises ["row"] []) (g_rises : mg "rises" = some (.ref f_rises)) (G_rises : FnOk P w K mg base CX0 2 f_rises fd_rises ["row"] (spRisesI K Pr))
    (m_isinstance : mg "isinstance" = none) (m_tuple : mg "tuple" = none) (m_all : mg "all" = none) : FnOk P w K mg base CX0 5 f fd ["net", "thing"] (spAreP K Pr Pa) := by
  refine F.ok scAreP (fun vs H Q E h => ?_) (fun A outer s H vs Q E hr h => ?_)
  · obtain ⟨a, n, rs, p, ns, rfl, _⟩ := h
    rfl
  · obtain ⟨a, n, rs, p, ns, rfl, hN, hS, tr, ta, q⟩ := h
    refine ⟨_, (pss_cons (ps_if (pt_not (pt_val (pe_callB call_isi (by rfl) m_isinstance boot_isinstance (pa_cons (pv 1) (pa_cons (pe_bltn (v := .ty "tuple") (by rfl) m_tuple (by decide +kernel) rfl) pa_nil))))) (pss_one (ps_ret pe_bl)) pss_nil)
      (pss_one (ps_ret (pe_and (pe_allG (own := [("place", 2)]) (k := 3) (g := (gName 2)) (tt := tYes) (te := (tCall (spIsPlace K) [] E0 (tCons (tVar 0) (tCons (tVar 2) tNil)))) (hr.mono (by decide)) (by rfl) m_all rfl scAreP.nd TB rfl (gsc_by (N := N_scAreP) (sc := defScope sAreP) (by decide +kernel)) (pi_tup (pv 1)) (fun A' hr' _ _ _ _ _ _ => (pg_name (i := 2) scAreP.nd rfl (.inl rfl))) (fun A' hr' _ _ _ _ _ _ => pts_nil) (fun A' hr' _ _ _ _ _ _ => (pe_call G_isplace (hr'.mono (by decide)) (by rfl) g_isplace k_isplace b_isplace .nil pass0 (pa_cons (pv 0) (pa_cons (pv 2) pa_nil))))) (pe_one (pe_call G_rises (hr.mono (by decide)) (by rfl) g_rises k_rises b_rises .nil pass0 (pa_cons (pv 1) pa_nil))))))), ?_⟩
    refine ⟨_, rfl, .ref p, .ty "tuple", .type "tuple", _, true, rfl, .ty "tuple", sqT_ty hS, kit_ty (tys_tuple (by decide)), _, rfl, iteF ?_⟩
    refine ⟨_, rfl, p, rfl, ⟨_, hS⟩, ta, fun H2 hT2 => ?_⟩
    have k2 : K0 H H2 := K0.tbd ta hT2
    refine ⟨fun i m H3 => i + m = ns.length ∧ K0 H H3 ∧ ∀ v ∈ ns.take i, 0 ≤ v ∧ v < n, ⟨ns.length, by omega, k2, fun v hv => by rw [List.take_zero] at hv; cases hv⟩, fun i m H3 hW => ?_⟩
    obtain ⟨em, k3, hall⟩ := hW
    have hA : SqT K H3 p (ns.map V.int) := k3.sqT hS
    by_cases hi : i < ns.length
    · have h1 : i < (ns.map V.int).length := by rw [List.length_map]; omega
      have g1 : (ns.map V.int)[i]? = some (ns.map V.int)[i] := List.getElem?_eq_getElem h1
      have g0 : ns[i]? = some ns[i] := List.getElem?_eq_getElem hi
      refine .inr ⟨⟨_, _, hA, g1⟩, fun H' => K0 H H' ∧ (0 ≤ ns[i] ∧ ns[i] < n), fun H' hN => ⟨m - 1, by omega, by omega, hN.1, fun v hv => ?_⟩, fun x H' hy => ?_⟩
      · rw [List.take_add_one, g0] at hv
        rcases List.mem_append.mp hv with hv | hv
        · exact hall v hv
        · have := List.mem_singleton.mp hv
          subst this
          exact hN.2
      · obtain ⟨rfl, fx⟩ := hy
        have ex : x = .int ns[i] := by
          have := fx _ hA
          rw [List.getElem?_map, g0] at this
          exact (Option.some.inj this).symm
        subst ex
        refine ⟨rfl, tyes ⟨_, rfl, _, rfl, a, n, rs, ns[i], rfl, hN.k0 k3, _, rfl, ?_⟩⟩
        by_cases hb : 0 ≤ ns[i] ∧ ns[i] < n
        · rw [decide_eq_true hb.1, decide_eq_true (show ns[i] ≤ n - 1 by omega)]
          exact iteT ⟨k3, hb⟩
        · have : (decide (0 ≤ ns[i]) && decide (ns[i] ≤ n - 1)) = false := by
            rw [Bool.eq_false_iff]
            intro z
            rw [Bool.and_eq_true, decide_eq_true_iff, decide_eq_true_iff] at z
            exact hb ⟨z.1, by omega⟩
          rw [this]
          exact iteF ⟨_, rfl, iteF (q _ false k3 ⟨fun z => by (cases z), fun z => absurd (z.1 _ (List.getElem_mem hi)) hb⟩)⟩
    · rw [List.take_of_length_le (by omega)] at hall
      refine .inl ⟨⟨_, hA, by rw [List.length_map]; omega⟩, _, rfl, iteT ?_⟩
      refine ⟨_, rfl, p, ns, rfl, hA, k3.tab _ tr, fun H4 k4 => ?_⟩
      exact q _ _ (k3.trans k4) ⟨fun z => ⟨hall, risI_iff.mp z⟩, fun z => risI_iff.mpr z.2⟩
end
end HK

set_option Elab.async false
set_option linter.all false
set_option maxRecDepth 100000
set_option maxHeartbeats 4000000
namespace HK
open PySem PySem.Spec PyProof.Rows L2 GAl GxR
open Evl (pss_cut)
abbrev sASome : Stmt := topS 42
abbrev N_scASome : List Str := ["tape", "n", "most", "found", "turn", "place"]
theorem scASome : FnScope N_scASome ["tape", "n", "most"] (defScope sASome) := ⟨rfl, rfl, rfl, by decide +kernel, rfl, by decide +kernel, by decide +kernel⟩
theorem riseA {l : List Int} {i : Int} (h : l.Pairwise (· < ·)) (hl : ∀ v ∈ l, v < i) : (l ++ [i]).Pairwise (· < ·) := by
  rw [List.pairwise_append]
  exact ⟨h, List.pairwise_singleton .., fun a ha b hb => by rw [List.mem_singleton.mp hb]; exact hl a ha⟩
theorem map_eraseIdx {l : List Int} : ∀ (i : Nat), (l.map V.int).eraseIdx i = (l.eraseIdx i).map V.int := fun i => by
  induction l generalizing i with
  | nil => rfl
  | cons a l ih =>
    cases i with
    | zero => rfl
    | succ i => show V.int a :: (l.map V.int).eraseIdx i = V.int a :: (l.eraseIdx i).map V.int; rw [ih]
section
variable {P : Program} {w : World} {K : PySem.W.Frag} {mg : Str → Option Value} {base : Heap}
def spASome : Sp := fun vs H Q _ => ∃ (t : Addr) (n most : Int), vs = [.ref t, .int n, .int most] ∧ TpA H t ∧ 1 ≤ n ∧ n ≤ 12 ∧ 1 ≤ most ∧
  ∀ (q : Addr) (o : Obj) (l : List Int) (H' : Hp), Kt t H H' → TpA H' t → H q = none → H' q = some (.frz o (.tup (l.map V.int))) → AreP n l → l.length ≤ 12 → 0 < l.length → Q (.ref q) H'
theorem ok_asome {f : Addr} {fd : FuncData} {f_adigit : Addr} {fd_adigit : FuncData} (F : Fun K "_law_asome" "_law_asome" sASome f fd) (k_adigit : PySem.W.keepIn K (.ref f_adigit) = true) (b_adigit : Binds K fd_adigit ["tape", "many"] []) (g_adigit : mg "_law_adigit" = some (.ref f_adigit)) (G_adigit : FnOk P w K mg base CX0 1 f_adigit fd_adigit ["tape", "many"] (spADigit)) (m_range : mg "range" = none) (m_tuple : mg "tuple" = none) (m_len : mg "len" = none) : FnOk P w K mg base CX0 2 f fd ["tape", "n", "most"] spASome := by
  refine F.ok scASome (fun vs H Q E h => ?_) (fun cdv A outer s H vs Q E hr h => ?_)
  · obtain ⟨t, n, most, rfl, _⟩ := h
    rfl
  · obtain ⟨t, n, most, rfl, htp, n1, n2, hm, q⟩ := h
    have hu := hu_of hr
    refine ⟨_, (pss_cons (ps_setLc (i := 3) (own := [("place", 5)]) (g := (gName 5)) (tt := (tTest (tOp rEq (tCall (spADigit) [] E0 (tCons (tVar 0) (tCons (tC (.int 2)) tNil))) (tC (.int 0))))) (te := (tVar 5)) rfl scASome.nd rfl rfl (sw_true rfl rfl rfl rfl) (pi_range1 (by rfl) m_range (pa_cons (pv 1) pa_nil)) (blkOk_by (N := N_scASome) (sc := defScope sASome) (by decide +kernel)) (fun _ _ _ _ _ => (pg_name (i := 5) scASome.nd rfl (.inl rfl))) (fun _ _ _ _ _ => (pts_one (pt_cmpR op_eq (pe_call G_adigit (hr.mono (by decide)) (by rfl) g_adigit k_adigit b_adigit .nil pass0 (pa_cons (pv 0) (pa_cons pe_int pa_nil))) pe_int (nomark _)))) (fun _ _ _ _ _ => (pv 5)))
      (pss_cut (ps_for PassesOwn.never rfl (pi_range1 (by rfl) m_range (pa_cons pe_int pa_nil)) (pg_name (i := 4) scASome.nd rfl (.inl rfl))
      (pss_one (ps_if (pt_cmpR op_gt (pe_callB call_len_seq (by rfl) m_len PySem.boot_len (pa_cons (pv 3) pa_nil)) (pv 2) (nomark _)) (pss_one (ps_expr (pe_bm PySem.F.plainAttrs_list PySem.F.slot_list_pop PySem.F.type_list_pop mt_popAt (pv 3) (pa_cons (pe_call G_adigit (hr.mono (by decide)) (by rfl) g_adigit k_adigit b_adigit .nil pass0 (pa_cons (pv 0) (pa_cons (pe_callB call_len_seq (by rfl) m_len PySem.boot_len (pa_cons (pv 3) pa_nil)) pa_nil))) pa_nil)))) pss_nil)))
      (pss_cut (ps_if (pt_cmpR (op_eqD hr.units) (pv 3) (pe_lst pa_nil) (nomark _)) (pss_one (ps_set (i := 3) scASome.nd rfl (.inl rfl) (pe_lst (pa_cons (pe_call G_adigit (hr.mono (by decide)) (by rfl) g_adigit k_adigit b_adigit .nil pass0 (pa_cons (pv 0) (pa_cons (pv 1) pa_nil))) pa_nil)))) pss_nil)
      (pss_one (ps_ret (pe_callTy call_tuple_fz (by rfl) m_tuple (by decide +kernel) (pa_cons (pv 3) pa_nil))))))), ?_⟩
    refine ⟨_, rfl, n, rfl, by omega, by omega, fun D nD => ?_⟩
    have hDt : D ≠ t := htp.ne nD
    refine lc_range (lo := 0) (n := n.toNat) (fun i H' => Kt t H H' ∧ TpA H' t ∧ ∃ l : List Int, H' D = some (.lst (l.map V.int)) ∧ l.Pairwise (· < ·) ∧ (∀ v ∈ l, 0 ≤ v ∧ v < (i : Int)) ∧ l.length ≤ i) ⟨(K0.new nD).kt, htp.k0 (K0.new nD), [], upd_same, List.Pairwise.nil, (fun v hv => (by cases hv)), Nat.le_refl _⟩ (fun i H' hi h => ?_) (fun H' h => ?_)
    · obtain ⟨k, T, l, hl, hp, hb, hll⟩ := h
      refine ⟨rfl, _, rfl, t, 2, rfl, T, by omega, by omega, fun d H2 d0 d1 k2 T2 => ?_⟩
      have hl2 := k2.oth D _ hl hDt (fun _ z => by cases z)
      refine ⟨rfl, _, rfl, ite2 (fun e => ?_) (fun e => ?_)⟩
      · refine ⟨_, rfl, _, hl2, Nat.lt_of_le_of_lt (m := 5000) (by rw [List.length_map]; omega) (by decide), (k.trans k2).mut nD, T2.mut hDt, l ++ [0 + (i : Int)], by rw [List.map_append]; exact upd_same, riseA hp fun v hv => ?_, fun v hv => ?_, by rw [List.length_append, List.length_singleton]; omega⟩
        · have := hb v hv
          omega
        · rcases List.mem_append.mp hv with hv | hv
          · have := hb v hv
            omega
          · have := List.mem_singleton.mp hv
            omega
      · exact ⟨k.trans k2, T2, l, hl2, hp, fun v hv => by have := hb v hv; omega, by omega⟩
    · obtain ⟨k, T, l, hl, hp, hb, hll⟩ := h
      refine ⟨fun σ' H2 => ∃ (y4 : Option V) (l : List Int), σ' = [some (.ref t), some (.int n), some (.int most), some (.ref D), y4, none] ∧ Kt t H H2 ∧ TpA H2 t ∧ H2 D = some (.lst (l.map V.int)) ∧ AreP n l ∧ l.length ≤ 12, ?_, ?_⟩
      · refine ⟨12, rfl, by decide, by decide, for_range (lo := 0) (n := 12) (fun i σ' H2 => ∃ (y4 : Option V) (l : List Int), σ' = [some (.ref t), some (.int n), some (.int most), some (.ref D), y4, none] ∧ Kt t H H2 ∧ TpA H2 t ∧ H2 D = some (.lst (l.map V.int)) ∧ AreP n l ∧ l.length ≤ 12)
          ⟨_, l, rfl, k, T, hl, ⟨fun v hv => by have := hb v hv; omega, hp⟩, by omega⟩ (fun i σ' H2 hi h => ?_) (fun σ' H2 h => h)⟩
        obtain ⟨y4, l, rfl, k, T, hl, hA, hll⟩ := h
        refine ⟨_, rfl, D, _, rfl, .inl (.inl (.inl hl)), _, rfl, _, _, rfl, rfl, _, rfl, ite2 (fun e => ?_) (fun e => ⟨_, l, rfl, k, T, hl, hA, hll⟩)⟩
        have hgt : most < ((l.map V.int).length : Int) := of_decide_eq_true e
        have hlm : (l.map V.int).length = l.length := List.length_map ..
        refine ⟨_, rfl, .inl ⟨rfl, _, .inl (.inl hl)⟩, _, rfl, _, rfl, D, _, rfl, .inl (.inl (.inl hl)), t, _, rfl, T, by omega, by omega, fun d H3 d0 d1 k3 T3 => ?_⟩
        obtain ⟨ai, rfl⟩ := Int.eq_ofNat_of_zero_le d0
        have hai : ai < l.length := by omega
        have hl3 := k3.oth D _ hl hDt (fun _ z => by cases z)
        have k03 := k.trans k3
        refine ⟨D, _, _, ai, .int l[ai], rfl, rfl, hl3, by omega, by omega, by rw [PyProof.Rows.seqIndex_at (by omega) (by rw [List.length_map]; omega)]; rfl, by rw [List.getElem?_map, List.getElem?_eq_getElem hai]; rfl, ?_⟩
        have hs : (l.eraseIdx ai).Sublist l := List.eraseIdx_sublist ..
        exact ⟨_, l.eraseIdx ai, rfl, k03.mut nD, T3.mut hDt, by rw [← map_eraseIdx]; exact upd_same, ⟨fun v hv => hA.1 v (hs.subset hv), hA.2.sublist hs⟩, Nat.le_trans hs.length_le hll⟩
      · rintro σ' H2 ⟨y4, l, rfl, k, T, hl, hA, hll⟩
        refine ⟨fun σ' H3 => ∃ (D : Addr) (y4 : Option V) (l : List Int), σ' = [some (.ref t), some (.int n), some (.int most), some (.ref D), y4, none] ∧ Kt t H H3 ∧ TpA H3 t ∧ H3 D = some (.lst (l.map V.int)) ∧ AreP n l ∧ l.length ≤ 12 ∧ 0 < l.length, ?_, ?_⟩
        · refine ⟨_, rfl, Nat.zero_le _, fun p np => ?_⟩
          have k2 : K0 H2 (upd H2 p (.lst [])) := K0.new np
          have hl2 := k2.oth D _ hl (fun _ z => by cases z)
          refine ⟨.list (l.map PyData.int), .list [], .lst (.inl (.inl hl2)) (dpInts l), .lst (.inl (.inl upd_same)) .nil, canLay_ints l, canLay_ints [], _, rfl, ?_⟩
          rw [eqv_nil]
          have T2 := T.k0 k2
          have k02 := k.trans k2.kt
          clear k2
          generalize upd H2 p (.lst []) = H2' at hl2 T2 k02
          cases hE : l with
          | nil =>
            refine iteT ⟨_, rfl, _, rfl, t, n, rfl, T2, by omega, by omega, fun d H3 d0 d1 k3 T3 => ⟨by show 1 ≤ sizeLine; decide, fun D2 nD2 => ?_⟩⟩
            exact ⟨D2, _, [d], rfl, (k02.trans k3).trans (K0.new nD2).kt, T3.k0 (K0.new nD2), upd_same, ⟨fun v hv => by rw [List.mem_singleton.mp hv]; exact ⟨d0, d1⟩, List.pairwise_singleton ..⟩, by show 1 ≤ 12; decide, by show 0 < 1; decide⟩
          | cons x r =>
            exact iteF ⟨D, _, l, rfl, k02, T2, hl2, hA, hll, by rw [hE]; exact Nat.succ_pos _⟩
        rintro σ' H3 ⟨D3, y4, l, rfl, k, T, hl, hA, hll, hl0⟩
        refine ⟨_, rfl, D3, _, rfl, .inl (.inl hl), fun tl ob ntl hoc hod => ?_⟩
        have kT : K0 H3 (upd H3 tl (.frz ob (.tup (l.map V.int)))) := K0.new ntl
        exact q tl ob l _ (k.trans kT.kt) (T.k0 kT) (k.dom tl ntl) upd_same hA hll hl0
end
end HK

set_option Elab.async false
set_option linter.all false
set_option maxRecDepth 100000
set_option maxHeartbeats 4000000
namespace HK
open PySem PySem.Spec PyProof.Rows L2 GAl GxR
theorem shapedR (ts : List R4) : SeqAt.shaped (.list (ts.map R4.d)) = true := by
  have h1 : ∀ ts : List R4, PyData.canLayAll0 (ts.map R4.d) = true := fun ts => by
    induction ts with
    | nil => rfl
    | cons t r ih => rw [List.map_cons]; simp only [PyData.canLayAll0, ih, R4.d, PyData.canLay0, Bool.and_true]
  have h2 : ∀ ts : List R4, PyData.depthAll (ts.map R4.d) ≤ 2 := fun ts => by
    induction ts with
    | nil => decide
    | cons t r ih =>
      rw [List.map_cons]
      simp only [PyData.depthAll, R4.d, PyData.depth]
      omega
  show (PyData.canLay0 (.list (ts.map R4.d)) && decide (PyData.depth (.list (ts.map R4.d)) ≤ 64)) = true
  rw [Bool.and_eq_true, decide_eq_true_iff]
  refine ⟨by simp only [PyData.canLay0]; exact h1 ts, ?_⟩
  have := h2 ts
  simp only [PyData.depth]
  omega
theorem eqv_nilR (ts : List R4) : PyData.eqv (.list (ts.map R4.d)) (.list []) = ts.isEmpty := by
  cases ts <;> simp [PyData.eqv, PyData.eqvAll]
theorem flat_ints (L : List Int) : (L.map V.int).all flatV = true := by
  rw [List.all_map, List.all_eq_true]
  exact fun _ _ => rfl
theorem inV_iff (i : Int) (L : List Int) : inV (.int i) (L.map V.int) = decide (i ∈ L) := by
  rw [Bool.eq_iff_iff, decide_eq_true_iff]
  constructor
  · intro h
    unfold inV at h
    rw [List.any_map, List.any_eq_true] at h
    obtain ⟨j, hj, e⟩ := h
    have : j = i := by simpa [eqV] using e
    rw [← this]; exact hj
  · exact fun h => inV_mem h
section
variable {P : Program} {w : World} {K : PySem.W.Frag} {mg : Str → Option Value} {base : Heap}
theorem roads_snoc {H : Hp} {q : Addr} {t : R4} (hq : SqT K H q t.vs) : ∀ {xs : List V} {ts : List R4}, Roads K H xs ts → Roads K H (xs ++ [.ref q]) (ts ++ [t])
  | _, [], .nil => .cons (r4_dp hq) .nil
  | _, r :: ts, .cons a b => .cons a (roads_snoc hq (ts := ts) b)
end
end HK

set_option Elab.async false
set_option linter.all false
set_option maxRecDepth 100000
set_option maxHeartbeats 4000000
namespace HK
open PySem PySem.Spec PyProof.Rows L2 GAl GxR
/-! ### trees as partial functions -/
def stp (g : IF) (v : Int) : Int := (g v).getD v
def clm (g : IF) : Nat → Int → Int
  | 0, v => v
  | n + 1, v => stp g (clm g n v)
theorem stp_none {g : IF} {v : Int} (h : g v = none) : stp g v = v := by unfold stp; rw [h]; rfl
theorem stp_some {g : IF} {v x : Int} (h : g v = some x) : stp g v = x := by unfold stp; rw [h]; rfl
theorem clm_fix {g : IF} {v : Int} {i : Nat} (h : g (clm g i v) = none) : ∀ k, clm g (i + k) v = clm g i v
  | 0 => rfl
  | k + 1 => by
    show stp g (clm g (i + k) v) = _
    rw [clm_fix h k, stp_none h]
theorem clm_root {g : IF} {v root : Int} {i : Nat} (hr : g root = none) (h : clm g i v = root) (k : Nat) : clm g (i + k) v = root := by
  rw [clm_fix (by rw [h]; exact hr), h]
theorem DI.keys {kvs : List (Key × V)} {f : IF} (h : DI kvs f) : ∃ ks : List Int, ks.Nodup ∧ ks.length = kvs.length ∧ (∀ i, i ∈ ks ↔ (f i).isSome = true) ∧ kvs.map (·.1) = ks.map Sum.inl := by
  have aux : ∀ {l : List (Key × V)}, (∀ p ∈ l, ∃ i x : Int, p = (Sum.inl i, V.int x)) → ∃ ks : List Int, l.map (·.1) = ks.map Sum.inl := fun {l} => by
    induction l with
    | nil => exact fun _ => ⟨[], rfl⟩
    | cons p r ih =>
      intro hl
      obtain ⟨ks, e⟩ := ih fun q hq => hl q (List.mem_cons_of_mem _ hq)
      obtain ⟨i, x, rfl⟩ := hl p (List.mem_cons_self ..)
      exact ⟨i :: ks, by rw [List.map_cons, List.map_cons, e]⟩
  obtain ⟨ks, e⟩ := aux h.ks
  have nd := h.nd
  rw [e] at nd
  refine ⟨ks, (List.pairwise_map.mp nd).imp fun hne z => hne (by rw [z]), ?_, fun i => ?_, e⟩
  · have := congrArg List.length e
    rw [List.length_map, List.length_map] at this
    exact this.symm
  · rw [← h.mem i, e, List.mem_map]
    exact ⟨fun z => ⟨i, z, rfl⟩, fun ⟨j, hj, ej⟩ => by cases ej; exact hj⟩
/-- a way to the root takes no more steps than there are keys -/
theorem clm_len {kvs : List (Key × V)} {g : IF} {root v : Int} {m : Nat} (hD : DI kvs g) (hr : g root = none) (h : clm g m v = root) : clm g kvs.length v = root := by
  obtain ⟨ks, nk, lk, mk, _⟩ := hD.keys
  refine Decidable.byContradiction fun hn => ?_
  have absb : ∀ i, i ≤ kvs.length → clm g i v ≠ root := fun i hi z => hn (by
    have := clm_root hr z (kvs.length - i)
    rwa [show i + (kvs.length - i) = kvs.length by omega] at this)
  have lt : kvs.length < m := by
    refine Nat.lt_of_not_le fun z => absb m z h
  have dom : ∀ i, i ≤ kvs.length → (g (clm g i v)).isSome = true := fun i hi => by
    cases e : g (clm g i v) with
    | some x => rfl
    | none =>
      have := clm_fix e (m - i)
      rw [show i + (m - i) = m by omega, h] at this
      exact absurd this.symm (absb i hi)
  by_cases hd : ∀ i j, i < j → j ≤ kvs.length → clm g i v ≠ clm g j v
  · have nl : ((List.range (kvs.length + 1)).map fun i => clm g i v).Nodup := List.pairwise_map.mpr
      (List.Pairwise.imp_of_mem (fun {a b} _ hb lt => hd a b lt (by have := List.mem_range.mp hb; omega)) List.pairwise_lt_range)
    have := sub_len nl nk fun x hx => by
      obtain ⟨i, hi, rfl⟩ := List.mem_map.mp hx
      exact (mk _).mpr (dom i (by have := List.mem_range.mp hi; omega))
    rw [List.length_map, List.length_range] at this
    omega
  · obtain ⟨i, z⟩ := Classical.not_forall.mp hd
    obtain ⟨j, z⟩ := Classical.not_forall.mp z
    obtain ⟨hij, z⟩ := Classical.not_imp.mp z
    obtain ⟨hj, z⟩ := Classical.not_imp.mp z
    have e := Decidable.not_not.mp z
    have per : ∀ t, ∃ s, s ≤ kvs.length ∧ i ≤ s ∧ s < j ∧ clm g (i + t) v = clm g s v := fun t => by
      induction t with
      | zero => exact ⟨i, by omega, Nat.le_refl _, hij, rfl⟩
      | succ t ih =>
        obtain ⟨s, h1, h2, h3, h4⟩ := ih
        have e5 : clm g (i + (t + 1)) v = clm g (s + 1) v := by
          show stp g (clm g (i + t) v) = stp g (clm g s v)
          rw [h4]
        by_cases hs : s + 1 < j
        · exact ⟨s + 1, by omega, by omega, hs, e5⟩
        · exact ⟨i, by omega, Nat.le_refl _, hij, by rw [e5, show s + 1 = j by omega, e]⟩
    obtain ⟨s, h1, _, _, h4⟩ := per (m - i)
    rw [show i + (m - i) = m by omega, h] at h4
    exact absb s h1 h4.symm
/-- going ahead one stays in the tree -/
theorem clm_in {g : IF} {root v : Int} {m : Nat} (hr : g root = none) (h : clm g m v = root) (k : Nat) : clm g k v = root ∨ ∃ x, g (clm g k v) = some x := by
  by_cases hk : clm g k v = root
  · exact .inl hk
  · refine .inr ?_
    cases e : g (clm g k v) with
    | some x => exact ⟨x, rfl⟩
    | none =>
      refine absurd ?_ hk
      by_cases hm : m ≤ k
      · have := clm_root hr h (k - m)
        rwa [show m + (k - m) = k by omega] at this
      · have := clm_fix e (m - k)
        rw [show k + (m - k) = m by omega, h] at this
        exact this.symm
/-! ### the road of a pair -/
def road (rs : List R4) (a b : Int) : Option R4 := rs.find? fun r => decide (r.s = a ∧ r.e = b)
theorem road_some {rs : List R4} {a b : Int} {r : R4} (h : road rs a b = some r) : r ∈ rs ∧ r.s = a ∧ r.e = b := by
  have h2 := List.find?_some h
  exact ⟨List.mem_of_find?_eq_some h, of_decide_eq_true h2⟩
theorem road_none {rs : List R4} {a b : Int} (h : road rs a b = none) : ∀ r ∈ rs, ¬ (r.s = a ∧ r.e = b) := fun r hr z => by
  have := List.find?_eq_none.mp h r hr
  exact this (decide_eq_true z)
theorem lt_uniq {rs : List R4} (up : rs.Pairwise R4.lt) {i j : Nat} {r t : R4} (hi : rs[i]? = some r) (hj : rs[j]? = some t) (e : r.s = t.s ∧ r.e = t.e) : i = j := by
  obtain ⟨li, rfl⟩ := List.getElem?_eq_some_iff.mp hi
  obtain ⟨lj, rfl⟩ := List.getElem?_eq_some_iff.mp hj
  refine Decidable.byContradiction fun ne => ?_
  rcases Nat.lt_or_gt_of_ne ne with l | l
  · have : rs[i].s < rs[j].s ∨ (rs[i].s = rs[j].s ∧ rs[i].e < rs[j].e) := List.pairwise_iff_getElem.mp up i j li lj l
    omega
  · have : rs[j].s < rs[i].s ∨ (rs[j].s = rs[i].s ∧ rs[j].e < rs[i].e) := List.pairwise_iff_getElem.mp up j i lj li l
    omega
theorem road_of {rs : List R4} (up : rs.Pairwise R4.lt) {r : R4} (h : r ∈ rs) : road rs r.s r.e = some r := by
  cases e : road rs r.s r.e with
  | none => exact absurd ⟨rfl, rfl⟩ (road_none e r h)
  | some t =>
    obtain ⟨ht, hs⟩ := road_some e
    obtain ⟨i, hi⟩ := List.getElem?_of_mem ht
    obtain ⟨j, hj⟩ := List.getElem?_of_mem h
    have := lt_uniq up hi hj hs
    subst this
    rw [hi] at hj
    exact hj
theorem road_snoc {rs : List R4} {t : R4} (a b : Int) : road (rs ++ [t]) a b = (road rs a b).or (if t.s = a ∧ t.e = b then some t else none) := by
  unfold road
  rw [List.find?_append]
  congr 1
  by_cases h : t.s = a ∧ t.e = b
  · rw [if_pos h]
    simp [h]
  · rw [if_neg h]
    simp only [List.find?_cons, decide_eq_false h, List.find?_nil]
/-- what a dict makes a tree -/
def TreeP (rs : List R4) (root : Int) (g : IF) (m : Nat) : Prop := g root = none ∧ (∀ v x, g v = some x → (road rs x v).isSome = true) ∧ ∀ v x, g v = some x → clm g m v = root
/-- a dict from pairs to what a road has -/
def TabP (sel : R4 → Int) (rs : List R4) (kvs : List (List Key × V)) : Prop := kvs.length ≤ rs.length ∧ ∀ a b : Int, valV kvs [Sum.inl a, Sum.inl b] = (road rs a b).map fun r => V.int (sel r)
theorem TabP.put {sel : R4 → Int} {rs : List R4} {t : R4} {kvs : List (List Key × V)} (up : (rs ++ [t]).Pairwise R4.lt) (h : TabP sel rs kvs) : TabP sel (rs ++ [t]) (putK kvs [Sum.inl t.s, Sum.inl t.e] (.int (sel t))) := by
  refine ⟨?_, fun a b => ?_⟩
  · have := length_putK kvs [Sum.inl t.s, Sum.inl t.e] (V.int (sel t))
    have := h.1
    rw [List.length_append, List.length_singleton]
    omega
  · rw [valV_put, road_snoc]
    by_cases e : t.s = a ∧ t.e = b
    · obtain ⟨rfl, rfl⟩ := e
      have hno : road rs t.s t.e = none := by
        cases e : road rs t.s t.e with
        | none => rfl
        | some r =>
          obtain ⟨hr, hs⟩ := road_some e
          obtain ⟨i, hi⟩ := List.getElem?_of_mem hr
          have hlt : i < rs.length := (List.getElem?_eq_some_iff.mp hi).1
          have := lt_uniq up (i := i) (j := rs.length) (by rw [List.getElem?_append_left hlt]; exact hi) (by rw [List.getElem?_append_right (Nat.le_refl _)]; simp) hs
          omega
      rw [if_pos rfl, hno, if_pos ⟨rfl, rfl⟩]
      rfl
    · rw [if_neg (fun z => e (by simp at z; exact ⟨z.1.symm, z.2.symm⟩)), if_neg e, h.2]
      cases road rs a b <;> rfl
end HK

set_option Elab.async false
set_option linter.all false
set_option maxRecDepth 100000
set_option maxHeartbeats 4000000
namespace HK
open PySem PySem.Spec PyProof.Rows L2 GAl GxR
theorem valV_drop {κ : Type} [DecidableEq κ] (k j : κ) : ∀ kvs : List (κ × V), valV (dropK kvs k) j = if j = k then none else valV kvs j
  | [] => by split <;> rfl
  | p :: r => by
    by_cases e : p.1 = k
    · rw [dropK_pos e, valV_drop k j r]
      by_cases ej : j = k
      · rw [if_pos ej, if_pos ej]
      · rw [if_neg ej, if_neg ej, valV_neg (fun z => ej (by rw [← z, e]))]
    · rw [dropK_neg e]
      by_cases ep : p.1 = j
      · rw [valV_pos ep, valV_pos ep, if_neg (fun z => e (by rw [ep, z]))]
      · rw [valV_neg ep, valV_neg ep, valV_drop k j r]
def drp (f : IF) (i : Int) : IF := fun j => if j = i then none else f j
theorem DI.drop {kvs : List (Key × V)} {f : IF} (h : DI kvs f) (i : Int) : DI (dropK kvs (Sum.inl i)) (drp f i) := by
  refine ⟨?_, fun p hp => h.ks p (dropK_mem hp), fun j => ?_⟩
  · exact List.Nodup.sublist (List.Sublist.map _ List.filter_sublist) h.nd
  · rw [valV_drop, h.val]
    unfold drp
    by_cases e : j = i
    · subst e; simp
    · simp [e]
theorem ints_of : ∀ {kvs : List (Key × V)}, (∀ p ∈ kvs, ∃ i x : Int, p = (Sum.inl i, V.int x)) → ∃ ks : List Int, kvs.map (·.1) = ks.map Sum.inl
  | [], _ => ⟨[], rfl⟩
  | p :: r, h => by
    obtain ⟨ks, e⟩ := ints_of (kvs := r) (fun q hq => h q (List.mem_cons_of_mem _ hq))
    obtain ⟨i, x, rfl⟩ := h p (List.mem_cons_self ..)
    exact ⟨i :: ks, by rw [List.map_cons, List.map_cons, e]⟩
theorem DI.ints {kvs : List (Key × V)} {f : IF} (h : DI kvs f) : ∃ ks : List Int, kvs.map (·.1) = ks.map Sum.inl ∧ ks.Nodup ∧ ∀ i, i ∈ ks ↔ (f i).isSome = true := by
  obtain ⟨ks, e⟩ := ints_of h.ks
  refine ⟨ks, e, ?_, fun i => ?_⟩
  · have := h.nd
    rw [e] at this
    have this : (ks.map (Sum.inl : Int → Key)).Pairwise (· ≠ ·) := this
    rw [List.pairwise_map] at this
    exact this.imp fun h z => h (by rw [z])
  · rw [← h.mem, e]
    constructor
    · exact fun hi => List.mem_map.mpr ⟨i, hi, rfl⟩
    · intro hi
      obtain ⟨j, hj, z⟩ := List.mem_map.mp hi
      cases z; exact hj
theorem DI.small {kvs : List (Key × V)} {f : IF} (h : DI kvs f) (hr : ∀ v x, f v = some x → 0 ≤ v ∧ v < 12) : kvs.length ≤ 12 := by
  obtain ⟨ks, e, nd, hm⟩ := h.ints
  have hl : kvs.length = ks.length := by
    have := congrArg List.length e
    rwa [List.length_map, List.length_map] at this
  have L : ([0, 1, 2, 3, 4, 5, 6, 7, 8, 9, 10, 11] : List Int).Nodup := by decide
  have pm : (([0, 1, 2, 3, 4, 5, 6, 7, 8, 9, 10, 11] : List Int).filter fun i => (f i).isSome).Perm ks := (List.perm_ext_iff_of_nodup (List.Nodup.sublist List.filter_sublist L) nd).mpr fun i => by
    rw [List.mem_filter, hm i]
    constructor
    · exact fun h => h.2
    · intro hi
      refine ⟨?_, hi⟩
      obtain ⟨x, ex⟩ := Option.isSome_iff_exists.mp hi
      have := hr i x ex
      have : i = 0 ∨ i = 1 ∨ i = 2 ∨ i = 3 ∨ i = 4 ∨ i = 5 ∨ i = 6 ∨ i = 7 ∨ i = 8 ∨ i = 9 ∨ i = 10 ∨ i = 11 := by omega
      rcases this with rfl | rfl | rfl | rfl | rfl | rfl | rfl | rfl | rfl | rfl | rfl | rfl <;> decide
  rw [hl, ← pm.length_eq]
  exact Nat.le_trans (List.length_filter_le _ _) (by decide)
theorem Kt.over {t q : Addr} {H H' H'' : Hp} (k : Kt t H H') (k' : Kt q H' H'') (n : H q = none) : Kt t H H'' := ⟨fun b u e => k'.tup b u (k.tup b u e), fun b o u e => k'.frz b o u (k.frz b o u e), fun b o e m m' => k'.oth b o (k.oth b o e m m') (ne_of_none e n) m', fun P h => k'.tab P (k.tab P h), fun b e => k.dom b (k'.dom b e)⟩
theorem Kt.setD {q : Addr} {X Y : Hp} {ls ms : List (Key × V)} (k : Kt q X Y) (h : Y q = some (.dK ls)) : Kt q X (upd Y q (.dK ms)) := by
  refine ⟨fun b u e => ?_, fun b o u e => ?_, fun b o e m m' => ?_, fun P hP => ?_, fun b e => k.dom b (upd_none e)⟩
  · have e' := k.tup b u e
    rw [upd_ne (ne_of e' h (fun z => by cases z))]; exact e'
  · have e' := k.frz b o u e
    rw [upd_ne (ne_of e' h (fun z => by cases z))]; exact e'
  · rw [upd_ne m]; exact k.oth b o e m m'
  · obtain ⟨ps, e, ht⟩ := k.tab P hP
    exact ⟨ps, by rw [upd_ne (ne_of e h (fun z => by cases z))]; exact e, ht⟩
theorem Kt.lock {q p : Addr} {H H' : Hp} {kvs : List (Key × V)} {od : Obj} (h : H p = some (.dK kvs)) (k : Kt q (upd H p (.frz od (.dK kvs))) H') : Kt q H (upd H' p (.dK kvs)) := by
  refine ⟨fun b u e => ?_, fun b o u e => ?_, fun b o e m m' => ?_, fun P hP => ?_, fun b e => ?_⟩
  · have hb := ne_of e h (fun z => by cases z)
    rw [upd_ne hb]
    exact k.tup b u (by rw [upd_ne hb]; exact e)
  · have hb := ne_of e h (fun z => by cases z)
    rw [upd_ne hb]
    exact k.frz b o u (by rw [upd_ne hb]; exact e)
  · by_cases hb : b = p
    · subst hb
      rw [h] at e
      cases e
      exact upd_same
    · rw [upd_ne hb]
      exact k.oth b o (by rw [upd_ne hb]; exact e) m m'
  · obtain ⟨ps, e, ht⟩ := hP
    have hb := ne_of e h (fun z => by cases z)
    obtain ⟨ps', e', ht'⟩ := k.tab P ⟨ps, by rw [upd_ne hb]; exact e, ht⟩
    exact ⟨ps', by rw [upd_ne hb]; exact e', ht'⟩
  · by_cases hb : b = p
    · rw [hb, upd_same] at e; cases e
    · rw [upd_ne hb] at e
      have := k.dom b e
      rwa [upd_ne hb] at this
theorem pick2 {d : Int} (h0 : 0 ≤ d) (h1 : d < 2) (a b : Int) : ∃ y : Int, atI [V.int a, .int b] d = some (.int y) := by
  obtain ⟨k, rfl⟩ := Int.eq_ofNat_of_zero_le h0
  match k, h1 with
  | 0, _ => exact ⟨a, atI_nat rfl⟩
  | 1, _ => exact ⟨b, atI_nat rfl⟩
  | k + 2, h => exact absurd h (by omega)
theorem pick4 {d : Int} (h0 : 0 ≤ d) (h1 : d < 4) (a b c e : Int) : ∃ y : Int, atI [V.int a, .int b, .int c, .int e] d = some (.int y) := by
  obtain ⟨k, rfl⟩ := Int.eq_ofNat_of_zero_le h0
  match k, h1 with
  | 0, _ => exact ⟨a, atI_nat rfl⟩
  | 1, _ => exact ⟨b, atI_nat rfl⟩
  | 2, _ => exact ⟨c, atI_nat rfl⟩
  | 3, _ => exact ⟨e, atI_nat rfl⟩
  | k + 4, h => exact absurd h (by omega)
section
variable {P : Program} {w : World} {K : PySem.W.Frag} {mg : Str → Option Value} {base : Heap}
/-- between the statements: all but the tape as it was, the tape a tape -/
structure Sf (K : PySem.W.Frag) (H : Hp) (t sc : Addr) (ns : List Int) (H' : Hp) : Prop where
  kt : Kt t H H'
  tp : Tape K H' t sc ns
theorem Sf.k0 {H H' H2 : Hp} {t sc : Addr} {ns : List Int} (h : Sf K H t sc ns H') (k : K0 H' H2) : Sf K H t sc ns H2 := ⟨h.kt.trans k.kt, h.tp.k0 k⟩
theorem Sf.go {H H' H2 : Hp} {t sc : Addr} {ns : List Int} (h : Sf K H t sc ns H') (k : Kt t H' H2) (tp : Tape K H2 t sc ns) : Sf K H t sc ns H2 := ⟨h.kt.trans k, tp⟩
theorem Sf.over {H H' H2 : Hp} {t sc q : Addr} {ns : List Int} (h : Sf K H t sc ns H') (h0 : Tape K H t sc ns) (k : Kt q H' H2) (n : H q = none) : Sf K H t sc ns H2 := by
  have kk := h.kt.over k n
  obtain ⟨⟨p, v, e, r⟩, _⟩ := h.tp
  have ht : t ≠ q := fun z => by
    obtain ⟨_, _, e, _⟩ := h0.v
    rw [z, n] at e; cases e
  exact ⟨kk, ⟨p, v, k.oth t _ e ht (fun _ z => by cases z), r⟩, h0.scr.kt kk⟩
theorem Sf.put {H H' : Hp} {t sc q : Addr} {ns : List Int} {ls ms : List (Key × V)} (h : Sf K H t sc ns H') (h0 : Tape K H t sc ns) (n : H q = none) (hk : H' q = some (.dK ls)) : Sf K H t sc ns (upd H' q (.dK ms)) := h.over h0 ((Kt.refl q H').setD hk) n
theorem or_eq {σ : L2.St} {H : Hp} {Q' : Bool → Hp → Prop} {d c c' : Int} {i : Nat} (h : σ[i]? = some (some (.int d))) (q : Q' (decide (d = c ∨ d = c')) H) : tOr (tTest (tOp rEq (tVar i) (tC (.int c)))) (tTest (tOp rEq (tVar i) (tC (.int c')))) σ H Q' := by
  refine ⟨_, h, rfl, _, rfl, ?_⟩
  by_cases e : d = c
  · rw [decide_eq_true (show V.int d = V.int c by rw [e])]
    rw [decide_eq_true (Or.inl e)] at q
    exact q
  · rw [decide_eq_false (show ¬ V.int d = V.int c from fun z => e (by cases z; rfl))]
    refine ⟨_, h, rfl, _, rfl, ?_⟩
    by_cases e' : d = c'
    · rw [decide_eq_true (Or.inr e')] at q
      rw [decide_eq_true (show V.int d = V.int c' by rw [e'])]
      exact q
    · rw [decide_eq_false (show ¬ (d = c ∨ d = c') from fun z => z.elim e e')] at q
      rw [decide_eq_false (show ¬ V.int d = V.int c' from fun z => e' (by cases z; rfl))]
      exact q
/-- dicts of whole numbers -/
def DsAt (H : Hp) (xs : List V) : Prop := ∀ x ∈ xs, ∃ q ls f, x = .ref q ∧ H q = some (.dK ls) ∧ DI ls f ∧ ls.length ≤ 3000
theorem DsAt.kt {t sc : Addr} {ns : List Int} {H H' : Hp} {xs : List V} (h : DsAt H xs) (tp : Tape K H t sc ns) (k : Kt t H H') : DsAt H' xs := fun x hx => by
  obtain ⟨q, ls, f, e, hq, r⟩ := h x hx
  refine ⟨q, ls, f, e, k.oth q _ hq (fun z => ?_) (fun _ z => by cases z), r⟩
  obtain ⟨_, _, e, _⟩ := tp.v
  rw [← z, hq] at e; cases e
theorem DsAt.k0 {H H' : Hp} {xs : List V} (h : DsAt H xs) (k : K0 H H') : DsAt H' xs := fun x hx => by
  obtain ⟨q, ls, f, e, hq, r⟩ := h x hx
  exact ⟨q, ls, f, e, k.oth q _ hq (fun _ z => by cases z), r⟩
theorem DsAt.lst {H : Hp} {xs ys zs : List V} {l : Addr} (h : DsAt H xs) (hl : H l = some (.lst ys)) : DsAt (upd H l (.lst zs)) xs := fun x hx => by
  obtain ⟨q, ls, f, e, hq, r⟩ := h x hx
  exact ⟨q, ls, f, e, by rw [upd_ne (ne_of hq hl (fun z => by cases z))]; exact hq, r⟩
theorem DsAt.cons {H : Hp} {xs : List V} {q : Addr} {ls : List (Key × V)} {f : IF} (hq : H q = some (.dK ls)) (hD : DI ls f) (hl : ls.length ≤ 3000) (h : DsAt H xs) : DsAt H (.ref q :: xs) := fun x hx => by
  rcases List.mem_cons.mp hx with rfl | hx
  · exact ⟨q, ls, f, rfl, hq, hD, hl⟩
  · exact h x hx
theorem DsAt.snoc {H : Hp} {xs : List V} {q : Addr} {ls : List (Key × V)} {f : IF} (h : DsAt H xs) (hq : H q = some (.dK ls)) (hD : DI ls f) (hl : ls.length ≤ 3000) : DsAt H (xs ++ [.ref q]) := fun x hx => by
  rcases List.mem_append.mp hx with hx | hx
  · exact h x hx
  · exact ⟨q, ls, f, List.mem_singleton.mp hx, hq, hD, hl⟩
theorem Sf.lst {H H' : Hp} {t sc l : Addr} {ns : List Int} {zs : List V} (h : Sf K H t sc ns H') (h0 : Tape K H t sc ns) (n : H l = none) : Sf K H t sc ns (upd H' l (.lst zs)) := ⟨h.kt.mut n, h.tp.mut h0.scr h.kt n (h0.ne n)⟩
end
end HK

set_option Elab.async false
set_option linter.all false
set_option maxRecDepth 100000
set_option maxHeartbeats 2000000
/-! x in xs, x not in xs: data in a list of data -/
namespace HkI
open PySem PySem.Spec PyProof.Rows L2
section
variable {X : Cx}
def rInD (neg : Bool) (K : PySem.W.Frag) : R2 := fun x y H Q => ∃ (d : PyData) (es : List PyData), Dp K H x d ∧ Dp K H y (.list es) ∧ d.canLay0 = true ∧ PyData.canLayAll0 es = true ∧ d.depth ≤ 60 ∧ Q (.bl (neg != es.any fun y => y.eqv d)) H
theorem op_notInD (hu : X.A.units + 64 < cLine) : OpR X (compareOp .NotIn) (rInD true X.K) := by
  intro pins s σ H x y v u Q I rx ry h
  obtain ⟨d, es, hx, hy, l1, l2, hd, q⟩ := h
  obtain ⟨as, ra⟩ := Dp.reads I d x v hx rx
  obtain ⟨bs, rb⟩ := Dp.reads I _ y u hy ry
  refine SeqAt.notIn_list_reads rb ra l2 l1 (by have := Nat.min_le_right (PyData.depthAll es) d.depth; omega) ⟨.bl _, H, I, rfl, ?_⟩
  rw [Bool.true_bne] at q
  exact q
theorem op_inD (hu : X.A.units + 64 < cLine) : OpR X (compareOp .In) (rInD false X.K) := by
  intro pins s σ H x y v u Q I rx ry h
  obtain ⟨d, es, hx, hy, l1, l2, hd, q⟩ := h
  obtain ⟨as, ra⟩ := Dp.reads I d x v hx rx
  obtain ⟨bs, rb⟩ := Dp.reads I _ y u hy ry
  refine SeqAt.in_list_reads rb ra l2 l1 (by have := Nat.min_le_right (PyData.depthAll es) d.depth; omega) ⟨.bl _, H, I, rfl, ?_⟩
  rw [Bool.false_bne] at q
  exact q
end
end HkI

set_option Elab.async false
set_option linter.all false
set_option maxRecDepth 100000
set_option maxHeartbeats 4000000
namespace HK
open PySem PySem.Spec PyProof.Rows L2 GAl GxR
open Evl (pss_cut)
abbrev sADrawn : Stmt := topS 46
abbrev N_scADrawn : List Str := ["tape", "net", "root", "some", "ahead", "reached", "turn", "road", "fit", "kept", "place", "here"]
theorem scADrawn : FnScope N_scADrawn ["tape", "net", "root", "some"] (defScope sADrawn) := ⟨rfl, rfl, rfl, by decide +kernel, rfl, by decide +kernel, by decide +kernel⟩
theorem putK_new {kvs : List (Key × V)} {k : Key} {v : V} (h : valV kvs k = none) : (putK kvs k v).length = kvs.length + 1 := by
  unfold putK
  rw [valV_any, h]
  simp
section
variable {P : Program} {w : World} {K : PySem.W.Frag} {mg : Str → Option Value} {base : Heap}
def spADrawn (K : PySem.W.Frag) : Sp := fun vs H Q _ => ∃ (t a : Addr) (n : Int) (rs : List R4) (root : Int) (s : Addr) (ns : List Int), vs = [.ref t, .ref a, .int root, .ref s] ∧ TpA H t ∧ NetAt K H a n rs ∧ Good n rs ∧ rs.length ≤ 156 ∧ SqT K H s (ns.map V.int) ∧
  ∀ (p : Addr) (kvs : List (Key × V)) (g : IF) (H' : Hp), Kt t H H' → TpA H' t → H p = none → H' p = some (.dK kvs) → DI kvs g → kvs.length ≤ 12 → Q (.ref p) H'
theorem ok_adrawn {f : Addr} {fd : FuncData} {f_adigit : Addr} {fd_adigit : FuncData} (F : Fun K "_law_adrawn_tree" "_law_adrawn_tree" sADrawn f fd) (k_adigit : PySem.W.keepIn K (.ref f_adigit) = true) (b_adigit : Binds K fd_adigit ["tape", "many"] []) (g_adigit : mg "_law_adigit" = some (.ref f_adigit)) (G_adigit : FnOk P w K mg base CX0 1 f_adigit fd_adigit ["tape", "many"] (spADigit)) (m_range : mg "range" = none) (m_len : mg "len" = none) : FnOk P w K mg base CX0 2 f fd ["tape", "net", "root", "some"] (spADrawn K) := by
  refine F.ok scADrawn (fun vs H Q E h => ?_) (fun cdv A outer s H vs Q E hr h => ?_)
  · obtain ⟨t, a, n, rs, root, s, ns, rfl, _⟩ := h
    rfl
  · obtain ⟨t, a, n, rs, root, s, ns, rfl, htp, hN, G, hrl, hS, q⟩ := h
    have hu := hu_of hr
    refine ⟨_, (pss_cons (ps_set (i := 4) scADrawn.nd rfl (.inl rfl) pe_dnewK)
      (pss_cons (ps_set (i := 5) scADrawn.nd rfl (.inr rfl) (pe_lst (pa_cons (pv 2) pa_nil)))
      (pss_cut (ps_for PassesOwn.never rfl (pi_range1 (by rfl) m_range (pa_cons (pe_ix ix_tup (pv 1) pe_int (fun _ _ => rfl)) pa_nil)) (pg_name (i := 6) scADrawn.nd rfl (.inl rfl))
      (pss_cut (ps_setLc (i := 8) (own := [("road", 7)]) (g := (gName 7)) (tt := (tAnd (tTest (tOp (rIn K false) (tOp (rIxT K) (tVar 7) (tC (.int 0))) (tVar 5))) (tTest (tOp (rIn K true) (tOp (rIxT K) (tVar 7) (tC (.int 1))) (tVar 5))))) (te := (tVar 7)) rfl scADrawn.nd rfl rfl (sw_true rfl rfl rfl rfl) (pi_tup (pe_ix ix_tup (pv 1) pe_int (fun _ _ => rfl))) (blkOk_by (N := N_scADrawn) (sc := defScope sADrawn) (by decide +kernel)) (fun _ _ _ _ _ => (pg_name (i := 7) scADrawn.nd rfl (.inl rfl))) (fun _ _ _ _ _ => (pts_one (PW.pt (pw_and (pt_cmpR op_in_seq (pe_ix ix_tup (pv 7) pe_int (fun _ _ => rfl)) (pv 5) rfl) (pw_and1 (pt_cmpR op_notIn_seq (pe_ix ix_tup (pv 7) pe_int (fun _ _ => rfl)) (pv 5) rfl)))))) (fun _ _ _ _ _ => (pv 7)))
      (pss_one (ps_if (pt_cmpR (op_neD hr.units) (pv 8) (pe_lst pa_nil) (nomark _)) (pss_cons (ps_set (i := 7) scADrawn.nd rfl (.inl rfl) (pe_ix ix_list (pv 8) (pe_call G_adigit (hr.mono (by decide)) (by rfl) g_adigit k_adigit b_adigit .nil pass0 (pa_cons (pv 0) (pa_cons (pe_callB call_len_seq (by rfl) m_len PySem.boot_len (pa_cons (pv 8) pa_nil)) pa_nil))) (fun _ _ => rfl)))
      (pss_cons (ps_dput hu (pv 4) (pe_ix ix_tup (pv 7) pe_int (fun _ _ => rfl)) (pe_ix ix_tup (pv 7) pe_int (fun _ _ => rfl)) rfl)
      (pss_one (ps_expr (pe_bm PySem.F.plainAttrs_list PySem.F.slot_list_append PySem.F.type_list_append mt_append (pv 5) (pa_cons (pe_ix ix_tup (pv 7) pe_int (fun _ _ => rfl)) pa_nil)))))) pss_nil))))
      (pss_cons (ps_set (i := 9) scADrawn.nd rfl (.inl rfl) pe_dnewK)
      (pss_cons (ps_for PassesOwn.never rfl (pi_tup (pv 3)) (pg_name (i := 10) scADrawn.nd rfl (.inl rfl))
      (pss_cons (ps_set (i := 11) scADrawn.nd rfl (.inl rfl) (pv 10))
      (pss_one (ps_while PassesOwn.never (PW.pt (pw_and (pt_cmp (pc_din hu (pv 11) (pv 4))) (pw_and1 (pt_cmp (pc_dnotin hu (pv 11) (pv 9))))))
      (pss_cons (ps_dput hu (pv 9) (pv 11) (pe_dget hu (pv 4) (pv 11) (fun _ _ => rfl)) rfl)
      (pss_one (ps_set (i := 11) scADrawn.nd rfl (.inl rfl) (pe_dget hu (pv 4) (pv 11) (fun _ _ => rfl)))))))))
      (pss_one (ps_ret (pv 9)))))))), ?_⟩
    have n1 := G.n1
    have n2 := G.n2
    refine fun pd npd => ⟨_, rfl, by show 1 ≤ sizeLine; decide, fun lt nlt => ?_⟩
    have ka : K0 H (upd H pd (.dK [])) := K0.new npd
    have kb : K0 (upd H pd (.dK [])) (upd (upd H pd (.dK [])) lt (.lst [.int root])) := K0.new nlt
    have nHlt : H lt = none := upd_none nlt
    have hpd1 := kb.oth pd _ upd_same (fun _ z => by cases z)
    have hlt1 : upd (upd H pd (.dK [])) lt (.lst [.int root]) lt = some (.lst (([root] : List Int).map V.int)) := upd_same
    have k1 := ka.trans kb
    generalize upd (upd H pd (.dK [])) lt (.lst [.int root]) = H1 at k1 hlt1 hpd1
    have hltt : lt ≠ t := htp.ne nHlt
    have hpdt : pd ≠ t := htp.ne npd
    have d0 : DI [] (fun _ => none) := ⟨List.nodup_nil, fun p hp => (by cases hp), fun i => rfl⟩
    refine ⟨fun σ' H' => ∃ y6 y7 y8 kvs g, σ' = [some (.ref t), some (.ref a), some (.int root), some (.ref s), some (.ref pd), some (.ref lt), y6, y7, y8, none, none, none] ∧ Kt t H H' ∧ TpA H' t ∧ H' pd = some (.dK kvs) ∧ DI kvs g ∧ ∀ v x, g v = some x → 0 ≤ v ∧ v < n, ?_, ?_⟩
    · have hN1 := hN.k0 k1
      obtain ⟨r1, xs1, o1, h11, _⟩ := hN1
      refine ⟨_, rfl, a, _, 0, .int n, rfl, rfl, h11, atI_nat (j := 0) rfl, n, rfl, by omega, by omega, for_range (lo := 0) (n := n.toNat) (fun i σ' H' => ∃ y6 y7 y8, σ' = [some (.ref t), some (.ref a), some (.int root), some (.ref s), some (.ref pd), some (.ref lt), y6, y7, y8, none, none, none] ∧ Kt t H H' ∧ TpA H' t ∧ ∃ L kvs g, H' lt = some (.lst (L.map V.int)) ∧ L.length ≤ 1 + i ∧ H' pd = some (.dK kvs) ∧ DI kvs g ∧ ∀ v x, g v = some x → 0 ≤ v ∧ v < n)
        ⟨none, none, none, rfl, k1.kt, htp.k0 k1, [root], [], _, hlt1, Nat.le_refl _, hpd1, d0, fun v x e => (by cases e)⟩ (fun i σ' H' hi h => ?_) (fun σ' H' h => ?_)⟩
      · obtain ⟨y6, y7, y8, rfl, k, T, L, kvs, g, hlt, hLl, hpd, hD, hg⟩ := h
        have hi12 : i < 12 := by omega
        have hkl : kvs.length ≤ 12 := hD.small fun v x e => by
          have := hg v x e
          omega
        refine ⟨fun σ' H2 => ∃ D acc ts, σ' = [some (.ref t), some (.ref a), some (.int root), some (.ref s), some (.ref pd), some (.ref lt), some (.int (0 + (i : Int))), y7, some (.ref D), none, none, none] ∧ K0 H' H2 ∧ H' D = none ∧ H2 D = some (.lst acc) ∧ Roads K H2 acc ts ∧ acc.length ≤ rs.length ∧ (∀ r ∈ ts, r ∈ rs), ?_, ?_⟩
        · have hN' := hN.kt k
          obtain ⟨r, xs, o, h1, h2, hc, hd, h3⟩ := hN'
          have hxs : SqT K H' r xs := h2
          have hrl' : xs.length = rs.length := h3.len
          refine ⟨_, rfl, a, _, 1, .ref r, rfl, rfl, h1, atI_nat (j := 1) rfl, r, rfl, ⟨xs, hxs⟩, fun D nD => ?_⟩
          refine lc_tup (K := K) (a := r) (xs := xs) (fun j H2 => K0 H' H2 ∧ ∃ acc ts, H2 D = some (.lst acc) ∧ Roads K H2 acc ts ∧ acc.length ≤ j ∧ (∀ r ∈ ts, r ∈ rs)) ⟨K0.new nD, [], [], upd_same, .nil, Nat.le_refl _, fun _ z => by cases z⟩ (fun j H2 _ h => h.1.sqT hxs) (fun j x H2 hx h => ?_) (fun H2 h => ?_)
          · obtain ⟨k3, acc, ts, hacc, hR, hal, hall⟩ := h
            obtain ⟨rd, q1, hrd, rfl, hs⟩ := road_at h3 hx
            have hs2 := k3.sqT hs
            have hlt3 := k3.oth lt _ hlt (fun _ z => by cases z)
            have hjl : j < rs.length := (List.getElem?_eq_some_iff.mp hrd).1
            refine ⟨rfl, _, rfl, q1, _, 0, .int rd.s, rfl, rfl, hs2, atI_nat (j := 0) rfl, _, rfl, lt, L.map V.int, rfl, .inl (.inl (.inl hlt3)), rfl, flat_ints L, decide (rd.s ∈ L), by rw [← inV_iff]; rfl, ?_⟩
            by_cases hsL : rd.s ∈ L
            · rw [decide_eq_true hsL]
              refine iteT ⟨_, rfl, q1, _, 1, .int rd.e, rfl, rfl, hs2, atI_nat (j := 1) rfl, _, rfl, lt, L.map V.int, rfl, .inl (.inl (.inl hlt3)), rfl, flat_ints L, !decide (rd.e ∈ L), by rw [← inV_iff]; rfl, ?_⟩
              by_cases heL : rd.e ∈ L
              · rw [decide_eq_true heL]
                exact iteF ⟨k3, acc, ts, hacc, hR, by omega, hall⟩
              · rw [decide_eq_false heL]
                refine iteT ⟨_, rfl, acc, hacc, Nat.lt_of_le_of_lt (m := 5000) (by omega) (by decide), k3.mut nD, acc ++ [.ref q1], ts ++ [rd], upd_same, ?_, by rw [List.length_append, List.length_singleton]; omega, fun r hr => ?_⟩
                · have kk : Kt D H2 (upd H2 D (.lst (acc ++ [.ref q1]))) := Kt.set hacc
                  exact kk.roads (roads_snoc hs2 hR)
                · rcases List.mem_append.mp hr with hr | hr
                  · exact hall r hr
                  · rw [List.mem_singleton.mp hr]
                    exact List.mem_of_getElem? hrd
            · rw [decide_eq_false hsL]
              exact iteF (iteF ⟨k3, acc, ts, hacc, hR, by omega, hall⟩)
          · obtain ⟨k3, acc, ts, hacc, hR, hal, hall⟩ := h
            exact ⟨D, acc, ts, rfl, k3, nD, hacc, hR, by omega, hall⟩
        · rintro σ' H3 ⟨D, acc, ts, rfl, k3, nD, hacc, hR, hal, hall⟩
          have hDt : D ≠ t := T.ne nD
          refine ⟨_, rfl, Nat.zero_le _, fun pe npe => ?_⟩
          have ke : K0 H3 (upd H3 pe (.lst [])) := K0.new npe
          have T4 := (T.k0 k3).k0 ke
          have k4 := k.trans (k3.trans ke).kt
          have hacc4 := ke.oth D _ hacc (fun _ z => by cases z)
          have hlt4 := (k3.trans ke).oth lt _ hlt (fun _ z => by cases z)
          have hpd4 := (k3.trans ke).oth pd _ hpd (fun _ z => by cases z)
          have hR4 := (ke.kt (t := 0)).roads hR
          refine ⟨_, _, .lst (.inl (.inl hacc4)) hR4, .lst (.inl (.inl upd_same)) .nil, shapedR ts, shapedR [], _, rfl, ?_⟩
          rw [show PyData.eqv (.list (ts.map R4.d)) (.list ([] : List PyData)) = ts.isEmpty from eqv_nilR ts]
          refine ite2 (fun e3 => ?_) (fun e3 => ⟨_, _, _, rfl, k4, T4, L, kvs, g, hlt4, by omega, hpd4, hD, hg⟩)
          have hl : 0 < acc.length := by
            rw [hR4.len]
            cases ts with
            | nil => cases e3
            | cons n0 nr => rw [List.length_cons]; omega
          refine ⟨_, rfl, _, rfl, _, rfl, D, _, rfl, .inl (.inl (.inl hacc4)), t, _, rfl, T4, by omega, by omega, fun d H5 d0 d1 k5 T5 => ?_⟩
          obtain ⟨j, rfl⟩ := Int.eq_ofNat_of_zero_le d0
          have hj : j < acc.length := by omega
          have hacc5 := k5.oth D _ hacc4 hDt (fun _ z => by cases z)
          obtain ⟨rd, q1, hrd, hx, hs⟩ := road_at hR4 (List.getElem?_eq_getElem hj)
          have hm := hall rd (List.mem_of_getElem? hrd)
          have hro := G.ok rd hm
          have hs5 := k5.sqT hs
          have hlt5 := k5.oth lt _ hlt4 hltt (fun _ z => by cases z)
          have hpd5 := k5.oth pd _ hpd4 hpdt (fun _ z => by cases z)
          refine ⟨D, _, _, .ref q1, rfl, rfl, .inl (.inl hacc5), atI_nat (by rw [List.getElem?_eq_getElem hj, hx]), ?_⟩
          refine ⟨_, rfl, q1, _, 0, .int rd.s, rfl, rfl, hs5, atI_nat (j := 0) rfl, _, rfl, _, rfl, q1, _, 1, .int rd.e, rfl, rfl, hs5, atI_nat (j := 1) rfl, pd, _, rfl, DPut.k (k := Sum.inl rd.e) hpd5 (Nat.lt_of_le_of_lt hkl (by decide)), ?_⟩
          have kd : Kt pd H5 (upd H5 pd (.dK (putK kvs (Sum.inl rd.e) (.int rd.s)))) := (Kt.refl pd H5).setD hpd5
          have hlp : lt ≠ pd := fun z => by rw [z, hpd5] at hlt5; cases hlt5
          have hlt6 : upd H5 pd (.dK (putK kvs (Sum.inl rd.e) (.int rd.s))) lt = some (.lst (L.map V.int)) := by rw [upd_ne hlp]; exact hlt5
          refine ⟨_, rfl, .inl ⟨rfl, _, .inl (.inl hlt6)⟩, _, rfl, q1, _, 1, .int rd.e, rfl, rfl, kd.sqT hs5, atI_nat (j := 1) rfl, lt, _, _, rfl, rfl, hlt6, Nat.lt_of_le_of_lt (m := 5000) (by rw [List.length_map]; omega) (by decide), ?_⟩
          refine ⟨_, _, _, rfl, ((k4.trans k5).mut npd).mut nHlt, (T5.mut hpdt).mut hltt, L ++ [rd.e], _, _, by rw [List.map_append]; exact upd_same, by rw [List.length_append, List.length_singleton]; omega, by rw [upd_ne hlp.symm]; exact upd_same, hD.put _ _, fun v x e => ?_⟩
          unfold HK.put at e
          split at e
          · next ev => rw [ev]; exact ⟨hro.e0, hro.e1⟩
          · exact hg v x e
      · obtain ⟨y6, y7, y8, rfl, k, T, L, kvs, g, hlt, hLl, hpd, hD, hg⟩ := h
        exact ⟨_, _, _, kvs, g, rfl, k, T, hpd, hD, hg⟩
    rintro σ' H2 ⟨y6, y7, y8, kvs, g, rfl, k, T, hpd, hD, hg⟩
    refine fun kp nkp => ?_
    have nHkp := k.dom kp nkp
    have hkpt : kp ≠ t := htp.ne nHkp
    have hkpd : kp ≠ pd := fun z => by rw [z, hpd] at nkp; cases nkp
    have kn : K0 H2 (upd H2 kp (.dK [])) := K0.new nkp
    refine ⟨_, rfl, s, rfl, ⟨_, (k.trans kn.kt).sqT hS⟩, for_tup (xs := ns.map V.int) (fun j σ' H' => ∃ y10 y11 ks f, σ' = [some (.ref t), some (.ref a), some (.int root), some (.ref s), some (.ref pd), some (.ref lt), y6, y7, y8, some (.ref kp), y10, y11] ∧ K0 H2 H' ∧ H' kp = some (.dK ks) ∧ DI ks f ∧ ∀ v x, f v = some x → 0 ≤ v ∧ v < n)
      ⟨none, none, [], _, rfl, kn, upd_same, d0, fun v x e => (by cases e)⟩ (fun j σ' H' _ h => ?_) (fun j x σ' H' hx h => ?_) (fun σ' H' h => ?_)⟩
    · obtain ⟨_, _, _, _, _, k3, _⟩ := h
      exact (k.trans k3.kt).sqT hS
    · obtain ⟨y10, y11, ks, f, rfl, k3, hkp, hF, hf⟩ := h
      rw [List.getElem?_map] at hx
      cases ev : ns[j]? with
      | none => rw [ev] at hx; cases hx
      | some v =>
      rw [ev] at hx
      cases hx
      have sm : ∀ {ks f}, DI ks f → (∀ v x, f v = some x → 0 ≤ v ∧ v < n) → ks.length ≤ 12 := fun {ks f} hF hf => hF.small fun v x e => by
        have := hf v x e
        omega
      refine ⟨_, rfl, ?_⟩
      refine ⟨fun m σ' H' => ∃ c ks f, σ' = [some (.ref t), some (.ref a), some (.int root), some (.ref s), some (.ref pd), some (.ref lt), y6, y7, y8, some (.ref kp), some (.int v), some (.int c)] ∧ K0 H2 H' ∧ H' kp = some (.dK ks) ∧ DI ks f ∧ (∀ v x, f v = some x → 0 ≤ v ∧ v < n) ∧ m + ks.length = 12, ⟨12 - ks.length, v, ks, f, rfl, k3, hkp, hF, hf, by have := sm hF hf; omega⟩, ?_⟩
      rintro m σ' H' ⟨c, ks, f, rfl, k4, hkp, hF, hf, em⟩
      have hpd4 := k4.oth pd _ hpd (fun _ z => by cases z)
      refine ⟨_, rfl, _, rfl, pd, _, rfl, dgetR (.inl hpd4) hD c, _, rfl, ?_⟩
      cases ec : g c with
      | none => exact iteF (iteF ⟨_, _, ks, f, rfl, k4, hkp, hF, hf⟩)
      | some x =>
        refine iteT ⟨_, rfl, _, rfl, kp, _, rfl, dgetR (.inl hkp) hF c, _, rfl, ?_⟩
        cases ef : f c with
        | some y => exact iteF ⟨_, _, ks, f, rfl, k4, hkp, hF, hf⟩
        | none =>
          have dc := dget hpd4 hD ec
          have hput : ∀ v' x', put f c x v' = some x' → 0 ≤ v' ∧ v' < n := fun v' x' e => by
            unfold HK.put at e
            split at e
            · next ev => rw [ev]; exact hg c x ec
            · exact hf v' x' e
          have hl' := putK_new (kvs := ks) (k := Sum.inl c) (v := .int x) (by rw [hF.val, ef]; rfl)
          have hs' := sm (hF.put c x) hput
          refine iteT ⟨fun σ' H' => ∃ c ks' f, σ' = [some (.ref t), some (.ref a), some (.int root), some (.ref s), some (.ref pd), some (.ref lt), y6, y7, y8, some (.ref kp), some (.int v), some (.int c)] ∧ K0 H2 H' ∧ H' kp = some (.dK ks') ∧ DI ks' f ∧ (∀ v x, f v = some x → 0 ≤ v ∧ v < n) ∧ ks'.length = ks.length + 1, fun σ' H' h => ⟨m - 1, by omega, ?_⟩, ?_⟩
          · obtain ⟨c, ks', f, h1, h2, h3, h4, h5, h6⟩ := h
            exact ⟨c, ks', f, h1, h2, h3, h4, h5, by omega⟩
          refine ⟨_, rfl, _, rfl, pd, _, rfl, dc, _, rfl, _, rfl, kp, _, rfl, DPut.k (k := Sum.inl c) hkp (Nat.lt_of_le_of_lt (m := 12) (by omega) (by decide)), ?_⟩
          have hpd5 : upd H' kp (.dK (putK ks (Sum.inl c) (.int x))) pd = some (.dK kvs) := by rw [upd_ne hkpd.symm]; exact hpd4
          exact ⟨_, rfl, _, rfl, pd, _, rfl, dget hpd5 hD ec, x, _, _, rfl, k4.mut nkp, upd_same, hF.put _ _, hput, hl'⟩
    · obtain ⟨y10, y11, ks, f, rfl, k3, hkp, hF, hf⟩ := h
      refine ⟨_, rfl, q kp ks f H' (k.trans k3.kt) (T.k0 k3) nHkp hkp hF (hF.small fun v x e => ?_)⟩
      have := hf v x e
      omega
end
end HK

set_option Elab.async false
set_option linter.all false
set_option maxRecDepth 100000
set_option maxHeartbeats 4000000
namespace HK
open PySem PySem.Spec PyProof.Rows L2 GAl GxR
open Evl (pss_cut)
abbrev sABent : Stmt := topS 50
abbrev N_scABent : List Str := ["tape", "net", "ahead", "found", "places", "place", "way", "road"]
theorem scABent : FnScope N_scABent ["tape", "net", "ahead"] (defScope sABent) := ⟨rfl, rfl, rfl, by decide +kernel, rfl, by decide +kernel, by decide +kernel⟩
theorem shapedRT (ts : List R4) : SeqAt.shaped (.tuple (ts.map R4.d)) = true := by
  have := shapedR ts
  have h1 := SeqAt.canLay_of_shaped this
  have h2 := SeqAt.depth_of_shaped this
  show (PyData.canLay0 (.tuple (ts.map R4.d)) && decide (PyData.depth (.tuple (ts.map R4.d)) ≤ 64)) = true
  rw [Bool.and_eq_true, decide_eq_true_iff]
  refine ⟨by simp only [PyData.canLay0] at h1 ⊢; exact h1, ?_⟩
  simp only [PyData.depth] at h2 ⊢
  exact h2
theorem eqv_nilRT (ts : List R4) : PyData.eqv (.tuple (ts.map R4.d)) (.tuple []) = ts.isEmpty := by
  cases ts <;> simp [PyData.eqv, PyData.eqvAll]
section
variable {P : Program} {w : World} {K : PySem.W.Frag} {mg : Str → Option Value} {base : Heap}
def spABent (K : PySem.W.Frag) : Sp := fun vs H Q _ => ∃ (t a : Addr) (n : Int) (rs : List R4) (p : Addr) (kvs : List (Key × V)) (g : IF), vs = [.ref t, .ref a, .ref p] ∧ TpA H t ∧ NetAt K H a n rs ∧ Good n rs ∧ rs.length ≤ 156 ∧ H p = some (.dK kvs) ∧ DI kvs g ∧ kvs.length ≤ 12 ∧
  ∀ (q : Addr) (ls : List (Key × V)) (f : IF) (H' : Hp), Kt t H H' → TpA H' t → H q = none → H' q = some (.dK ls) → DI ls f → ls.length ≤ 13 → Q (.ref q) H'
theorem ok_abent {f : Addr} {fd : FuncData} {f_adigit : Addr} {fd_adigit : FuncData} (F : Fun K "_law_abent" "_law_abent" sABent f fd) (k_adigit : PySem.W.keepIn K (.ref f_adigit) = true) (b_adigit : Binds K fd_adigit ["tape", "many"] []) (g_adigit : mg "_law_adigit" = some (.ref f_adigit)) (G_adigit : FnOk P w K mg base CX0 1 f_adigit fd_adigit ["tape", "many"] (spADigit)) (m_dict : mg "dict" = none) (m_sorted : mg "sorted" = none) (m_len : mg "len" = none) : FnOk P w K mg base CX0 2 f fd ["tape", "net", "ahead"] (spABent K) := by
  refine F.ok scABent (fun vs H Q E h => ?_) (fun cdv A outer s H vs Q E hr h => ?_)
  · obtain ⟨t, a, n, rs, p, kvs, g, rfl, _⟩ := h
    rfl
  · obtain ⟨t, a, n, rs, p, kvs, g, rfl, htp, hN, G, hrl, hp, hD, hkl, q⟩ := h
    have hu := hu_of hr
    refine ⟨_, (pss_cons (ps_set (i := 3) scABent.nd rfl (.inl rfl) (pe_callTy call_dictD (by rfl) m_dict (by decide +kernel) (pa_cons (pv 2) pa_nil)))
      (pss_cut (ps_set (i := 4) scABent.nd rfl (.inl rfl) (pe_callB (call_sortedDI rfl) (by rfl) m_sorted boot_sorted (pa_cons (pv 3) pa_nil)))
      (pss_cons (ps_if (pt_cmpR (op_eqD hr.units) (pv 4) (pe_lst pa_nil) (nomark _)) (pss_one (ps_ret (pe_disp (pps_cons (pe_call G_adigit (hr.mono (by decide)) (by rfl) g_adigit k_adigit b_adigit .nil pass0 (pa_cons (pv 0) (pa_cons (pe_ix ix_tup (pv 1) pe_int (fun _ _ => rfl)) pa_nil))) (pe_call G_adigit (hr.mono (by decide)) (by rfl) g_adigit k_adigit b_adigit .nil pass0 (pa_cons (pv 0) (pa_cons (pe_ix ix_tup (pv 1) pe_int (fun _ _ => rfl)) pa_nil))) pps_nil) rfl rfl (fun z => by cases z) (by decide)))) pss_nil)
      (pss_cons (ps_set (i := 5) scABent.nd rfl (.inl rfl) (pe_ix ix_list (pv 4) (pe_call G_adigit (hr.mono (by decide)) (by rfl) g_adigit k_adigit b_adigit .nil pass0 (pa_cons (pv 0) (pa_cons (pe_callB call_len_seq (by rfl) m_len PySem.boot_len (pa_cons (pv 4) pa_nil)) pa_nil))) (fun _ _ => rfl)))
      (pss_cons (ps_set (i := 6) scABent.nd rfl (.inl rfl) (pe_call G_adigit (hr.mono (by decide)) (by rfl) g_adigit k_adigit b_adigit .nil pass0 (pa_cons (pv 0) (pa_cons pe_int pa_nil))))
      (pss_cons (ps_if (pt_cmpR op_eq (pv 6) pe_int (nomark _)) (pss_one (ps_expr (pe_dpop1 (pv 3) (pv 5) ⟨rfl, rfl, rfl, rfl⟩))) (pss_one (ps_if (PW.pt (pw_and (pt_cmpR op_eq (pv 6) pe_int (nomark _)) (pw_and1 (pt_cmpR (op_neD hr.units) (pe_ix ix_tup (pv 1) pe_int (fun _ _ => rfl)) (pe_tup pa_nil) (nomark _))))) (pss_cons (ps_set (i := 7) scABent.nd rfl (.inl rfl) (pe_ix ix_tup (pe_ix ix_tup (pv 1) pe_int (fun _ _ => rfl)) (pe_call G_adigit (hr.mono (by decide)) (by rfl) g_adigit k_adigit b_adigit .nil pass0 (pa_cons (pv 0) (pa_cons (pe_callB call_len_seq (by rfl) m_len PySem.boot_len (pa_cons (pe_ix ix_tup (pv 1) pe_int (fun _ _ => rfl)) pa_nil)) pa_nil))) (fun _ _ => rfl)))
      (pss_one (ps_dput hu (pv 3) (pe_ix ix_tup (pv 7) pe_int (fun _ _ => rfl)) (pe_ix ix_tup (pv 7) pe_int (fun _ _ => rfl)) rfl))) (pss_one (ps_dput hu (pv 3) (pv 5) (pe_call G_adigit (hr.mono (by decide)) (by rfl) g_adigit k_adigit b_adigit .nil pass0 (pa_cons (pv 0) (pa_cons (pe_ix ix_tup (pv 1) pe_int (fun _ _ => rfl)) pa_nil))) rfl)))))
      (pss_one (ps_ret (pv 3))))))))), ?_⟩
    have n1 := G.n1
    have n2 := G.n2
    have hpt : p ≠ t := fun z => by
      obtain ⟨_, e⟩ := htp
      rw [← z, hp] at e; cases e
    refine ⟨_, rfl, p, kvs, rfl, .inl hp, fun b nb => ?_⟩
    have kb : K0 H (upd H b (.dK kvs)) := K0.new nb
    have hb : upd H b (.dK kvs) b = some (.dK kvs) := upd_same
    have hbt : b ≠ t := htp.ne nb
    have T1 := htp.k0 kb
    generalize upd H b (.dK kvs) = H1 at kb hb T1
    have hN1 := hN.k0 kb
    obtain ⟨r, xs, o, h1, h2, hc, hd, h3⟩ := hN1
    have hxs : SqT K H1 r xs := h2
    have hxl : xs.length = rs.length := h3.len
    refine ⟨fun σ' H' => ∃ (ps : Addr) (ys : List Int), σ' = [some (.ref t), some (.ref a), some (.ref p), some (.ref b), some (.ref ps), none, none, none] ∧ K0 H1 H' ∧ H' ps = some (.lst (ys.map V.int)) ∧ (∀ v ∈ ys, (g v).isSome = true) ∧ ys.length ≤ 12 ∧ ps ≠ t, ?_, ?_⟩
    · obtain ⟨ks, eks, ksn, ksm⟩ := hD.ints
      have hks : ks.length = kvs.length := by
        have := congrArg List.length eks
        rw [List.length_map, List.length_map] at this
        exact this.symm
      refine ⟨_, rfl, b, kvs, ks, rfl, .inl hb, eks, by omega, fun ys ps hperm _ nps => ?_⟩
      exact ⟨ps, ys, rfl, K0.new nps, upd_same, fun v hv => (ksm v).mp (hperm.mem_iff.mp hv), by rw [hperm.length_eq]; omega, T1.ne nps⟩
    rintro σ' H2 ⟨ps, ys, rfl, k2, hps, hys, hyl, hpst⟩
    refine ⟨_, rfl, Nat.zero_le _, fun pe npe => ?_⟩
    have k3 := k2.trans (K0.new npe (o := .lst []))
    have hps3 := (K0.new npe (o := .lst [])).oth ps _ hps (fun _ z => by cases z)
    have hpe3 : upd H2 pe (.lst []) pe = some (.lst []) := upd_same
    generalize upd H2 pe (.lst []) = H3 at k3 hps3 hpe3
    have T3 := T1.k0 k3
    have kH := kb.trans k3
    refine ⟨.list (ys.map PyData.int), .list [], .lst (.inl (.inl hps3)) (dpInts ys), .lst (.inl (.inl hpe3)) .nil, canLay_ints ys, canLay_ints [], _, rfl, ?_⟩
    rw [eqv_nil]
    have d0 : DI [] (fun _ => none) := ⟨List.nodup_nil, fun p hp => (by cases hp), fun i => rfl⟩
    cases hE : ys with
    | nil =>
      refine iteT (fun q1 nq1 => ?_)
      have kq := K0.new nq1 (o := .dK [])
      have hq1 : upd H3 q1 (.dK []) q1 = some (.dK []) := upd_same
      have nHq := kH.dom q1 nq1
      have hqt := T3.ne nq1
      have k4 := k3.trans kq
      have T4 := T3.k0 kq
      have kH4 := kH.trans kq
      generalize upd H3 q1 (.dK []) = H4 at k4 T4 kH4 hq1
      refine ⟨_, rfl, _, rfl, a, _, 0, .int n, rfl, rfl, k4.sqT h1, atI_nat (j := 0) rfl, t, n, rfl, T4, by omega, by omega, fun d1 H5 d10 d11 k5 T5 => ?_⟩
      refine ⟨_, rfl, _, rfl, a, _, 0, .int n, rfl, rfl, k5.sqT (k4.sqT h1), atI_nat (j := 0) rfl, t, n, rfl, T5, by omega, by omega, fun d2 H6 d20 d21 k6 T6 => ?_⟩
      refine ⟨k6.oth q1 _ (k5.oth q1 _ hq1 hqt (fun _ z => by cases z)) hqt (fun _ z => by cases z), [(Sum.inl d1, .int d2)], rfl, (by show 1 ≤ 15; decide), ?_⟩
      exact q q1 _ _ _ (((kH4.kt.trans k5).trans k6).mut nHq) (T6.mut hqt) nHq upd_same (d0.put d1 d2) (by show 1 ≤ 13; decide)
    | cons y0 yr =>
    refine iteF ?_
    have hyp : 0 < ys.length := by rw [hE]; exact Nat.succ_pos _
    clear hE
    refine ⟨_, rfl, _, rfl, _, rfl, ps, _, rfl, .inl (.inl (.inl hps3)), t, _, rfl, T3, by rw [List.length_map]; omega, by rw [List.length_map]; omega, fun d H4 d0' d1 k4 T4 => ?_⟩
    obtain ⟨j, rfl⟩ := Int.eq_ofNat_of_zero_le d0'
    rw [List.length_map] at d1
    have hj : j < ys.length := by omega
    refine ⟨ps, _, _, .int ys[j], rfl, rfl, .inl (.inl (k4.oth ps _ hps3 hpst (fun _ z => by cases z))), atI_nat (by rw [List.getElem?_map, List.getElem?_eq_getElem hj]; rfl), ?_⟩
    have hat := hys ys[j] (List.getElem_mem hj)
    generalize ys[j] = at_ at hat
    refine ⟨_, rfl, t, 4, rfl, T4, by omega, by omega, fun way H5 w0 w1 k5 T5 => ?_⟩
    have k15 : Kt t H1 H5 := (k3.kt.trans k4).trans k5
    have kH5 : Kt t H H5 := kb.kt.trans k15
    have hb5 := k15.oth b _ hb hbt (fun _ z => by cases z)
    have h15 := k15.sqT h1
    have hxs5 := k15.sqT hxs
    have hR5 := k15.roads h3
    have fin : ∀ {H' : Hp} {ls : List (Key × V)} {f : IF}, Kt t H5 H' → TpA H' t → H' b = some (.dK ls) → DI ls f → ls.length ≤ 13 → Q (.ref b) H' := fun k T hb hD hl => q b _ _ _ (kH5.trans k) T nb hb hD hl
    have fin2 : ∀ {H' : Hp} {o : HO} {ls : List (Key × V)} {f : IF}, Kt t H5 H' → TpA H' t → o = .dK ls → DI ls f → ls.length ≤ 13 → Q (.ref b) (upd H' b o) := fun k T e hD hl => q b _ _ _ ((kH5.trans k).mut nb) (T.mut hbt) nb (by rw [e]; exact upd_same) hD hl
    have hsz : kvs.length < sizeLine := Nat.lt_of_le_of_lt hkl (by decide)
    have eqD : ∀ {c : Int}, ¬ way = c → decide (V.int way = V.int c) = false := fun h => decide_eq_false (fun z => h (by cases z; rfl))
    have eqT : ∀ {c : Int}, way = c → decide (V.int way = V.int c) = true := fun h => decide_eq_true (by rw [h])
    refine ⟨_, rfl, rfl, _, rfl, ?_⟩
    by_cases hw : way = 0
    · rw [eqT hw]
      obtain ⟨x, ex⟩ := Option.isSome_iff_exists.mp hat
      refine iteT ⟨_, rfl, b, rfl, .inl ⟨_, .inl hb5⟩, _, rfl, kvs, Sum.inl at_, .int x, hb5, rfl, by rw [hD.val, ex]; rfl, ?_⟩
      exact ⟨_, rfl, fin2 (Kt.refl _ _) T5 rfl (hD.drop _) (Nat.le_trans (dropK_le _ _) (by omega))⟩
    rw [eqD hw]
    refine iteF ⟨_, rfl, rfl, _, rfl, ?_⟩
    by_cases hw1 : way = 1
    · rw [eqT hw1]
      refine iteT ⟨_, rfl, a, _, 1, .ref r, rfl, rfl, h15, atI_nat (j := 1) rfl, Nat.zero_le _, fun pt npt => ?_⟩
      have kt := K0.new npt (o := .tup [])
      have hpt6 : upd H5 pt (.tup []) pt = some (.tup []) := upd_same
      have T6 := T5.k0 kt
      have hb6 := kt.oth b _ hb5 (fun _ z => by cases z)
      have h16 := kt.sqT h15
      have hxs6 := kt.sqT hxs5
      have hR6 := (kt.kt (t := t)).roads hR5
      generalize upd H5 pt (.tup []) = H6 at kt hpt6 T6 hb6 h16 hxs6 hR6
      refine ⟨.tuple (rs.map R4.d), .tuple [], .tup hxs6 hR6, .tup (.inl (.inl hpt6)) .nil, shapedRT rs, shapedRT [], _, rfl, ?_⟩
      rw [eqv_nilRT]
      cases hrs : rs with
      | nil =>
        refine iteF ⟨_, rfl, _, rfl, a, _, 0, .int n, rfl, rfl, h16, atI_nat (j := 0) rfl, t, n, rfl, T6, by omega, by omega, fun d H7 d0 d1 k7 T7 => ?_⟩
        refine ⟨_, rfl, _, rfl, b, _, rfl, DPut.k (k := Sum.inl at_) (k7.oth b _ hb6 hbt (fun _ z => by cases z)) hsz, ?_⟩
        exact ⟨_, rfl, fin2 (kt.kt.trans k7) T7 rfl (hD.put _ _) (Nat.le_trans (length_putK _ _ _) (by omega))⟩
      | cons r0 rr =>
        have hrp : 0 < rs.length := by rw [hrs]; exact Nat.succ_pos _
        refine iteT ⟨_, rfl, a, _, 1, .ref r, rfl, rfl, h16, atI_nat (j := 1) rfl, _, rfl, _, rfl, a, _, 1, .ref r, rfl, rfl, h16, atI_nat (j := 1) rfl, r, xs, rfl, .inr hxs6, t, _, rfl, T6, by omega, by omega, fun d H7 d0 d1 k7 T7 => ?_⟩
        obtain ⟨j, rfl⟩ := Int.eq_ofNat_of_zero_le d0
        have hj : j < xs.length := by omega
        obtain ⟨rd, q1, hrd, hx, hs⟩ := road_at (k7.roads hR6) (List.getElem?_eq_getElem hj)
        refine ⟨r, xs, _, .ref q1, rfl, rfl, k7.sqT hxs6, atI_nat (by rw [List.getElem?_eq_getElem hj, hx]), ?_⟩
        refine ⟨_, rfl, q1, _, 0, .int rd.s, rfl, rfl, hs, atI_nat (j := 0) rfl, _, rfl, _, rfl, q1, _, 1, .int rd.e, rfl, rfl, hs, atI_nat (j := 1) rfl, b, _, rfl, DPut.k (k := Sum.inl rd.e) (k7.oth b _ hb6 hbt (fun _ z => by cases z)) hsz, ?_⟩
        exact ⟨_, rfl, fin2 (kt.kt.trans k7) T7 rfl (hD.put _ _) (Nat.le_trans (length_putK _ _ _) (by omega))⟩
    · rw [eqD hw1]
      refine iteF (iteF ⟨_, rfl, _, rfl, a, _, 0, .int n, rfl, rfl, h15, atI_nat (j := 0) rfl, t, n, rfl, T5, by omega, by omega, fun d H7 d0 d1 k7 T7 => ?_⟩)
      refine ⟨_, rfl, _, rfl, b, _, rfl, DPut.k (k := Sum.inl at_) (k7.oth b _ hb5 hbt (fun _ z => by cases z)) hsz, ?_⟩
      exact ⟨_, rfl, fin2 k7 T7 rfl (hD.put _ _) (Nat.le_trans (length_putK _ _ _) (by omega))⟩
end
end HK

set_option Elab.async false
set_option linter.all false
set_option maxRecDepth 100000
set_option maxHeartbeats 4000000
namespace HK
open PySem PySem.Spec PyProof.Rows L2 GAl GxR
abbrev sPairs : Stmt := topS 18
theorem scPairs : FnScope ["thing", "key", "number"] ["thing"] (defScope sPairs) := ⟨rfl, rfl, rfl, by decide +kernel, rfl, by decide +kernel, by decide +kernel⟩
section
variable {P : Program} {w : World} {K : PySem.W.Frag} {mg : Str → Option Value} {base : Heap}
def spPairs (K : PySem.W.Frag) (Pp : Addr) : Sp := fun vs H Q _ => ∃ (p : Addr) (kvs : List (Key × V)) (g : IF), vs = [.ref p] ∧ H p = some (.dK kvs) ∧ DI kvs g ∧ TabG H Pp ∧ ∀ H', K0 H H' → Q (.bl true) H'
theorem ok_pairs {f c fW Pp : Addr} {fd fdW : FuncData} (F : FunC K "are_whole_pairs" "are_whole_pairs" sPairs f fd c) (TB : TabB base mg c Pp)
    (kW : PySem.W.keepIn K (.ref fW) = true) (bW : Binds K fdW ["thing"] []) (gW : mg "is_whole" = some (.ref fW)) (GW : FnOk P w K mg base CX0 1 fW fdW ["thing"] (spWhole K))
    (mi : mg "isinstance" = none) (mD : mg "dict" = none) (ma : mg "all" = none) : FnOk P w K mg base CX0 3 f fd ["thing"] (spPairs K Pp) := by
  refine F.ok scPairs (fun vs H Q E h => ?_) (fun A outer s H vs Q E hr h => ?_)
  · obtain ⟨p, kvs, g, rfl, _⟩ := h
    rfl
  · obtain ⟨p, kvs, g, rfl, hp, hD, hT, q⟩ := h
    refine ⟨_, pss_cons (ps_if (pt_not (pt_val (pe_callB call_isi (by rfl) mi boot_isinstance (pa_cons (pv 0) (pa_cons (pe_bltn (v := .ty "dict") (by rfl) mD (by decide +kernel) rfl) pa_nil))))) (pss_one (ps_ret pe_bl)) pss_nil)
      (pss_one (ps_ret (pe_lock (pe_allG (own := [("key", 1), ("number", 2)]) (k := 1) (g := gTup K 2 (gCons (gName 1) (gCons (gName 2) gNil))) (tt := tYes) (te := tAndV (tCall (spWhole K) [] E0 (tCons (tVar 1) tNil)) (tCall (spWhole K) [] E0 (tCons (tVar 2) tNil))) hr (by rfl) ma rfl scPairs.nd TB rfl (gsc_by (N := ["thing", "key", "number"]) (sc := defScope sPairs) (by decide +kernel))
          (pi_items (pv 0)) (fun A' hr' _ _ _ _ _ _ => pg_tup rfl (pgs_cons (pg_name (i := 1) scPairs.nd rfl (.inl rfl)) (pgs_cons (pg_name (i := 2) scPairs.nd rfl (.inl rfl)) pgs_nil))) (fun A' hr' _ _ _ _ _ _ => pts_nil)
          (fun A' hr' _ _ _ _ _ _ => pe_and (pe_call GW hr' (by rfl) gW kW bW .nil pass0 (pa_cons (pv 1) pa_nil)) (pe_one (pe_call GW hr' (by rfl) gW kW bW .nil pass0 (pa_cons (pv 2) pa_nil)))))))), ?_⟩
    refine ⟨_, rfl, .ref p, .ty "dict", .type "dict", _, true, rfl, .ty "dict", .base (.dK hp), kit_ty (tys_dict (by decide)), _, rfl, iteF ?_⟩
    refine ⟨p, _, hp, trivial, fun od => ⟨_, rfl, p, od, kvs, rfl, upd_same, tabG_lock hp (fun _ z => by cases z) hT, fun H2 hT2 => ?_⟩⟩
    have k2 : K0 (upd H p (.frz od (.dK kvs))) H2 := K0.tbd (tabG_lock hp (fun _ z => by cases z) hT) hT2
    refine ⟨fun i m H3 => i + m = kvs.length ∧ K0 (upd H p (.frz od (.dK kvs))) H3, ⟨kvs.length, by omega, k2⟩, fun i m H3 hW => ?_⟩
    obtain ⟨em, k3⟩ := hW
    have hp3 : H3 p = some (.frz od (.dK kvs)) := k3.oth p _ upd_same (fun _ z => by cases z)
    by_cases hi : i < kvs.length
    · refine .inr ⟨⟨hp3, hi⟩, fun H' => K0 (upd H p (.frz od (.dK kvs))) H', fun H' hN => ⟨m - 1, by omega, by omega, hN⟩, fun x H' hy => ?_⟩
      obtain ⟨T, k, v, hkv, rfl, nT, rfl⟩ := hy
      obtain ⟨j, z, e, e2⟩ := hD.at_ (List.mem_of_getElem? hkv)
      cases e
      refine ⟨T, _, rfl, .inl (.inl upd_same), rfl, _, _, rfl, _, _, rfl, rfl, rfl, tyes ?_⟩
      exact ⟨_, rfl, .int j, .int j, rfl, .int j, _, rfl, iteT ⟨_, rfl, .int z, .int z, rfl, .int z, _, rfl, iteT (k3.mut (k3.dom T nT))⟩⟩
    · exact .inl ⟨⟨hp3, by omega⟩, hp3, q _ (K0.lock hp (fun _ z => by cases z) k3)⟩
end
end HK

set_option Elab.async false
set_option linter.all false
set_option maxRecDepth 100000
set_option maxHeartbeats 2000000
/-! A comprehension that makes a dict, keys of either kind: what is put is told by DPut. The rule for ints and texts as keys is the library's pe_dc; its loop (compLoop_anyD) and its block (block_start) serve here too. -/
namespace DTu
open PySem PySem.Spec PyProof.Rows L2
section
variable {X : Cx} {pins : List (Addr × Obj)} {σ : L2.St} {H H' : Hp} {s : Shared} {a : Addr} {y v : V} {u r : Value} {E : Value → Shared → Prop} {Q : Unit → Shared → Prop}
/-- one pair is put -/
theorem dset (hu : X.A.units < cLine) (I : Inv X pins σ H s) (g : DPut H a y v H') (ry : RelV y u) (rv : RelV v r) (h : ∀ s', Inv X pins σ H' s' → Q () s') : wpAny (model X.prog X.w) X.A (dictSet a u r) Q E s := by
  rcases g with ⟨kvs, k, e, rfl, l, rfl⟩ | ⟨kvs, k, b, e, rfl, eb, l, rfl⟩
  · exact d_dictSet I e l ry rv h
  · have := length_putK kvs k v
    cases (show u = Value.ref b from ry)
    obtain ⟨z, nm, xs, rel, dd⟩ := dt_of I.hok e
    refine wpAny_dictSet_heap (hsz := (by rw [← Paired.length rel]; exact z)) (knd := tupleKind (mixKind X.prog X.w)) hu (key_of I.hok eb) dd fun h2 ⟨q, es, ep, c1, c2, c3, c4, _, c5⟩ sb => h _ ?_
    exact d_write I (by rw [e]; trivial) sb ⟨q, c1⟩ ⟨by omega, nm, _, (rel.put k eb rv).keeps fun c ys ec => (upd_ne (ne_of ec e (fun z => nomatch z))).trans ec, q, es, ep, c1, c2, c3, c4, c5⟩
end
section
variable {X : Cx}
/-- {k: v for target in iter if ..} with tuples as keys -/
def tDcT (wi : TI) (g : TG) (tt : TT) (tk tv : TE) (vs : List Nat) : TE := fun σ H Q => wi σ H fun J H1 => ∀ D, H1 D = none → ∃ W : Nat → Nat → Hp → Prop, (∃ m, W 0 m (upd H1 D (.dT []))) ∧ ∀ i m H, W i m H →
  (J.stop i H ∧ Q (.ref D) H) ∨ (J.go i H ∧ ∃ Nx : Hp → Prop, (∀ H', Nx H' → ∃ m', m' < m ∧ W (i + 1) m' H') ∧ ∀ x H', J.yld i H x H' → g x (wipe σ vs) H' fun σ2 H2 => wipe σ2 vs = wipe σ vs ∧ tt σ2 H2 fun b H3 =>
    if b = true then tk σ2 H3 fun y H4 => tv σ2 H4 fun z H5 => ∃ H6, DPut H5 D y z H6 ∧ Nx H6 else Nx H3)
theorem pe_dcT {kx vx tg iter : Expr} {ifs : List Expr} {scope : Scope} {own : List (Str × Nat)} {pos : Pos} {wi : TI} {g : TG} {tt : TT} {tk tv : TE} (hu : X.A.units < cLine) (calm : X.calm = true) (nd : X.N.Nodup) (hi : PI X tg iter wi) (ok : BlkOk X.N X.env.scope scope own)
    (hg : ∀ s H C cl fp, PG (X.blk s H scope (compEnvC scope cl C X.env) fp) tg g) (ht : ∀ s H C cl fp, PTs (X.blk s H scope (compEnvC scope cl C X.env) fp) ifs tt)
    (hk : ∀ s H C cl fp, PE (X.blk s H scope (compEnvC scope cl C X.env) fp) kx tk) (he : ∀ s H C cl fp, PE (X.blk s H scope (compEnvC scope cl C X.env) fp) vx tv)
    (hf : ∀ x, foldedSetIterable iter X.env x = pure x := by intro _; rfl) : PE X (.DictComp kx vx [⟨tg, iter, ifs, 0⟩] scope pos) (tDcT wi g tt tk tv (own.map (·.2))) := by
  refine ⟨fun pins s σ H Q I h => ?_⟩
  rw [arm_eval_DictComp]
  refine wpAny_comprehension_free rfl hf (closure_ok fun y hy e => (ok.free y hy e).elim (fun k => I.ok.has _ (.inl k)) (fun k => I.ok.has _ (.inr k))) ok.kind (fun y hy e => by rw [ok.uniq y hy, e]) ?_
  refine thn (hi.run pins s σ H _ I h) fun _ _ hx => thn hx fun _ s2 ⟨it, fp, tn, J, H2, e, I2, T, st2, f2, q⟩ => ?_
  subst e
  refine wpAny_newObj_type (newEnv_comp ?_)
  -- the new dict stands at D
  generalize hD : s2.heap.objs.size = D
  obtain ⟨W, ⟨m0, w0⟩, turn⟩ := q D (I2.hok.fresh (Nat.le_of_eq hD))
  obtain ⟨s3, hs3⟩ : ∃ s3 : Shared, s3 = { s2 with heap := s2.heap.push { cls := .type "dict", data := .dict #[] } } := ⟨_, rfl⟩
  have up : ∀ b o, s2.heap.get? b = some o → s3.heap.get? b = some o := fun b o e => by rw [hs3]; exact Heap.get?_push_of_some _ e
  have I3 : Inv X pins σ (upd H2 D (.dT [])) s3 := by
    subst hs3 hD
    exact I2.laid (t' := s2.toks) (fun _ _ e => Heap.get?_push_of_some _ e) (Nat.le_refl _) (dt_empty s2.heap I2.big)
  have f3 : ∀ b ∈ fp, FpOk X pins (upd H2 D (.dT [])) b ∧ b < s3.heap.objs.size := fun b hb => by
    obtain ⟨o, eo, _⟩ := T.obj _ _ st2 b hb
    have lt := Heap.lt_size eo
    exact ⟨⟨(upd_ne (by rw [← hD]; exact Nat.ne_of_lt lt)).trans (f2 b hb).1, (f2 b hb).2⟩, Heap.lt_size (up b o eo)⟩
  have I4 := block_start I3 ok nd f3
  rw [← hs3]
  -- the block's letters
  generalize hC : s3.heap.objs.size = C at I4 ⊢
  generalize hcl : cellsFrom (C + 1) scope.names (cloFrom X.env.cells scope.names []) = cl at I4 ⊢
  generalize hH3 : upd H2 D (.dT []) = H3 at I3 I4 f3 w0
  have G := hg s3 H3 C cl fp
  have Te := ht s3 H3 C cl fp
  have Ke := hk s3 H3 C cl fp
  have Ve := he s3 H3 C cl fp
  show codeAny _ _ (.compStart (.DictComp kx vx [⟨tg, iter, ifs, 0⟩] scope pos) 0 (.ref it) (.ref D) (compEnvC scope cl C X.env)) _ _
  obtain ⟨s4, hs4⟩ : ∃ s4 : Shared, s4 = { s3 with heap := pushCells (s3.heap.push { cls := .type "dict", data := .dict #[] }) scope.names } := ⟨_, rfl⟩
  rw [← hs4] at I4
  have st4 : tn 0 s4.heap := T.keep _ _ _ st2 fun b _ o e => by rw [hs4]; exact pushCells_keeps _ _ _ _ (Heap.get?_push_of_some _ (up b o e))
  have fpB : ∀ {σ' : L2.St} {H' : Hp} {s' : Shared}, Inv (X.blk s3 H3 scope (compEnvC scope cl C X.env) fp) [] σ' H' s' → (∀ b ∈ fp, H' b = none) → ∀ b ∈ fp, FpOk (X.blk s3 H3 scope (compEnvC scope cl C X.env) fp) [] H' b :=
    fun I' n b hb => ⟨n b hb, (I'.ok.exf b hb).1, I'.ok.exfs b hb, .inl hb, (I'.ok.exf b hb).2, fun p hp => by cases (show p ∈ ([] : List (Addr × Obj)) from hp)⟩
  have loop : codeAny (model X.prog X.w) X.A (.compLoop (.DictComp kx vx [⟨tg, iter, ifs, 0⟩] scope pos) 0 (.ref it) (.ref D) (compEnvC scope cl C X.env)) (compPost (model X.prog X.w) X.A X.xe none (fun u s' => ∃ y H', Inv X pins σ H' s' ∧ RelV y u ∧ Q y H') (.ref D) C) s4 := by
    refine compLoop_anyD (fun n s' => ∃ i H', Inv (X.blk s3 H3 scope (compEnvC scope cl C X.env) fp) [] (wipe σ (own.map (·.2))) H' s' ∧ tn i s'.heap ∧ (∀ b ∈ fp, H' b = none) ∧ W i n H') ?_ m0 ⟨0, H3, I4, st4, fun b hb => (f3 b hb).1.1, w0⟩
    rintro n s5 ⟨i, H5, I5, st5, n5, w5⟩
    rcases turn i n H5 w5 with ⟨stop, qq⟩ | ⟨go, Nx, hNx, step⟩
    · refine thnF (T.done (X.blk s3 H3 scope (compEnvC scope cl C X.env) fp) rfl rfl rfl calm i [] s5 _ H5 (fun _ _ => False) I5 (fpB I5 n5) st5 stop) fun r s6 ⟨hr, I6⟩ => ?_
      subst hr
      have I7 : Inv X pins σ H5 s6 := I3.call' (ch := fp) I6.os I6.base I6.hok I6.bare fun b hb => ⟨(f3 b hb).1.2.2.2.1, (f3 b hb).1.2.1, (f3 b hb).1.2.2.2.2.1, (f3 b hb).1.2.2.2.2.2⟩
      obtain ⟨m, hn, _⟩ := I6.loc
      have hfree : H5 C = none := I6.free
      have F := I3.fpOk (Nat.le_of_eq hC) hfree
      exact ⟨m, hn, fun h2 sb => ⟨.ref D, H5, I7.turned (t' := s6.toks) (fun b o hb e => (sb.2 b hb).trans e) F.1 F.2.1 F.2.2.2.1 F.2.2.2.2.1 F.2.2.2.2.2, rfl, qq⟩⟩
    · refine thnF (T.item (X.blk s3 H3 scope (compEnvC scope cl C X.env) fp) rfl rfl rfl calm i [] s5 _ H5 (fun _ _ => False) I5 (fpB I5 n5) st5 go) fun r s6 ⟨uv, hr, h6⟩ => ?_
      subst hr
      refine thnF h6 fun _ s7 ⟨x, H7, I7, r7, y7, st7, n7⟩ => ?_
      refine thnF (G.run _ s7 _ H7 x uv _ (I7.pinned (fpB I7 n7) (T.obj _ _ st7)) r7 (step x H7 y7)) fun _ s8 ⟨σ8, H8, I8, w8, q8⟩ => ?_
      refine thnF (Te.run _ s8 σ8 H8 _ I8 q8) fun b s9 ⟨H9, I9, q9⟩ => ?_
      have fin : ∀ {s' : Shared} {H' : Hp}, Inv (X.blk s3 H3 scope (compEnvC scope cl C X.env) fp) ([] ++ pinsAt fp s7.heap) σ8 H' s' → Nx H' → ∃ m, m < n ∧ ∃ i H', Inv (X.blk s3 H3 scope (compEnvC scope cl C X.env) fp) [] (wipe σ (own.map (·.2))) H' s' ∧ tn i s'.heap ∧ (∀ b ∈ fp, H' b = none) ∧ W i m H' := fun {s' H'} I' nx => by
        obtain ⟨m', lt, w'⟩ := hNx H' nx
        have pn : ∀ b ∈ fp, ∀ o, s7.heap.get? b = some o → s'.heap.get? b = some o ∧ H' b = none := fun b hb o e => by
          have z := I'.pin (b, o) (List.mem_append_right _ (List.mem_append_right _ (mem_pinsAt hb e)))
          exact ⟨z.1, z.2.1⟩
        refine ⟨m', lt, i + 1, H', (I'.unpinned (pins := [])).weak (by rw [← w8, wipe_length]) (fun j v e => (wipe_some (by rw [w8]; exact e)).1), T.keep _ _ _ st7 fun b hb o e => (pn b hb o e).1, fun b hb => ?_, w'⟩
        obtain ⟨o, e, _⟩ := T.obj _ _ st7 b hb
        exact (pn b hb o e).2
      cases b with
      | false => exact fin I9 q9
      | true =>
        refine thnF (Ke.run _ s9 σ8 H9 _ I9 q9) fun kv s10 ⟨yk, H10, I10, r10, q10⟩ => ?_
        refine thnF (Ve.run _ s10 σ8 H10 _ I10 q10) fun vv s11 ⟨yv, H11, I11, r11, H12, put, nx⟩ => ?_
        exact dset (X := X.blk s3 H3 scope (compEnvC scope cl C X.env) fp) hu I11 put r10 r11 fun s12 I12 => fin I12 nx
  rw [hs4] at st4 loop
  exact codeAny_compStart_dict loop (T.self X.A 0 _ _ _ st4 loop)
end
end DTu

set_option Elab.async false
set_option linter.all false
set_option maxRecDepth 100000
set_option maxHeartbeats 4000000
namespace HK
open PySem PySem.Spec PyProof.Rows L2 GAl GxR DTu
open Evl (pss_cut)
abbrev sGrows : Stmt := topS 23
abbrev sLeads : Stmt := topS 24
abbrev sPrices : Stmt := topS 25
theorem scGrows : FnScope ["net", "root", "ahead", "prices", "end", "start", "place"] ["net", "root", "ahead"] (defScope sGrows) := ⟨rfl, rfl, rfl, by decide +kernel, rfl, by decide +kernel, by decide +kernel⟩
theorem scLeads : FnScope ["root", "ahead", "place", "step"] ["root", "ahead", "place"] (defScope sLeads) := ⟨rfl, rfl, rfl, by decide +kernel, rfl, by decide +kernel, by decide +kernel⟩
theorem scPrices : FnScope ["net", "start", "end", "cost", "late"] ["net"] (defScope sPrices) := ⟨rfl, rfl, rfl, by decide +kernel, rfl, by decide +kernel, by decide +kernel⟩
theorem call_lenR {X : Cx} : CallR X (.builtin "len") (fun xs H Q => ∃ a kvs, xs = [V.ref a] ∧ Rd H a (.dK kvs) ∧ Q (.int kvs.length) H) := by
  intro pins s σ H xs us Q I r ⟨a, kvs, e, ha, q⟩
  subst e
  obtain ⟨u, rfl, ru⟩ := vals1 r
  cases ru
  exact d_len I ha fun t s' I' => ⟨.int kvs.length, H, I', ⟨t, rfl⟩, q⟩
section
variable {P : Program} {w : World} {K : PySem.W.Frag} {mg : Str → Option Value} {base : Heap}
theorem NetAt.mut {H H' : Hp} {a p : Addr} {n : Int} {rs : List R4} {o : HO} (h : NetAt K H a n rs) (k : K0 H H') (np : H p = none) : NetAt K (upd H' p o) a n rs := h.k0 (k.mut np)
/-- the tables of roads -/
def spTab (sel : R4 → Int) (K : PySem.W.Frag) : Sp := fun vs H Q _ => ∃ (a : Addr) (n : Int) (rs : List R4), vs = [.ref a] ∧ NetAt K H a n rs ∧ Good n rs ∧ rs.length ≤ 156 ∧
  ∀ (D : Addr) (kvs : List (List Key × V)) (H' : Hp), K0 H H' → H D = none → H' D = some (.dT kvs) → TabP sel rs kvs → Q (.ref D) H'
theorem ok_prices {f : Addr} {fd : FuncData} (F : Fun K "road_prices" "road_prices" sPrices f fd) : FnOk P w K mg base CX0 1 f fd ["net"] (spTab (·.c) K) := by
  refine F.ok scPrices (fun vs H Q E h => ?_) (fun cdv A outer s H vs Q E hr h => ?_)
  · obtain ⟨a, n, rs, rfl, _⟩ := h
    rfl
  · obtain ⟨a, n, rs, rfl, hN, G, hl, q⟩ := h
    have hu := hu_of hr
    refine ⟨_, pss_one (ps_ret (pe_dcT (own := [("start", 1), ("end", 2), ("cost", 3), ("late", 4)]) (g := gTup K 4 (gCons (gName 1) (gCons (gName 2) (gCons (gName 3) (gCons (gName 4) gNil))))) (tt := tYes) (tk := tTup (tCons (tVar 1) (tCons (tVar 2) tNil))) (tv := tVar 3) (Nat.lt_of_succ_lt hu) rfl scPrices.nd (pi_tup (pe_ix ix_tup (pv 0) pe_int (fun _ _ => rfl)))
      (blkOk_by (N := ["net", "start", "end", "cost", "late"]) (sc := defScope sPrices) (by decide +kernel))
      (fun _ _ _ _ _ => pg_tup rfl (pgs_cons (pg_name (i := 1) scPrices.nd rfl (.inl rfl)) (pgs_cons (pg_name (i := 2) scPrices.nd rfl (.inl rfl)) (pgs_cons (pg_name (i := 3) scPrices.nd rfl (.inl rfl)) (pgs_cons (pg_name (i := 4) scPrices.nd rfl (.inl rfl)) pgs_nil)))))
      (fun _ _ _ _ _ => pts_nil) (fun _ _ _ _ _ => pe_tup (pa_cons (pv 1) (pa_cons (pv 2) pa_nil))) (fun _ _ _ _ _ => pv 3))), ?_⟩
    obtain ⟨r, xs, o, h1, h2, hc, hd, h3⟩ := hN
    have hxs : SqT K H r xs := h2
    have hrl : xs.length = rs.length := h3.len
    refine ⟨_, rfl, a, _, 1, .ref r, rfl, rfl, h1, atI_nat (j := 1) rfl, r, rfl, ⟨xs, hxs⟩, fun D nD => ?_⟩
    refine ⟨fun i m H' => i + m = xs.length ∧ K0 H H' ∧ ∃ kvs, H' D = some (.dT kvs) ∧ TabP (·.c) (rs.take i) kvs, ⟨xs.length, by omega, K0.new nD, [], upd_same, by rw [List.take_zero]; exact ⟨Nat.le_refl _, fun _ _ => rfl⟩⟩, fun i m H' hW => ?_⟩
    obtain ⟨em, k3, kvs, hD, hT⟩ := hW
    have hY : SqT K H' r xs := k3.sqT hxs
    by_cases hi : i < xs.length
    · have g1 : xs[i]? = some xs[i] := List.getElem?_eq_getElem hi
      obtain ⟨t, q1, hrd, hx, hs⟩ := road_at h3 g1
      have htk : rs.take (i + 1) = rs.take i ++ [t] := by rw [List.take_add_one, hrd]; rfl
      refine .inr ⟨⟨_, _, hY, g1⟩, fun H' => K0 H H' ∧ ∃ kvs, H' D = some (.dT kvs) ∧ TabP (·.c) (rs.take (i + 1)) kvs, fun H' hN => ⟨m - 1, by omega, by omega, hN⟩, fun x' H2 hy => ?_⟩
      obtain ⟨rfl, fx⟩ := hy
      have ex : x' = xs[i] := Option.some.inj ((fx _ hY).symm.trans g1)
      rw [hx] at ex
      subst ex
      refine ⟨q1, _, rfl, k3.sqT hs, rfl, _, _, rfl, _, _, rfl, _, _, rfl, _, _, rfl, rfl, rfl, tyes ?_⟩
      refine ⟨_, rfl, _, rfl, by show 2 ≤ sizeLine; decide, fun kt nkt => ⟨_, rfl, ?_⟩⟩
      have hne : D ≠ kt := fun z => by rw [z, nkt] at hD; cases hD
      have hD2 : upd H2 kt (.tup [.int t.s, .int t.e]) D = some (.dT kvs) := by rw [upd_ne hne]; exact hD
      have hll : kvs.length < sizeLine := Nat.lt_of_le_of_lt (m := 5000) (by have := hT.1; have := List.length_take_le i rs; omega) (by decide)
      refine ⟨_, DPut.t (k := [Sum.inl t.s, Sum.inl t.e]) hD2 upd_same hll, (k3.mut (k3.dom kt nkt)).mut nD, _, upd_same, ?_⟩
      rw [htk]
      refine TabP.put ?_ hT
      rw [← htk]
      exact List.Pairwise.sublist (List.take_sublist _ _) G.up
    · refine .inl ⟨⟨_, hY, by omega⟩, q D kvs H' k3 nD hD ?_⟩
      rwa [List.take_of_length_le (by omega)] at hT
/-- does a way lead to the root? -/
def spLeads (K : PySem.W.Frag) : Sp := fun vs H Q _ => ∃ (root : Int) (p : Addr) (kvs : List (Key × V)) (g : IF) (v : Int), vs = [.int root, .ref p, .int v] ∧ Rd H p (.dK kvs) ∧ DI kvs g ∧ kvs.length ≤ 5000 ∧ Q (.bl (decide (clm g kvs.length v = root))) H
theorem ok_leads {f : Addr} {fd : FuncData} (F : Fun K "leads_to" "leads_to" sLeads f fd) (mr : mg "range" = none) (ml : mg "len" = none) : FnOk P w K mg base CX0 1 f fd ["root", "ahead", "place"] (spLeads K) := by
  refine F.ok scLeads (fun vs H Q E h => ?_) (fun cdv A outer s H vs Q E hr h => ?_)
  · obtain ⟨a, p, kvs, g, v, rfl, _⟩ := h
    rfl
  · obtain ⟨root, p, kvs, g, v, rfl, hp, hD, hl, q⟩ := h
    have hu := hu_of hr
    refine ⟨_, pss_cons (ps_for PassesOwn.never rfl (pi_range1 (by rfl) mr (pa_cons (pe_callB call_lenR (by rfl) ml PySem.boot_len (pa_cons (pv 1) pa_nil)) pa_nil)) (pg_name (i := 3) scLeads.nd rfl (.inl rfl))
        (pss_one (ps_if (pt_cmp (pc_din hu (pv 2) (pv 1))) (pss_one (ps_set (i := 2) scLeads.nd rfl (.inl rfl) (pe_dget hu (pv 1) (pv 2) (fun _ _ => rfl)))) pss_nil)))
      (pss_one (ps_ret (pe_cmpR op_eq (pv 2) (pv 0) (nomark _)))), ?_⟩
    refine ⟨_, rfl, p, kvs, rfl, hp, _, rfl, by omega, by omega, for_range (lo := 0) (n := kvs.length) (fun i σ' H' => ∃ y3, σ' = [some (.int root), some (.ref p), some (.int (clm g i v)), y3] ∧ H' = H)
      ⟨none, rfl, rfl⟩ (fun i σ' H' hi h => ?_) (fun σ' H' h => ?_)⟩
    · obtain ⟨y3, rfl, rfl⟩ := h
      have ds := dgetR hp hD (clm g i v)
      refine ⟨_, rfl, _, rfl, p, _, rfl, ds, _, rfl, ?_⟩
      show if ((g (clm g i v)).map V.int).isSome = true then _ else _
      cases e : g (clm g i v) with
      | none => exact ⟨_, by rw [show clm g (i + 1) v = clm g i v from stp_none e]; rfl, rfl⟩
      | some x =>
        rw [e] at ds
        exact iteT ⟨_, rfl, _, rfl, p, _, rfl, ds, _, by rw [show clm g (i + 1) v = x from stp_some e]; rfl, rfl⟩
    · obtain ⟨y3, rfl, rfl⟩ := h
      refine ⟨_, rfl, _, rfl, rfl, ?_⟩
      refine qeq q ?_
      by_cases e : clm g kvs.length v = root
      · rw [e, decide_eq_true rfl, decide_eq_true rfl]
      · rw [decide_eq_false e, decide_eq_false (fun z => e (by cases z; rfl))]
end
end HK

set_option Elab.async false
set_option linter.all false
set_option maxRecDepth 100000
set_option maxHeartbeats 4000000
namespace HK
open PySem PySem.Spec PyProof.Rows L2 GAl GxR DTu
open Evl (pss_cut)
section
variable {P : Program} {w : World} {K : PySem.W.Frag} {mg : Str → Option Value} {base : Heap}
def spGrows (K : PySem.W.Frag) (Pp Pg : Addr) : Sp := fun vs H Q _ => ∃ (a : Addr) (n : Int) (rs : List R4) (root : Int) (p : Addr) (kvs : List (Key × V)) (g : IF), vs = [.ref a, .int root, .ref p] ∧ NetAt K H a n rs ∧ Good n rs ∧ rs.length ≤ 156 ∧
  H p = some (.dK kvs) ∧ DI kvs g ∧ kvs.length ≤ 5000 ∧ TabG H Pp ∧ TabG H Pg ∧ ∀ (H' : Hp) (b : Bool), K0 H H' → (b = true ↔ TreeP rs root g kvs.length) → Q (.bl b) H'
theorem ok_grows {f c fW fR fL Pp Pg : Addr} {fd fdW fdR fdL : FuncData} (F : FunC K "grows" "grows" sGrows f fd c) (TB : TabB base mg c Pg)
    (kW : PySem.W.keepIn K (.ref fW) = true) (bW : Binds K fdW ["thing"] []) (gW : mg "are_whole_pairs" = some (.ref fW)) (GW : FnOk P w K mg base CX0 3 fW fdW ["thing"] (spPairs K Pp))
    (kR : PySem.W.keepIn K (.ref fR) = true) (bR : Binds K fdR ["net"] []) (gR : mg "road_prices" = some (.ref fR)) (GR : FnOk P w K mg base CX0 1 fR fdR ["net"] (spTab (·.c) K))
    (kL : PySem.W.keepIn K (.ref fL) = true) (bL : Binds K fdL ["root", "ahead", "place"] []) (gL : mg "leads_to" = some (.ref fL)) (GL : FnOk P w K mg base CX0 1 fL fdL ["root", "ahead", "place"] (spLeads K))
    (mall : mg "all" = none) : FnOk P w K mg base CX0 4 f fd ["net", "root", "ahead"] (spGrows K Pp Pg) := by
  refine F.ok scGrows (fun vs H Q E h => ?_) (fun A outer s H vs Q E hr h => ?_)
  · obtain ⟨a, n, rs, v, p, kvs, g, rfl, _⟩ := h
    rfl
  · obtain ⟨a, n, rs, root, p, kvs, g, rfl, hN, hG, hl, hp, hD, hkl, tp, tg, q⟩ := h
    have hu := hu_of hr
    refine ⟨_, pss_cons (ps_if (PW.pt (pw_or (pt_not (pt_val (pe_call GW hr (by rfl) gW kW bW .nil pass0 (pa_cons (pv 2) pa_nil)))) (pw_or1 (pt_cmp (pc_din hu (pv 1) (pv 2)))))) (pss_one (ps_ret pe_bl)) pss_nil)
      (pss_cons (ps_set (i := 3) scGrows.nd rfl (.inr rfl) (pe_call GR (hr.mono (by decide)) (by rfl) gR kR bR .nil pass0 (pa_cons (pv 0) pa_nil)))
      (pss_cons (ps_if (pt_not (pt_val (pe_lock (pe_allG (own := [("end", 4), ("start", 5)]) (k := 2) (g := gTup K 2 (gCons (gName 4) (gCons (gName 5) gNil))) (tt := tYes) (te := tDIn (tTup (tCons (tVar 5) (tCons (tVar 4) tNil))) (tVar 3)) hr (by rfl) mall rfl scGrows.nd TB rfl (gsc_by (N := ["net", "root", "ahead", "prices", "end", "start", "place"]) (sc := defScope sGrows) (by decide +kernel))
          (pi_items (pv 2)) (fun A' hr' _ _ _ _ _ _ => pg_tup rfl (pgs_cons (pg_name (i := 4) scGrows.nd rfl (.inl rfl)) (pgs_cons (pg_name (i := 5) scGrows.nd rfl (.inl rfl)) pgs_nil))) (fun A' hr' _ _ _ _ _ _ => pts_nil)
          (fun A' hr' _ _ _ _ _ _ => pe_cmp (pc_din (hu_of hr') (pe_tup (pa_cons (pv 5) (pa_cons (pv 4) pa_nil))) (pv 3))))))) (pss_one (ps_ret pe_bl)) pss_nil)
      (pss_one (ps_ret (pe_lock (pe_allG (own := [("place", 6)]) (k := 2) (g := gName 6) (tt := tYes) (te := tCall (spLeads K) [] E0 (tCons (tVar 1) (tCons (tVar 2) (tCons (tVar 6) tNil)))) hr (by rfl) mall rfl scGrows.nd TB rfl (gsc_by (N := ["net", "root", "ahead", "prices", "end", "start", "place"]) (sc := defScope sGrows) (by decide +kernel))
          (pi_keys (pv 2)) (fun A' hr' _ _ _ _ _ _ => pg_name (i := 6) scGrows.nd rfl (.inl rfl)) (fun A' hr' _ _ _ _ _ _ => pts_nil)
          (fun A' hr' _ _ _ _ _ _ => pe_call GL (hr'.mono (by decide)) (by rfl) gL kL bL .nil pass0 (pa_cons (pv 1) (pa_cons (pv 2) (pa_cons (pv 6) pa_nil)))))))))), ?_⟩
    refine ⟨_, rfl, p, kvs, g, rfl, hp, hD, tp, fun H1 k1 => ⟨_, rfl, iteF ?_⟩⟩
    have hp1 := k1.oth p _ hp (fun _ z => by cases z)
    refine ⟨_, rfl, _, rfl, p, _, rfl, dgetR (.inl hp1) hD root, _, rfl, ?_⟩
    cases er : g root with
    | some x => exact iteT (q _ false k1 ⟨fun z => by (cases z), fun z => by rw [z.1] at er; cases er⟩)
    | none =>
    refine iteF ?_
    refine ⟨_, rfl, a, n, rs, rfl, hN.k0 k1, hG, hl, fun D ts H2 k2 nD hD2 hT => ?_⟩
    have k12 := k1.trans k2
    have hp2 := k12.oth p _ hp (fun _ z => by cases z)
    have hpD : p ≠ D := fun z => by rw [z, nD] at hp1; cases hp1
    -- all the roads
    refine ⟨p, _, hp2, trivial, fun od => ⟨_, rfl, p, od, kvs, rfl, upd_same, tabG_lock hp2 (fun _ z => by cases z) (k12.tab _ tg), fun H3 hT3 => ?_⟩⟩
    have k3 : K0 (upd H2 p (.frz od (.dK kvs))) H3 := K0.tbd (tabG_lock hp2 (fun _ z => by cases z) (k12.tab _ tg)) hT3
    refine ⟨fun i m H4 => i + m = kvs.length ∧ K0 (upd H2 p (.frz od (.dK kvs))) H4 ∧ ∀ e ∈ kvs.take i, ∀ v x, e = (Sum.inl v, V.int x) → (road rs x v).isSome = true, ⟨kvs.length, by omega, k3, fun e he => by rw [List.take_zero] at he; cases he⟩, fun i m H4 hW => ?_⟩
    obtain ⟨em, k4, hyes⟩ := hW
    have hp4 : H4 p = some (.frz od (.dK kvs)) := k4.oth p _ upd_same (fun _ z => by cases z)
    have hD4 : H4 D = some (.dT ts) := k4.oth D _ (by rw [upd_ne hpD.symm]; exact hD2) (fun _ z => by cases z)
    have kend : ∀ {H7}, K0 (upd H2 p (.frz od (.dK kvs))) H7 → K0 H (upd H7 p (.dK kvs)) := fun k => k12.trans (K0.lock hp2 (fun _ z => by cases z) k)
    by_cases hi : i < kvs.length
    · have g2 : kvs[i]? = some kvs[i] := List.getElem?_eq_getElem hi
      obtain ⟨j, z, e, e2⟩ := hD.at_ (List.mem_of_getElem? g2)
      rw [e] at g2
      have htk : kvs.take (i + 1) = kvs.take i ++ [(Sum.inl j, V.int z)] := by rw [List.take_add_one, g2]; rfl
      refine .inr ⟨⟨hp4, hi⟩, fun H' => K0 (upd H2 p (.frz od (.dK kvs))) H' ∧ (road rs z j).isSome = true, fun H' hN => ⟨m - 1, by omega, by omega, hN.1, fun e' he' => ?_⟩, fun x' H' hy => ?_⟩
      · rw [htk] at he'
        rcases List.mem_append.mp he' with he' | he'
        · exact hyes e' he'
        · have := List.mem_singleton.mp he'
          subst this
          intro v x ee
          cases ee
          exact hN.2
      · obtain ⟨T, k, v, hkv, rfl, nT, rfl⟩ := hy
        rw [g2] at hkv
        cases hkv
        have kT := k4.mut (o := .tup [.int j, .int z]) (k4.dom T nT)
        have hDT : upd H4 T (.tup [.int j, .int z]) D = some (.dT ts) := by rw [upd_ne (ne_of_none hD4 nT)]; exact hD4
        refine ⟨T, _, rfl, .inl (.inl upd_same), rfl, _, _, rfl, _, _, rfl, rfl, rfl, tyes ?_⟩
        refine ⟨_, rfl, _, rfl, by show 2 ≤ sizeLine; decide, fun kt nkt => ?_⟩
        have kk := kT.mut (o := .tup [.int z, .int j]) (kT.dom kt nkt)
        have hDk : upd (upd H4 T (.tup [.int j, .int z])) kt (.tup [.int z, .int j]) D = some (.dT ts) := by rw [upd_ne (ne_of_none hDT nkt)]; exact hDT
        refine ⟨_, rfl, D, _, rfl, DGet.t (k := [Sum.inl z, Sum.inl j]) hDk upd_same, _, rfl, ?_⟩
        rw [hT.2 z j]
        cases eo : road rs z j with
        | some r => exact iteT ⟨kk, by first | rfl | (rw [eo]; rfl)⟩
        | none =>
          have hp5 := kk.oth p _ upd_same (fun _ z => by cases z)
          refine iteF ⟨hp5, _, rfl, iteT (q _ false (kend kk) ⟨fun z => by (cases z), fun z => ?_⟩)⟩
          have := z.2.1 _ _ e2
          rw [eo] at this
          cases this
    · rw [List.take_of_length_le (by omega)] at hyes
      refine .inl ⟨⟨hp4, by omega⟩, hp4, _, rfl, iteF ?_⟩
      have k14 := kend k4
      have hroads : ∀ v x, g v = some x → (road rs x v).isSome = true := fun v x e => hyes (Sum.inl v, .int x) (by
        have := (hD.mem v).mpr (by rw [e]; rfl)
        obtain ⟨pp, hpp, ep⟩ := List.mem_map.mp this
        obtain ⟨j, z, rfl, ej⟩ := hD.at_ hpp
        cases ep
        rw [e] at ej
        cases ej
        exact hpp) v x rfl
      -- all the ways
      have hp5 : upd H4 p (.dK kvs) p = some (.dK kvs) := upd_same
      generalize hH5 : upd H4 p (.dK kvs) = H5 at k14 hp5
      refine ⟨p, _, hp5, trivial, fun od2 => ⟨_, rfl, p, od2, rfl, .inl ⟨kvs, upd_same, tabG_lock hp5 (fun _ z => by cases z) (k14.tab _ tg), fun H6 hT6 => ?_⟩⟩⟩
      have k6 : K0 (upd H5 p (.frz od2 (.dK kvs))) H6 := K0.tbd (tabG_lock hp5 (fun _ z => by cases z) (k14.tab _ tg)) hT6
      refine ⟨fun i m H7 => i + m = kvs.length ∧ K0 (upd H5 p (.frz od2 (.dK kvs))) H7 ∧ ∀ e ∈ kvs.take i, ∀ v x, e = (Sum.inl v, V.int x) → clm g kvs.length v = root, ⟨kvs.length, by omega, k6, fun e he => by rw [List.take_zero] at he; cases he⟩, fun i m H7 hW => ?_⟩
      obtain ⟨em, k7, hyes2⟩ := hW
      have hp7 : H7 p = some (.frz od2 (.dK kvs)) := k7.oth p _ upd_same (fun _ z => by cases z)
      have kend2 : ∀ {H8}, K0 (upd H5 p (.frz od2 (.dK kvs))) H8 → K0 H (upd H8 p (.dK kvs)) := fun k => k14.trans (K0.lock hp5 (fun _ z => by cases z) k)
      by_cases hi2 : i < kvs.length
      · have g2 : kvs[i]? = some kvs[i] := List.getElem?_eq_getElem hi2
        obtain ⟨j, z, e, e2⟩ := hD.at_ (List.mem_of_getElem? g2)
        rw [e] at g2
        have htk : kvs.take (i + 1) = kvs.take i ++ [(Sum.inl j, V.int z)] := by rw [List.take_add_one, g2]; rfl
        refine .inr ⟨⟨hp7, hi2⟩, fun H' => K0 (upd H5 p (.frz od2 (.dK kvs))) H' ∧ clm g kvs.length j = root, fun H' hN => ⟨m - 1, by omega, by omega, hN.1, fun e' he' => ?_⟩, fun x' H' hy => ?_⟩
        · rw [htk] at he'
          rcases List.mem_append.mp he' with he' | he'
          · exact hyes2 e' he'
          · have := List.mem_singleton.mp he'
            subst this
            intro v x ee
            cases ee
            exact hN.2
        · obtain ⟨rfl, k, v, hkv, rfl⟩ := hy
          rw [g2] at hkv
          cases hkv
          refine ⟨rfl, tyes ⟨_, rfl, _, rfl, _, rfl, root, p, kvs, g, j, rfl, .inr ⟨od2, hp7⟩, hD, hkl, _, rfl, ?_⟩⟩
          by_cases ec : clm g kvs.length j = root
          · rw [decide_eq_true ec]
            exact iteT ⟨k7, ec⟩
          · rw [decide_eq_false ec]
            exact iteF ⟨hp7, q _ false (kend2 k7) ⟨fun z => by (cases z), fun z => absurd (z.2.2 _ _ e2) ec⟩⟩
      · rw [List.take_of_length_le (by omega)] at hyes2
        refine .inl ⟨⟨hp7, by omega⟩, hp7, q _ true (kend2 k7) ⟨fun _ => ⟨er, hroads, fun v x e => ?_⟩, fun _ => rfl⟩⟩
        refine hyes2 (Sum.inl v, .int x) ?_ v x rfl
        have := (hD.mem v).mpr (by rw [e]; rfl)
        obtain ⟨pp, hpp, ep⟩ := List.mem_map.mp this
        obtain ⟨j, z, rfl, ej⟩ := hD.at_ hpp
        cases ep
        rw [e] at ej
        cases ej
        exact hpp
end
end HK


set_option Elab.async false
set_option linter.all false
set_option maxRecDepth 100000
set_option maxHeartbeats 2000000
namespace GAl
open PySem PySem.Spec PyProof.Rows L2 GxR
open Sem (wp)
/-! ### generator expressions whose consumer keeps a record S of its own -/

theorem Inv.kallS {X : Cx} {ps : List (Addr × Obj)} {S : Addr} {oS oS' : Obj} {σ : L2.St} {H : Hp} {s s'' : Shared} (I : Inv X (ps ++ [(S, oS)]) σ H s) (hy : S ∈ X.ex ∨ X.s_0.heap.objs.size ≤ S) (hps : ∀ p ∈ X.pn ++ ps, p.1 ≠ S)
    (ho : s''.os = s.os) (hb : AllBare s''.gens) (k : ∀ b o, b ≠ S → s.heap.get? b = some o → s''.heap.get? b = some o) (hS : s''.heap.get? S = some oS') (hd : ∀ v, oS'.data ≠ .cell v) : Inv X (ps ++ [(S, oS')]) σ H s'' := by
  obtain ⟨h1, h2, h3, h4, h5⟩ := I.pin (S, oS) (List.mem_append_right _ (List.mem_append_right _ (List.mem_singleton.mpr rfl)))
  have hcell : ∀ x c, X.env.cells.lookup x = some c → c ≠ S := fun x c e z => by
    obtain ⟨v, o, q, d⟩ := I.cell x c e
    have h1 : s.heap.get? S = some oS := h1
    rw [z, h1] at q
    cases q
    exact h5 _ d
  have I' : Inv X ps σ H s := I.unpinned
  have I1 := I'.turned (it := S) (h' := s''.heap) (t' := s.toks) k h2 h3 hy hcell hps
  have I2 : Inv X ps σ H s'' := Inv.kall I1 ho hb (fun _ _ e => e)
  refine I2.pins_of fun p hp => ?_
  rcases List.mem_append.mp hp with hp | hp
  · exact I2.pin p (List.mem_append_right _ hp)
  · have := List.mem_singleton.mp hp
    subst this
    exact ⟨hS, h2, h3, h4, hd⟩

section
variable {G : Type}
def REndS (XG : Cx) (a : Addr) (oa : Obj) (S : Addr) (Rep : Obj → G → Prop) (σw : L2.St) (Qd : G → Hp → Prop) : Nat → Shared → Shared → Prop := fun _ s₀ s₁ =>
  ∃ γ oS H4, s₀.heap.get? S = some oS ∧ Rep oS γ ∧ Inv XG ([(a, oa)] ++ [(S, oS)]) σw H4 s₁ ∧ Qd γ H4
def YOutS (XG : Cx) (a : Addr) (oa : Obj) (S : Addr) (Rep : Obj → G → Prop) (stp : G → V → Hp → (G → Prop) → Prop) : Protocol := fun _ s₀ v s kap =>
  ∃ γ oS y H4 σ4, s₀.heap.get? S = some oS ∧ Rep oS γ ∧ Inv XG ([(a, oa)] ++ [(S, oS)]) σ4 H4 s ∧ RelV y v ∧
    stp γ y H4 (fun γ' => ∀ (s'' : Shared) (oS' : Obj), s''.os = s.os → AllBare s''.gens → (∀ b o, b ≠ S → s.heap.get? b = some o → s''.heap.get? b = some o) → s''.heap.get? S = some oS' → Rep oS' γ' → (∀ v, oS'.data ≠ .cell v) → kap (.send .none) s'')
/-- what a turn asks -/
def GTurnS (J : It) (g : TG) (tt : TT) (te : TE) (vs : List Nat) (σw : L2.St) (Qd : Nat → G → Hp → Prop) (stp : G → V → Hp → (G → Prop) → Prop) (W : Nat → Nat → G → Hp → Prop) : Prop :=
  ∀ i m γ H, W i m γ H → (J.stop i H ∧ Qd m γ H) ∨ (J.go i H ∧ ∃ Nx : G → Hp → Prop, (∀ γ' H', Nx γ' H' → ∃ m', m' < m ∧ W (i + 1) m' γ' H') ∧ ∀ x H', J.yld i H x H' → g x σw H' fun σ2 H2 => wipe σ2 vs = σw ∧ tt σ2 H2 fun b H3 =>
    if b = true then te σ2 H3 fun y H4 => stp γ y H4 (fun γ' => Nx γ' H4) else Nx γ H3)
/-- one turn of the last clause -/
@[reducible] def turnOf (tg iter : Expr) (ifs : List Expr) (elt : Expr) (it : Value) (cenv : Env) (c : Code) : Sem Fin := do
  standAt iter.pos
  match ← pyNext it with
  | none => pure (.done .next)
  | some v =>
    letOwnedTupleGo tg it v
    assign tg cenv v
    let mut ok := true
    for c in ifs do
      if ok then ok ← isTrue c cenv (eval c cenv)
    if ok then
      (do let v ← eval elt cenv; standAt elt.pos; let _ ← yieldOut cenv v)
    again c
/-- what the iterator's objects are, whatever stands in the heap -/
def FpSt (X : Cx) (b : Addr) : Prop := b ≠ X.env.locals ∧ b ∉ X.fs ∧ (b ∈ X.ex ∨ X.s_0.heap.objs.size ≤ b) ∧ (∀ x c, X.env.cells.lookup x = some c → c ≠ b)
end

section
variable {G : Type} {X XG XI : Cx} {elt tg iter : Expr} {ifs : List Expr} {it a S : Addr} {oa : Obj} {fp : List Addr} {cenv : Env} {AG : Around} {c : Code} {fs : List Frame} {lv : Value → Sem Unit} {J : It} {tn : Nat → Heap → Prop} {R : GenEnd} {ps : List (Addr × Obj)}
  {g : TG} {tt : TT} {te : TE} {vs : List Nat} {σw : L2.St} {Qd : Nat → G → Hp → Prop} {Rep : Obj → G → Prop} {stp : G → V → Hp → (G → Prop) → Prop} {W : Nat → Nat → G → Hp → Prop}

theorem gen_loopS (hA : XI.A = AG.over c fs) (hP : XI.prog = X.prog) (hw : XI.w = X.w) (hK : XI.K = X.K) (hcalm : XI.calm = true) (henv : XI.env = cenv) (hxe : XI.xe = fun _ _ => False) (hpn : XI.pn = [])
    (hden : (model X.prog X.w).den c = (turnOf tg iter ifs elt (.ref it) cenv c).onRaise lv) (hcq : c.quiet = true) (hfs : splitAtGen fs = none) (hfg : fs.any Frame.guarded = false)
    (hco : cenv.scope.isCoroutine = false) (T : Turn X.prog X.w X.K tg J fp it tn) (hst : ∀ b ∈ fp, FpSt XI b) (hSy : S ∈ XI.ex ∨ XI.s_0.heap.objs.size ≤ S) (hSfp : ∀ b ∈ fp, S ≠ b) (hpsS : ∀ p ∈ ps, p.1 ≠ S) (hpsf : ∀ p ∈ ps, ∀ b ∈ fp, p.1 ≠ b) (haps : (a, oa) ∈ ps)
    (hmono : ∀ γ y H (p q : G → Prop), (∀ γ', p γ' → q γ') → stp γ y H p → stp γ y H q)
    (htr : ∀ ps σ H s, Inv XI ps σ H s → Inv XG ps σ H s)
    (hend : ∀ m n γ oS s₀ s H, m < n → s₀.heap.get? S = some oS → Rep oS γ → Inv XI (ps ++ [(S, oS)]) σw H s → Qd m γ H → Seg (model X.prog X.w) AG R (YOutS XG a oa S Rep stp) n s₀ c (leafOf (.ok .next)) fs s)
    (pg : PG XI tg g) (pt : PTs XI ifs tt) (pe : PE XI elt te) (hW : GTurnS J g tt te vs σw Qd stp W) :
    ∀ (m n i : Nat) (γ : G) (oS : Obj) (s₀ s : Shared) (H : Hp), m < n → W i m γ H → s₀.heap.get? S = some oS → Rep oS γ → Inv XI (ps ++ [(S, oS)]) σw H s → tn i s.heap → (∀ b ∈ fp, H b = none) →
      Seg (model X.prog X.w) AG R (YOutS XG a oa S Rep stp) n s₀ c ((model X.prog X.w).den c) fs s := by
  have stat : ∀ {oS : Obj} {σ' : L2.St} {H' : Hp} {s' : Shared}, Inv XI (ps ++ [(S, oS)]) σ' H' s' → (∀ b ∈ fp, H' b = none) → ∀ b ∈ fp, FpOk XI (ps ++ [(S, oS)]) H' b := fun {oS σ' H' s'} I' hn b hb =>
    ⟨hn b hb, (hst b hb).1, (hst b hb).2.1, (hst b hb).2.2.1, (hst b hb).2.2.2, fun p hp => by
      rw [hpn, List.nil_append] at hp
      rcases List.mem_append.mp hp with hp | hp
      · exact hpsf p hp b hb
      · have := List.mem_singleton.mp hp
        subst this
        exact hSfp b hb⟩
  have hpsS' : ∀ p ∈ XI.pn ++ ps, p.1 ≠ S := by rw [hpn]; exact hpsS
  intro m
  induction m using Nat.strongRecOn with
  | ind m ih =>
    intro n i γ oS s₀ s H hmn w hS0 hRep I st nH
    rw [hden, Sem.onRaise_eq_wrap]
    refine seg_bind_wrap (wpAny_standAt ?_)
    rcases hW i m γ H w with ⟨stop, qq⟩ | ⟨go, Nx, hNx, step⟩
    · have td := T.done XI hP hw hK hcalm i _ s _ H (fun _ _ => False) I (stat I nH) st stop
      rw [hA] at td
      refine seg_bind_wrap (thnF td fun r s1 ⟨hr, I1⟩ => ?_)
      subst hr
      exact hend m n γ oS s₀ s1 H hmn hS0 hRep I1 qq
    · have ti := T.item XI hP hw hK hcalm i _ s _ H (fun _ _ => False) I (stat I nH) st go
      rw [hA] at ti
      refine seg_bind_wrap (thnF ti fun r s1 ⟨u, hr, h1⟩ => ?_)
      subst hr
      refine seg_bind_wrap (thnF h1 fun _ s2 ⟨x, H2, I2, r2, y2, st2, n2⟩ => ?_)
      have I2' := I2.pinned (stat I2 n2) (T.obj _ _ st2)
      have rg := pg.run _ s2 _ H2 x u _ I2' r2 (step x H2 y2)
      rw [hA, hP, hw, henv, hxe] at rg
      refine seg_bind_wrap (thnF rg fun _ s3 ⟨σ3, H3, I3, hw3, q3⟩ => ?_)
      have rt := pt.run _ s3 σ3 H3 _ I3 q3
      rw [hA, hP, hw, henv, hxe] at rt
      refine seg_bind_wrap (thnF rt fun b s5 ⟨H5, I5, q5⟩ => ?_)
      have hl : σw.length = σ3.length := by rw [← hw3, wipe_length]
      have pin' : ∀ {H' : Hp} {s' : Shared} {σ' : L2.St}, Inv XI ((ps ++ [(S, oS)]) ++ pinsAt fp s2.heap) σ' H' s' → ∀ b ∈ fp, ∀ o, s2.heap.get? b = some o → s'.heap.get? b = some o ∧ H' b = none := fun {H' s' σ'} I' b hb o e =>
        let z := I'.pin (b, o) (List.mem_append_right _ (List.mem_append_right _ (mem_pinsAt hb e)))
        ⟨z.1, z.2.1⟩
      cases b with
      | false =>
        simp only [Bool.false_eq_true, if_false] at q5 ⊢
        obtain ⟨m', hm, w'⟩ := hNx γ H5 q5
        refine seg_again hcq (ih m' hm n (i + 1) γ oS s₀ s5 H5 (by omega) w' hS0 hRep ((I5.unpinned (pins := ps ++ [(S, oS)])).weak hl (fun j v e => ?_)) (T.keep _ _ _ st2 fun b hb o e => (pin' I5 b hb o e).1) (fun b hb => ?_))
        · rw [← hw3] at e
          exact (wipe_some e).1
        · obtain ⟨o, e, _⟩ := T.obj _ _ st2 b hb
          exact (pin' I5 b hb o e).2
      | true =>
        simp only [if_true] at q5 ⊢
        have hy : ∀ v, yieldOut cenv v = yieldValue v := fun v => by simp only [yieldOut, hco, Bool.false_eq_true, if_false]
        simp only [hy]
        rw [Sem.bind_eq_wrap', Sem.bind_eq_wrap', Sem.wrap_wrap, Sem.wrap_wrap]
        have re := pe.run _ s5 σ3 H5 _ I5 q5
        rw [hA, hP, hw, henv, hxe] at re
        refine seg_wrap (thnF re fun z s6 ⟨yv, H6, I6, r6, q6⟩ => ?_)
        cases n with
        | zero => exact absurd hmn (Nat.not_lt_zero _)
        | succ n =>
          have I6' : Inv XI (ps ++ [(S, oS)]) σ3 H6 s6 := I6.unpinned
          have I6w : Inv XI (ps ++ [(S, oS)]) σw H6 s6 := I6'.weak hl (fun j v e => by rw [← hw3] at e; exact (wipe_some e).1)
          refine seg_at (seg_yield hfs rfl hfg ⟨γ, oS, yv, H6, σ3, hS0, hRep, htr _ _ _ _ (I6'.pins_of fun p hp => I6'.pin p (List.mem_append_right _ ?_)), r6, hmono _ _ _ _ _ (fun γ' nx s'' oS' e1 e2 e3 e4 e5 e6 => ?_) q6⟩)
          · rcases List.mem_append.mp hp with hp | hp
            · have := List.mem_singleton.mp hp
              subst this
              exact List.mem_append_left _ haps
            · exact List.mem_append_right _ hp
          · obtain ⟨m', hm, w'⟩ := hNx γ' H6 nx
            refine seg_again hcq (ih m' hm n (i + 1) γ' oS' s'' s'' H6 (by omega) w' e4 e5 (Inv.kallS I6w hSy hpsS' e1 e2 e3 e4 e6) (T.keep _ _ _ st2 fun b hb o e => e3 b o (fun z => hSfp b hb z.symm) (pin' I6 b hb o e).1) (fun b hb => ?_))
            obtain ⟨o, e, _⟩ := T.obj _ _ st2 b hb
            exact (pin' I6 b hb o e).2
end
end GAl

set_option Elab.async false
set_option linter.all false
set_option maxRecDepth 100000
set_option maxHeartbeats 2000000
namespace GAl
open PySem PySem.Spec PyProof.Rows L2 GxR
open Sem (wp)
section
variable {G : Type} {X : Cx} {elt tg iter : Expr} {ifs : List Expr} {scope : Scope} {pos : Pos} {it a S : Addr} {oa : Obj} {fp : List Addr} {cenv : Env} {AG : Around} {s4 : Shared} {Hs : Hp} {J : It} {tn : Nat → Heap → Prop}
  {g : TG} {tt : TT} {te : TE} {vs : List Nat} {σw : L2.St} {Qd : G → Hp → Prop} {Rep : Obj → G → Prop} {stp : G → V → Hp → (G → Prop) → Prop} {W : Nat → Nat → G → Hp → Prop}
theorem gen_beginS (hc : X.calm = true) (hco : cenv.scope.isCoroutine = false) (T : Turn X.prog X.w X.K tg J fp it tn) (hafp : ∀ b ∈ fp, a ≠ b) (hSfp : ∀ b ∈ fp, S ≠ b) (haS : a ≠ S) (hSy : s4.heap.objs.size ≤ S)
    (hmono : ∀ γ y H (p q : G → Prop), (∀ γ', p γ' → q γ') → stp γ y H p → stp γ y H q)
    (pg : PG (gcx X (AG.over (.compLoop (.GeneratorExp elt [⟨tg, iter, ifs, 0⟩] scope pos) 0 (.ref it) .none cenv) []) s4 Hs cenv fp) tg g)
    (pt : PTs (gcx X (AG.over (.compLoop (.GeneratorExp elt [⟨tg, iter, ifs, 0⟩] scope pos) 0 (.ref it) .none cenv) []) s4 Hs cenv fp) ifs tt)
    (pe : PE (gcx X (AG.over (.compLoop (.GeneratorExp elt [⟨tg, iter, ifs, 0⟩] scope pos) 0 (.ref it) .none cenv) []) s4 Hs cenv fp) elt te)
    (hW : GTurnS J g tt te vs σw (fun _ => Qd) stp W) (m : Nat) (γ : G) (oS : Obj) (s₀ s : Shared) (H : Hp) (w : W 0 m γ H) (hS0 : s₀.heap.get? S = some oS) (hRep : Rep oS γ)
    (I : Inv (gcx X (AG.over (.compLoop (.GeneratorExp elt [⟨tg, iter, ifs, 0⟩] scope pos) 0 (.ref it) .none cenv) []) s4 Hs cenv fp) ([(a, oa)] ++ [(S, oS)]) σw H s) (st : tn 0 s.heap) (nH : ∀ b ∈ fp, H b = none) :
      Seg (model X.prog X.w) AG (fun n s₀ r s₁ => r = .ok .next ∧ REndS (gcx X (AG.over (.compLoop (.GeneratorExp elt [⟨tg, iter, ifs, 0⟩] scope pos) 0 (.ref it) .none cenv) []) s4 Hs cenv fp) a oa S Rep σw Qd n s₀ s₁)
        (YOutS (gcx X (AG.over (.compLoop (.GeneratorExp elt [⟨tg, iter, ifs, 0⟩] scope pos) 0 (.ref it) .none cenv) []) s4 Hs cenv fp) a oa S Rep stp) (m + 1) s₀
        (.compStart (.GeneratorExp elt [⟨tg, iter, ifs, 0⟩] scope pos) 0 (.ref it) .none cenv)
        ((model X.prog X.w).den (.compStart (.GeneratorExp elt [⟨tg, iter, ifs, 0⟩] scope pos) 0 (.ref it) .none cenv)) [] s := by
  have hst : ∀ b ∈ fp, FpSt (gcx X (AG.over (.compLoop (.GeneratorExp elt [⟨tg, iter, ifs, 0⟩] scope pos) 0 (.ref it) .none cenv) []) s4 Hs cenv fp) b := fun b hb =>
    ⟨(I.ok.exf b hb).1, I.ok.exfs b hb, .inl hb, fun x c e => (I.ok.exf b hb).2 x c e⟩
  have loop := gen_loopS (a := a) (oa := oa) (S := S) (ps := [(a, oa)]) (R := fun n s₀ r s₁ => r = .ok .next ∧ REndS (gcx X (AG.over (.compLoop (.GeneratorExp elt [⟨tg, iter, ifs, 0⟩] scope pos) 0 (.ref it) .none cenv) []) s4 Hs cenv fp) a oa S Rep σw Qd n s₀ s₁) (Rep := Rep) (Qd := fun _ => Qd)
    (c := .compLoop (.GeneratorExp elt [⟨tg, iter, ifs, 0⟩] scope pos) 0 (.ref it) .none cenv) (fs := []) (cenv := cenv) (iter := iter) (lv := leaving cenv) (X := X) (AG := AG)
    (XG := gcx X (AG.over (.compLoop (.GeneratorExp elt [⟨tg, iter, ifs, 0⟩] scope pos) 0 (.ref it) .none cenv) []) s4 Hs cenv fp)
    (XI := gcx X (AG.over (.compLoop (.GeneratorExp elt [⟨tg, iter, ifs, 0⟩] scope pos) 0 (.ref it) .none cenv) []) s4 Hs cenv fp)
    rfl rfl rfl rfl hc rfl rfl rfl rfl rfl rfl rfl hco T hst (.inr hSy) hSfp
    (fun p hp => by have := List.mem_singleton.mp hp; subst this; exact haS) (fun p hp b hb => by have := List.mem_singleton.mp hp; subst this; exact hafp b hb) (List.mem_singleton.mpr rfl)
    hmono (fun _ _ _ _ I => I) (fun m n γ oS s₀ s H _ e1 e2 I q => seg_end (.ok .next) ⟨rfl, γ, oS, H, e1, e2, I, q⟩) pg pt pe hW m (m + 1) 0 γ oS s₀ s H (Nat.lt_succ_self _) w hS0 hRep I st nH
  show Seg _ AG _ _ _ s₀ _ ((compStart (.GeneratorExp elt [⟨tg, iter, ifs, 0⟩] scope pos) 0 (.ref it) .none cenv).onRaise (leaving cenv)) [] s
  unfold compStart
  rw [Sem.onRaise_eq_wrap]
  show Seg _ AG _ _ _ s₀ _ ((ask >>= _).wrap _ _ _ _) [] s
  refine seg_bind_wrap (wpAny_askSetting ?_)
  split
  · exact seg_again rfl loop
  · first
      | exact seg_bind_wrap (wpAny_rule (seg_bind_wrap (wpAny_standAt (seg_bind_wrap (T.self _ 0 s _ _ st (seg_again rfl loop))))))
      | (refine seg_bind_wrap (wpAny_rule ?_); show Seg _ AG _ _ _ s₀ _ ((standAt iter.pos >>= _).wrap _ _ _ _) [] s; exact seg_bind_wrap (wpAny_standAt (seg_bind_wrap (T.self _ 0 s _ _ st (seg_again rfl loop)))))
end

/-- what a consumed generator expression asks: the walked thing, the def's table, the turns -/
def tGenS {G : Type} (P : Addr) (wi : TI) (g : TG) (tt : TT) (te : TE) (vs : List Nat) (stp : G → V → Hp → (G → Prop) → Prop) (γ0 : G) (Qd : G → Hp → Prop) : L2.St → Hp → Prop := fun σ H =>
  wi σ H fun J H1 => TabG H1 P ∧ ∀ H2, Tabbed P H1 H2 → ∃ W : Nat → Nat → G → Hp → Prop, (∃ m, W 0 m γ0 H2) ∧ GTurnS J g tt te vs (wipe σ vs) (fun _ => Qd) stp W

section
variable {G : Type} {X : Cx} {pins : List (Addr × Obj)} {σ : L2.St} {H : Hp} {s : Shared}
theorem gen_makeS {c P : Addr} {elt tg iter : Expr} {ifs : List Expr} {gpos : Pos} {scope : Scope} {own : List (Str × Nat)} {wi : TI} {g : TG} {tt : TT} {te : TE} {k : Nat} {stp : G → V → Hp → (G → Prop) → Prop} {Rep : Obj → G → Prop} {γ0 : G} {Qd : G → Hp → Prop} {Q' : Value → Shared → Prop}
    (hr : Room (k + 1) X.A) (hc : X.calm = true) (hN : X.N.Nodup) (TB : TabB X.base X.mg c P) (hcode : X.env.code = .ref c) (SC : GSc X.N X.env.scope scope own) (hi : PI X tg iter wi)
    (hg : ∀ (A' : Around), Room k A' → ∀ (s : Shared) (H : Hp) (cl : List (Str × Addr)) (C : Addr) (code : Value) (fp : List Addr), PG (gcx X A' s H (genEnv scope cl C code builtinsNs X.env) fp) tg g)
    (ht : ∀ (A' : Around), Room k A' → ∀ (s : Shared) (H : Hp) (cl : List (Str × Addr)) (C : Addr) (code : Value) (fp : List Addr), PTs (gcx X A' s H (genEnv scope cl C code builtinsNs X.env) fp) ifs tt)
    (he : ∀ (A' : Around), Room k A' → ∀ (s : Shared) (H : Hp) (cl : List (Str × Addr)) (C : Addr) (code : Value) (fp : List Addr), PE (gcx X A' s H (genEnv scope cl C code builtinsNs X.env) fp) elt te)
    (hmono : ∀ γ y H (p q : G → Prop), (∀ γ', p γ' → q γ') → stp γ y H p → stp γ y H q)
    (hs : ∀ v, genFold iter X.env v = pure v) (I : Inv X pins σ H s) (h : tGenS P wi g tt te (own.map (·.2)) stp γ0 Qd σ H)
    (hQ : ∀ (XG : Cx) (a : Addr) (oa : Obj) (gn n : Nat) (σw : L2.St) (s5 : Shared) (gs : GenState), XG.prog = X.prog → XG.w = X.w → XG.pn = [] → s5.heap.get? a = some oa → s5.heap.IsGen a gn → s5.gens[gn]? = some gs → s5.heap.NoLimit → AllBare s5.gens →
      (∀ (S : Addr) (s'' : Shared) (oS : Obj), s5.heap.objs.size ≤ S → s''.os = s5.os → AllBare s''.gens → (∀ b o, s5.heap.get? b = some o → s''.heap.get? b = some o) → s''.heap.get? S = some oS → Rep oS γ0 → (∀ v, oS.data ≠ .cell v) →
        gs.Goes (model X.prog X.w) X.A.in1.in1 (fun n s₀ r s₁ => r = .ok .next ∧ REndS XG a oa S Rep σw Qd n s₀ s₁) (YOutS XG a oa S Rep stp) n (.send .none) s'') →
      (∀ S, s5.heap.objs.size ≤ S → XG.s_0.heap.objs.size ≤ S) → (∀ s' ps σ' H', Inv XG ps σ' H' s' → Inv X pins σ H' s') → Q' (.ref a) s5) :
    wpAny (model X.prog X.w) X.A (eval (.GeneratorExp elt [⟨tg, iter, ifs, 0⟩] scope gpos) X.env) Q' X.xe s := by
  have ok := SC.blk
  have hfree : ∀ y ∈ scope.names, y.2 = .free → ∃ c, X.env.cells.lookup y.1 = some c := fun y hy e => by
    rcases ok.free y hy e with k | k
    · exact I.ok.has _ (.inl k)
    · exact I.ok.has _ (.inr k)
  refine wpAny_GeneratorExp_make SC.co (closure_ok hfree) SC.cell SC.dot ok.kind (by have := hr.dp; omega) ?_ hs
  refine thn (hi.run pins s σ H _ I h) fun xv s1 hx => thn hx fun itv s2 h2 => ?_
  obtain ⟨it, fp, tn, J, H2, e, I2, T, st2, f2, ⟨ps, hP, hts⟩, q⟩ := h2
  subst e
  have hPs : s2.heap.get? P = some { cls := .none, data := .fields ps } := I2.hok P _ hP
  have cd : PySem.W.CodeHd s2.heap c P := TB.code.keeps fun b u e => I2.bk b u e
  have nP : ∀ b ∈ fp, b ≠ P := fun b hb z => by
    have := (f2 b hb).1
    rw [z, hP] at this; cases this
  have sz2 : ∀ b ∈ fp, b < s2.heap.objs.size := fun b hb => by
    obtain ⟨o, e, _⟩ := T.obj _ _ st2 b hb
    exact Heap.lt_size e
  have cont : ∀ (code : Value) (h3 : Heap) (tk : Nat) (ps' : Array Value), Heap.ExtBut P s2.heap h3 → s2.heap.objs.size ≤ h3.objs.size → h3.get? P = some { cls := .none, data := .fields ps' } → (∃ more, ps' = ps ++ more) → TriplesOk ps'.toList →
      wpAny (model X.prog X.w) X.A (builtinsFor X.env.globals X.env.builtins) (fun bi s₄ =>
        ∀ h', h'.Ns s₄.heap.objs.size (fun y => if y = ".0" then some (.ref it) else none) → Heap.SameBut s₄.heap.objs.size (s₄.heap.push { cls := .type "frame", data := .dict #[] }) h' →
          Q' (.ref h'.objs.size) { s₄ with
            gens := s₄.gens.push (.fresh (.compStart (.GeneratorExp elt [⟨tg, iter, ifs, 0⟩] scope gpos) 0 (.ref it) .none (genEnv scope (cloFrom X.env.cells scope.names []) s₄.heap.objs.size code bi X.env))),
            toks := s₄.toks + 1 + 1 + 1,
            heap := h'.push { cls := .type "generator", data := .fields #[.int s₄.gens.size 0, .str "<genexpr>" (s₄.toks + 1), .str (X.env.qual ++ "<genexpr>") (s₄.toks + 1 + 1)] } }) X.xe { s2 with heap := h3, toks := tk } := by
    intro code h3 tk ps' hx hsz hP3 hmore ht3
    obtain ⟨bm, ob, e1, e2, e3, e4, e5, e6, e7, e8⟩ := TB.bm
    have keep3 : ∀ b u, b ≠ P → s2.heap.get? b = some u → h3.get? b = some u := fun b u hb e => hx b u hb e
    refine wpAny_builtinsFor (m := X.mg) (by rw [I2.ok.glob]; exact (I2.mod.glob.keeps I2.bk).extBut hx TB.gP) e1 e2 (keep3 _ _ e4 (I2.bk _ _ e5)) e6 e7 e8 ?_
    intro h' hn' hs'
    obtain ⟨more, em⟩ := hmore
    have I3 : Inv X pins σ (upd H2 P (.tbl (ps ++ more))) { s2 with heap := h3, toks := tk } :=
      inv_tab (more := more) (h' := h3) (g' := s2.gens) (d' := s2.drawn) (t' := tk) I2 hP keep3 (by rw [← em]; exact hP3) I2.bare
    obtain ⟨W, ⟨m0, w0⟩, turn⟩ := q (upd H2 P (.tbl (ps ++ more))) ⟨⟨ps ++ more, upd_same, by rw [← em]; exact ht3⟩, fun b hb => upd_ne hb⟩
    generalize hH3 : upd H2 P (.tbl (ps ++ more)) = H3 at I3 w0
    generalize hs4 : ({ s2 with heap := h3, toks := tk } : Shared) = s4 at I3 hn' hs' ⊢
    have hh4 : s4.heap = h3 := by rw [← hs4]
    have st4 : tn 0 s4.heap := T.keep _ _ _ st2 fun b hb o e => by rw [hh4]; exact keep3 b o (nP b hb) e
    have f3 : ∀ b ∈ fp, FpOk X pins H3 b ∧ b < s4.heap.objs.size := fun b hb => by
      refine ⟨⟨?_, (f2 b hb).2⟩, by rw [hh4]; exact Nat.lt_of_lt_of_le (sz2 b hb) hsz⟩
      rw [← hH3, upd_ne (nP b hb)]
      exact (f2 b hb).1
    have hszh : h'.objs.size = s4.heap.objs.size + 1 := by rw [hs'.1, Heap.size_push]
    have keep' : ∀ b o, s4.heap.get? b = some o → h'.get? b = some o := fun b o e => hs'.extBut b o (Nat.ne_of_lt (Heap.lt_size e)) (Heap.get?_push_of_some _ e)
    generalize hoa : ({ cls := .type "generator", data := .fields #[.int s4.gens.size 0, .str "<genexpr>" (s4.toks + 1), .str (X.env.qual ++ "<genexpr>") (s4.toks + 1 + 1)] } : Obj) = oa
    have ga : (h'.push oa).get? h'.objs.size = some oa := Heap.get?_push_size _ (by rw [← hoa]; rfl)
    have isg : (h'.push oa).IsGen h'.objs.size s4.gens.size := by rw [← hoa]; exact ⟨_, _, _, Heap.get?_push_size _ rfl, rfl, rfl, rfl⟩
    generalize hce : genEnv scope (cloFrom X.env.cells scope.names []) s4.heap.objs.size code builtinsNs X.env = cenv
    generalize hA' : X.A.in1.in1.over (.compLoop (.GeneratorExp elt [⟨tg, iter, ifs, 0⟩] scope gpos) 0 (.ref it) .none cenv) [] = A'
    have hfr : A'.frames = some (cenv :: X.stack) := by
      rw [← hA']
      show pushEnvs [cenv] (pushEnvs [] X.A.frames) = _
      rw [I2.ok.frames]
      rfl
    have hdp : A'.depth = X.A.depth + 1 := by rw [← hA']; rfl
    have hun : A'.units = X.A.units + 5 := by rw [← hA']; rfl
    have hhd : A'.handled = none := by rw [← hA']; exact hr.hd
    have hr' : Room k A' := ⟨hhd, by rw [hdp]; have := hr.dp; omega, by rw [hun]; have := hr.un; omega⟩
    have bare5 : AllBare (s4.gens.push (.fresh (.compStart (.GeneratorExp elt [⟨tg, iter, ifs, 0⟩] scope gpos) 0 (.ref it) .none cenv))) := I3.bare.push rfl
    have I5 := gen_start (A' := A') (cenv := cenv) (code := code) (m := fun y => if y = ".0" then some (.ref it) else none) (h5 := h'.push oa) (g' := s4.gens.push (.fresh (.compStart (.GeneratorExp elt [⟨tg, iter, ifs, 0⟩] scope gpos) 0 (.ref it) .none cenv)))
      (t5 := s4.toks + 1 + 1 + 1) (a := h'.objs.size) (oa := oa) I3 ok SC.cell hN f3 hce.symm hfr hhd (hn'.push _) (fun b o e => Heap.get?_push_of_some _ (keep' b o e)) bare5 ga (by omega) (by rw [← hoa]; intro v z; cases z)
    have back : ∀ s' ps' σ' H', Inv (gcx X A' s4 H3 cenv fp) ps' σ' H' s' → Inv X pins σ H' s' := fun s' ps' σ' H' I' =>
      I3.call' (ch := fp) I'.os I'.base I'.hok I'.bare fun b hb => ⟨(f3 b hb).1.2.2.2.1, (f3 b hb).1.2.1, (f3 b hb).1.2.2.2.2.1, (f3 b hb).1.2.2.2.2.2⟩
    have pg : PG (gcx X A' s4 H3 cenv fp) tg g := by rw [← hce]; exact hg A' hr' _ _ _ _ _ _
    have pt : PTs (gcx X A' s4 H3 cenv fp) ifs tt := by rw [← hce]; exact ht A' hr' _ _ _ _ _ _
    have pe : PE (gcx X A' s4 H3 cenv fp) elt te := by rw [← hce]; exact he A' hr' _ _ _ _ _ _
    refine hQ (gcx X A' s4 H3 cenv fp) h'.objs.size oa s4.gens.size (m0 + 1) (wipe σ (own.map (·.2))) _ _ rfl rfl rfl ga isg (Array.getElem?_push_size ..) I5.nolimit bare5 (fun S s'' oS hS e1 e2 e3 e4 e5 e6 => ?_) (fun S hS => Nat.le_trans I5.sz hS) back
    refine ⟨rfl, ?_⟩
    have hS : h'.objs.size + 1 ≤ S := by
      have hS : (h'.push oa).objs.size ≤ S := hS
      rwa [Heap.size_push] at hS
    have fS := I5.fpOk (b := S) (H' := H3) (by show (h'.push oa).objs.size ≤ S; rw [Heap.size_push]; exact hS) (I5.hok.fresh (by show (h'.push oa).objs.size ≤ S; rw [Heap.size_push]; exact hS))
    have I6 : Inv (gcx X A' s4 H3 cenv fp) ([(h'.objs.size, oa)] ++ [(S, oS)]) (wipe σ (own.map (·.2))) H3 s'' := by
      have I6 := Inv.kall I5 e1 e2 e3
      refine I6.pins_of fun p hp => ?_
      rcases List.mem_append.mp hp with hp | hp
      · exact I6.pin p (List.mem_append_right _ hp)
      · have := List.mem_singleton.mp hp
        subst this
        exact ⟨e4, fS.1, fS.2.1, fS.2.2.1, e6⟩
    subst hA'
    refine gen_beginS hc (by rw [← hce]; exact SC.co) T (fun b hb => Nat.ne_of_gt (Nat.lt_trans (f3 b hb).2 (by omega))) (fun b hb => Nat.ne_of_gt (Nat.lt_of_lt_of_le (f3 b hb).2 (by omega))) (Nat.ne_of_lt hS) (by omega) hmono pg pt pe turn m0 γ0 oS _ _ H3 w0 e4 e5 I6 ?_ (fun b hb => (f3 b hb).1.1)
    exact T.keep _ _ _ st4 fun b hb o e => e3 b o (Heap.get?_push_of_some _ (keep' b o e))
  refine ⟨I2.nolimit, ?_⟩
  cases hf : codeAmong gpos ps.toList with
  | none =>
    refine wpAny_genexprCodeX hcode (cd.code hPs hts) (cd.tab hPs) hf fun c' h' tk hx hge hlt hco' _ htab' _ => ?_
    obtain ⟨o1, vs, f1, tf, fl, tg', inF, tx, tt', op, _, _, _, _, _, _, _, _, _, htr, _⟩ := hco'
    exact cont _ h' tk _ hx (Nat.le_trans hge (Nat.le_of_lt hlt)) htab'.2 ⟨_, rfl⟩ htr
  | some cv =>
    refine wpAny_genexprCode_hit hcode (cd.code hPs hts) hf ?_
    exact cont cv s2.heap s2.toks ps (Heap.ExtBut.refl _ _) (Nat.le_refl _) hPs ⟨#[], by simp⟩ hts
end
end GAl

set_option Elab.async false
set_option linter.all false
set_option maxRecDepth 100000
set_option maxHeartbeats 2000000
namespace GAl
open PySem PySem.Spec PyProof.Rows L2 GxR
open Sem (wp)
/-! ### sum of a generator expression of whole numbers -/
abbrev sumObj (T : Int) (t : Tok) (c : Nat) : Obj := { cls := .type "list", dict := none, data := .seq #[.int T t] c, slots := #[] }
def RepSum : Obj → Int → Prop := fun o T => ∃ t c, o = sumObj T t c
def stpSum : Int → V → Hp → (Int → Prop) → Prop := fun T y _ N => ∃ k, y = .int k ∧ N (T + k)
theorem stpSum_mono : ∀ γ y H (p q : Int → Prop), (∀ γ', p γ' → q γ') → stpSum γ y H p → stpSum γ y H q := fun _ _ _ _ _ h ⟨k, e, n⟩ => ⟨k, e, h _ n⟩
theorem repSum_uniq {o : Obj} {T T' : Int} (h : RepSum o T) (h' : RepSum o T') : T = T' := by
  obtain ⟨t, c, rfl⟩ := h
  obtain ⟨t', c', e⟩ := h'
  simp only [sumObj, Obj.mk.injEq, true_and] at e
  have e := e.1
  simp at e
  exact e.1.1
section
variable {X XG : Cx} {A : Around} {a S : Addr} {oa : Obj} {g : Nat} {σw : L2.St} {Qd : Int → Hp → Prop} {R : Result → Shared → Prop}
theorem sum_loop (hh : A.handled = none) (hroom : A.depth < recursionLimit) (hpn : XG.pn = []) (hSy : S ∈ XG.ex ∨ XG.s_0.heap.objs.size ≤ S)
    (hfin : ∀ s' ps σ' H' T t, Inv XG ps σ' H' s' → Qd T H' → R (.ok (.ret (.int T t))) s') :
    ∀ (n : Nat) (s : Shared) (st : Int) (T : Int) (oS : Obj), (st = 0 ∨ st = 2) → s.heap.get? a = some oa → s.heap.get? S = some oS → RepSum oS T → a ≠ S →
      GSt (model X.prog X.w) A.in1.in1 (REndS XG a oa S RepSum σw Qd) (YOutS XG a oa S RepSum stpSum) a g n s → codeAny (model X.prog X.w) A (.builtin "sum.loop" ⟨[.ref a, .ref S, rawInt st, rawInt 0], []⟩) R s := by
  intro n
  induction n with
  | zero =>
    intro s st T oS hst2 hoa hS hRep haS ⟨hg, hl, gs, hgs, hgo⟩
    obtain ⟨tA, c, eS⟩ := hRep
    have hS2 := hS
    rw [eS] at hS2
    refine codeAny_builtin F.entry_sum_loop ?_
    rw [Around.under_plainId F.plain_sum_loop _]
    show wpAny _ A.in1 (seqItems? (.ref S) >>= _) _ _ s
    refine wpAny_bind (wpAny_seqItems hS2 rfl ?_)
    show wpAny _ A.in1 (tryCatch (pyNext (.ref a)) _ >>= _) _ _ s
    refine wpAny_bind (wpAny_tryCatch (next_sz (A := A.in1) hh hl hroom hg hgs hgo (fun v s₁ gs' hsz hb hv => ?_) (fun s₁ hsz hp h' hk => ?_)))
    · obtain ⟨γ, oS', y, H4, σ4, e1, e2, I4, r, k, rfl, nn⟩ := hv
      have e1 : s.heap.get? S = some oS' := e1
      rw [hS] at e1; cases e1
      have eγ : γ = T := repSum_uniq e2 ⟨tA, c, eS⟩
      subst eγ
      obtain ⟨t, rfl⟩ := r
      have hS' : s₁.heap.get? S = some (sumObj γ tA c) := by rw [← eS]; exact (I4.pin (S, oS) (by rw [hpn]; simp)).1
      have ha : s₁.heap.get? a = some oa := (I4.pin (a, oa) (by rw [hpn]; simp)).1
      obtain ⟨x, hx⟩ := gens_some hgs hsz rfl
      have fin : ∀ (h2 : Heap) (tk : Nat) (st' : Int), (st' = 0 ∨ st' = 2) → (∀ b o, b ≠ S → s₁.heap.get? b = some o → h2.get? b = some o) → (∃ t' c', h2.get? S = some (sumObj (γ + k) t' c')) →
          codeAny (model X.prog X.w) A (.builtin "sum.loop" ⟨[.ref a, .ref S, rawInt st', rawInt 0], []⟩) R { s₁.setGen g gs' with heap := h2, toks := tk } := fun h2 tk st' hst' hk ⟨t', c', hS3⟩ => by
        exact False.elim (nn { s₁.setGen g gs' with heap := h2, toks := tk } _ rfl (bare_set I4.bare hb) hk hS3 ⟨t', c', rfl⟩ (fun v z => by cases z))
      rcases hst2 with rfl | rfl
      · show wpAny _ A.in1 (if (_ : Bool) = true then (mkInt (γ + k) >>= _) else _) _ _ _
        split
        · refine wpAny_bind (wpAny_mkInt ?_)
          show wpAny _ A.in1 (updateSeq S (fun _ => #[.int (γ + k) s₁.toks]) >>= _) _ _ _
          refine wpAny_bind (wpAny_updateSeq hS' rfl (wpAny_pure ⟨plainId_quiet F.plain_sum_loop _, fin _ _ 0 (.inl rfl) (fun b o hb e => ?_) ⟨_, _, Heap.get?_update_self _ hS' rfl⟩⟩))
          exact (Heap.get?_update_other _ _ (Ne.symm hb)).trans e
        · refine wpAny_bind (wpAny_rule ?_)
          refine wpAny_bind (wpAny_attempt (wpAny_holding (wpAny_add_int ?_)))
          show wpAny _ A.in1 (updateSeq S (fun _ => #[.int (γ + k) s₁.toks]) >>= _) _ _ _
          refine wpAny_bind (wpAny_updateSeq hS' rfl ?_)
          have hS₂ := Heap.get?_update_self (Obj.mapSeq fun _ => #[Value.int (γ + k) s₁.toks]) hS' rfl
          refine wpAny_bind (wpAny_letGo ?_)
          refine wpAny_bind (wpAny_updateSeq hS₂ rfl (wpAny_pure ⟨plainId_quiet F.plain_sum_loop _, fin _ _ 2 (.inr rfl) (fun b o hb e => ?_) ⟨_, _, Heap.get?_update_self _ hS₂ rfl⟩⟩))
          exact (Heap.get?_update_other _ _ (Ne.symm hb)).trans ((Heap.get?_update_other _ _ (Ne.symm hb)).trans e)
      · show wpAny _ A.in1 ((holding [Value.int k t] (binaryOp .Add (.int γ tA) (.int k t))).attempt >>= _) _ _ _
        refine wpAny_bind (wpAny_attempt (wpAny_holding (wpAny_add_int ?_)))
        show wpAny _ A.in1 (updateSeq S (fun _ => #[.int (γ + k) s₁.toks]) >>= _) _ _ _
        refine wpAny_bind (wpAny_updateSeq hS' rfl ?_)
        have hS₂ := Heap.get?_update_self (Obj.mapSeq fun _ => #[Value.int (γ + k) s₁.toks]) hS' rfl
        refine wpAny_bind (wpAny_letGo ?_)
        refine wpAny_bind (wpAny_updateSeq hS₂ rfl (wpAny_pure ⟨plainId_quiet F.plain_sum_loop _, fin _ _ 2 (.inr rfl) (fun b o hb e => ?_) ⟨_, _, Heap.get?_update_self _ hS₂ rfl⟩⟩))
        exact (Heap.get?_update_other _ _ (Ne.symm hb)).trans ((Heap.get?_update_other _ _ (Ne.symm hb)).trans e)
    · obtain ⟨γ, oS', H4, e1, e2, I4, q⟩ := hp
      have e1 : s.heap.get? S = some oS' := e1
      rw [hS] at e1; cases e1
      have eγ : γ = T := repSum_uniq e2 ⟨tA, c, eS⟩
      subst eγ
      exact wpAny_pure (hfin _ _ σw H4 _ _ (Inv.kall I4 rfl (bare_set I4.bare rfl) hk) q)
  | succ n ih =>
    intro s st T oS hst2 hoa hS hRep haS ⟨hg, hl, gs, hgs, hgo⟩
    obtain ⟨tA, c, eS⟩ := hRep
    have hS2 := hS
    rw [eS] at hS2
    refine codeAny_builtin F.entry_sum_loop ?_
    rw [Around.under_plainId F.plain_sum_loop _]
    show wpAny _ A.in1 (seqItems? (.ref S) >>= _) _ _ s
    refine wpAny_bind (wpAny_seqItems hS2 rfl ?_)
    show wpAny _ A.in1 (tryCatch (pyNext (.ref a)) _ >>= _) _ _ s
    refine wpAny_bind (wpAny_tryCatch (next_sz (A := A.in1) hh hl hroom hg hgs hgo (fun v s₁ gs' hsz hb hv => ?_) (fun s₁ hsz hp h' hk => ?_)))
    · obtain ⟨γ, oS', y, H4, σ4, e1, e2, I4, r, k, rfl, nn⟩ := hv
      have e1 : s.heap.get? S = some oS' := e1
      rw [hS] at e1; cases e1
      have eγ : γ = T := repSum_uniq e2 ⟨tA, c, eS⟩
      subst eγ
      obtain ⟨t, rfl⟩ := r
      have hS' : s₁.heap.get? S = some (sumObj γ tA c) := by rw [← eS]; exact (I4.pin (S, oS) (by rw [hpn]; simp)).1
      have ha : s₁.heap.get? a = some oa := (I4.pin (a, oa) (by rw [hpn]; simp)).1
      obtain ⟨x, hx⟩ := gens_some hgs hsz rfl
      have fin : ∀ (h2 : Heap) (tk : Nat) (st' : Int), (st' = 0 ∨ st' = 2) → (∀ b o, b ≠ S → s₁.heap.get? b = some o → h2.get? b = some o) → (∃ t' c', h2.get? S = some (sumObj (γ + k) t' c')) →
          codeAny (model X.prog X.w) A (.builtin "sum.loop" ⟨[.ref a, .ref S, rawInt st', rawInt 0], []⟩) R { s₁.setGen g gs' with heap := h2, toks := tk } := fun h2 tk st' hst' hk ⟨t', c', hS3⟩ => by
        refine ih _ st' (γ + k) _ hst' (hk a oa haS ha) hS3 ⟨t', c', rfl⟩ haS ⟨isgen_of hg hoa (hk a oa haS ha), ?_, gs', setGen_self hx, ?_⟩
        · exact (Inv.kallS (ps := [(a, oa)]) (s'' := { s₁.setGen g gs' with heap := h2, toks := tk }) I4 hSy (by rw [hpn]; intro p hp; have := List.mem_singleton.mp hp; subst this; exact haS) rfl (bare_set I4.bare hb) hk hS3 (fun v z => by cases z)).nolimit
        · exact nn (Shared.setGen { s₁.setGen g gs' with heap := h2, toks := tk } g .running) _ rfl (bare_set (bare_set I4.bare hb) rfl) hk hS3 ⟨t', c', rfl⟩ (fun v z => by cases z)
      rcases hst2 with rfl | rfl
      · show wpAny _ A.in1 (if (_ : Bool) = true then (mkInt (γ + k) >>= _) else _) _ _ _
        split
        · refine wpAny_bind (wpAny_mkInt ?_)
          show wpAny _ A.in1 (updateSeq S (fun _ => #[.int (γ + k) s₁.toks]) >>= _) _ _ _
          refine wpAny_bind (wpAny_updateSeq hS' rfl (wpAny_pure ⟨plainId_quiet F.plain_sum_loop _, fin _ _ 0 (.inl rfl) (fun b o hb e => ?_) ⟨_, _, Heap.get?_update_self _ hS' rfl⟩⟩))
          exact (Heap.get?_update_other _ _ (Ne.symm hb)).trans e
        · refine wpAny_bind (wpAny_rule ?_)
          refine wpAny_bind (wpAny_attempt (wpAny_holding (wpAny_add_int ?_)))
          show wpAny _ A.in1 (updateSeq S (fun _ => #[.int (γ + k) s₁.toks]) >>= _) _ _ _
          refine wpAny_bind (wpAny_updateSeq hS' rfl ?_)
          have hS₂ := Heap.get?_update_self (Obj.mapSeq fun _ => #[Value.int (γ + k) s₁.toks]) hS' rfl
          refine wpAny_bind (wpAny_letGo ?_)
          refine wpAny_bind (wpAny_updateSeq hS₂ rfl (wpAny_pure ⟨plainId_quiet F.plain_sum_loop _, fin _ _ 2 (.inr rfl) (fun b o hb e => ?_) ⟨_, _, Heap.get?_update_self _ hS₂ rfl⟩⟩))
          exact (Heap.get?_update_other _ _ (Ne.symm hb)).trans ((Heap.get?_update_other _ _ (Ne.symm hb)).trans e)
      · show wpAny _ A.in1 ((holding [Value.int k t] (binaryOp .Add (.int γ tA) (.int k t))).attempt >>= _) _ _ _
        refine wpAny_bind (wpAny_attempt (wpAny_holding (wpAny_add_int ?_)))
        show wpAny _ A.in1 (updateSeq S (fun _ => #[.int (γ + k) s₁.toks]) >>= _) _ _ _
        refine wpAny_bind (wpAny_updateSeq hS' rfl ?_)
        have hS₂ := Heap.get?_update_self (Obj.mapSeq fun _ => #[Value.int (γ + k) s₁.toks]) hS' rfl
        refine wpAny_bind (wpAny_letGo ?_)
        refine wpAny_bind (wpAny_updateSeq hS₂ rfl (wpAny_pure ⟨plainId_quiet F.plain_sum_loop _, fin _ _ 2 (.inr rfl) (fun b o hb e => ?_) ⟨_, _, Heap.get?_update_self _ hS₂ rfl⟩⟩))
        exact (Heap.get?_update_other _ _ (Ne.symm hb)).trans ((Heap.get?_update_other _ _ (Ne.symm hb)).trans e)
    · obtain ⟨γ, oS', H4, e1, e2, I4, q⟩ := hp
      have e1 : s.heap.get? S = some oS' := e1
      rw [hS] at e1; cases e1
      have eγ : γ = T := repSum_uniq e2 ⟨tA, c, eS⟩
      subst eγ
      exact wpAny_pure (hfin _ _ σw H4 _ _ (Inv.kall I4 rfl (bare_set I4.bare rfl) hk) q)

def tSumG (P : Addr) (wi : TI) (g : TG) (tt : TT) (te : TE) (vs : List Nat) : TE := fun σ H Q => tGenS P wi g tt te vs stpSum (0 : Int) (fun T H' => Q (.int T) H') σ H
theorem pe_sumG {c P : Addr} {elt tg iter : Expr} {ifs : List Expr} {p pos gpos : Pos} {scope : Scope} {own : List (Str × Nat)} {wi : TI} {g : TG} {tt : TT} {te : TE} {k : Nat}
    (hr : Room (k + 1) X.A) (hgl : Gl X "sum") (hm : X.mg "sum" = none) (hc : X.calm = true) (hN : X.N.Nodup) (TB : TabB X.base X.mg c P) (hcode : X.env.code = .ref c) (S : GSc X.N X.env.scope scope own) (hi : PI X tg iter wi)
    (hg : ∀ (A' : Around), Room k A' → ∀ (s : Shared) (H : Hp) (cl : List (Str × Addr)) (C : Addr) (code : Value) (fp : List Addr), PG (gcx X A' s H (genEnv scope cl C code builtinsNs X.env) fp) tg g)
    (ht : ∀ (A' : Around), Room k A' → ∀ (s : Shared) (H : Hp) (cl : List (Str × Addr)) (C : Addr) (code : Value) (fp : List Addr), PTs (gcx X A' s H (genEnv scope cl C code builtinsNs X.env) fp) ifs tt)
    (he : ∀ (A' : Around), Room k A' → ∀ (s : Shared) (H : Hp) (cl : List (Str × Addr)) (C : Addr) (code : Value) (fp : List Addr), PE (gcx X A' s H (genEnv scope cl C code builtinsNs X.env) fp) elt te)
    (hs : ∀ v, genFold iter X.env v = pure v := by intro _; rfl)
    (hst : starEach [.GeneratorExp elt [⟨tg, iter, ifs, 0⟩] scope gpos] X.env = (false, eval (.GeneratorExp elt [⟨tg, iter, ifs, 0⟩] scope gpos) X.env) :: starEach [] X.env := by rfl)
    (hb : bootBuiltins "sum" = some (.builtin "sum") := by decide +kernel) :
    PE X (.Call (.Name "sum" p) [.GeneratorExp elt [⟨tg, iter, ifs, 0⟩] scope gpos] [] pos) (tSumG P wi g tt te (own.map (·.2))) := by
  refine ⟨fun pins s σ H Q I h => ?_⟩
  refine wpAny_Call_Name_kw (ld_blt I hgl hm hb ?_)
  refine PyProof.Rows.callWith_builtin1 ?_ hst (by rfl)
  rw [hst]
  show wpAny _ _ (spliced ((false, eval (.GeneratorExp elt [⟨tg, iter, ifs, 0⟩] scope gpos) X.env) :: backTo pos (starEach [] X.env))) _ _ s
  refine Calls.spliced_cons (gen_makeS (Rep := RepSum) hr hc hN TB hcode S hi hg ht he stpSum_mono hs I h fun XG a oa gn n σw s5 gs eP eW epn ha hG hgs hnl hb5 go hy back => ?_)
  refine Calls.spliced_nil ?_
  refine call_function_tree F.kind_sum F.plain_sum F.entry_sum (F.args_sum1 _) ?_
  unfold Builtin.«sum»
  simp only [List.length_cons, List.length_nil]
  rw [if_neg (by decide)]
  refine wpAny_bind (wpAny_of_eq (show Builtin.Builtins.bindParams "sum" ["start"] 0 { } = pure [none] from rfl) ?_)
  refine wpAny_bind (wpAny_pyIter_gen hG ?_)
  refine wpAny_bind (wpAny_mkInt ?_)
  refine wpAny_bind (wpAny_pure ?_)
  simp only [List.forIn_cons, List.forIn_nil]
  refine wpAny_bind (wpAny_bind (wpAny_bind (wpAny_isInstance (T := "int") (b := false) (typeIs_int _ _ _) PySem.sub_int_str ?_)))
  simp only [Bool.false_eq_true, if_false]
  refine wpAny_pure (wpAny_bind (wpAny_bind (wpAny_isInstance (T := "int") (b := false) (typeIs_int _ _ _) PySem.sub_int_bytes ?_)))
  simp only [Bool.false_eq_true, if_false]
  refine wpAny_pure (wpAny_bind (wpAny_bind (wpAny_isInstance (T := "int") (b := false) (typeIs_int _ _ _) PySem.sub_int_bytearray ?_)))
  simp only [Bool.false_eq_true, if_false]
  refine wpAny_pure (wpAny_pure ?_)
  refine wpAny_bind (wpAny_newObj_type ?_)
  have hS : (s5.heap.push (sumObj 0 s5.toks 0)).get? s5.heap.objs.size = some (sumObj 0 s5.toks 0) := Heap.get?_push_size _ rfl
  have keep : ∀ b o, s5.heap.get? b = some o → (s5.heap.push (sumObj 0 s5.toks 0)).get? b = some o := fun b o e => Heap.get?_push_of_some _ e
  refine wpAny_pure ⟨plainId_quiet F.plain_sum_loop _, sum_loop (X := X) (XG := XG) (oa := oa) (g := gn) (σw := σw) (Qd := fun T H' => Q (.int T) H') hr.hd (by have := hr.dp; omega) epn (.inr (hy _ (Nat.le_refl _))) (fun s' ps σ' H' T t I' q => ?_) n _ 0 0 _ (.inl rfl) (keep _ _ ha) hS ⟨_, _, rfl⟩ (Nat.ne_of_lt (Heap.lt_size ha)) ⟨isgen_of hG ha (keep _ _ ha), hnl.keeps keep, gs, hgs, ?_⟩⟩
  · exact ⟨.int T, H', back s' _ σ' H' I', ⟨t, rfl⟩, q⟩
  · exact go _ (Shared.setGen _ gn .running) _ (Nat.le_refl _) rfl (bare_set hb5 rfl) keep hS ⟨_, _, rfl⟩ (fun v z => by cases z)
end
end GAl

set_option Elab.async false
set_option linter.all false
set_option maxRecDepth 100000
set_option maxHeartbeats 4000000
namespace HK
open PySem PySem.Spec PyProof.Rows L2 GAl GxR DTu
abbrev sNeedTree : Stmt := topS 22
theorem scNeedTree : FnScope ["net", "root", "ahead"] ["net", "root", "ahead"] (defScope sNeedTree) := ⟨rfl, rfl, rfl, by decide +kernel, rfl, by decide +kernel, by decide +kernel⟩
section
variable {P : Program} {w : World} {K : PySem.W.Frag} {mg : Str → Option Value} {base : Heap}
def spNeedTree (K : PySem.W.Frag) (Pp Pg : Addr) : Sp := fun vs H Q _ => ∃ (a : Addr) (n : Int) (rs : List R4) (root : Int) (p : Addr) (kvs : List (Key × V)) (g : IF), vs = [.ref a, .int root, .ref p] ∧ NetAt K H a n rs ∧ Good n rs ∧ rs.length ≤ 156 ∧
  H p = some (.dK kvs) ∧ DI kvs g ∧ kvs.length ≤ 5000 ∧ TreeP rs root g kvs.length ∧ TabG H Pp ∧ TabG H Pg ∧ ∀ (H' : Hp), K0 H H' → Q .non H'
theorem ok_needtree {f fG Pp Pg : Addr} {fd fdG : FuncData} (F : Fun K "need_tree" "need_tree" sNeedTree f fd)
    (kG : PySem.W.keepIn K (.ref fG) = true) (bG : Binds K fdG ["net", "root", "ahead"] []) (gG : mg "grows" = some (.ref fG)) (GG : FnOk P w K mg base CX0 4 fG fdG ["net", "root", "ahead"] (spGrows K Pp Pg)) :
    FnOk P w K mg base CX0 5 f fd ["net", "root", "ahead"] (spNeedTree K Pp Pg) := by
  refine F.ok scNeedTree (fun vs H Q E h => ?_) (fun cdv A outer s H vs Q E hr h => ?_)
  · obtain ⟨a, n, rs, v, p, kvs, g, rfl, _⟩ := h
    rfl
  · obtain ⟨a, n, rs, root, p, kvs, g, rfl, hN, hG, hl, hp, hD, hkl, hT, tp, tg, q⟩ := h
    refine ⟨_, pss_one (ps_if (pt_not (pt_val (pe_call GG hr (by rfl) gG kG bG .nil pass0 (pa_cons (pv 0) (pa_cons (pv 1) (pa_cons (pv 2) pa_nil)))))) pss_never pss_nil), ?_⟩
    refine ⟨_, rfl, _, rfl, _, rfl, a, n, rs, root, p, kvs, g, rfl, hN, hG, hl, hp, hD, hkl, tp, tg, fun H' b k hb => ?_⟩
    have : b = true := hb.mpr hT
    subst this
    exact ⟨_, rfl, iteF (q H' k)⟩
end
end HK

set_option Elab.async false
set_option linter.all false
set_option maxRecDepth 100000
set_option maxHeartbeats 4000000
namespace HK
open PySem PySem.Spec PyProof.Rows L2 GAl GxR DTu
open Evl (pss_cut)
/-! ### latenesses -/
abbrev sLates : Stmt := topS 26
abbrev sUp : Stmt := topS 29
abbrev sLateness : Stmt := topS 28
theorem scLates : FnScope ["net", "start", "end", "cost", "late"] ["net"] (defScope sLates) := ⟨rfl, rfl, rfl, by decide +kernel, rfl, by decide +kernel, by decide +kernel⟩
theorem scUp : FnScope ["lates", "root", "ahead", "place", "total"] ["lates", "root", "ahead", "place"] (defScope sUp) := ⟨rfl, rfl, rfl, by decide +kernel, rfl, by decide +kernel, by decide +kernel⟩
theorem scLateness : FnScope ["net", "root", "ahead", "lates", "told", "place"] ["net", "root", "ahead"] (defScope sLateness) := ⟨rfl, rfl, rfl, by decide +kernel, rfl, by decide +kernel, by decide +kernel⟩
def lsum (rs : List R4) (root : Int) (g : IF) : Nat → Int → Int
  | 0, _ => 0
  | k + 1, v => lsum rs root g k v + (if clm g k v = root then 0 else ((road rs (stp g (clm g k v)) (clm g k v)).map (·.l)).getD 0)
theorem lsum_stop {rs : List R4} {root : Int} {g : IF} (hr : g root = none) {v : Int} {k : Nat} (h : clm g k v = root) : ∀ j, lsum rs root g (k + j) v = lsum rs root g k v
  | 0 => rfl
  | j + 1 => by
    show lsum rs root g (k + j) v + _ = _
    rw [lsum_stop hr h j, if_pos (show clm g (k.add j) v = root from clm_root hr h j), Int.add_zero]
/-- what is told, key by key -/
def latF (rs : List R4) (root : Int) (g : IF) (m : Nat) (l : List (Key × V)) : IF := l.foldl (fun f p => match p.1 with | .inl v => put f v (lsum rs root g m v) | .inr _ => f) (ini root)
theorem latF_take {rs : List R4} {root : Int} {g : IF} {m : Nat} {kvs : List (Key × V)} {i : Nat} {v : Int} {x : V} (h : kvs[i]? = some (Sum.inl v, x)) : latF rs root g m (kvs.take (i + 1)) = put (latF rs root g m (kvs.take i)) v (lsum rs root g m v) := by
  unfold latF
  rw [List.take_add_one, h, List.foldl_append]
  rfl
section
variable {P : Program} {w : World} {K : PySem.W.Frag} {mg : Str → Option Value} {base : Heap}
theorem ok_lates {f : Addr} {fd : FuncData} (F : Fun K "road_lates" "road_lates" sLates f fd) : FnOk P w K mg base CX0 1 f fd ["net"] (spTab (·.l) K) := by
  refine F.ok scLates (fun vs H Q E h => ?_) (fun cdv A outer s H vs Q E hr h => ?_)
  · obtain ⟨a, n, rs, rfl, _⟩ := h
    rfl
  · obtain ⟨a, n, rs, rfl, hN, G, hl, q⟩ := h
    have hu := hu_of hr
    refine ⟨_, pss_one (ps_ret (pe_dcT (own := [("start", 1), ("end", 2), ("cost", 3), ("late", 4)]) (g := gTup K 4 (gCons (gName 1) (gCons (gName 2) (gCons (gName 3) (gCons (gName 4) gNil))))) (tt := tYes) (tk := tTup (tCons (tVar 1) (tCons (tVar 2) tNil))) (tv := tVar 4) (Nat.lt_of_succ_lt hu) rfl scLates.nd (pi_tup (pe_ix ix_tup (pv 0) pe_int (fun _ _ => rfl)))
      (blkOk_by (N := ["net", "start", "end", "cost", "late"]) (sc := defScope sLates) (by decide +kernel))
      (fun _ _ _ _ _ => pg_tup rfl (pgs_cons (pg_name (i := 1) scLates.nd rfl (.inl rfl)) (pgs_cons (pg_name (i := 2) scLates.nd rfl (.inl rfl)) (pgs_cons (pg_name (i := 3) scLates.nd rfl (.inl rfl)) (pgs_cons (pg_name (i := 4) scLates.nd rfl (.inl rfl)) pgs_nil)))))
      (fun _ _ _ _ _ => pts_nil) (fun _ _ _ _ _ => pe_tup (pa_cons (pv 1) (pa_cons (pv 2) pa_nil))) (fun _ _ _ _ _ => pv 4))), ?_⟩
    obtain ⟨r, xs, o, h1, h2, hc, hd, h3⟩ := hN
    have hxs : SqT K H r xs := h2
    have hrl : xs.length = rs.length := h3.len
    refine ⟨_, rfl, a, _, 1, .ref r, rfl, rfl, h1, atI_nat (j := 1) rfl, r, rfl, ⟨xs, hxs⟩, fun D nD => ?_⟩
    refine ⟨fun i m H' => i + m = xs.length ∧ K0 H H' ∧ ∃ kvs, H' D = some (.dT kvs) ∧ TabP (·.l) (rs.take i) kvs, ⟨xs.length, by omega, K0.new nD, [], upd_same, by rw [List.take_zero]; exact ⟨Nat.le_refl _, fun _ _ => rfl⟩⟩, fun i m H' hW => ?_⟩
    obtain ⟨em, k3, kvs, hD, hT⟩ := hW
    have hY : SqT K H' r xs := k3.sqT hxs
    by_cases hi : i < xs.length
    · have g1 : xs[i]? = some xs[i] := List.getElem?_eq_getElem hi
      obtain ⟨t, q1, hrd, hx, hs⟩ := road_at h3 g1
      have htk : rs.take (i + 1) = rs.take i ++ [t] := by rw [List.take_add_one, hrd]; rfl
      refine .inr ⟨⟨_, _, hY, g1⟩, fun H' => K0 H H' ∧ ∃ kvs, H' D = some (.dT kvs) ∧ TabP (·.l) (rs.take (i + 1)) kvs, fun H' hN => ⟨m - 1, by omega, by omega, hN⟩, fun x' H2 hy => ?_⟩
      obtain ⟨rfl, fx⟩ := hy
      have ex : x' = xs[i] := Option.some.inj ((fx _ hY).symm.trans g1)
      rw [hx] at ex
      subst ex
      refine ⟨q1, _, rfl, k3.sqT hs, rfl, _, _, rfl, _, _, rfl, _, _, rfl, _, _, rfl, rfl, rfl, tyes ?_⟩
      refine ⟨_, rfl, _, rfl, by show 2 ≤ sizeLine; decide, fun kt nkt => ⟨_, rfl, ?_⟩⟩
      have hne : D ≠ kt := fun z => by rw [z, nkt] at hD; cases hD
      have hD2 : upd H2 kt (.tup [.int t.s, .int t.e]) D = some (.dT kvs) := by rw [upd_ne hne]; exact hD
      have hll : kvs.length < sizeLine := Nat.lt_of_le_of_lt (m := 5000) (by have := hT.1; have := List.length_take_le i rs; omega) (by decide)
      refine ⟨_, DPut.t (k := [Sum.inl t.s, Sum.inl t.e]) hD2 upd_same hll, (k3.mut (k3.dom kt nkt)).mut nD, _, upd_same, ?_⟩
      rw [htk]
      refine TabP.put ?_ hT
      rw [← htk]
      exact List.Pairwise.sublist (List.take_sublist _ _) G.up
    · refine .inl ⟨⟨_, hY, by omega⟩, q D kvs H' k3 nD hD ?_⟩
      rwa [List.take_of_length_le (by omega)] at hT
/-- the latenesses of one way -/
def spUp (K : PySem.W.Frag) : Sp := fun vs H Q _ => ∃ (D : Addr) (ts : List (List Key × V)) (rs : List R4) (root : Int) (p : Addr) (kvs : List (Key × V)) (g : IF) (v : Int), vs = [.ref D, .int root, .ref p, .int v] ∧ H D = some (.dT ts) ∧ TabP (·.l) rs ts ∧ Rd H p (.dK kvs) ∧ DI kvs g ∧
  g root = none ∧ (∀ v x, g v = some x → (road rs x v).isSome = true) ∧ clm g kvs.length v = root ∧ ∀ H', K0 H H' → Q (.int (lsum rs root g kvs.length v)) H'
theorem ok_up {f : Addr} {fd : FuncData} (F : Fun K "lateness_up" "lateness_up" sUp f fd) : FnOk P w K mg base CX0 1 f fd ["lates", "root", "ahead", "place"] (spUp K) := by
  refine F.ok scUp (fun vs H Q E h => ?_) (fun cdv A outer s H vs Q E hr h => ?_)
  · obtain ⟨D, ts, rs, root, p, kvs, g, v, rfl, _⟩ := h
    rfl
  · obtain ⟨D, ts, rs, root, p, kvs, g, v, rfl, hD, hTP, hp, hDI, hroot, hroads, hend, q⟩ := h
    have hu := hu_of hr
    refine ⟨_, pss_cons (ps_set (i := 4) scUp.nd rfl (.inl rfl) pe_int)
      (pss_cons (ps_while PassesOwn.never (pt_cmpR op_ne (pv 3) (pv 1) (nomark _))
        (pss_cons (ps_aug (i := 4) scUp.nd rfl (.inl rfl) (pe_dget hu (pv 0) (pe_tup (pa_cons (pe_dget hu (pv 2) (pv 3) (fun _ _ => rfl)) (pa_cons (pv 3) pa_nil))) (fun _ _ => rfl)) ip_add)
        (pss_one (ps_set (i := 3) scUp.nd rfl (.inl rfl) (pe_dget hu (pv 2) (pv 3) (fun _ _ => rfl))))))
      (pss_one (ps_ret (pv 4)))), ?_⟩
    refine ⟨fun m σ' H' => ∃ k, σ' = [some (.ref D), some (.int root), some (.ref p), some (.int (clm g k v)), some (.int (lsum rs root g k v))] ∧ K0 H H' ∧ k + m = kvs.length, ⟨kvs.length, 0, rfl, K0.refl _, by omega⟩, ?_⟩
    rintro m σ' H' ⟨k, rfl, k1, em⟩
    refine ⟨_, rfl, _, rfl, rfl, _, rfl, ?_⟩
    by_cases hc : clm g k v = root
    · rw [decide_eq_true (show V.int (clm g k v) = V.int root by rw [hc])]
      refine ⟨_, rfl, ?_⟩
      have := lsum_stop (rs := rs) hroot hc (kvs.length - k)
      rw [show k + (kvs.length - k) = kvs.length by omega] at this
      rw [← this]
      exact q _ k1
    · rw [decide_eq_false (show ¬ V.int (clm g k v) = V.int root from fun z => hc (V.int.inj z))]
      obtain ⟨x, ex⟩ := (clm_in hroot hend k).resolve_left hc
      have hkl : k < kvs.length := by
        refine Nat.lt_of_not_le fun hle => hc ?_
        have := clm_root hroot hend (k - kvs.length)
        rwa [show kvs.length + (k - kvs.length) = k by omega] at this
      obtain ⟨r, er⟩ := Option.isSome_iff_exists.mp (hroads _ _ ex)
      have dg := dgetR (k1.rd hp) hDI (clm g k v)
      rw [ex] at dg
      have hD1 := k1.oth D _ hD (fun _ z => by cases z)
      refine ⟨fun σ' H' => ∃ k', k' = k + 1 ∧ σ' = [some (.ref D), some (.int root), some (.ref p), some (.int (clm g k' v)), some (.int (lsum rs root g k' v))] ∧ K0 H H', fun σ' H' ⟨k', e1, e2, e3⟩ => ⟨m - 1, by omega, k', e2, e3, by omega⟩, ?_⟩
      refine ⟨_, rfl, _, rfl, _, rfl, _, rfl, p, _, rfl, dg, _, rfl, by show 2 ≤ sizeLine; decide, fun kt nkt => ?_⟩
      have kk := k1.mut (o := .tup [.int x, .int (clm g k v)]) (k1.dom kt nkt)
      have hDk : upd H' kt (.tup [.int x, .int (clm g k v)]) D = some (.dT ts) := by rw [upd_ne (ne_of_none hD1 nkt)]; exact hD1
      have dt := DGet.t (k := [Sum.inl x, Sum.inl (clm g k v)]) hDk upd_same
      rw [hTP.2, er] at dt
      refine ⟨D, _, rfl, dt, _, _, rfl, rfl, ?_⟩
      have dg2 := dgetR (kk.rd hp) hDI (clm g k v)
      rw [ex] at dg2
      refine ⟨_, rfl, _, rfl, p, _, rfl, dg2, k + 1, rfl, ?_, kk⟩
      have e1 : clm g (k + 1) v = x := stp_some ex
      have e2 : lsum rs root g (k + 1) v = lsum rs root g k v + r.l := by
        show lsum rs root g k v + (if clm g k v = root then 0 else _) = _
        rw [if_neg hc, stp_some ex, er]
        rfl
      rw [e1, e2]
      rfl
end
end HK

set_option Elab.async false
set_option linter.all false
set_option maxRecDepth 100000
set_option maxHeartbeats 4000000
namespace HK
open PySem PySem.Spec PyProof.Rows L2 GAl GxR
open Evl (pss_cut)
abbrev sALates : Stmt := topS 45
abbrev N_scALates : List Str := ["net", "root", "ahead", "found", "turn", "i", "j", "cost", "late"]
theorem scALates : FnScope N_scALates ["net", "root", "ahead"] (defScope sALates) := ⟨rfl, rfl, rfl, by decide +kernel, rfl, by decide +kernel, by decide +kernel⟩
/-! ### latenesses along a tree, found by rounds through the roads -/
theorem clm_sft (g : IF) (v : Int) : ∀ m, clm g (m + 1) v = clm g m (stp g v)
  | 0 => rfl
  | m + 1 => by
    show stp g (clm g (m + 1) v) = stp g (clm g m (stp g v))
    rw [clm_sft g v m]
section
variable {rs : List R4} {root : Int} {g : IF} {m : Nat}
theorem lsum_sft (v : Int) : ∀ m, lsum rs root g (m + 1) v = (if v = root then 0 else ((road rs (stp g v) v).map (·.l)).getD 0) + lsum rs root g m (stp g v)
  | 0 => by
    show (0 : Int) + (if v = root then 0 else ((road rs (stp g v) v).map (·.l)).getD 0) = (if v = root then 0 else ((road rs (stp g v) v).map (·.l)).getD 0) + 0
    omega
  | m + 1 => by
    show lsum rs root g (m + 1) v + (if clm g (m + 1) v = root then 0 else ((road rs (stp g (clm g (m + 1) v)) (clm g (m + 1) v)).map (·.l)).getD 0) = _
    rw [lsum_sft v m, clm_sft g v m]
    show _ = _ + (lsum rs root g m (stp g v) + (if clm g m (stp g v) = root then 0 else ((road rs (stp g (clm g m (stp g v))) (clm g m (stp g v))).map (·.l)).getD 0))
    omega
theorem lat_step (hT : TreeP rs root g m) (up : rs.Pairwise R4.lt) {r : R4} (hr : r ∈ rs) (e : g r.e = some r.s) : lsum rs root g m r.e = lsum rs root g m r.s + r.l := by
  have ne : r.e ≠ root := fun z => by
    rw [z, hT.1] at e
    cases e
  have h1 := lsum_sft (rs := rs) (root := root) (g := g) r.e m
  rw [if_neg ne, stp_some e, road_of up hr] at h1
  have h2 := lsum_stop (rs := rs) hT.1 (hT.2.2 _ _ e) 1
  have h3 : ((some r).map (·.l)).getD 0 = r.l := rfl
  omega
theorem lsum_root (hr : g root = none) : lsum rs root g m root = 0 := by
  have := lsum_stop (rs := rs) (k := 0) (v := root) hr rfl m
  rw [Nat.zero_add] at this
  exact this
open Classical in
theorem latF_v {g : IF} {m : Nat} (l : List (Key × V)) (v : Int) : latF rs root g m l v = if (Sum.inl v : Key) ∈ l.map (fun p : Key × V => p.1) then some (lsum rs root g m v) else ini root v := by
  have gen : ∀ (l : List (Key × V)) (f0 : IF), l.foldl (fun f p => match p.1 with | .inl v => put f v (lsum rs root g m v) | .inr _ => f) f0 v = if (Sum.inl v : Key) ∈ l.map (fun p : Key × V => p.1) then some (lsum rs root g m v) else f0 v := fun l => by
    induction l with
    | nil => intro f0; rw [if_neg (fun z => by cases z)]; rfl
    | cons p l ih =>
      intro f0
      rw [List.foldl_cons, ih]
      by_cases hm : (Sum.inl v : Key) ∈ l.map (fun p : Key × V => p.1)
      · rw [if_pos hm, if_pos (by rw [List.map_cons]; exact List.mem_cons_of_mem _ hm)]
      · rw [if_neg hm]
        obtain ⟨pk, pv⟩ := p
        cases pk with
        | inl u =>
          show put f0 u _ v = _
          unfold put
          by_cases hv : v = u
          · subst hv
            rw [if_pos rfl, if_pos (by rw [List.map_cons]; exact List.mem_cons_self ..)]
          · rw [if_neg hv, if_neg (by
              rw [List.map_cons, List.mem_cons]
              rintro (h | h)
              · cases h; exact hv rfl
              · exact hm h)]
        | inr s =>
          rw [if_neg (by
            rw [List.map_cons, List.mem_cons]
            rintro (h | h)
            · cases h
            · exact hm h)]
  exact gen l (ini root)
theorem lat_iff {kvs : List (Key × V)} (hD : DI kvs g) (hr : g root = none) (v : Int) : latF rs root g m kvs v = if v = root ∨ (g v).isSome = true then some (lsum rs root g m v) else none := by
  rw [latF_v]
  by_cases hk : (Sum.inl v : Key) ∈ kvs.map (·.1)
  · rw [if_pos hk, if_pos (.inr ((hD.mem v).mp hk))]
  · rw [if_neg hk]
    have hn : ¬ (g v).isSome = true := fun z => hk ((hD.mem v).mpr z)
    unfold ini put
    by_cases hv : v = root
    · rw [if_pos (Or.inl hv), hv, lsum_root hr]
      simp
    · rw [if_neg (show ¬ (v = root ∨ (g v).isSome = true) from fun z => z.elim hv hn)]
      simp [hv]
def Sub (f T : IF) : Prop := ∀ v x, f v = some x → T v = some x
def lst (g f : IF) (r : R4) : IF := if g r.e = some r.s then (match f r.s with | none => f | some a => put f r.e (a + r.l)) else f
def lrd (g : IF) (rs : List R4) (f : IF) : IF := rs.foldl (lst g) f
theorem lst_no {f : IF} {r : R4} (e : ¬ g r.e = some r.s) : lst g f r = f := if_neg e
theorem lst_none {f : IF} {r : R4} (e : g r.e = some r.s) (h : f r.s = none) : lst g f r = f := by
  unfold lst
  rw [if_pos e, h]
theorem lst_some {f : IF} {r : R4} {a : Int} (e : g r.e = some r.s) (h : f r.s = some a) : lst g f r = put f r.e (a + r.l) := by
  unfold lst
  rw [if_pos e, h]
theorem lst_dom {f : IF} {r : R4} {v : Int} (h : (f v).isSome = true) : (lst g f r v).isSome = true := by
  by_cases e : g r.e = some r.s
  · cases hs : f r.s with
    | none => rw [lst_none e hs]; exact h
    | some a =>
      rw [lst_some e hs]
      unfold put
      split
      · rfl
      · exact h
  · rw [lst_no e]; exact h
theorem lst_has {f : IF} {r : R4} (e : g r.e = some r.s) (h : (f r.s).isSome = true) : (lst g f r r.e).isSome = true := by
  obtain ⟨x, ex⟩ := Option.isSome_iff_exists.mp h
  rw [lst_some e ex]
  unfold put
  rw [if_pos rfl]
  rfl
theorem lst_sub {f T : IF} {r : R4} (hS : Sub f T) (hT : g r.e = some r.s → ∀ a, T r.s = some a → T r.e = some (a + r.l)) : Sub (lst g f r) T := by
  intro v x h
  by_cases e : g r.e = some r.s
  · cases hs : f r.s with
    | none => rw [lst_none e hs] at h; exact hS v x h
    | some a =>
      rw [lst_some e hs] at h
      unfold put at h
      split at h
      · next ev =>
        cases h
        rw [ev]
        exact hT e a (hS _ _ hs)
      · exact hS v x h
  · rw [lst_no e] at h; exact hS v x h
theorem lrd_all {T : IF} : ∀ (l : List R4) (f : IF), (∀ r ∈ l, g r.e = some r.s → ∀ a, T r.s = some a → T r.e = some (a + r.l)) → Sub f T →
    Sub (lrd g l f) T ∧ (∀ v, (f v).isSome = true → (lrd g l f v).isSome = true) ∧ ∀ r ∈ l, g r.e = some r.s → (f r.s).isSome = true → (lrd g l f r.e).isSome = true
  | [], f, _, hS => ⟨hS, fun _ h => h, fun r h => by cases h⟩
  | r :: l, f, hT, hS => by
    obtain ⟨h1, h2, h3⟩ := lrd_all l (lst g f r) (fun q hq => hT q (List.mem_cons_of_mem _ hq)) (lst_sub hS (hT r (List.mem_cons_self ..)))
    refine ⟨h1, fun v h => h2 v (lst_dom h), fun q hq e h => ?_⟩
    rcases List.mem_cons.mp hq with rfl | hq
    · exact h2 _ (lst_has e h)
    · exact h3 q hq e (lst_dom h)
theorem lat_rounds {kvs : List (Key × V)} (hD : DI kvs g) (hT : TreeP rs root g kvs.length) (up : rs.Pairwise R4.lt) : iter (lrd g rs) kvs.length (ini root) = latF rs root g kvs.length kvs := by
  have hst : ∀ r ∈ rs, g r.e = some r.s → ∀ a, latF rs root g kvs.length kvs r.s = some a → latF rs root g kvs.length kvs r.e = some (a + r.l) := fun r hr e a h => by
    rw [lat_iff hD hT.1] at h ⊢
    split at h
    · cases h
      rw [if_pos (.inr (by rw [e]; rfl)), lat_step hT up hr e]
    · cases h
  have key : ∀ k, Sub (iter (lrd g rs) k (ini root)) (latF rs root g kvs.length kvs) ∧ (iter (lrd g rs) k (ini root) root).isSome = true ∧ ∀ v, clm g k v = root → (iter (lrd g rs) k (ini root) v).isSome = true := fun k => by
    induction k with
    | zero =>
      refine ⟨fun v x h => ?_, ?_, fun v hv => ?_⟩
      · rw [lat_iff hD hT.1]
        have h : ini root v = some x := h
        unfold ini put at h
        by_cases hv : v = root
        · rw [if_pos (Or.inl hv), hv, lsum_root hT.1]
          simp [hv] at h
          rw [← h]
        · simp [hv] at h
      · show (ini root root).isSome = true
        unfold ini put; simp
      · have hv : v = root := hv
        show (ini root v).isSome = true
        unfold ini put; simp [hv]
    | succ k ih =>
      obtain ⟨i1, i2, i3⟩ := ih
      obtain ⟨h1, h2, h3⟩ := lrd_all rs (iter (lrd g rs) k (ini root)) hst i1
      refine ⟨h1, h2 _ i2, fun v hv => ?_⟩
      cases e : g v with
      | none =>
        have := clm_fix (i := 0) (v := v) (g := g) e (k + 1)
        rw [Nat.zero_add] at this
        rw [this] at hv
        have hv : v = root := hv
        rw [hv]
        exact h2 _ i2
      | some x =>
        obtain ⟨r, er⟩ := Option.isSome_iff_exists.mp (hT.2.1 v x e)
        obtain ⟨r1, r2, r3⟩ := road_some er
        rw [clm_sft, stp_some e] at hv
        have := h3 r r1 (by rw [r3, r2]; exact e) (by rw [r2]; exact i3 x hv)
        rw [r3] at this
        exact this
  obtain ⟨h1, h2, h3⟩ := key kvs.length
  funext v
  cases e : iter (lrd g rs) kvs.length (ini root) v with
  | some x => exact (h1 v x e).symm
  | none =>
    rw [lat_iff hD hT.1, if_neg]
    rintro (h | h)
    · rw [h] at e; rw [e] at h2; cases h2
    · obtain ⟨x, ex⟩ := Option.isSome_iff_exists.mp h
      have := h3 v (hT.2.2 v x ex)
      rw [e] at this; cases this
theorem lrd_take {f : IF} {j : Nat} {r : R4} (h : rs[j]? = some r) : lrd g (rs.take (j + 1)) f = lst g (lrd g (rs.take j) f) r := by
  have : rs.take (j + 1) = rs.take j ++ [r] := by rw [List.take_add_one, h]; rfl
  rw [this]
  unfold lrd
  rw [List.foldl_append]
  rfl
end
section
variable {P : Program} {w : World} {K : PySem.W.Frag} {mg : Str → Option Value} {base : Heap}
def spALates (K : PySem.W.Frag) : Sp := fun vs H Q _ => ∃ (a : Addr) (n : Int) (rs : List R4) (root : Int) (p : Addr) (kvs : List (Key × V)) (g : IF), vs = [.ref a, .int root, .ref p] ∧ NetAt K H a n rs ∧ Good n rs ∧ rs.length ≤ 156 ∧
  H p = some (.dK kvs) ∧ DI kvs g ∧ kvs.length ≤ 30 ∧ TreeP rs root g kvs.length ∧ ∀ (q : Addr) (ls : List (Key × V)) (H' : Hp), K0 H H' → H q = none → H' q = some (.dK ls) → DI ls (latF rs root g kvs.length kvs) → ls.length ≤ 5000 → Q (.ref q) H'
theorem ok_alates {f : Addr} {fd : FuncData} (F : Fun K "_law_alates" "_law_alates" sALates f fd) (m_range : mg "range" = none) (m_len : mg "len" = none) : FnOk P w K mg base CX0 1 f fd ["net", "root", "ahead"] (spALates K) := by
  refine F.ok scALates (fun vs H Q E h => ?_) (fun cdv A outer s H vs Q E hr h => ?_)
  · obtain ⟨a, n, rs, v, p, kvs, g, rfl, _⟩ := h
    rfl
  · obtain ⟨a, n, rs, root, d, ds, g, rfl, hN, hG, hl, hd0, hDs, hdl, hT, q⟩ := h
    have hu := hu_of hr
    refine ⟨_, (pss_cons (ps_set (i := 3) scALates.nd rfl (.inl rfl) (pe_disp (pps_cons (pv 1) pe_int pps_nil) rfl rfl (fun z => by cases z) (by decide)))
      (pss_cons (ps_for PassesOwn.never rfl (pi_range1 (by rfl) m_range (pa_cons (pe_callB call_lenR (by rfl) m_len PySem.boot_len (pa_cons (pv 2) pa_nil)) pa_nil)) (pg_name (i := 4) scALates.nd rfl (.inl rfl))
      (pss_one (ps_for PassesOwn.never rfl (pi_tup (pe_ix ix_tup (pv 0) pe_int (fun _ _ => rfl))) (pg_tup rfl (pgs_cons (pg_name (i := 5) scALates.nd rfl (.inl rfl)) (pgs_cons (pg_name (i := 6) scALates.nd rfl (.inl rfl)) (pgs_cons (pg_name (i := 7) scALates.nd rfl (.inl rfl)) (pgs_cons (pg_name (i := 8) scALates.nd rfl (.inl rfl)) pgs_nil)))))
      (pss_one (ps_if (PW.pt (pw_and (pt_cmpR op_eq (pe_dget1 hu (pv 2) (pv 6) ⟨rfl, rfl, rfl, rfl⟩) (pv 5) (nomark _)) (pw_and1 (pt_cmp (pc_din hu (pv 5) (pv 3)))))) (pss_one (ps_dput hu (pv 3) (pv 6) (pe_op op_add (pe_dget hu (pv 3) (pv 5) (fun _ _ => rfl)) (pv 8)) rfl)) pss_nil)))))
      (pss_one (ps_ret (pv 3))))), ?_⟩
    obtain ⟨r, xs, o, h1, h2, hc, hd, h3⟩ := hN
    have hxs : SqT K H r xs := h2
    have hrl : xs.length = rs.length := h3.len
    refine fun p np => ⟨_, rfl, ⟨upd_same, [(Sum.inl root, .int 0)], rfl, (by show 1 ≤ 15; decide), ?_⟩⟩
    rw [upd_upd]
    have dd : ∀ {H'}, K0 H H' → Rd H' d (.dK ds) := fun k => .inl (k.oth d _ hd0 (fun _ z => by cases z))
    refine ⟨_, rfl, d, ds, rfl, dd (K0.new np), _, rfl, by omega, by omega, for_range (lo := 0) (n := ds.length) (fun i σ' H' => ∃ y4 y5 y6 y7 y8, σ' = [some (.ref a), some (.int root), some (.ref d), some (.ref p), y4, y5, y6, y7, y8] ∧ K0 H H' ∧
        ∃ kvs, H' p = some (.dK kvs) ∧ DI kvs (iter (lrd g rs) i (ini root)) ∧ kvs.length ≤ 1 + 156 * i)
      ⟨none, none, none, none, none, rfl, K0.new np, _, upd_same, DI.one root, by show _ ≤ 1 + 156 * 0; exact Nat.le_of_eq rfl⟩ (fun i σ' H' hi h => ?_) (fun σ' H' h => ?_)⟩
    · obtain ⟨y4, y5, y6, y7, y8, rfl, k2, kvs, hk, hD, hlen⟩ := h
      refine ⟨_, rfl, a, _, 1, .ref r, rfl, rfl, k2.sqT h1, atI_nat (j := 1) rfl, r, rfl, ⟨xs, k2.sqT hxs⟩, for_tup (xs := xs) (fun j σ' H' => ∃ y4 y5 y6 y7 y8, σ' = [some (.ref a), some (.int root), some (.ref d), some (.ref p), y4, y5, y6, y7, y8] ∧ K0 H H' ∧
          ∃ kvs, H' p = some (.dK kvs) ∧ DI kvs (lrd g (rs.take j) (iter (lrd g rs) i (ini root))) ∧ kvs.length ≤ 1 + 156 * i + j)
        ⟨_, y5, y6, y7, y8, rfl, k2, kvs, hk, hD, hlen⟩ (fun j σ' H' hj h => ?_) (fun j x σ' H' hx h => ?_) (fun σ' H' h => ?_)⟩
      · obtain ⟨_, _, _, _, _, _, k3, _⟩ := h
        exact k3.sqT hxs
      · obtain ⟨y4, y5, y6, y7, y8, rfl, k3, kvs, hk, hD, hlen⟩ := h
        obtain ⟨t, q1, hrd, rfl, hs⟩ := road_at h3 hx
        have hjl : j < xs.length := by
          rw [hrl]; exact (List.getElem?_eq_some_iff.mp hrd).1
        rw [lrd_take hrd]
        generalize lrd g (rs.take j) (iter (lrd g rs) i (ini root)) = f at hD ⊢
        refine ⟨q1, _, rfl, k3.sqT hs, rfl, _, _, rfl, _, _, rfl, _, _, rfl, _, _, rfl, rfl, ?_⟩
        have hsz : kvs.length < sizeLine := Nat.lt_of_le_of_lt (m := 5000) (by omega) (by decide)
        refine ⟨_, rfl, d, rfl, .inl ⟨ds, dd k3⟩, _, rfl, _, dgetR (dd k3) hDs t.e, _, rfl, ?_⟩
        unfold lst
        cases eg : g t.e with
        | none =>
          rw [if_neg (fun z => by cases z)]
          exact ⟨rfl, _, rfl, iteF (iteF ⟨_, _, _, _, _, rfl, k3, kvs, hk, hD, by omega⟩)⟩
        | some x =>
          refine ⟨rfl, _, rfl, ?_⟩
          by_cases hx : x = t.s
          · subst hx
            rw [if_pos rfl]
            rw [decide_eq_true (show (((some t.s : Option Int).map V.int).getD V.non) = V.int t.s from rfl)]
            refine iteT ⟨_, rfl, _, rfl, p, _, rfl, dgetR (.inl hk) hD t.s, _, rfl, ?_⟩
            cases es : f t.s with
            | none => exact iteF ⟨_, _, _, _, _, rfl, k3, kvs, hk, hD, by omega⟩
            | some y =>
              have gets := dget hk hD es
              refine iteT ⟨_, rfl, _, rfl, p, _, rfl, gets, _, rfl, y, t.l, rfl, rfl, _, rfl, _, rfl, p, _, rfl, DPut.k (k := Sum.inl t.e) hk hsz, ?_⟩
              exact ⟨_, _, _, _, _, rfl, k3.mut np, _, upd_same, hD.put _ _, Nat.le_trans (length_putK _ _ _) (by omega)⟩
          · rw [if_neg (fun z => hx (Option.some.inj z))]
            rw [decide_eq_false (show ¬ (((some x : Option Int).map V.int).getD V.non) = V.int t.s from fun z => hx (V.int.inj z))]
            exact iteF (iteF ⟨_, _, _, _, _, rfl, k3, kvs, hk, hD, by omega⟩)
      · obtain ⟨y4, y5, y6, y7, y8, rfl, k3, kvs, hk, hD, hlen⟩ := h
        rw [hrl, List.take_length] at hD
        exact ⟨_, _, _, _, _, rfl, k3, kvs, hk, hD, by omega⟩
    · obtain ⟨y4, y5, y6, y7, y8, rfl, k2, kvs, hk, hD, hlen⟩ := h
      rw [lat_rounds hDs hT hG.up] at hD
      exact ⟨_, rfl, q p kvs H' k2 np hk hD (by omega)⟩
end
end HK

set_option Elab.async false
set_option linter.all false
set_option maxRecDepth 100000
set_option maxHeartbeats 4000000
namespace HK
open PySem PySem.Spec PyProof.Rows L2 GAl GxR
open Evl (pss_cut)
abbrev sATree : Stmt := topS 44
abbrev N_scATree : List Str := ["net", "root", "ahead", "roads", "place", "here", "turn", "road"]
theorem scATree : FnScope N_scATree ["net", "root", "ahead"] (defScope sATree) := ⟨rfl, rfl, rfl, by decide +kernel, rfl, by decide +kernel, by decide +kernel⟩
/-! ### pairs of roads in a list -/
def tpD (ns : List Int) : PyData := .tuple (ns.map PyData.int)
theorem tups_dp {K : PySem.W.Frag} {H : Hp} : ∀ {xs : List V} {l : List (List Int)}, TupsAt K H xs l → DpAll K H xs (l.map tpD)
  | [], [], _ => .nil
  | [], _ :: _, h => by cases h.1
  | _ :: _, [], h => by cases h.1
  | x :: xs, ns :: l, h => by
    obtain ⟨t, rfl, s⟩ := h.2 0 x rfl
    exact .cons (.tup s (dpInts ns)) (tups_dp ⟨by simpa using h.1, fun i y e => h.2 (i + 1) y e⟩)
theorem lay_tp (ns : List Int) : (tpD ns).canLay0 = true := by
  have : ∀ ns : List Int, PyData.canLayAll0 (ns.map PyData.int) = true := fun ns => by
    induction ns with
    | nil => simp [PyData.canLayAll0]
    | cons a r ih => simp only [List.map_cons, PyData.canLayAll0, PyData.canLay0, ih, Bool.and_self]
  unfold tpD
  simp only [PyData.canLay0]
  exact this ns
theorem lay_tps : ∀ l : List (List Int), PyData.canLayAll0 (l.map tpD) = true
  | [] => by simp [PyData.canLayAll0]
  | a :: l => by simp only [List.map_cons, PyData.canLayAll0, lay_tp a, lay_tps l, Bool.and_self]
theorem depth2 (a b : Int) : (tpD [a, b]).depth ≤ 60 := by
  simp [tpD, PyData.depth, PyData.depthAll]
theorem eqvP (a b c d : Int) : PyData.eqv (tpD [a, b]) (tpD [c, d]) = decide (a = c ∧ b = d) := by
  show (a == c && (b == d && true)) = _
  rw [Bool.and_true, Bool.eq_iff_iff, Bool.and_eq_true, beq_iff_eq, beq_iff_eq, decide_eq_true_iff]
theorem any_road {rs : List R4} {x v : Int} : (((rs.map pr).map tpD).any fun y => PyData.eqv y (tpD [x, v])) = (road rs x v).isSome := by
  rw [List.map_map, List.any_map, Bool.eq_iff_iff, List.any_eq_true]
  unfold road
  rw [List.find?_isSome]
  constructor
  · rintro ⟨r, hr, h⟩
    refine ⟨r, hr, ?_⟩
    have h : PyData.eqv (tpD [r.s, r.e]) (tpD [x, v]) = true := h
    rw [eqvP] at h
    exact h
  · rintro ⟨r, hr, h⟩
    refine ⟨r, hr, ?_⟩
    show PyData.eqv (tpD [r.s, r.e]) (tpD [x, v]) = true
    rw [eqvP]
    exact h
theorem stp_get {g : IF} {c : Int} : ((g c).map V.int).getD (.int c) = .int (stp g c) := by
  unfold stp
  cases g c <;> rfl
section
variable {P : Program} {w : World} {K : PySem.W.Frag} {mg : Str → Option Value} {base : Heap}
def spATree (K : PySem.W.Frag) : Sp := fun vs H Q _ => ∃ (a : Addr) (n : Int) (rs : List R4) (root : Int) (p : Addr) (kvs : List (Key × V)) (g : IF), vs = [.ref a, .int root, .ref p] ∧ NetAt K H a n rs ∧ rs.length ≤ 156 ∧
  H p = some (.dK kvs) ∧ DI kvs g ∧ kvs.length ≤ 5000 ∧ ∀ (H' : Hp) (b : Bool), K0 H H' → (b = true ↔ TreeP rs root g kvs.length) → Q (.bl b) H'
theorem ok_atree {f : Addr} {fd : FuncData} (F : Fun K "_law_ais_tree" "_law_ais_tree" sATree f fd) (m_range : mg "range" = none) (m_len : mg "len" = none) : FnOk P w K mg base CX0 1 f fd ["net", "root", "ahead"] (spATree K) := by
  refine F.ok scATree (fun vs H Q E h => ?_) (fun cdv A outer s H vs Q E hr h => ?_)
  · obtain ⟨a, n, rs, root, p, kvs, g, rfl, _⟩ := h
    rfl
  · obtain ⟨a, n, rs, root, p, kvs, g, rfl, hN, hrl0, hp, hD, hl, q⟩ := h
    have hu := hu_of hr
    refine ⟨_, (pss_cons (ps_setLc (i := 3) (own := [("road", 7)]) (g := (gName 7)) (tt := tYes) (te := (tSl (rSlT K) (tVar 7) tNoPart (tPart (tC (.int 2))))) rfl scATree.nd rfl rfl (sw_true rfl rfl rfl rfl) (pi_tup (pe_ix ix_tup (pv 0) pe_int (fun _ _ => rfl))) (blkOk_by (N := N_scATree) (sc := defScope sATree) (by decide +kernel)) (fun _ _ _ _ _ => (pg_name (i := 7) scATree.nd rfl (.inl rfl))) (fun _ _ _ _ _ => pts_nil) (fun _ _ _ _ _ => (pe_slice sl_tup (pv 7) po_none (po_some pe_int))))
      (pss_cons (ps_lock (ps_for PassesOwn.never rfl (pi_keys (pv 2)) (pg_name (i := 4) scATree.nd rfl (.inl rfl))
      (pss_cons (ps_if (PW.pt (pw_or (pt_cmpR op_eq (pv 4) (pv 1) (nomark _)) (pw_or1 (pt_cmpR (HkI.op_notInD hr.units) (pe_tup (pa_cons (pe_dget hu (pv 2) (pv 4) (fun _ _ => rfl)) (pa_cons (pv 4) pa_nil))) (pv 3) rfl)))) (pss_one (ps_ret pe_bl)) pss_nil)
      (pss_cons (ps_set (i := 5) scATree.nd rfl (.inl rfl) (pv 4))
      (pss_cons (ps_for PassesOwn.never rfl (pi_range1 (by rfl) m_range (pa_cons (pe_callB call_lenR (by rfl) m_len PySem.boot_len (pa_cons (pv 2) pa_nil)) pa_nil)) (pg_name (i := 6) scATree.nd rfl (.inl rfl))
      (pss_one (ps_set (i := 5) scATree.nd rfl (.inl rfl) (pe_dget2 hu (pv 2) (pv 5) (pv 5) ⟨rfl, rfl, rfl, rfl⟩))))
      (pss_one (ps_if (pt_cmpR op_ne (pv 5) (pv 1) (nomark _)) (pss_one (ps_ret pe_bl)) pss_nil)))))))
      (pss_one (ps_ret pe_bl)))), ?_⟩
    obtain ⟨r, xs, o, h1, h2, hc, hd, h3⟩ := hN
    have hxs : SqT K H r xs := h2
    have hrl : xs.length = rs.length := h3.len
    refine ⟨_, rfl, a, _, 1, .ref r, rfl, rfl, h1, atI_nat (j := 1) rfl, r, rfl, ⟨xs, hxs⟩, fun D nD => ?_⟩
    refine lc_tup (xs := xs) (fun j H' => K0 H H' ∧ ∃ ys, H' D = some (.lst ys) ∧ TupsAt K H' ys ((rs.take j).map pr)) ⟨K0.new nD, [], upd_same, rfl, fun i x e => (by cases e)⟩ (fun j H' _ h => h.1.sqT hxs) (fun j x H' hx h => ?_) (fun H2 h => ?_)
    · obtain ⟨k, ys, hD', hT⟩ := h
      obtain ⟨t, q1, hrd, rfl, hs⟩ := road_at h3 hx
      have htk : rs.take (j + 1) = rs.take j ++ [t] := by rw [List.take_add_one, hrd]; rfl
      have hys : ys.length ≤ 156 := by rw [hT.1, List.length_map, List.length_take]; omega
      refine ⟨rfl, tyes ⟨_, rfl, 2, rfl, q1, t.vs, rfl, k.sqT hs, fun z => absurd z.2 (by show ¬ (HT.sIx 4 4 (some 2) = 4); decide), fun b nb => ?_⟩⟩
      have kb : K0 H' (upd H' b (.tup [.int t.s, .int t.e])) := K0.new nb
      have hDb := kb.oth D _ hD' (fun _ z => by cases z)
      refine ⟨ys, hDb, Nat.lt_of_le_of_lt (m := 5000) (by omega) (by decide), (k.trans kb).mut nD, ys ++ [.ref b], upd_same, ?_⟩
      rw [htk, List.map_append]
      have hT2 : TupsAt K (upd H' b (.tup [.int t.s, .int t.e])) (ys ++ [.ref b]) ((rs.take j).map pr ++ [pr t]) := (hT.kt (kb.kt (t := D))).snoc (.inl (.inl upd_same))
      exact hT2.kt (Kt.set hDb)
    obtain ⟨k2, ys, hD2, hT⟩ := h
    rw [List.take_of_length_le (by omega)] at hT
    have hp2 := k2.oth p _ hp (fun _ z => by cases z)
    refine ⟨p, _, hp2, trivial, fun od => ⟨_, rfl, p, od, rfl, .inl ⟨kvs, upd_same, ?_⟩⟩⟩
    have kend : ∀ {H7}, K0 (upd H2 p (.frz od (.dK kvs))) H7 → K0 H (upd H7 p (.dK kvs)) := fun k => k2.trans (K0.lock hp2 (fun _ z => by cases z) k)
    have hDp : D ≠ p := fun z => by rw [z, hp] at nD; cases nD
    have hDl : upd H2 p (.frz od (.dK kvs)) D = some (.lst ys) := by rw [upd_ne hDp]; exact hD2
    have hTl : DpAll K (upd H2 p (.frz od (.dK kvs))) ys ((rs.map pr).map tpD) := tups_dp ⟨hT.1, fun i x e => by
      obtain ⟨t, e1, e2⟩ := hT.2 i x e
      exact ⟨t, e1, sqT_lock e2 hp2⟩⟩
    refine for_it walk_keys (fun i σ' H' => ∃ y4 y5 y6, σ' = [some (.ref a), some (.int root), some (.ref p), some (.ref D), y4, y5, y6, none] ∧ K0 (upd H2 p (.frz od (.dK kvs))) H' ∧ ∀ e ∈ kvs.take i, ∀ v x, e = (Sum.inl v, V.int x) → v ≠ root ∧ (road rs x v).isSome = true ∧ clm g kvs.length v = root) ⟨none, none, none, rfl, K0.refl _, fun e he => (by rw [List.take_zero] at he; cases he)⟩ (fun i σ' H' _ h => ?_) (fun i x σ' H' H3 hi h y => ?_) (fun σ' H' h => ?_)
    · obtain ⟨_, _, _, _, k, _⟩ := h
      exact k.oth p _ upd_same (fun _ z => by cases z)
    · obtain ⟨rfl, k, v, hkv, rfl⟩ := y
      obtain ⟨j, z, e, e2⟩ := hD.at_ (List.mem_of_getElem? hkv)
      cases e
      have htk : kvs.take (i + 1) = kvs.take i ++ [(Sum.inl j, V.int z)] := by rw [List.take_add_one, hkv]; rfl
      obtain ⟨y4, y5, y6, rfl, k3, hall⟩ := h
      have fail : ¬ (j ≠ root ∧ (road rs z j).isSome = true ∧ clm g kvs.length j = root) → ∀ {H7}, K0 (upd H2 p (.frz od (.dK kvs))) H7 → H7 p = some (.frz od (.dK kvs)) ∧ Q (.bl false) (upd H7 p (.dK kvs)) := fun hn {H7} k7 =>
        ⟨k7.oth p _ upd_same (fun _ z => by cases z), q _ false (kend k7) ⟨fun z => by (cases z), fun w => absurd ⟨fun e => by (rw [e] at e2; rw [w.1] at e2; cases e2), w.2.1 j z e2, w.2.2 j z e2⟩ hn⟩⟩
      refine ⟨_, rfl, _, rfl, rfl, _, rfl, ?_⟩
      by_cases hjr : j = root
      · rw [decide_eq_true (show kV (Sum.inl j) = V.int root by rw [hjr]; rfl)]
        exact iteT (iteT (fail (fun z => z.1 hjr) k3))
      rw [decide_eq_false (show ¬ kV (Sum.inl j) = V.int root from fun z => hjr (by cases z; rfl))]
      have hp3 : ∀ {H7}, K0 (upd H2 p (.frz od (.dK kvs))) H7 → Rd H7 p (.dK kvs) := fun k7 => .inr ⟨od, k7.oth p _ upd_same (fun _ z => by cases z)⟩
      have dj := dgetR (hp3 k3) hD j
      rw [e2] at dj
      refine iteF ⟨_, rfl, _, rfl, p, _, rfl, dj, _, rfl, by show 2 ≤ sizeLine; decide, fun b nb => ?_⟩
      have k4 := k3.trans (K0.new nb (o := .tup [.int z, kV (Sum.inl j)]))
      have hb4 : upd H3 b (.tup [.int z, kV (Sum.inl j)]) b = some (.tup (([z, j] : List Int).map V.int)) := upd_same
      generalize upd H3 b (.tup [.int z, kV (Sum.inl j)]) = H4 at k4 hb4
      refine ⟨_, rfl, tpD [z, j], (rs.map pr).map tpD, .tup (.inl (.inl hb4)) (dpInts _), .lst (.inl (.inl (k4.oth D _ hDl (fun _ z => by cases z)))) (k4.dpAll _ _ hTl), lay_tp _, lay_tps _, depth2 _ _, _, rfl, ?_⟩
      rw [any_road]
      cases er : (road rs z j).isSome with
      | false => exact iteT (fail (fun w => by rw [er] at w; cases w.2.1) k4)
      | true =>
      refine iteF ⟨_, rfl, ?_⟩
      refine ⟨_, rfl, p, kvs, rfl, hp3 k4, _, rfl, by omega, by omega, for_range (lo := 0) (n := kvs.length) (fun k σ' H' => ∃ y6, σ' = [some (.ref a), some (.int root), some (.ref p), some (.ref D), some (.int j), some (.int (clm g k j)), y6, none] ∧ H' = H4)
        ⟨y6, rfl, rfl⟩ (fun k σ' H' hk h => ?_) (fun σ' H' h => ?_)⟩
      · obtain ⟨y6, rfl, rfl⟩ := h
        refine ⟨_, rfl, p, rfl, .inl ⟨kvs, hp3 k4⟩, _, rfl, _, rfl, _, dgetR (hp3 k4) hD (clm g k j), ?_⟩
        rw [stp_get]
        exact ⟨_, rfl, rfl⟩
      · obtain ⟨y6, rfl, rfl⟩ := h
        refine ⟨_, rfl, _, rfl, rfl, _, rfl, ?_⟩
        by_cases hc : clm g kvs.length j = root
        · rw [decide_eq_true (show V.int (clm g kvs.length j) = V.int root by rw [hc])]
          refine iteF ⟨_, _, _, rfl, k4, fun e' he' => ?_⟩
          rw [htk] at he'
          rcases List.mem_append.mp he' with he' | he'
          · exact hall e' he'
          · have := List.mem_singleton.mp he'
            subst this
            intro v x ee
            cases ee
            exact ⟨hjr, er, hc⟩
        · rw [decide_eq_false (show ¬ V.int (clm g kvs.length j) = V.int root from fun z => hc (V.int.inj z))]
          exact iteT (fail (fun w => hc w.2.2) k4)
    · obtain ⟨_, _, _, rfl, k, hall⟩ := h
      rw [List.take_of_length_le (Nat.le_refl _)] at hall
      have hall' : ∀ v x, g v = some x → v ≠ root ∧ (road rs x v).isSome = true ∧ clm g kvs.length v = root := fun v x e => hall (Sum.inl v, .int x) (hD.pair e) v x rfl
      refine ⟨k.oth p _ upd_same (fun _ z => by cases z), q _ true (kend k) ⟨fun _ => ⟨?_, fun v x e => (hall' v x e).2.1, fun v x e => (hall' v x e).2.2⟩, fun _ => rfl⟩⟩
      cases e : g root with
      | none => rfl
      | some x => exact absurd rfl (hall' root x e).1
end
end HK

set_option Elab.async false
set_option linter.all false
set_option maxRecDepth 100000
set_option maxHeartbeats 4000000
namespace HK
open PySem PySem.Spec PyProof.Rows L2 GAl GxR
abbrev sUnder : Stmt := topS 33
theorem scUnder : FnScope ["numbers", "start", "end", "more"] ["numbers", "start", "end", "more"] (defScope sUnder) := ⟨rfl, rfl, rfl, by decide +kernel, rfl, by decide +kernel, by decide +kernel⟩
def undB (f : IF) (s e m : Int) : Bool := match f s with
  | none => false
  | some x => match f e with
    | none => true
    | some b => decide (x + m < b)
section
variable {P : Program} {w : World} {K : PySem.W.Frag} {mg : Str → Option Value} {base : Heap}
def spUnder (K : PySem.W.Frag) : Sp := fun vs H Q _ => ∃ (p : Addr) (kvs : List (Key × V)) (g : IF) (a b c : Int), vs = [.ref p, .int a, .int b, .int c] ∧ Rd H p (.dK kvs) ∧ DI kvs g ∧ Q (.bl (undB g a b c)) H
theorem ok_under {f : Addr} {fd : FuncData} (F : Fun K "undercuts" "undercuts" sUnder f fd) : FnOk P w K mg base CX0 1 f fd ["numbers", "start", "end", "more"] (spUnder K) := by
  refine F.ok scUnder (fun vs H Q E h => ?_) (fun cdv A outer s H vs Q E hr h => ?_)
  · obtain ⟨p, kvs, g, a, b, c, rfl, _⟩ := h
    rfl
  · obtain ⟨p, kvs, g, a, b, c, rfl, hp, hD, q⟩ := h
    have hu := hu_of hr
    refine ⟨_, pss_one (ps_ret (pe_and (pe_cmp (pc_din hu (pv 1) (pv 0))) (pe_one (pe_or (pe_cmp (pc_dnotin hu (pv 2) (pv 0))) (pe_one (pe_cmpR op_lt (pe_op op_add (pe_dget hu (pv 0) (pv 1) (fun _ _ => rfl)) (pv 3)) (pe_dget hu (pv 0) (pv 2) (fun _ _ => rfl)) (nomark _))))))), ?_⟩
    unfold undB at q
    have ds := dgetR hp hD a
    have de := dgetR hp hD b
    refine ⟨_, rfl, _, rfl, p, _, rfl, ds, _, rfl, ?_⟩
    cases es : g a with
    | none => rw [es] at q; exact iteF q
    | some x =>
      rw [es] at q ds
      refine iteT ⟨_, rfl, _, rfl, p, _, rfl, de, _, rfl, ?_⟩
      cases ee : g b with
      | none => rw [ee] at q; exact iteT q
      | some y =>
        rw [ee] at q de
        exact iteF ⟨_, rfl, _, rfl, p, _, rfl, ds, _, rfl, x, c, rfl, rfl, _, rfl, _, rfl, p, _, rfl, de, x + c, y, rfl, rfl, q⟩
end
end HK

set_option Elab.async false
set_option linter.all false
set_option maxRecDepth 100000
set_option maxHeartbeats 2000000
namespace HK
open PySem PySem.Spec PyProof.Rows L2 GAl GxR
abbrev sEarly : Stmt := topS 31
theorem scEarly : FnScope ["net", "root", "many", "roads", "least", "turn", "start", "end", "cost", "late"] ["net", "root"] (defScope sEarly) := ⟨rfl, rfl, rfl, by decide +kernel, rfl, by decide +kernel, by decide +kernel⟩
section
variable {P : Program} {w : World} {K : PySem.W.Frag} {mg : Str → Option Value} {base : Heap}
def spEarly (K : PySem.W.Frag) (Pn Pr : Addr) : Sp := fun vs H Q _ => ∃ (a : Addr) (n : Int) (rs : List R4) (root : Int), vs = [.ref a, .int root] ∧ NetAt K H a n rs ∧ Good n rs ∧ rs.length ≤ 156 ∧ 0 ≤ root ∧ root < n ∧ TabG H Pn ∧ TabG H Pr ∧
  ∀ (p : Addr) (kvs : List (Key × V)) (H' : Hp), K0 H H' → H p = none → H' p = some (.dK kvs) → DI kvs (due n rs root) → kvs.length ≤ 2000 → Q (.ref p) H'
theorem ok_early {f fN fP fU Pn Pr : Addr} {fd fdN fdP fdU : FuncData} (F : Fun K "earliest" "earliest" sEarly f fd)
    (kN : PySem.W.keepIn K (.ref fN) = true) (bN : Binds K fdN ["net"] []) (gN : mg "need_net" = some (.ref fN)) (GN : FnOk P w K mg base CX0 6 fN fdN ["net"] (spNeedNet K Pn Pr))
    (kP : PySem.W.keepIn K (.ref fP) = true) (bP : Binds K fdP ["net", "place"] []) (gP : mg "need_place" = some (.ref fP)) (GP : FnOk P w K mg base CX0 4 fP fdP ["net", "place"] (spNeedPlace K))
    (kU : PySem.W.keepIn K (.ref fU) = true) (bU : Binds K fdU ["numbers", "start", "end", "more"] []) (gU : mg "undercuts" = some (.ref fU)) (GU : FnOk P w K mg base CX0 1 fU fdU ["numbers", "start", "end", "more"] (spUnder K)) (mr : mg "range" = none) :
    FnOk P w K mg base CX0 7 f fd ["net", "root"] (spEarly K Pn Pr) := by
  refine F.ok scEarly (fun vs H Q E h => ?_) (fun cdv A outer s H vs Q E hr h => ?_)
  · obtain ⟨a, n, rs, v, rfl, _⟩ := h
    rfl
  · obtain ⟨a, n, rs, root, rfl, hN, hG, hl, r0, r1, tn, tr, q⟩ := h
    have hu := hu_of hr
    refine ⟨_, pss_cons (ps_expr (pe_call GN hr (by rfl) gN kN bN .nil pass0 (pa_cons (pv 0) pa_nil)))
      (pss_cons (ps_expr (pe_call GP (hr.mono (by decide)) (by rfl) gP kP bP .nil pass0 (pa_cons (pv 0) (pa_cons (pv 1) pa_nil))))
      (pss_cons (ps_asg (pv 0) (pg_tup rfl (pgs_cons (pg_name (i := 2) scEarly.nd rfl (.inl rfl)) (pgs_cons (pg_name (i := 3) scEarly.nd rfl (.inl rfl)) pgs_nil))))
      (pss_cons (ps_set (i := 4) scEarly.nd rfl (.inl rfl) (pe_disp (pps_cons (pv 1) pe_int pps_nil) rfl rfl (fun z => by cases z) (by decide)))
      (pss_cons (ps_for PassesOwn.never rfl (pi_range1 (by rfl) mr (pa_cons (pv 2) pa_nil)) (pg_name (i := 5) scEarly.nd rfl (.inl rfl))
        (pss_one (ps_for PassesOwn.never rfl (pi_tup (pv 3)) (pg_tup rfl (pgs_cons (pg_name (i := 6) scEarly.nd rfl (.inl rfl)) (pgs_cons (pg_name (i := 7) scEarly.nd rfl (.inl rfl)) (pgs_cons (pg_name (i := 8) scEarly.nd rfl (.inl rfl)) (pgs_cons (pg_name (i := 9) scEarly.nd rfl (.inl rfl)) pgs_nil)))))
          (pss_one (ps_if (pt_val (pe_call GU (hr.mono (by decide)) (by rfl) gU kU bU .nil pass0 (pa_cons (pv 4) (pa_cons (pv 6) (pa_cons (pv 7) (pa_cons (pv 9) pa_nil))))))
            (pss_one (ps_dput hu (pv 4) (pv 7) (pe_op op_add (pe_dget hu (pv 4) (pv 6) (fun _ _ => rfl)) (pv 9)) rfl)) pss_nil)))))
      (pss_one (ps_ret (pv 4))))))), ?_⟩
    refine ⟨_, rfl, a, n, rs, rfl, hN, hG, hl, tn, tr, fun H1 k1 => ?_⟩
    have hN1 := hN.k0 k1
    refine ⟨_, rfl, _, rfl, a, n, rs, root, rfl, hN1, r0, r1, ?_⟩
    obtain ⟨r, xs, o, h1, h2, hc, hd, h3⟩ := hN1
    have n1 := hG.n1
    have n2 := hG.n2
    refine ⟨_, rfl, a, _, rfl, h1, rfl, _, _, rfl, _, _, rfl, rfl, ?_⟩
    refine fun p np => ⟨_, rfl, ⟨upd_same, [(Sum.inl root, .int 0)], rfl, (by show 1 ≤ 15; decide), ?_⟩⟩
    have nHp := k1.dom p np
    rw [upd_upd]
    have hxs : SqT K H1 r xs := h2
    have hrl : xs.length = rs.length := h3.len
    refine ⟨_, rfl, n, rfl, by omega, by omega, for_range (lo := 0) (n := n.toNat) (fun i σ' H' => ∃ y5 y6 y7 y8 y9, σ' = [some (.ref a), some (.int root), some (.int n), some (.ref r), some (.ref p), y5, y6, y7, y8, y9] ∧ K0 H1 H' ∧
        ∃ kvs, H' p = some (.dK kvs) ∧ DI kvs (iter (fun f => rnd id rs f) i (ini root)) ∧ kvs.length ≤ 1 + 156 * i)
      ⟨none, none, none, none, none, rfl, K0.new np, _, upd_same, DI.one root, by show _ ≤ 1 + 156 * 0; exact Nat.le_of_eq rfl⟩ (fun i σ' H' hi h => ?_) (fun σ' H' h => ?_)⟩
    · obtain ⟨y5, y6, y7, y8, y9, rfl, k2, kvs, hk, hD, hlen⟩ := h
      refine ⟨.ref r, rfl, r, rfl, ⟨xs, k2.sqT hxs⟩, for_tup (xs := xs) (fun j σ' H' => ∃ y5 y6 y7 y8 y9, σ' = [some (.ref a), some (.int root), some (.int n), some (.ref r), some (.ref p), y5, y6, y7, y8, y9] ∧ K0 H1 H' ∧
          ∃ kvs, H' p = some (.dK kvs) ∧ DI kvs (rnd id (rs.take j) (iter (fun f => rnd id rs f) i (ini root))) ∧ kvs.length ≤ 1 + 156 * i + j)
        ⟨_, y6, y7, y8, y9, rfl, k2, kvs, hk, hD, hlen⟩ (fun j σ' H' hj h => ?_) (fun j x σ' H' hx h => ?_) (fun σ' H' h => ?_)⟩
      · obtain ⟨_, _, _, _, _, _, k3, _⟩ := h
        exact k3.sqT hxs
      · obtain ⟨y5, y6, y7, y8, y9, rfl, k3, kvs, hk, hD, hlen⟩ := h
        obtain ⟨d, e1, e2⟩ := dpAll_get h3 hx
        obtain ⟨t, rfl, hrd⟩ : ∃ t : R4, d = t.d ∧ rs[j]? = some t := by
          rw [List.getElem?_map] at e1
          cases e3 : rs[j]? with
          | none => rw [e3] at e1; cases e1
          | some t => rw [e3] at e1; cases e1; exact ⟨t, rfl, rfl⟩
        obtain ⟨q1, rfl, hs⟩ := dp_r4 e2
        have hjl : j < xs.length := by
          rw [hrl]; exact (List.getElem?_eq_some_iff.mp hrd).1
        rw [rnd_take hrd]
        generalize hg : rnd id (rs.take j) (iter (fun f => rnd id rs f) i (ini root)) = g at hD ⊢
        refine ⟨q1, _, rfl, k3.sqT hs, rfl, _, _, rfl, _, _, rfl, _, _, rfl, _, _, rfl, rfl, ?_⟩
        refine ⟨_, rfl, _, rfl, _, rfl, _, rfl, p, kvs, g, t.s, t.e, t.l, rfl, .inl hk, hD, _, rfl, ?_⟩
        have hsz : kvs.length < sizeLine := Nat.lt_of_le_of_lt (m := 5000) (by omega) (by decide)
        unfold rlx undB
        cases es : g t.s with
        | none => exact ⟨_, _, _, _, _, rfl, k3, kvs, hk, by rw [show id g t.s = none from es]; exact hD, by omega⟩
        | some x =>
          rw [show id g t.s = some x from es]
          have gets : DGet H' p (.int t.s) (some (.int x)) := by
            have := DGet.k (k := Sum.inl t.s) hk
            rw [hD.val, es] at this
            exact this
          cases ee : g t.e with
          | none =>
            refine iteT ⟨_, rfl, _, rfl, p, _, rfl, gets, _, rfl, x, t.l, rfl, rfl, _, rfl, _, rfl, p, _, rfl, DPut.k (k := Sum.inl t.e) hk hsz, ?_⟩
            refine ⟨_, _, _, _, _, rfl, k3.mut np, _, upd_same, hD.put _ _, Nat.le_trans (length_putK _ _ _) (by omega)⟩
          | some b =>
            by_cases hb : x + t.l < b
            · show if decide (x + t.l < b) = true then _ else _
              rw [decide_eq_true hb]
              simp only [hb, if_true]
              refine ⟨_, rfl, _, rfl, p, _, rfl, gets, _, rfl, x, t.l, rfl, rfl, _, rfl, _, rfl, p, _, rfl, DPut.k (k := Sum.inl t.e) hk hsz, ?_⟩
              refine ⟨_, _, _, _, _, rfl, k3.mut np, _, upd_same, hD.put _ _, Nat.le_trans (length_putK _ _ _) (by omega)⟩
            · show if decide (x + t.l < b) = true then _ else _
              rw [decide_eq_false hb]
              simp only [hb, if_false]
              exact ⟨_, _, _, _, _, rfl, k3, kvs, hk, hD, by omega⟩
      · obtain ⟨y5, y6, y7, y8, y9, rfl, k3, kvs, hk, hD, hlen⟩ := h
        rw [hrl, List.take_length] at hD
        exact ⟨_, _, _, _, _, rfl, k3, kvs, hk, hD, by omega⟩
    · obtain ⟨y5, y6, y7, y8, y9, rfl, k2, kvs, hk, hD, hlen⟩ := h
      exact ⟨_, rfl, q p kvs H' (k1.trans k2) nHp hk hD (by omega)⟩
end
end HK

set_option Elab.async false
set_option linter.all false
set_option maxRecDepth 100000
set_option maxHeartbeats 4000000
namespace HK
open PySem PySem.Spec PyProof.Rows L2 GAl GxR
open Evl (pss_cut)
abbrev sAEarly : Stmt := topS 43
abbrev N_scAEarly : List Str := ["net", "root", "found", "turn", "i", "j", "cost", "late"]
theorem scAEarly : FnScope N_scAEarly ["net", "root"] (defScope sAEarly) := ⟨rfl, rfl, rfl, by decide +kernel, rfl, by decide +kernel, by decide +kernel⟩
def Bd (f : IF) (N : Int) : Prop := ∀ v x, f v = some x → x ≤ N
theorem Bd.le {f : IF} {N M : Int} (h : Bd f N) (l : N ≤ M) : Bd f M := fun v x e => Int.le_trans (h v x e) l
theorem Bd.put {f : IF} {N : Int} {i x : Int} (h : Bd f N) (hx : x ≤ N) : Bd (put f i x) N := fun v y e => by
  unfold HK.put at e
  split at e
  · cases e; exact hx
  · exact h v y e
section
variable {P : Program} {w : World} {K : PySem.W.Frag} {mg : Str → Option Value} {base : Heap}
def spAEarly (K : PySem.W.Frag) : Sp := fun vs H Q _ => ∃ (a : Addr) (n : Int) (rs : List R4) (root : Int), vs = [.ref a, .int root] ∧ NetAt K H a n rs ∧ Good n rs ∧ rs.length ≤ 156 ∧ 0 ≤ root ∧ root < n ∧
  ∀ (p : Addr) (kvs : List (Key × V)) (H' : Hp), K0 H H' → H p = none → H' p = some (.dK kvs) → DI kvs (due n rs root) → kvs.length ≤ 2000 → Q (.ref p) H'
theorem ok_aearly {f : Addr} {fd : FuncData} (F : Fun K "_law_aearly" "_law_aearly" sAEarly f fd) (m_range : mg "range" = none) : FnOk P w K mg base CX0 1 f fd ["net", "root"] (spAEarly K) := by
  refine F.ok scAEarly (fun vs H Q E h => ?_) (fun cdv A outer s H vs Q E hr h => ?_)
  · obtain ⟨a, n, rs, v, rfl, _⟩ := h
    rfl
  · obtain ⟨a, n, rs, root, rfl, hN, hG, hl, r0, r1, q⟩ := h
    have hu := hu_of hr
    refine ⟨_, (pss_cons (ps_set (i := 2) scAEarly.nd rfl (.inl rfl) (pe_disp (pps_cons (pv 1) pe_int pps_nil) rfl rfl (fun z => by cases z) (by decide)))
      (pss_cons (ps_for PassesOwn.never rfl (pi_range1 (by rfl) m_range (pa_cons (pe_ix ix_tup (pv 0) pe_int (fun _ _ => rfl)) pa_nil)) (pg_name (i := 3) scAEarly.nd rfl (.inl rfl))
      (pss_one (ps_for PassesOwn.never rfl (pi_tup (pe_ix ix_tup (pv 0) pe_int (fun _ _ => rfl))) (pg_tup rfl (pgs_cons (pg_name (i := 4) scAEarly.nd rfl (.inl rfl)) (pgs_cons (pg_name (i := 5) scAEarly.nd rfl (.inl rfl)) (pgs_cons (pg_name (i := 6) scAEarly.nd rfl (.inl rfl)) (pgs_cons (pg_name (i := 7) scAEarly.nd rfl (.inl rfl)) pgs_nil)))))
      (pss_one (ps_if (PW.pt (pw_and (pt_cmp (pc_din hu (pv 4) (pv 2))) (pw_and1 (pt_cmpR op_lt (pe_op op_add (pe_dget hu (pv 2) (pv 4) (fun _ _ => rfl)) (pv 7)) (pe_dget2 hu (pv 2) (pv 5) (pe_op op_pow pe_int pe_int) ⟨rfl, rfl, rfl, rfl⟩) (nomark _))))) (pss_one (ps_dput hu (pv 2) (pv 5) (pe_op op_add (pe_dget hu (pv 2) (pv 4) (fun _ _ => rfl)) (pv 7)) rfl)) pss_nil)))))
      (pss_one (ps_ret (pv 2))))), ?_⟩
    obtain ⟨r, xs, o, h1, h2, hc, hd, h3⟩ := hN
    have n1 := hG.n1
    have n2 := hG.n2
    refine fun p np => ⟨_, rfl, ⟨upd_same, [(Sum.inl root, .int 0)], rfl, (by show 1 ≤ 15; decide), ?_⟩⟩
    rw [upd_upd]
    have hxs : SqT K H r xs := h2
    have hrl : xs.length = rs.length := h3.len
    refine ⟨_, rfl, a, _, 0, .int n, rfl, rfl, (K0.new np).sqT h1, atI_nat (j := 0) rfl, n, rfl, by omega, by omega, for_range (lo := 0) (n := n.toNat) (fun i σ' H' => ∃ y3 y4 y5 y6 y7, σ' = [some (.ref a), some (.int root), some (.ref p), y3, y4, y5, y6, y7] ∧ K0 H H' ∧
        ∃ kvs, H' p = some (.dK kvs) ∧ DI kvs (iter (fun f => rnd id rs f) i (ini root)) ∧ kvs.length ≤ 1 + 156 * i ∧ Bd (iter (fun f => rnd id rs f) i (ini root)) (1000 * (156 * i)))
      ⟨none, none, none, none, none, rfl, K0.new np, _, upd_same, DI.one root, by show _ ≤ 1 + 156 * 0; exact Nat.le_of_eq rfl, fun v x e => ?_⟩ (fun i σ' H' hi h => ?_) (fun σ' H' h => ?_)⟩
    · have e : ini root v = some x := e
      unfold ini HK.put at e
      dsimp only at e
      split at e
      · cases e; omega
      · cases e
    · obtain ⟨y3, y4, y5, y6, y7, rfl, k2, kvs, hk, hD, hlen, hB⟩ := h
      refine ⟨_, rfl, a, _, 1, .ref r, rfl, rfl, k2.sqT h1, atI_nat (j := 1) rfl, r, rfl, ⟨xs, k2.sqT hxs⟩, for_tup (xs := xs) (fun j σ' H' => ∃ y3 y4 y5 y6 y7, σ' = [some (.ref a), some (.int root), some (.ref p), y3, y4, y5, y6, y7] ∧ K0 H H' ∧
          ∃ kvs, H' p = some (.dK kvs) ∧ DI kvs (rnd id (rs.take j) (iter (fun f => rnd id rs f) i (ini root))) ∧ kvs.length ≤ 1 + 156 * i + j ∧ Bd (rnd id (rs.take j) (iter (fun f => rnd id rs f) i (ini root))) (1000 * (156 * i + j)))
        ⟨_, y4, y5, y6, y7, rfl, k2, kvs, hk, hD, hlen, hB.le (by omega)⟩ (fun j σ' H' hj h => ?_) (fun j x σ' H' hx h => ?_) (fun σ' H' h => ?_)⟩
      · obtain ⟨_, _, _, _, _, _, k3, _⟩ := h
        exact k3.sqT hxs
      · obtain ⟨y3, y4, y5, y6, y7, rfl, k3, kvs, hk, hD, hlen, hB⟩ := h
        obtain ⟨t, q1, hrd, rfl, hs⟩ := road_at h3 hx
        have hro := hG.ok t (List.mem_of_getElem? hrd)
        have hjl : j < xs.length := by
          rw [hrl]; exact (List.getElem?_eq_some_iff.mp hrd).1
        rw [rnd_take hrd]
        generalize hg : rnd id (rs.take j) (iter (fun f => rnd id rs f) i (ini root)) = g at hD hB ⊢
        refine ⟨q1, _, rfl, k3.sqT hs, rfl, _, _, rfl, _, _, rfl, _, _, rfl, _, _, rfl, rfl, ?_⟩
        have hl1 := hro.l1
        have hB' : ∀ {x}, g t.s = some x → x + t.l ≤ 1000 * (156 * i + ((j + 1 : Nat) : Int)) := fun {x} e => by
          have := hB _ _ e
          omega
        have stay : Bd g (1000 * (156 * i + ((j + 1 : Nat) : Int))) := hB.le (by omega)
        have hsz : kvs.length < sizeLine := Nat.lt_of_le_of_lt (m := 5000) (by omega) (by decide)
        have hi12 : i < 12 := by omega
        have mx : ∀ v x, g v = some x → x < 10 ^ 9 := fun v x e => by
          have := hB _ _ e
          omega
        unfold rlx
        refine ⟨_, rfl, _, rfl, p, _, rfl, dgetR (.inl hk) hD t.s, _, rfl, ?_⟩
        cases es : g t.s with
        | none => exact iteF (iteF ⟨_, _, _, _, _, rfl, k3, kvs, hk, by rw [show id g t.s = none from es]; exact hD, by omega, by rw [show id g t.s = none from es]; exact stay⟩)
        | some x =>
          rw [show id g t.s = some x from es]
          have gets := dget hk hD es
          have hx' := hB' es
          refine iteT ⟨_, rfl, _, rfl, p, _, rfl, gets, _, rfl, x, t.l, rfl, rfl, _, rfl, p, rfl, .inl ⟨kvs, .inl hk⟩, _, rfl, 10, 9, rfl, rfl, ⟨by decide, by decide, by decide⟩, _, dgetR (.inl hk) hD t.e, ?_⟩
          cases ee : g t.e with
          | none =>
            refine ⟨_, _, rfl, rfl, _, rfl, ?_⟩
            rw [decide_eq_true (show x + t.l < 10 ^ (9 : Int).toNat by show x + t.l < 1000000000; omega)]
            refine iteT ⟨_, rfl, _, rfl, p, _, rfl, gets, _, rfl, x, t.l, rfl, rfl, _, rfl, _, rfl, p, _, rfl, DPut.k (k := Sum.inl t.e) hk hsz, ?_⟩
            exact ⟨_, _, _, _, _, rfl, k3.mut np, _, upd_same, hD.put _ _, Nat.le_trans (length_putK _ _ _) (by omega), stay.put hx'⟩
          | some b =>
            refine ⟨_, _, rfl, rfl, _, rfl, ?_⟩
            by_cases hb : x + t.l < b
            · rw [decide_eq_true hb]
              simp only [hb, if_true]
              refine ⟨_, rfl, _, rfl, p, _, rfl, gets, _, rfl, x, t.l, rfl, rfl, _, rfl, _, rfl, p, _, rfl, DPut.k (k := Sum.inl t.e) hk hsz, ?_⟩
              exact ⟨_, _, _, _, _, rfl, k3.mut np, _, upd_same, hD.put _ _, Nat.le_trans (length_putK _ _ _) (by omega), stay.put hx'⟩
            · rw [decide_eq_false hb]
              simp only [hb, if_false]
              exact ⟨_, _, _, _, _, rfl, k3, kvs, hk, hD, by omega, stay⟩
      · obtain ⟨y3, y4, y5, y6, y7, rfl, k3, kvs, hk, hD, hlen, hB⟩ := h
        rw [hrl, List.take_length] at hD hB
        exact ⟨_, _, _, _, _, rfl, k3, kvs, hk, hD, by omega, hB.le (by omega)⟩
    · obtain ⟨y3, y4, y5, y6, y7, rfl, k2, kvs, hk, hD, hlen, hB⟩ := h
      exact ⟨_, rfl, q p kvs H' k2 np hk hD (by omega)⟩
end
end HK

set_option Elab.async false
set_option linter.all false
set_option maxRecDepth 100000
set_option maxHeartbeats 4000000
namespace HK
open PySem PySem.Spec PyProof.Rows L2 GAl GxR DTu
open Evl (pss_cut)
section
variable {P : Program} {w : World} {K : PySem.W.Frag} {mg : Str → Option Value} {base : Heap}
def spLateness (K : PySem.W.Frag) (Pn Pr Pp Pg : Addr) : Sp := fun vs H Q _ => ∃ (a : Addr) (n : Int) (rs : List R4) (root : Int) (p : Addr) (kvs : List (Key × V)) (g : IF), vs = [.ref a, .int root, .ref p] ∧ NetAt K H a n rs ∧ Good n rs ∧ rs.length ≤ 156 ∧ 0 ≤ root ∧ root < n ∧
  H p = some (.dK kvs) ∧ DI kvs g ∧ kvs.length ≤ 5000 ∧ TreeP rs root g kvs.length ∧ TbL H [Pn, Pr, Pp, Pg] ∧ ∀ (q : Addr) (ls : List (Key × V)) (H' : Hp), K0 H H' → H q = none → H' q = some (.dK ls) → DI ls (latF rs root g kvs.length kvs) → ls.length ≤ 1 + kvs.length → Q (.ref q) H'
theorem ok_lateness {f fN fP fT fR fU Pn Pr Pp Pg : Addr} {fd fdN fdP fdT fdR fdU : FuncData} (F : Fun K "lateness" "lateness" sLateness f fd)
    (kN : PySem.W.keepIn K (.ref fN) = true) (bN : Binds K fdN ["net"] []) (gN : mg "need_net" = some (.ref fN)) (GN : FnOk P w K mg base CX0 6 fN fdN ["net"] (spNeedNet K Pn Pr))
    (kP : PySem.W.keepIn K (.ref fP) = true) (bP : Binds K fdP ["net", "place"] []) (gP : mg "need_place" = some (.ref fP)) (GP : FnOk P w K mg base CX0 4 fP fdP ["net", "place"] (spNeedPlace K))
    (kT : PySem.W.keepIn K (.ref fT) = true) (bT : Binds K fdT ["net", "root", "ahead"] []) (gT : mg "need_tree" = some (.ref fT)) (GT : FnOk P w K mg base CX0 5 fT fdT ["net", "root", "ahead"] (spNeedTree K Pp Pg))
    (kR : PySem.W.keepIn K (.ref fR) = true) (bR : Binds K fdR ["net"] []) (gR : mg "road_lates" = some (.ref fR)) (GR : FnOk P w K mg base CX0 1 fR fdR ["net"] (spTab (·.l) K))
    (kU : PySem.W.keepIn K (.ref fU) = true) (bU : Binds K fdU ["lates", "root", "ahead", "place"] []) (gU : mg "lateness_up" = some (.ref fU)) (GU : FnOk P w K mg base CX0 1 fU fdU ["lates", "root", "ahead", "place"] (spUp K)) :
    FnOk P w K mg base CX0 7 f fd ["net", "root", "ahead"] (spLateness K Pn Pr Pp Pg) := by
  refine F.ok scLateness (fun vs H Q E h => ?_) (fun cdv A outer s H vs Q E hr h => ?_)
  · obtain ⟨a, n, rs, v, p, kvs, g, rfl, _⟩ := h
    rfl
  · obtain ⟨a, n, rs, root, p, kvs, g, rfl, hN, hG, hl, r0, r1, hp, hD, hkl, hT, tb, q⟩ := h
    have hu := hu_of hr
    refine ⟨_, pss_cons (ps_expr (pe_call GN hr (by rfl) gN kN bN .nil pass0 (pa_cons (pv 0) pa_nil)))
      (pss_cons (ps_expr (pe_call GP (hr.mono (by decide)) (by rfl) gP kP bP .nil pass0 (pa_cons (pv 0) (pa_cons (pv 1) pa_nil))))
      (pss_cons (ps_expr (pe_call GT (hr.mono (by decide)) (by rfl) gT kT bT .nil pass0 (pa_cons (pv 0) (pa_cons (pv 1) (pa_cons (pv 2) pa_nil)))))
      (pss_cons (ps_set (i := 3) scLateness.nd rfl (.inl rfl) (pe_call GR (hr.mono (by decide)) (by rfl) gR kR bR .nil pass0 (pa_cons (pv 0) pa_nil)))
      (pss_cons (ps_set (i := 4) scLateness.nd rfl (.inl rfl) (pe_disp (pps_cons (pv 1) pe_int pps_nil) rfl rfl (fun z => by cases z) (by decide)))
      (pss_cons (ps_lock (ps_for PassesOwn.never rfl (pi_keys (pv 2)) (pg_name (i := 5) scLateness.nd rfl (.inl rfl))
        (pss_one (ps_dput hu (pv 4) (pv 5) (pe_call GU (hr.mono (by decide)) (by rfl) gU kU bU .nil pass0 (pa_cons (pv 3) (pa_cons (pv 1) (pa_cons (pv 2) (pa_cons (pv 5) pa_nil))))) rfl))))
      (pss_one (ps_ret (pv 4)))))))), ?_⟩
    refine ⟨_, rfl, a, n, rs, rfl, hN, hG, hl, tb Pn (by simp), tb Pr (by simp), fun H1 k1 => ?_⟩
    refine ⟨_, rfl, _, rfl, a, n, rs, root, rfl, hN.k0 k1, r0, r1, ?_⟩
    refine ⟨_, rfl, _, rfl, _, rfl, a, n, rs, root, p, kvs, g, rfl, hN.k0 k1, hG, hl, k1.oth p _ hp (fun _ z => by cases z), hD, hkl, hT, k1.tab _ (tb Pp (by simp)), k1.tab _ (tb Pg (by simp)), fun H2 k2 => ?_⟩
    have k12 := k1.trans k2
    refine ⟨_, rfl, a, n, rs, rfl, hN.k0 k12, hG, hl, fun D ts H3 k3 nD hD3 hTP => ?_⟩
    have k13 := k12.trans k3
    refine fun t nt => ⟨_, rfl, ⟨upd_same, [(Sum.inl root, .int 0)], rfl, (by show 1 ≤ 15; decide), ?_⟩⟩
    rw [upd_upd]
    have nHt := k13.dom t nt
    have k4 : K0 H3 (upd H3 t (.dK (mergeK [] [(Sum.inl root, .int 0)]))) := K0.new nt
    have k14 := k13.trans k4
    have ht4 : upd H3 t (.dK (mergeK [] [(Sum.inl root, .int 0)])) t = some (.dK (mergeK [] [(Sum.inl root, .int 0)])) := upd_same
    have hD4 := k4.oth D _ hD3 (fun _ z => by cases z)
    have hp4 := k14.oth p _ hp (fun _ z => by cases z)
    generalize hH4 : upd H3 t (.dK (mergeK [] [(Sum.inl root, .int 0)])) = H4 at k4 k14 ht4 hD4 hp4
    have htp : t ≠ p := fun z => by rw [z, hp] at nHt; cases nHt
    have hDp : D ≠ p := fun z => by rw [z, hp4] at hD4; cases hD4
    refine ⟨p, _, hp4, trivial, fun od => ⟨_, rfl, p, od, rfl, .inl ⟨kvs, upd_same, ?_⟩⟩⟩
    refine for_it walk_keys (fun i σ' H' => ∃ y5, σ' = [some (.ref a), some (.int root), some (.ref p), some (.ref D), some (.ref t), y5] ∧ Kt t (upd H4 p (.frz od (.dK kvs))) H' ∧ ∃ ls, H' t = some (.dK ls) ∧ DI ls (latF rs root g kvs.length (kvs.take i)) ∧ ls.length ≤ 1 + i)
      ⟨none, rfl, Kt.refl _ _, _, by rw [upd_ne htp]; exact ht4, by rw [List.take_zero]; exact DI.one root, Nat.le_refl _⟩ (fun i σ' H' _ h => ?_) (fun i x σ' H' H2 hi h y => ?_) (fun σ' H' h => ?_)
    · obtain ⟨_, _, k, _⟩ := h
      exact k.frz _ _ _ upd_same
    · obtain ⟨rfl, k, v, hkv, rfl⟩ := y
      obtain ⟨j, z, e, e2⟩ := hD.at_ (List.mem_of_getElem? hkv)
      cases e
      obtain ⟨y5, rfl, k5, ls, hls, hDI, hll⟩ := h
      have hD5 : H2 D = some (.dT ts) := k5.oth D _ (by rw [upd_ne hDp]; exact hD4) (ne_of hD4 ht4 (fun z => by cases z)) (fun _ z => by cases z)
      refine ⟨_, rfl, _, rfl, _, rfl, _, rfl, D, ts, rs, root, p, kvs, g, j, rfl, hD5, hTP, .inr ⟨od, k5.frz _ _ _ upd_same⟩, hD, hT.1, hT.2.1, hT.2.2 _ _ e2, fun H6 k6 => ?_⟩
      have hls6 := k6.oth t _ hls (fun _ z => by cases z)
      refine ⟨_, rfl, _, rfl, t, _, rfl, DPut.k (k := Sum.inl j) hls6 (Nat.lt_of_le_of_lt (m := 6000) (by omega) (by decide)), ?_⟩
      refine ⟨_, rfl, (k5.trans k6.kt).setD hls6, _, upd_same, ?_, Nat.le_trans (length_putK _ _ _) (by omega)⟩
      rw [latF_take hkv]
      exact hDI.put _ _
    · obtain ⟨y5, rfl, k5, ls, hls, hDI, hll⟩ := h
      rw [List.take_of_length_le (Nat.le_refl _)] at hDI
      have kk : Kt t H4 (upd H' p (.dK kvs)) := Kt.lock hp4 k5
      refine ⟨k5.frz _ _ _ upd_same, _, rfl, q t ls _ ?_ nHt (by rw [upd_ne htp]; exact hls) hDI hll⟩
      refine ⟨fun b o e m => ?_, fun P hP => kk.tab P (k14.tab P hP), fun b e => k14.dom b (kk.dom b e)⟩
      exact kk.oth b o (k14.oth b o e m) (ne_of_none e nHt) m
end
end HK

set_option Elab.async false
set_option linter.all false
set_option maxRecDepth 100000
set_option maxHeartbeats 4000000
namespace HK
open PySem PySem.Spec PyProof.Rows L2 GAl GxR
open Evl (pss_cut)
abbrev sWays : Stmt := topS 32
abbrev N_scWays : List Str := ["net", "root", "least", "ahead", "start", "end", "cost", "late"]
theorem scWays : FnScope N_scWays ["net", "root"] (defScope sWays) := ⟨rfl, rfl, rfl, by decide +kernel, rfl, by decide +kernel, by decide +kernel⟩
/-! ### a tree of earliest ways -/
def tight (f : IF) (r : R4) : Bool := match f r.s with
  | none => false
  | some a => decide (f r.e = some (a + r.l))
def wayF (f : IF) (l : List R4) : IF := l.foldl (fun h r => if tight f r = true then put h r.e r.s else h) (fun _ => none)
theorem wayF_snoc {f : IF} {l : List R4} {r : R4} : wayF f (l ++ [r]) = if tight f r = true then put (wayF f l) r.e r.s else wayF f l := by
  unfold wayF
  rw [List.foldl_append]
  rfl
theorem wayF_take {f : IF} {rs : List R4} {j : Nat} {r : R4} (h : rs[j]? = some r) : wayF f (rs.take (j + 1)) = if tight f r = true then put (wayF f (rs.take j)) r.e r.s else wayF f (rs.take j) := by
  rw [List.take_add_one, h]
  exact wayF_snoc
theorem wayF_some {f : IF} (l : List R4) : (∀ v x, wayF f l v = some x → ∃ r ∈ l, r.e = v ∧ r.s = x ∧ tight f r = true) ∧ (∀ r ∈ l, tight f r = true → (wayF f l r.e).isSome = true) := by
  have gen : ∀ (l : List R4) (h0 : IF), (∀ v x, l.foldl (fun h r => if tight f r = true then put h r.e r.s else h) h0 v = some x → h0 v = some x ∨ ∃ r ∈ l, r.e = v ∧ r.s = x ∧ tight f r = true) ∧
      (∀ v, ((h0 v).isSome = true ∨ ∃ r ∈ l, r.e = v ∧ tight f r = true) → (l.foldl (fun h r => if tight f r = true then put h r.e r.s else h) h0 v).isSome = true) := fun l => by
    induction l with
    | nil => exact fun h0 => ⟨fun v x e => .inl e, fun v h => h.elim id fun ⟨r, hr, _⟩ => by cases hr⟩
    | cons r l ih =>
      intro h0
      obtain ⟨i1, i2⟩ := ih (if tight f r = true then put h0 r.e r.s else h0)
      refine ⟨fun v x e => ?_, fun v h => i2 v ?_⟩
      · rcases i1 v x e with h | ⟨r', h1, h2⟩
        · by_cases ht : tight f r = true
          · rw [if_pos ht] at h
            unfold put at h
            by_cases hv : v = r.e
            · rw [if_pos hv] at h
              cases h
              exact .inr ⟨r, List.mem_cons_self .., hv.symm, rfl, ht⟩
            · rw [if_neg hv] at h
              exact .inl h
          · rw [if_neg ht] at h
            exact .inl h
        · exact .inr ⟨r', List.mem_cons_of_mem _ h1, h2⟩
      · rcases h with h | ⟨r', h1, h2, h3⟩
        · left
          by_cases ht : tight f r = true
          · rw [if_pos ht]
            unfold put
            by_cases hv : v = r.e
            · rw [if_pos hv]; rfl
            · rw [if_neg hv]; exact h
          · rw [if_neg ht]; exact h
        · rcases List.mem_cons.mp h1 with rfl | h1
          · left
            rw [if_pos h3]
            unfold put
            rw [if_pos h2.symm]
            rfl
          · exact .inr ⟨r', h1, h2, h3⟩
  obtain ⟨g1, g2⟩ := gen l (fun _ => none)
  exact ⟨fun v x e => (g1 v x e).resolve_left (fun z => by cases z), fun r hr ht => g2 r.e (.inr ⟨r, hr, rfl, ht⟩)⟩
theorem tight_iff {f : IF} {r : R4} : tight f r = true ↔ ∃ a, f r.s = some a ∧ f r.e = some (a + r.l) := by
  unfold tight
  cases e : f r.s with
  | none => exact ⟨fun z => (by cases z), fun ⟨a, h, _⟩ => by cases h⟩
  | some a =>
    show decide _ = true ↔ _
    rw [decide_eq_true_iff]
    exact ⟨fun h => ⟨a, rfl, h⟩, fun ⟨b, h1, h2⟩ => by cases h1; exact h2⟩
section
variable {n root : Int} {rs : List R4} {f : IF}
theorem way_step (hok : ∀ r ∈ rs, RoadOk n r) (I : IInv n rs root f) {v x : Int} (e : wayF f rs v = some x) : ∃ r ∈ rs, r.e = v ∧ r.s = x ∧ ∃ a, f x = some a ∧ f v = some (a + r.l) ∧ 0 ≤ a ∧ 1 ≤ r.l := by
  obtain ⟨r, hr, h1, h2, ht⟩ := (wayF_some rs).1 v x e
  obtain ⟨a, h3, h4⟩ := tight_iff.mp ht
  subst h1 h2
  exact ⟨r, hr, rfl, rfl, a, h3, h4, (I.rng _ _ h3).2.2, (hok r hr).l0⟩
theorem way_root (hok : ∀ r ∈ rs, RoadOk n r) (I : IInv n rs root f) : wayF f rs root = none := by
  cases e : wayF f rs root with
  | none => rfl
  | some x =>
    obtain ⟨r, _, _, _, a, _, h, h0, h1⟩ := way_step hok I e
    rw [I.rt0] at h
    have := Option.some.inj h
    omega
theorem way_has (I : IInv n rs root f) (C : Closed rs f) {v b : Int} (e : f v = some b) (hv : v ≠ root) : ∃ x, wayF f rs v = some x := by
  rcases I.wt v b e with h | ⟨r, hr, h1, a, h2, h3⟩
  · exact absurd h hv
  · obtain ⟨b', h4, h5⟩ := C r hr a h2
    rw [h1, e] at h4
    cases h4
    have : tight f r = true := tight_iff.mpr ⟨a, h2, by rw [h1, e]; congr 1; omega⟩
    have := (wayF_some rs).2 r hr this
    rw [h1] at this
    exact Option.isSome_iff_exists.mp this
theorem way_dom (hok : ∀ r ∈ rs, RoadOk n r) (I : IInv n rs root f) (C : Closed rs f) (v : Int) : (wayF f rs v).isSome = true ↔ v ≠ root ∧ (f v).isSome = true := by
  constructor
  · intro h
    obtain ⟨x, e⟩ := Option.isSome_iff_exists.mp h
    obtain ⟨r, _, _, _, a, _, h4, _⟩ := way_step hok I e
    refine ⟨fun z => ?_, by rw [h4]; rfl⟩
    rw [z, way_root hok I] at e
    cases e
  · intro ⟨h1, h2⟩
    obtain ⟨b, e⟩ := Option.isSome_iff_exists.mp h2
    obtain ⟨x, ex⟩ := way_has I C e h1
    rw [ex]; rfl
theorem way_up (hok : ∀ r ∈ rs, RoadOk n r) (I : IInv n rs root f) (C : Closed rs f) : ∀ (m : Nat) (v b : Int), f v = some b → b.toNat ≤ m → ∃ k, clm (wayF f rs) k v = root
  | m, v, b, e, hm => by
    by_cases hv : v = root
    · exact ⟨0, hv⟩
    · obtain ⟨x, ex⟩ := way_has I C e hv
      obtain ⟨r, _, _, _, a, h3, h4, h5, h6⟩ := way_step hok I ex
      rw [e] at h4
      have hb := Option.some.inj h4
      match m, hm with
      | 0, hm => exact absurd hm (by omega)
      | m + 1, hm =>
        obtain ⟨k, hk⟩ := way_up hok I C m x a h3 (by omega)
        refine ⟨k + 1, ?_⟩
        have sh : ∀ k, clm (wayF f rs) (k + 1) v = clm (wayF f rs) k (stp (wayF f rs) v) := fun k => by
          induction k with
          | zero => rfl
          | succ k ih => show stp _ (clm _ (k + 1) v) = stp _ (clm _ k _); rw [ih]
        rw [sh, stp_some ex]
        exact hk
theorem way_tree {kvs : List (Key × V)} (up : rs.Pairwise R4.lt) (hok : ∀ r ∈ rs, RoadOk n r) (I : IInv n rs root f) (C : Closed rs f) (hD : DI kvs (wayF f rs)) : TreeP rs root (wayF f rs) kvs.length := by
  refine ⟨way_root hok I, fun v x e => ?_, fun v x e => ?_⟩
  · obtain ⟨r, hr, h1, h2, _⟩ := way_step hok I e
    rw [← h1, ← h2, road_of up hr]
    rfl
  · obtain ⟨r, hr, h1, h2, a, h3, h4, _⟩ := way_step hok I e
    obtain ⟨k, hk⟩ := way_up hok I C _ v _ h4 (Nat.le_refl _)
    exact clm_len hD (way_root hok I) hk
theorem way_sum (up : rs.Pairwise R4.lt) (hok : ∀ r ∈ rs, RoadOk n r) (I : IInv n rs root f) (C : Closed rs f) {v b : Int} (e : f v = some b) : ∀ k, ∃ c, f (clm (wayF f rs) k v) = some c ∧ lsum rs root (wayF f rs) k v = b - c
  | 0 => ⟨b, e, by show (0 : Int) = b - b; omega⟩
  | k + 1 => by
    obtain ⟨c, h1, h2⟩ := way_sum up hok I C e k
    by_cases hc : clm (wayF f rs) k v = root
    · refine ⟨c, ?_, ?_⟩
      · rw [show clm (wayF f rs) (k + 1) v = clm (wayF f rs) k v from stp_none (by rw [hc]; exact way_root hok I)]
        exact h1
      · show lsum rs root (wayF f rs) k v + (if clm (wayF f rs) k v = root then 0 else _) = _
        rw [if_pos hc, h2]
        omega
    · obtain ⟨x, ex⟩ := way_has I C h1 hc
      obtain ⟨r, hr, h3, h4, a, h5, h6, _⟩ := way_step hok I ex
      rw [h1] at h6
      have hcc := Option.some.inj h6
      refine ⟨a, ?_, ?_⟩
      · rw [show clm (wayF f rs) (k + 1) v = x from stp_some ex]
        exact h5
      · show lsum rs root (wayF f rs) k v + (if clm (wayF f rs) k v = root then 0 else _) = _
        rw [if_neg hc, stp_some ex, ← h4, ← h3, road_of up hr, h2]
        show b - c + r.l = b - a
        omega
theorem way_late {kvs : List (Key × V)} (up : rs.Pairwise R4.lt) (hok : ∀ r ∈ rs, RoadOk n r) (I : IInv n rs root f) (C : Closed rs f) (hD : DI kvs (wayF f rs)) {v b : Int} (e : f v = some b) : lsum rs root (wayF f rs) kvs.length v = b := by
  obtain ⟨c, h1, h2⟩ := way_sum up hok I C e kvs.length
  have hroot : clm (wayF f rs) kvs.length v = root := by
    obtain ⟨k, hk⟩ := way_up hok I C _ v _ e (Nat.le_refl _)
    exact clm_len hD (way_root hok I) hk
  rw [hroot, I.rt0] at h1
  cases h1
  rw [h2]
  omega
open Classical in
theorem latF_val {g : IF} {m : Nat} (l : List (Key × V)) (v : Int) : latF rs root g m l v = if (Sum.inl v : Key) ∈ l.map (fun p : Key × V => p.1) then some (lsum rs root g m v) else ini root v := by
  have gen : ∀ (l : List (Key × V)) (f0 : IF), l.foldl (fun f p => match p.1 with | .inl v => put f v (lsum rs root g m v) | .inr _ => f) f0 v = if (Sum.inl v : Key) ∈ l.map (fun p : Key × V => p.1) then some (lsum rs root g m v) else f0 v := fun l => by
    induction l with
    | nil => intro f0; rw [if_neg (fun z => by cases z)]; rfl
    | cons p l ih =>
      intro f0
      rw [List.foldl_cons, ih]
      by_cases hm : (Sum.inl v : Key) ∈ l.map (fun p : Key × V => p.1)
      · rw [if_pos hm, if_pos (by rw [List.map_cons]; exact List.mem_cons_of_mem _ hm)]
      · rw [if_neg hm]
        obtain ⟨pk, pv⟩ := p
        cases pk with
        | inl u =>
          show put f0 u _ v = _
          unfold put
          by_cases hv : v = u
          · subst hv
            rw [if_pos rfl, if_pos (by rw [List.map_cons]; exact List.mem_cons_self ..)]
          · rw [if_neg hv, if_neg (by
              rw [List.map_cons, List.mem_cons]
              rintro (h | h)
              · cases h; exact hv rfl
              · exact hm h)]
        | inr s =>
          rw [if_neg (by
            rw [List.map_cons, List.mem_cons]
            rintro (h | h)
            · cases h
            · exact hm h)]
  exact gen l (ini root)
theorem way_lates {kvs : List (Key × V)} (up : rs.Pairwise R4.lt) (hok : ∀ r ∈ rs, RoadOk n r) (I : IInv n rs root f) (C : Closed rs f) (hD : DI kvs (wayF f rs)) : latF rs root (wayF f rs) kvs.length kvs = f := by
  funext v
  rw [latF_val]
  by_cases hk : (Sum.inl v : Key) ∈ kvs.map (·.1)
  · rw [if_pos hk]
    have := (way_dom hok I C v).mp ((hD.mem v).mp hk)
    obtain ⟨b, e⟩ := Option.isSome_iff_exists.mp this.2
    rw [e, way_late up hok I C hD e]
  · rw [if_neg hk]
    have hn : ¬ (wayF f rs v).isSome = true := fun z => hk ((hD.mem v).mpr z)
    unfold ini put
    by_cases hv : v = root
    · rw [if_pos hv, hv, I.rt0]
    · rw [if_neg hv]
      cases e : f v with
      | none => rfl
      | some b => exact absurd ((way_dom hok I C v).mpr ⟨hv, by rw [e]; rfl⟩) hn
end
theorem strict_ext : ∀ {a b : List Int}, a.Pairwise (· < ·) → b.Pairwise (· < ·) → (∀ x, x ∈ a ↔ x ∈ b) → a = b
  | [], [], _, _, _ => rfl
  | [], y :: b, _, _, h => by have := (h y).mpr (List.mem_cons_self ..); cases this
  | x :: a, [], _, _, h => by have := (h x).mp (List.mem_cons_self ..); cases this
  | x :: a, y :: b, ha, hb, h => by
    have ha' := List.pairwise_cons.mp ha
    have hb' := List.pairwise_cons.mp hb
    have exy : x = y := by
      rcases List.mem_cons.mp ((h x).mp (List.mem_cons_self ..)) with e | e
      · exact e
      · rcases List.mem_cons.mp ((h y).mpr (List.mem_cons_self ..)) with e' | e'
        · exact e'.symm
        · have := hb'.1 x e
          have := ha'.1 y e'
          omega
    subst exy
    congr 1
    refine strict_ext ha'.2 hb'.2 fun z => ?_
    constructor
    · intro hz
      rcases List.mem_cons.mp ((h z).mp (List.mem_cons_of_mem _ hz)) with e | e
      · subst e; exact absurd (ha'.1 _ hz) (Int.lt_irrefl _)
      · exact e
    · intro hz
      rcases List.mem_cons.mp ((h z).mpr (List.mem_cons_of_mem _ hz)) with e | e
      · subst e; exact absurd (hb'.1 _ hz) (Int.lt_irrefl _)
      · exact e
section
variable {P : Program} {w : World} {K : PySem.W.Frag} {mg : Str → Option Value} {base : Heap}
def spWays (K : PySem.W.Frag) (Pn Pr : Addr) : Sp := fun vs H Q _ => ∃ (a : Addr) (n : Int) (rs : List R4) (root : Int), vs = [.ref a, .int root] ∧ NetAt K H a n rs ∧ Good n rs ∧ rs.length ≤ 156 ∧ 0 ≤ root ∧ root < n ∧ TabG H Pn ∧ TabG H Pr ∧
  ∀ (p : Addr) (kvs : List (Key × V)) (H' : Hp), K0 H H' → H p = none → H' p = some (.dK kvs) → DI kvs (wayF (due n rs root) rs) → kvs.length ≤ 12 → Q (.ref p) H'
theorem ok_ways {f Pn Pr : Addr} {fd : FuncData} {f_early : Addr} {fd_early : FuncData} (F : Fun K "ways" "ways" sWays f fd)
    (k_early : PySem.W.keepIn K (.ref f_early) = true) (b_early : Binds K fd_early ["net", "root"] []) (g_early : mg "earliest" = some (.ref f_early)) (G_early : FnOk P w K mg base CX0 7 f_early fd_early ["net", "root"] (spEarly K Pn Pr)) : FnOk P w K mg base CX0 8 f fd ["net", "root"] (spWays K Pn Pr) := by
  refine F.ok scWays (fun vs H Q E h => ?_) (fun cdv A outer s H vs Q E hr h => ?_)
  · obtain ⟨a, n, rs, root, rfl, _⟩ := h
    rfl
  · obtain ⟨a, n, rs, root, rfl, hN, G, hl, r0, r1, tn, tr, q⟩ := h
    have hu := hu_of hr
    have I := due_inv (root := root) G.ok r0 r1
    have C := due_closed (root := root) G.ok r0 r1
    refine ⟨_, (pss_cons (ps_set (i := 2) scWays.nd rfl (.inl rfl) (pe_call G_early (hr.mono (by decide)) (by rfl) g_early k_early b_early .nil pass0 (pa_cons (pv 0) (pa_cons (pv 1) pa_nil))))
      (pss_cons (ps_set (i := 3) scWays.nd rfl (.inl rfl) pe_dnewK)
      (pss_cons (ps_for PassesOwn.never rfl (pi_tup (pe_ix ix_tup (pv 0) pe_int (fun _ _ => rfl))) (pg_tup rfl (pgs_cons (pg_name (i := 4) scWays.nd rfl (.inl rfl)) (pgs_cons (pg_name (i := 5) scWays.nd rfl (.inl rfl)) (pgs_cons (pg_name (i := 6) scWays.nd rfl (.inl rfl)) (pgs_cons (pg_name (i := 7) scWays.nd rfl (.inl rfl)) pgs_nil)))))
      (pss_one (ps_if (PW.pt (pw_and (pt_cmp (pc_din hu (pv 4) (pv 2))) (pw_and1 (pt_cmpR op_eq (pe_op op_add (pe_dget hu (pv 2) (pv 4) (fun _ _ => rfl)) (pv 7)) (pe_dget hu (pv 2) (pv 5) (fun _ _ => rfl)) (nomark _))))) (pss_one (ps_dput hu (pv 3) (pv 5) (pv 4) rfl)) pss_nil)))
      (pss_one (ps_ret (pv 3)))))), ?_⟩
    refine ⟨_, rfl, _, rfl, a, n, rs, root, rfl, hN, G, hl, r0, r1, tn, tr, fun p kvs H1 k1 np hp hD hkl => ?_⟩
    refine fun t nt => ?_
    have k2 := k1.mut (p := t) (o := .dK []) (k1.dom t nt)
    have nHt := k1.dom t nt
    have hpt : p ≠ t := ne_of_none hp nt
    have d0 : DI [] (wayF (due n rs root) []) := ⟨List.nodup_nil, fun p hp => (by cases hp), fun i => rfl⟩
    have hN2 := hN.k0 k2
    obtain ⟨r, xs, o, h1, h2, hc, hd, h3⟩ := hN2
    have hxs : SqT K (upd H1 t (.dK [])) r xs := h2
    have hp2 : upd H1 t (.dK []) p = some (.dK kvs) := by rw [upd_ne hpt]; exact hp
    have ht2 : upd H1 t (.dK []) t = some (.dK []) := upd_same
    generalize upd H1 t (.dK []) = H2 at k2 h1 h2 h3 hxs hp2 ht2
    have small : ∀ {ls : List (Key × V)} {j : Nat}, DI ls (wayF (due n rs root) (rs.take j)) → ls.length ≤ 12 := fun {ls j} h => h.small fun v x e => by
      obtain ⟨r', hr', e1, e2, ht⟩ := (wayF_some _).1 v x e
      have ok := G.ok r' (List.mem_of_mem_take hr')
      have := ok.e0
      have := ok.e1
      have := G.n2
      subst e1
      omega
    refine ⟨_, rfl, a, _, 1, .ref r, rfl, rfl, h1, atI_nat (j := 1) rfl, r, rfl, ⟨xs, hxs⟩, for_tup (xs := xs) (fun j σ' H' => ∃ y4 y5 y6 y7, σ' = [some (.ref a), some (.int root), some (.ref p), some (.ref t), y4, y5, y6, y7] ∧ Kt t H2 H' ∧ ∃ ls, H' t = some (.dK ls) ∧ DI ls (wayF (due n rs root) (rs.take j)))
      ⟨none, none, none, none, rfl, Kt.refl _ _, [], ht2, by rw [List.take_zero]; exact d0⟩ (fun j σ' H' _ h => ?_) (fun j x σ' H' hx h => ?_) (fun σ' H' h => ?_)⟩
    · obtain ⟨_, _, _, _, _, k, _⟩ := h
      exact k.sqT hxs
    · obtain ⟨y4, y5, y6, y7, rfl, k3, ls, hls, hDI⟩ := h
      obtain ⟨rd, q1, hrd, rfl, hs⟩ := road_at h3 hx
      have hm := List.mem_of_getElem? hrd
      have hp3 : H' p = some (.dK kvs) := k3.oth p _ hp2 hpt (fun _ z => by cases z)
      have ds := dgetR (.inl hp3) hD rd.s
      refine ⟨q1, _, rfl, k3.sqT hs, rfl, _, _, rfl, _, _, rfl, _, _, rfl, _, _, rfl, rfl, ?_⟩
      refine ⟨_, rfl, _, rfl, p, _, rfl, ds, _, rfl, ?_⟩
      rw [wayF_take hrd]
      cases es : due n rs root rd.s with
      | none =>
        rw [show tight (due n rs root) rd = false by unfold tight; rw [es]]
        exact iteF (iteF ⟨_, _, _, _, rfl, k3, ls, hls, by rw [if_neg (by decide)]; exact hDI⟩)
      | some b =>
        rw [es] at ds
        obtain ⟨c, ec, hcb⟩ := C rd hm b es
        have de := dgetR (.inl hp3) hD rd.e
        rw [ec] at de
        refine iteT ⟨_, rfl, _, rfl, p, _, rfl, ds, _, rfl, _, _, rfl, rfl, _, rfl, _, rfl, p, _, rfl, de, rfl, _, rfl, ?_⟩
        by_cases hb : b + rd.l = c
        · rw [decide_eq_true (show V.int (b + rd.l) = V.int c by rw [hb])]
          rw [show tight (due n rs root) rd = true from tight_iff.mpr ⟨b, es, by rw [ec, hb]⟩]
          refine iteT ⟨_, rfl, _, rfl, _, rfl, t, _, rfl, DPut.k (k := Sum.inl rd.e) hls (Nat.lt_of_le_of_lt (m := 5000) (Nat.le_trans (small hDI) (by decide)) (by decide)), ?_⟩
          exact ⟨_, _, _, _, rfl, k3.setD hls, _, upd_same, by rw [if_pos rfl]; exact hDI.put _ _⟩
        · rw [decide_eq_false (show ¬ V.int (b + rd.l) = V.int c from fun z => hb (V.int.inj z))]
          rw [show tight (due n rs root) rd = false by
            rw [Bool.eq_false_iff]
            intro z
            obtain ⟨b', e1, e2⟩ := tight_iff.mp z
            rw [es] at e1
            cases e1
            rw [ec] at e2
            exact hb (Option.some.inj e2).symm]
          exact iteF ⟨_, _, _, _, rfl, k3, ls, hls, by rw [if_neg (by decide)]; exact hDI⟩
    · obtain ⟨y4, y5, y6, y7, rfl, k3, ls, hls, hDI⟩ := h
      rw [h3.len, List.take_of_length_le (Nat.le_refl _)] at hDI
      refine ⟨_, rfl, q t ls _ ?_ nHt hls hDI ?_⟩
      · exact ⟨fun b o e m => k3.oth b o (k2.oth b o e m) (ne_of_none e nHt) m, fun P hP => k3.tab P (k2.tab P hP), fun b e => k2.dom b (k3.dom b e)⟩
      · refine small (j := rs.length) ?_
        rw [List.take_of_length_le (Nat.le_refl _)]
        exact hDI
end
end HK

set_option Elab.async false
set_option linter.all false
set_option maxRecDepth 100000
set_option maxHeartbeats 4000000
namespace HK
open PySem PySem.Spec PyProof.Rows L2 GAl GxR
open Evl (pss_cut)
abbrev sAOn : Stmt := topS 47
abbrev N_scAOn : List Str := ["net", "root", "moments", "road"]
theorem scAOn : FnScope N_scAOn ["net", "root"] (defScope sAOn) := ⟨rfl, rfl, rfl, by decide +kernel, rfl, by decide +kernel, by decide +kernel⟩
abbrev sOnTime : Stmt := topS 35
abbrev N_scOnTime : List Str := ["net", "root", "least", "many", "roads", "kept", "start", "end", "cost", "late"]
theorem scOnTime : FnScope N_scOnTime ["net", "root"] (defScope sOnTime) := ⟨rfl, rfl, rfl, by decide +kernel, rfl, by decide +kernel, by decide +kernel⟩
/-! ### the roads on time -/
noncomputable def onT (n : Int) (rs : List R4) (root : Int) : List R4 := rs.filter (tight (due n rs root))
theorem tight_none {f : IF} {r : R4} (h : f r.s = none) : tight f r = false := by unfold tight; rw [h]
theorem tight_some {f : IF} {r : R4} {a b : Int} (h : f r.s = some a) (h2 : f r.e = some b) : tight f r = decide (a + r.l = b) := by
  unfold tight
  rw [h, h2, Bool.eq_iff_iff]
  simp [eq_comm]
theorem filter_take {α : Type} {p : α → Bool} {l : List α} {j : Nat} {x : α} (h : l[j]? = some x) : (l.take (j + 1)).filter p = (l.take j).filter p ++ (if p x = true then [x] else []) := by
  rw [List.take_add_one, h, List.filter_append]
  congr 1
  show [x].filter p = _
  cases hp : p x <;> simp [List.filter, hp]
section
variable {P : Program} {w : World} {K : PySem.W.Frag} {mg : Str → Option Value} {base : Heap}
def spAOn (K : PySem.W.Frag) : Sp := fun vs H Q _ => ∃ (a : Addr) (n : Int) (rs : List R4) (root : Int), vs = [.ref a, .int root] ∧ NetAt K H a n rs ∧ Good n rs ∧ rs.length ≤ 156 ∧ 0 ≤ root ∧ root < n ∧
  ∀ (q : Addr) (ys : List V) (H' : Hp), K0 H H' → SqT K H' q ys → Roads K H' ys (onT n rs root) → Q (.ref q) H'
theorem ok_aon {f : Addr} {fd : FuncData} {f_aearly : Addr} {fd_aearly : FuncData} (F : Fun K "_law_aon_time" "_law_aon_time" sAOn f fd) (k_aearly : PySem.W.keepIn K (.ref f_aearly) = true) (b_aearly : Binds K fd_aearly ["net", "root"] []) (g_aearly : mg "_law_aearly" = some (.ref f_aearly)) (G_aearly : FnOk P w K mg base CX0 1 f_aearly fd_aearly ["net", "root"] (spAEarly K)) (m_tuple : mg "tuple" = none) : FnOk P w K mg base CX0 2 f fd ["net", "root"] (spAOn K) := by
  refine F.ok scAOn (fun vs H Q E h => ?_) (fun cdv A outer s H vs Q E hr h => ?_)
  · obtain ⟨a, n, rs, v, rfl, _⟩ := h
    rfl
  · obtain ⟨a, n, rs, root, rfl, hN, hG, hl, r0, r1, q⟩ := h
    have hu := hu_of hr
    refine ⟨_, (pss_cons (ps_set (i := 2) scAOn.nd rfl (.inr rfl) (pe_call G_aearly (hr.mono (by decide)) (by rfl) g_aearly k_aearly b_aearly .nil pass0 (pa_cons (pv 0) (pa_cons (pv 1) pa_nil))))
      (pss_one (ps_ret (pe_callTy HkL.call_tupR (by rfl) m_tuple (by decide +kernel) (pa_cons (pe_lc (own := [("road", 3)]) (g := (gName 3)) (tt := (tAnd (tB (tDIn (tOp (rIxT K) (tVar 3) (tC (.int 0))) (tVar 2))) (tTest (tOp rEq (tOp (rI0 fun i j => .int (i + j)) (tDGet (tVar 2) (tOp (rIxT K) (tVar 3) (tC (.int 0)))) (tOp (rIxT K) (tVar 3) (tC (.int 3)))) (tDGet (tVar 2) (tOp (rIxT K) (tVar 3) (tC (.int 1)))))))) (te := (tVar 3)) rfl scAOn.nd (pi_tup (pe_ix ix_tup (pv 0) pe_int (fun _ _ => rfl))) (blkOk_by (N := N_scAOn) (sc := defScope sAOn) (by decide +kernel)) (fun _ _ _ _ _ => (pg_name (i := 3) scAOn.nd rfl (.inl rfl))) (fun _ _ _ _ _ => (pts_one (PW.pt (pw_and (pt_cmp (pc_din hu (pe_ix ix_tup (pv 3) pe_int (fun _ _ => rfl)) (pv 2))) (pw_and1 (pt_cmpR op_eq (pe_op op_add (pe_dget hu (pv 2) (pe_ix ix_tup (pv 3) pe_int (fun _ _ => rfl)) (fun _ _ => rfl)) (pe_ix ix_tup (pv 3) pe_int (fun _ _ => rfl))) (pe_dget hu (pv 2) (pe_ix ix_tup (pv 3) pe_int (fun _ _ => rfl)) (fun _ _ => rfl)) (nomark _))))))) (fun _ _ _ _ _ => (pv 3))) pa_nil))))), ?_⟩
    refine ⟨_, rfl, _, rfl, a, n, rs, root, rfl, hN, hG, hl, r0, r1, fun p kvs H1 k1 np hp hD hkl => ?_⟩
    have C := due_closed hG.ok r0 r1
    have hN1 := hN.k0 k1
    obtain ⟨r, xs, o, h1, h2, hc, hd, h3⟩ := hN1
    have hxs : SqT K H1 r xs := h2
    have hrl : xs.length = rs.length := h3.len
    refine ⟨_, rfl, a, _, 1, .ref r, rfl, rfl, h1, atI_nat (j := 1) rfl, r, rfl, ⟨xs, hxs⟩, fun D nD => ?_⟩
    refine lc_tup (xs := xs) (fun j H' => K0 H1 H' ∧ ∃ ys, H' D = some (.lst ys) ∧ Roads K H' ys ((rs.take j).filter (tight (due n rs root)))) ⟨K0.new nD, [], upd_same, .nil⟩ (fun j H' _ h => h.1.sqT hxs) (fun j x H' hx h => ?_) (fun H2 h => ?_)
    · obtain ⟨k, ys, hD', hR⟩ := h
      obtain ⟨t, q1, hrd, rfl, hs0⟩ := road_at h3 hx
      have hs := k.sqT hs0
      have hp1 := k.oth p _ hp (fun _ z => by cases z)
      have hys : ys.length ≤ 156 := by
        have h1 := hR.len
        have h2 := List.length_filter_le (tight (due n rs root)) (rs.take j)
        rw [List.length_take] at h2
        omega
      have ft := filter_take (p := tight (due n rs root)) hrd
      refine ⟨rfl, _, rfl, q1, _, 0, .int t.s, rfl, rfl, hs, atI_nat (j := 0) rfl, _, rfl, p, _, rfl, dgetR (.inl hp1) hD t.s, _, rfl, ?_⟩
      cases es : due n rs root t.s with
      | none => exact iteF (iteF ⟨k, ys, hD', by rw [ft, tight_none es]; simpa using hR⟩)
      | some x =>
        obtain ⟨b, eb, _⟩ := C t (List.mem_of_getElem? hrd) x es
        refine iteT ⟨_, rfl, _, rfl, q1, _, 0, .int t.s, rfl, rfl, hs, atI_nat (j := 0) rfl, p, _, rfl, dget hp1 hD es, _, rfl, q1, _, 3, .int t.l, rfl, rfl, hs, atI_nat (j := 3) rfl, x, t.l, rfl, rfl, _, rfl, _, rfl, q1, _, 1, .int t.e, rfl, rfl, hs, atI_nat (j := 1) rfl, p, _, rfl, dget hp1 hD eb, rfl, _, rfl, ?_⟩
        by_cases hb : x + t.l = b
        · rw [decide_eq_true (show V.int (x + t.l) = V.int b by rw [hb])]
          refine iteT ⟨_, rfl, ys, hD', Nat.lt_of_le_of_lt (m := 5000) (by omega) (by decide), k.mut nD, ys ++ [.ref q1], upd_same, ?_⟩
          rw [ft, tight_some es eb, decide_eq_true hb]
          exact (Kt.set hD').roads (hR.snoc hs)
        · rw [decide_eq_false (show ¬ V.int (x + t.l) = V.int b from fun z => hb (V.int.inj z))]
          exact iteF ⟨k, ys, hD', by rw [ft, tight_some es eb, decide_eq_false hb]; simpa using hR⟩
    · obtain ⟨k, ys, hD', hR⟩ := h
      rw [List.take_of_length_le (by omega)] at hR
      refine ⟨D, ys, rfl, .inl ⟨.inl (.inl hD'), fun q1 nq => ?_⟩⟩
      have kq := K0.new nq (o := .tup ys)
      exact q q1 ys _ ((k1.trans k).trans kq) (.inl (.inl upd_same)) (kq.dpAll _ _ hR)
def spOnTime (K : PySem.W.Frag) (Pn Pr : Addr) : Sp := fun vs H Q _ => ∃ (a : Addr) (n : Int) (rs : List R4) (root : Int), vs = [.ref a, .int root] ∧ NetAt K H a n rs ∧ Good n rs ∧ rs.length ≤ 156 ∧ 0 ≤ root ∧ root < n ∧ TabG H Pn ∧ TabG H Pr ∧
  ∀ (q : Addr) (H' : Hp), K0 H H' → NetAt K H' q n (onT n rs root) → Q (.ref q) H'
theorem ok_ontime {f Pn Pr : Addr} {fd : FuncData} {f_early : Addr} {fd_early : FuncData} (F : Fun K "on_time" "on_time" sOnTime f fd) (k_early : PySem.W.keepIn K (.ref f_early) = true) (b_early : Binds K fd_early ["net", "root"] []) (g_early : mg "earliest" = some (.ref f_early)) (G_early : FnOk P w K mg base CX0 7 f_early fd_early ["net", "root"] (spEarly K Pn Pr)) (m_tuple : mg "tuple" = none) : FnOk P w K mg base CX0 8 f fd ["net", "root"] (spOnTime K Pn Pr) := by
  refine F.ok scOnTime (fun vs H Q E h => ?_) (fun cdv A outer s H vs Q E hr h => ?_)
  · obtain ⟨a, n, rs, v, rfl, _⟩ := h
    rfl
  · obtain ⟨a, n, rs, root, rfl, hN, hG, hl, r0, r1, tn, tr, q⟩ := h
    have hu := hu_of hr
    refine ⟨_, (pss_cons (ps_set (i := 2) scOnTime.nd rfl (.inl rfl) (pe_call G_early (hr.mono (by decide)) (by rfl) g_early k_early b_early .nil pass0 (pa_cons (pv 0) (pa_cons (pv 1) pa_nil))))
      (pss_cons (ps_asg (pv 0) (pg_tup rfl (pgs_cons (pg_name (i := 3) scOnTime.nd rfl (.inl rfl)) (pgs_cons (pg_name (i := 4) scOnTime.nd rfl (.inl rfl)) pgs_nil))))
      (pss_cons (ps_set (i := 5) scOnTime.nd rfl (.inl rfl) (pe_lst pa_nil))
      (pss_cons (ps_for PassesOwn.never rfl (pi_tup (pv 4)) (pg_tup rfl (pgs_cons (pg_name (i := 6) scOnTime.nd rfl (.inl rfl)) (pgs_cons (pg_name (i := 7) scOnTime.nd rfl (.inl rfl)) (pgs_cons (pg_name (i := 8) scOnTime.nd rfl (.inl rfl)) (pgs_cons (pg_name (i := 9) scOnTime.nd rfl (.inl rfl)) pgs_nil)))))
      (pss_one (ps_if (PW.pt (pw_and (pt_cmp (pc_din hu (pv 6) (pv 2))) (pw_and1 (pt_cmpR op_eq (pe_op op_add (pe_dget hu (pv 2) (pv 6) (fun _ _ => rfl)) (pv 9)) (pe_dget hu (pv 2) (pv 7) (fun _ _ => rfl)) (nomark _))))) (pss_one (ps_expr (pe_bm PySem.F.plainAttrs_list PySem.F.slot_list_append PySem.F.type_list_append mt_append (pv 5) (pa_cons (pe_tup (pa_cons (pv 6) (pa_cons (pv 7) (pa_cons (pv 8) (pa_cons (pv 9) pa_nil))))) pa_nil)))) pss_nil)))
      (pss_one (ps_ret (pe_tup (pa_cons (pv 3) (pa_cons (pe_callTy HkL.call_tupR (by rfl) m_tuple (by decide +kernel) (pa_cons (pv 5) pa_nil)) pa_nil))))))))), ?_⟩
    refine ⟨_, rfl, _, rfl, a, n, rs, root, rfl, hN, hG, hl, r0, r1, tn, tr, fun p kvs H1 k1 np hp hD hkl => ?_⟩
    have C := due_closed hG.ok r0 r1
    have hN1 := hN.k0 k1
    obtain ⟨r, xs, o, h1, h2, hc, hd, h3⟩ := hN1
    have hxs : SqT K H1 r xs := h2
    have hrl : xs.length = rs.length := h3.len
    refine ⟨_, rfl, a, _, rfl, h1, rfl, _, _, rfl, _, _, rfl, rfl, Nat.zero_le _, fun D nD => ?_⟩
    refine ⟨_, rfl, r, rfl, ⟨xs, (K0.new nD).sqT hxs⟩, for_tup (xs := xs) (fun j σ' H' => ∃ y6 y7 y8 y9, σ' = [some (.ref a), some (.int root), some (.ref p), some (.int n), some (.ref r), some (.ref D), y6, y7, y8, y9] ∧ K0 H1 H' ∧ ∃ ys, H' D = some (.lst ys) ∧ Roads K H' ys ((rs.take j).filter (tight (due n rs root)))) ⟨none, none, none, none, rfl, K0.new nD, [], upd_same, .nil⟩ (fun j σ' H' _ h => ?_) (fun j x σ' H' hx h => ?_) (fun σ' H2 h => ?_)⟩
    · obtain ⟨_, _, _, _, _, k, _⟩ := h
      exact k.sqT hxs
    · obtain ⟨y6, y7, y8, y9, rfl, k, ys, hD', hR⟩ := h
      obtain ⟨t, q1, hrd, rfl, hs0⟩ := road_at h3 hx
      have hs := k.sqT hs0
      have hp1 := k.oth p _ hp (fun _ z => by cases z)
      have hys : ys.length ≤ 156 := by
        have h1 := hR.len
        have h2 := List.length_filter_le (tight (due n rs root)) (rs.take j)
        rw [List.length_take] at h2
        omega
      have ft := filter_take (p := tight (due n rs root)) hrd
      refine ⟨q1, _, rfl, hs, rfl, _, _, rfl, _, _, rfl, _, _, rfl, _, _, rfl, rfl, ?_⟩
      refine ⟨_, rfl, _, rfl, p, _, rfl, dgetR (.inl hp1) hD t.s, _, rfl, ?_⟩
      cases es : due n rs root t.s with
      | none => exact iteF (iteF ⟨_, _, _, _, rfl, k, ys, hD', by rw [ft, tight_none es]; simpa using hR⟩)
      | some x =>
        obtain ⟨b, eb, _⟩ := C t (List.mem_of_getElem? hrd) x es
        refine iteT ⟨_, rfl, _, rfl, p, _, rfl, dget hp1 hD es, _, rfl, x, t.l, rfl, rfl, _, rfl, _, rfl, p, _, rfl, dget hp1 hD eb, rfl, _, rfl, ?_⟩
        by_cases hb : x + t.l = b
        · rw [decide_eq_true (show V.int (x + t.l) = V.int b by rw [hb])]
          refine iteT ⟨_, rfl, .inl ⟨rfl, _, .inl (.inl hD')⟩, _, rfl, _, rfl, _, rfl, _, rfl, by show 4 ≤ sizeLine; decide, fun tp ntp => ?_⟩
          have kT : K0 H' (upd H' tp (.tup [.int t.s, .int t.e, .int t.c, .int t.l])) := K0.new ntp
          have hD2 := kT.oth D _ hD' (fun _ z => by cases z)
          refine ⟨D, _, _, rfl, rfl, hD2, Nat.lt_of_le_of_lt (m := 5000) (by omega) (by decide), _, _, _, _, rfl, (k.trans kT).mut nD, ys ++ [.ref tp], upd_same, ?_⟩
          rw [ft, tight_some es eb, decide_eq_true hb]
          exact (Kt.set hD2).roads (Roads.snoc (r := t) (kT.dpAll _ _ hR) (.inl (.inl upd_same)))
        · rw [decide_eq_false (show ¬ V.int (x + t.l) = V.int b from fun z => hb (V.int.inj z))]
          exact iteF ⟨_, _, _, _, rfl, k, ys, hD', by rw [ft, tight_some es eb, decide_eq_false hb]; simpa using hR⟩
    · obtain ⟨y6, y7, y8, y9, rfl, k, ys, hD', hR⟩ := h
      rw [List.take_of_length_le (by omega)] at hR
      refine ⟨_, rfl, _, rfl, D, ys, rfl, .inl ⟨.inl (.inl hD'), fun q1 nq => ?_⟩⟩
      have kq := K0.new nq (o := .tup ys)
      have hq : upd H2 q1 (.tup ys) q1 = some (.tup ys) := upd_same
      generalize upd H2 q1 (.tup ys) = H3 at kq hq
      refine ⟨by show 2 ≤ sizeLine; decide, fun tn ntn => ?_⟩
      have kn := K0.new ntn (o := .tup [.int n, .ref q1])
      exact q tn _ (((k1.trans k).trans kq).trans kn) ⟨q1, ys, (), .inl (.inl upd_same), kn.sqT (.inl (.inl hq)), trivial, trivial, (kq.trans kn).dpAll _ _ hR⟩
end
end HK

set_option Elab.async false
set_option linter.all false
set_option maxRecDepth 100000
set_option maxHeartbeats 4000000
namespace HK
open PySem PySem.Spec PyProof.Rows L2 GAl GxR
open Evl (pss_cut)
abbrev sNeedH : Stmt := topS 21
abbrev N_scNeedH : List Str := ["net", "hearers"]
theorem scNeedH : FnScope N_scNeedH ["net", "hearers"] (defScope sNeedH) := ⟨rfl, rfl, rfl, by decide +kernel, rfl, by decide +kernel, by decide +kernel⟩
section
variable {P : Program} {w : World} {K : PySem.W.Frag} {mg : Str → Option Value} {base : Heap}
def spNeedH (K : PySem.W.Frag) (Pr Pa : Addr) : Sp := fun vs H Q _ => ∃ (a : Addr) (n : Int) (rs : List R4) (p : Addr) (ns : List Int), vs = [.ref a, .ref p] ∧ NetAt K H a n rs ∧ SqT K H p (ns.map V.int) ∧ AreP n ns ∧ TabG H Pr ∧ TabG H Pa ∧ ∀ (H' : Hp), K0 H H' → Q .non H'
theorem ok_needh {f Pr Pa : Addr} {fd : FuncData} {f_areplaces : Addr} {fd_areplaces : FuncData} (F : Fun K "need_hearers" "need_hearers" sNeedH f fd)
    (k_areplaces : PySem.W.keepIn K (.ref f_areplaces) = true) (b_areplaces : Binds K fd_areplaces ["net", "thing"] []) (g_areplaces : mg "are_places" = some (.ref f_areplaces)) (G_areplaces : FnOk P w K mg base CX0 5 f_areplaces fd_areplaces ["net", "thing"] (spAreP K Pr Pa)) : FnOk P w K mg base CX0 6 f fd ["net", "hearers"] (spNeedH K Pr Pa) := by
  refine F.ok scNeedH (fun vs H Q E h => ?_) (fun cdv A outer s H vs Q E hr h => ?_)
  · obtain ⟨a, n, rs, p, ns, rfl, _⟩ := h
    rfl
  · obtain ⟨a, n, rs, p, ns, rfl, hN, hS, hA, tr, ta, q⟩ := h
    refine ⟨_, (pss_one (ps_if (pt_not (pt_val (pe_call G_areplaces (hr.mono (by decide)) (by rfl) g_areplaces k_areplaces b_areplaces .nil pass0 (pa_cons (pv 0) (pa_cons (pv 1) pa_nil))))) pss_never pss_nil)), ?_⟩
    refine ⟨_, rfl, _, rfl, a, n, rs, p, ns, rfl, hN, hS, tr, ta, fun H' b k hb => ?_⟩
    have : b = true := hb.mpr hA
    subst this
    exact ⟨_, rfl, iteF (q H' k)⟩
end
end HK

set_option Elab.async false
set_option linter.all false
set_option maxRecDepth 100000
set_option maxHeartbeats 4000000
namespace HK
open PySem PySem.Spec PyProof.Rows L2 GAl GxR
open Evl (pss_cut)
abbrev sServes : Stmt := topS 27
abbrev N_scServes : List Str := ["root", "hearers", "ahead", "place"]
theorem scServes : FnScope N_scServes ["root", "hearers", "ahead"] (defScope sServes) := ⟨rfl, rfl, rfl, by decide +kernel, rfl, by decide +kernel, by decide +kernel⟩
/-! ### trim trees -/
def ServP (root : Int) (g : IF) (l : List Int) : Prop := ∀ v ∈ l, v = root ∨ (g v).isSome = true
def TrimP (rs : List R4) (root : Int) (g : IF) (m : Nat) (l : List Int) : Prop := TreeP rs root g m ∧ ServP root g l ∧ ∀ v x, g v = some x → v ∈ l ∨ ∃ u, g u = some v
theorem DI.vals {kvs : List (Key × V)} {f : IF} (h : DI kvs f) : ∃ xs : List Int, kvs.map (·.2) = xs.map V.int ∧ ∀ x, x ∈ xs ↔ ∃ v, f v = some x := by
  have aux : ∀ {l : List (Key × V)}, (∀ p ∈ l, ∃ i x : Int, p = (Sum.inl i, V.int x)) → ∃ xs : List Int, l.map (·.2) = xs.map V.int := fun {l} => by
    induction l with
    | nil => exact fun _ => ⟨[], rfl⟩
    | cons p r ih =>
      intro hl
      obtain ⟨xs, e⟩ := ih fun q hq => hl q (List.mem_cons_of_mem _ hq)
      obtain ⟨i, x, rfl⟩ := hl p (List.mem_cons_self ..)
      exact ⟨x :: xs, by rw [List.map_cons, List.map_cons, e]⟩
  obtain ⟨xs, e⟩ := aux h.ks
  refine ⟨xs, e, fun x => ⟨fun hx => ?_, fun ⟨v, ev⟩ => ?_⟩⟩
  · have : V.int x ∈ kvs.map (·.2) := by rw [e]; exact List.mem_map.mpr ⟨x, hx, rfl⟩
    obtain ⟨p, hp, ep⟩ := List.mem_map.mp this
    obtain ⟨i, y, rfl, e2⟩ := h.at_ hp
    cases ep
    exact ⟨i, e2⟩
  · have := (h.mem v).mpr (by rw [ev]; rfl)
    obtain ⟨p, hp, ep⟩ := List.mem_map.mp this
    obtain ⟨i, y, rfl, e2⟩ := h.at_ hp
    cases ep
    rw [ev] at e2
    cases e2
    have : V.int x ∈ kvs.map (·.2) := List.mem_map.mpr ⟨_, hp, rfl⟩
    rw [e] at this
    obtain ⟨y, hy, ey⟩ := List.mem_map.mp this
    cases ey
    exact hy
theorem flat_ints' (L : List Int) : (L.map V.int).all flatV = true := by
  rw [List.all_map, List.all_eq_true]
  exact fun _ _ => rfl
theorem inV_iff' (i : Int) (L : List Int) : inV (.int i) (L.map V.int) = decide (i ∈ L) := by
  rw [Bool.eq_iff_iff, decide_eq_true_iff]
  constructor
  · intro h
    unfold inV at h
    rw [List.any_map, List.any_eq_true] at h
    obtain ⟨j, hj, e⟩ := h
    have : j = i := by simpa [eqV] using e
    rw [← this]; exact hj
  · exact fun h => inV_mem h
section
variable {P : Program} {w : World} {K : PySem.W.Frag} {mg : Str → Option Value} {base : Heap}
def spServes (K : PySem.W.Frag) (Ps : Addr) : Sp := fun vs H Q _ => ∃ (root : Int) (p : Addr) (ns : List Int) (d : Addr) (kvs : List (Key × V)) (g : IF), vs = [.int root, .ref p, .ref d] ∧ SqT K H p (ns.map V.int) ∧ H d = some (.dK kvs) ∧ DI kvs g ∧ TabG H Ps ∧ ∀ (H' : Hp) (b : Bool), K0 H H' → (b = true ↔ ServP root g ns) → Q (.bl b) H'
theorem ok_serves {f c Ps : Addr} {fd : FuncData} (F : FunC K "serves" "serves" sServes f fd c) (TB : TabB base mg c Ps) (m_all : mg "all" = none) : FnOk P w K mg base CX0 2 f fd ["root", "hearers", "ahead"] (spServes K Ps) := by
  refine F.ok scServes (fun vs H Q E h => ?_) (fun A outer s H vs Q E hr h => ?_)
  · obtain ⟨root, p, ns, d, kvs, g, rfl, _⟩ := h
    rfl
  · obtain ⟨root, p, ns, d, kvs, g, rfl, hS, hd, hD, ts, q⟩ := h
    refine ⟨_, (pss_one (ps_ret (pe_allG (own := [("place", 3)]) (k := 0) (g := (gName 3)) (tt := tYes) (te := (tOrV (tOp rEq (tVar 3) (tVar 0)) (tDIn (tVar 3) (tVar 2)))) (hr.mono (by decide)) (by rfl) m_all rfl scServes.nd TB rfl (gsc_by (N := N_scServes) (sc := defScope sServes) (by decide +kernel)) (pi_tup (pv 1)) (fun A' hr' _ _ _ _ _ _ => (pg_name (i := 3) scServes.nd rfl (.inl rfl))) (fun A' hr' _ _ _ _ _ _ => pts_nil) (fun A' hr' _ _ _ _ _ _ => (pe_or (pe_cmpR op_eq (pv 3) (pv 0) (nomark _)) (pe_one (pe_cmp (pc_din (hu_of hr') (pv 3) (pv 2))))))))), ?_⟩
    refine ⟨_, rfl, p, rfl, ⟨_, hS⟩, ts, fun H2 hT2 => ?_⟩
    have k2 : K0 H H2 := K0.tbd ts hT2
    refine ⟨fun i m H3 => i + m = ns.length ∧ K0 H H3 ∧ ServP root g (ns.take i), ⟨ns.length, by omega, k2, fun v hv => by rw [List.take_zero] at hv; cases hv⟩, fun i m H3 hW => ?_⟩
    obtain ⟨em, k3, hall⟩ := hW
    have hA : SqT K H3 p (ns.map V.int) := k3.sqT hS
    by_cases hi : i < ns.length
    · have h1 : i < (ns.map V.int).length := by rw [List.length_map]; omega
      have g1 : (ns.map V.int)[i]? = some (ns.map V.int)[i] := List.getElem?_eq_getElem h1
      have g0 : ns[i]? = some ns[i] := List.getElem?_eq_getElem hi
      refine .inr ⟨⟨_, _, hA, g1⟩, fun H' => K0 H H' ∧ (ns[i] = root ∨ (g ns[i]).isSome = true), fun H' hN => ⟨m - 1, by omega, by omega, hN.1, fun v hv => ?_⟩, fun x H' hy => ?_⟩
      · rw [List.take_add_one, g0] at hv
        rcases List.mem_append.mp hv with hv | hv
        · exact hall v hv
        · have := List.mem_singleton.mp hv
          subst this
          exact hN.2
      · obtain ⟨rfl, fx⟩ := hy
        have ex : x = .int ns[i] := by
          have := fx _ hA
          rw [List.getElem?_map, g0] at this
          exact (Option.some.inj this).symm
        subst ex
        refine ⟨rfl, tyes ⟨_, rfl, _, rfl, rfl, _, rfl, ?_⟩⟩
        by_cases hb : ns[i] = root
        · rw [decide_eq_true (show V.int ns[i] = V.int root by rw [hb])]
          exact iteT ⟨_, rfl, iteT ⟨k3, .inl hb⟩⟩
        · rw [decide_eq_false (show ¬ V.int ns[i] = V.int root from fun z => hb (V.int.inj z))]
          refine iteF ⟨_, rfl, _, rfl, d, _, rfl, dgetR (.inl (k3.oth d _ hd (fun _ z => by cases z))) hD ns[i], _, rfl, ?_⟩
          cases eg : g ns[i] with
          | some y => exact iteT ⟨k3, .inr rfl⟩
          | none =>
            refine iteF (q _ false k3 ⟨fun z => by (cases z), fun z => ?_⟩)
            rcases z _ (List.getElem_mem hi) with z | z
            · exact absurd z hb
            · rw [eg] at z; cases z
    · rw [List.take_of_length_le (by omega)] at hall
      exact .inl ⟨⟨_, hA, by rw [List.length_map]; omega⟩, q _ true k3 ⟨fun _ => hall, fun _ => rfl⟩⟩
end
end HK

set_option Elab.async false
set_option linter.all false
set_option maxRecDepth 100000
set_option maxHeartbeats 4000000
namespace HK
open PySem PySem.Spec PyProof.Rows L2 GAl GxR
/-! ### trees on time -/
section
variable {n root : Int} {rs : List R4} {g : IF} {m : Nat}
/-- a tree that serves hearers, each with its least lateness -/
def OnTP (n : Int) (rs : List R4) (root : Int) (g : IF) (m : Nat) (kvs : List (Key × V)) (ns : List Int) : Prop := TreeP rs root g m ∧ ServP root g ns ∧ ∀ v ∈ ns, latF rs root g m kvs v = due n rs root v
theorem tree_due (hT : TreeP rs root g m) (hG : Good n rs) (r0 : 0 ≤ root) (r1 : root < n) : ∀ (k : Nat) (v : Int), clm g k v = root → ∃ a, due n rs root v = some a ∧ a ≤ lsum rs root g k v
  | 0, v, h => by
    have h : v = root := h
    subst h
    exact ⟨0, (due_inv hG.ok r0 r1).rt0, Int.le_refl _⟩
  | k + 1, v, h => by
    cases e : g v with
    | none =>
      have := clm_fix (i := 0) (v := v) (g := g) e (k + 1)
      rw [Nat.zero_add] at this
      rw [this] at h
      have h : v = root := h
      rw [h, lsum_root hT.1]
      exact ⟨0, (due_inv hG.ok r0 r1).rt0, Int.le_refl _⟩
    | some x =>
      have hv : v ≠ root := fun z => by
        rw [z, hT.1] at e
        cases e
      obtain ⟨r, er⟩ := Option.isSome_iff_exists.mp (hT.2.1 v x e)
      obtain ⟨q1, q2, q3⟩ := road_some er
      rw [clm_sft, stp_some e] at h
      obtain ⟨a, ha, hal⟩ := tree_due hT hG r0 r1 k x h
      obtain ⟨b, hb, hbl⟩ := due_closed hG.ok r0 r1 r q1 a (by rw [q2]; exact ha)
      rw [q3] at hb
      refine ⟨b, hb, ?_⟩
      rw [lsum_sft, if_neg hv, stp_some e, er]
      show b ≤ r.l + lsum rs root g k x
      omega
theorem onT_road (up : rs.Pairwise R4.lt) {r : R4} {x v : Int} (er : road rs x v = some r) : (road (onT n rs root) x v).isSome = true ↔ tight (due n rs root) r = true := by
  obtain ⟨q1, q2, q3⟩ := road_some er
  constructor
  · intro h
    obtain ⟨r', er'⟩ := Option.isSome_iff_exists.mp h
    obtain ⟨p1, p2, p3⟩ := road_some er'
    obtain ⟨p1, p4⟩ := List.mem_filter.mp p1
    have : road rs r'.s r'.e = some r' := road_of up p1
    rw [p2, p3, er] at this
    cases this
    exact p4
  · intro h
    have hm : r ∈ onT n rs root := List.mem_filter.mpr ⟨q1, h⟩
    cases e : road (onT n rs root) x v with
    | none => exact absurd ⟨q2, q3⟩ (road_none e r hm)
    | some _ => rfl
theorem ontime_iff (hT : TreeP rs root g m) (hG : Good n rs) (r0 : 0 ≤ root) (r1 : root < n) : ∀ (k : Nat) (v : Int), clm g k v = root → (due n rs root v = some (lsum rs root g k v) ↔ ∀ i, i < k → ∀ x, g (clm g i v) = some x → (road (onT n rs root) x (clm g i v)).isSome = true)
  | 0, v, h => by
    have h : v = root := h
    subst h
    exact ⟨fun _ i hi => absurd hi (Nat.not_lt_zero _), fun _ => (due_inv hG.ok r0 r1).rt0⟩
  | k + 1, v, h => by
    cases e : g v with
    | none =>
      have fix : ∀ j, clm g j v = v := fun j => by
        have := clm_fix (i := 0) (v := v) (g := g) e j
        rw [Nat.zero_add] at this
        exact this
      rw [fix] at h
      subst h
      rw [lsum_root hT.1]
      refine ⟨fun _ i hi x hx => ?_, fun _ => (due_inv hG.ok r0 r1).rt0⟩
      rw [fix, e] at hx
      cases hx
    | some x =>
      have hv : v ≠ root := fun z => by
        rw [z, hT.1] at e
        cases e
      obtain ⟨r, er⟩ := Option.isSome_iff_exists.mp (hT.2.1 v x e)
      obtain ⟨q1, q2, q3⟩ := road_some er
      have hs : ∀ i, clm g (i + 1) v = clm g i x := fun i => by rw [clm_sft, stp_some e]
      rw [hs] at h
      obtain ⟨a, ha, hal⟩ := tree_due hT hG r0 r1 k x h
      have ha' : due n rs root r.s = some a := by rw [q2]; exact ha
      obtain ⟨b, hb, hbl⟩ := due_closed hG.ok r0 r1 r q1 a ha'
      have ih := ontime_iff hT hG r0 r1 k x h
      have el : lsum rs root g (k + 1) v = r.l + lsum rs root g k x := by
        rw [lsum_sft, if_neg hv, stp_some e, er]
        rfl
      have ht := onT_road (n := n) (root := root) hG.up er
      rw [tight_some ha' hb, decide_eq_true_iff] at ht
      have hb' : due n rs root v = some b := by rw [← q3]; exact hb
      rw [hb', el]
      constructor
      · intro hq
        have hq : b = r.l + lsum rs root g k x := Option.some.inj hq
        have h1 : a = lsum rs root g k x := by omega
        intro i hi y hy
        cases i with
        | zero =>
          have hy : g v = some y := hy
          rw [e] at hy
          cases hy
          exact ht.mpr (by omega)
        | succ i =>
          rw [hs] at hy ⊢
          exact ih.mp (by rw [ha, h1]) i (by omega) y hy
      · intro hq
        have h0 := ht.mp (hq 0 (by omega) x e)
        have h1 := ih.mpr fun i hi y hy => by
          have := hq (i + 1) (by omega) y (by rw [hs]; exact hy)
          rw [hs] at this
          exact this
        rw [ha] at h1
        have h1 := Option.some.inj h1
        rw [← h1, ← h0, Int.add_comm]
theorem served {v : Int} (hT : TreeP rs root g m) (h : v = root ∨ (g v).isSome = true) : clm g m v = root := by
  rcases h with h | h
  · subst h
    have := clm_root (i := 0) (v := v) hT.1 rfl m
    rwa [Nat.zero_add] at this
  · obtain ⟨x, e⟩ := Option.isSome_iff_exists.mp h
    exact hT.2.2 v x e
/-- told by the roads -/
theorem ontp_roads {kvs : List (Key × V)} {ns : List Int} (hD : DI kvs g) (hG : Good n rs) (r0 : 0 ≤ root) (r1 : root < n) : OnTP n rs root g kvs.length kvs ns ↔ TreeP rs root g kvs.length ∧ ∀ v ∈ ns, (v = root ∨ (g v).isSome = true) ∧ ∀ i, i < kvs.length → ∀ x, g (clm g i v) = some x → (road (onT n rs root) x (clm g i v)).isSome = true := by
  constructor
  · rintro ⟨hT, hS, hL⟩
    refine ⟨hT, fun v hv => ⟨hS v hv, ?_⟩⟩
    have := hL v hv
    rw [lat_iff hD hT.1, if_pos (hS v hv)] at this
    exact (ontime_iff hT hG r0 r1 _ v (served hT (hS v hv))).mp this.symm
  · rintro ⟨hT, h⟩
    refine ⟨hT, fun v hv => (h v hv).1, fun v hv => ?_⟩
    rw [lat_iff hD hT.1, if_pos (h v hv).1]
    exact ((ontime_iff hT hG r0 r1 _ v (served hT (h v hv).1)).mpr (h v hv).2).symm
end
end HK

set_option Elab.async false
set_option linter.all false
set_option maxRecDepth 100000
set_option maxHeartbeats 4000000
namespace HK
open PySem PySem.Spec PyProof.Rows L2 GAl GxR
open Evl (pss_cut)
abbrev sADue : Stmt := topS 48
abbrev N_scADue : List Str := ["net", "root", "some", "ahead", "moments", "told", "place"]
theorem scADue : FnScope N_scADue ["net", "root", "some", "ahead"] (defScope sADue) := ⟨rfl, rfl, rfl, by decide +kernel, rfl, by decide +kernel, by decide +kernel⟩
abbrev sABy : Stmt := topS 49
abbrev N_scABy : List Str := ["net", "root", "some", "ahead", "roads", "place", "here", "turn", "road"]
theorem scABy : FnScope N_scABy ["net", "root", "some", "ahead"] (defScope sABy) := ⟨rfl, rfl, rfl, by decide +kernel, rfl, by decide +kernel, by decide +kernel⟩
theorem flat_bls : ∀ bs : List Bool, (bs.map V.bl).all flatV = true
  | [] => rfl
  | b :: bs => by
    rw [List.map_cons, List.all_cons, flat_bls bs]
    rfl
theorem inV_bls : ∀ bs : List Bool, inV (.bl false) (bs.map V.bl) = !bs.all id
  | [] => rfl
  | b :: bs => by
    have ih := inV_bls bs
    unfold inV at ih ⊢
    rw [List.map_cons, List.any_cons, ih, List.all_cons]
    cases b <;> simp [eqV]
section
variable {P : Program} {w : World} {K : PySem.W.Frag} {mg : Str → Option Value} {base : Heap}
def spADue (K : PySem.W.Frag) : Sp := fun vs H Q _ => ∃ (a : Addr) (n : Int) (rs : List R4) (root : Int) (s : Addr) (ns : List Int) (p : Addr) (kvs : List (Key × V)) (g : IF), vs = [.ref a, .int root, .ref s, .ref p] ∧ NetAt K H a n rs ∧ Good n rs ∧ rs.length ≤ 156 ∧ 0 ≤ root ∧ root < n ∧
  SqT K H s (ns.map V.int) ∧ ns.length ≤ 100 ∧ H p = some (.dK kvs) ∧ DI kvs g ∧ kvs.length ≤ 30 ∧ ∀ (H' : Hp) (b : Bool), K0 H H' → (b = true ↔ OnTP n rs root g kvs.length kvs ns) → Q (.bl b) H'
theorem ok_adue {f : Addr} {fd : FuncData} {f_aistree f_aearly f_alates : Addr} {fd_aistree fd_aearly fd_alates : FuncData} (F : Fun K "_law_adue" "_law_adue" sADue f fd) (k_aistree : PySem.W.keepIn K (.ref f_aistree) = true) (b_aistree : Binds K fd_aistree ["net", "root", "ahead"] []) (g_aistree : mg "_law_ais_tree" = some (.ref f_aistree)) (G_aistree : FnOk P w K mg base CX0 1 f_aistree fd_aistree ["net", "root", "ahead"] (spATree K))
    (k_aearly : PySem.W.keepIn K (.ref f_aearly) = true) (b_aearly : Binds K fd_aearly ["net", "root"] []) (g_aearly : mg "_law_aearly" = some (.ref f_aearly)) (G_aearly : FnOk P w K mg base CX0 1 f_aearly fd_aearly ["net", "root"] (spAEarly K))
    (k_alates : PySem.W.keepIn K (.ref f_alates) = true) (b_alates : Binds K fd_alates ["net", "root", "ahead"] []) (g_alates : mg "_law_alates" = some (.ref f_alates)) (G_alates : FnOk P w K mg base CX0 1 f_alates fd_alates ["net", "root", "ahead"] (spALates K)) : FnOk P w K mg base CX0 2 f fd ["net", "root", "some", "ahead"] (spADue K) := by
  refine F.ok scADue (fun vs H Q E h => ?_) (fun cdv A outer s H vs Q E hr h => ?_)
  · obtain ⟨a, n, rs, root, s, ns, p, kvs, g, rfl, _⟩ := h
    rfl
  · obtain ⟨a, n, rs, root, s, ns, p, kvs, g, rfl, hN, hG, hl, r0, r1, hs, hnl, hp, hD, hkl, q⟩ := h
    have hu := hu_of hr
    refine ⟨_, (pss_cons (ps_if (pt_not (pt_val (pe_call G_aistree (hr.mono (by decide)) (by rfl) g_aistree k_aistree b_aistree .nil pass0 (pa_cons (pv 0) (pa_cons (pv 1) (pa_cons (pv 3) pa_nil)))))) (pss_one (ps_ret pe_bl)) pss_nil)
      (pss_cons (ps_set (i := 4) scADue.nd rfl (.inr rfl) (pe_call G_aearly (hr.mono (by decide)) (by rfl) g_aearly k_aearly b_aearly .nil pass0 (pa_cons (pv 0) (pa_cons (pv 1) pa_nil))))
      (pss_cons (ps_set (i := 5) scADue.nd rfl (.inr rfl) (pe_call G_alates (hr.mono (by decide)) (by rfl) g_alates k_alates b_alates .nil pass0 (pa_cons (pv 0) (pa_cons (pv 1) (pa_cons (pv 3) pa_nil)))))
      (pss_one (ps_ret (pe_cmpR op_notIn_seq pe_bl (pe_lc (own := [("place", 6)]) (g := (gName 6)) (tt := tYes) (te := (tAndV (tDIn (tVar 6) (tVar 5)) (tOp rEq (tDGet (tVar 5) (tVar 6)) (tDGet (tVar 4) (tVar 6))))) rfl scADue.nd (pi_tup (pv 2)) (blkOk_by (N := N_scADue) (sc := defScope sADue) (by decide +kernel)) (fun _ _ _ _ _ => (pg_name (i := 6) scADue.nd rfl (.inl rfl))) (fun _ _ _ _ _ => pts_nil) (fun _ _ _ _ _ => (pe_and (pe_cmp (pc_din hu (pv 6) (pv 5))) (pe_one (pe_cmpR op_eq (pe_dget hu (pv 5) (pv 6) (fun _ _ => rfl)) (pe_dget hu (pv 4) (pv 6) (fun _ _ => rfl)) (nomark _)))))) rfl)))))), ?_⟩
    refine ⟨_, rfl, _, rfl, _, rfl, a, n, rs, root, p, kvs, g, rfl, hN, hl, hp, hD, by omega, fun H1 b k1 hb => ⟨_, rfl, ?_⟩⟩
    cases b with
    | false => exact iteT (q _ false k1 ⟨fun z => by (cases z), fun z => absurd (hb.mpr z.1) (by decide)⟩)
    | true =>
    have hT := hb.mp rfl
    refine iteF ⟨_, rfl, _, rfl, a, n, rs, root, rfl, hN.k0 k1, hG, hl, r0, r1, fun m ms H2 k2 nm hm hM hml => ?_⟩
    have k12 := k1.trans k2
    have hp2 := k12.oth p _ hp (fun _ z => by cases z)
    refine ⟨_, rfl, _, rfl, _, rfl, a, n, rs, root, p, kvs, g, rfl, hN.k0 k12, hG, hl, hp2, hD, hkl, hT, fun t ts H3 k3 nt ht hL htl => ?_⟩
    have k13 := k12.trans k3
    have hm3 := k3.oth m _ hm (fun _ z => by cases z)
    refine ⟨_, rfl, s, rfl, ⟨_, k13.sqT hs⟩, fun D nD => ?_⟩
    refine lc_tup (xs := ns.map V.int) (fun j H' => K0 H3 H' ∧ ∃ bs : List Bool, H' D = some (.lst (bs.map V.bl)) ∧ bs.length = j ∧ (bs.all id = true ↔ ∀ v ∈ ns.take j, (latF rs root g kvs.length kvs v).isSome = true ∧ latF rs root g kvs.length kvs v = due n rs root v)) ⟨K0.new nD, [], upd_same, rfl, fun _ v hv => (by rw [List.take_zero] at hv; cases hv), fun _ => rfl⟩ (fun j H' _ h => h.1.sqT (k13.sqT hs)) (fun j x H' hx h => ?_) (fun H4 h => ?_)
    · obtain ⟨k, bs, hD', hbl, hall⟩ := h
      rw [List.getElem?_map] at hx
      cases ev : ns[j]? with
      | none => rw [ev] at hx; cases hx
      | some v =>
      rw [ev] at hx
      cases hx
      have htk : ns.take (j + 1) = ns.take j ++ [v] := by rw [List.take_add_one, ev]; rfl
      have hj : j < ns.length := (List.getElem?_eq_some_iff.mp ev).1
      have snoc : ∀ b : Bool, (b = true ↔ ((latF rs root g kvs.length kvs v).isSome = true ∧ latF rs root g kvs.length kvs v = due n rs root v)) → ((bs ++ [b]).all id = true ↔ ∀ v ∈ ns.take (j + 1), (latF rs root g kvs.length kvs v).isSome = true ∧ latF rs root g kvs.length kvs v = due n rs root v) := fun b hb => by
        rw [htk, List.all_append, Bool.and_eq_true, hall]
        constructor
        · rintro ⟨h1, h2⟩ u hu
          rcases List.mem_append.mp hu with hu | hu
          · exact h1 u hu
          · rw [List.mem_singleton.mp hu]
            exact hb.mp (by simpa using h2)
        · intro h
          exact ⟨fun u hu => h u (List.mem_append_left _ hu), by simpa using hb.mpr (h v (List.mem_append_right _ (List.mem_singleton.mpr rfl)))⟩
      have put : ∀ {H5} (b : Bool), K0 H' H5 → (b = true ↔ ((latF rs root g kvs.length kvs v).isSome = true ∧ latF rs root g kvs.length kvs v = due n rs root v)) → ∃ acc, H5 D = some (.lst acc) ∧ acc.length < sizeLine ∧ K0 H3 (upd H5 D (.lst (acc ++ [.bl b]))) ∧ ∃ bs : List Bool, upd H5 D (.lst (acc ++ [.bl b])) D = some (.lst (bs.map V.bl)) ∧ bs.length = j + 1 ∧ (bs.all id = true ↔ ∀ v ∈ ns.take (j + 1), (latF rs root g kvs.length kvs v).isSome = true ∧ latF rs root g kvs.length kvs v = due n rs root v) := fun {H5} b k5 hb =>
        ⟨_, k5.oth D _ hD' (fun _ z => by cases z), Nat.lt_of_le_of_lt (m := 5000) (by rw [List.length_map]; omega) (by decide), (k.trans k5).mut nD, bs ++ [b], by rw [List.map_append]; exact upd_same, by rw [List.length_append, List.length_singleton, hbl], snoc b hb⟩
      have ht1 := k.oth t _ ht (fun _ z => by cases z)
      have hm1 := k.oth m _ hm3 (fun _ z => by cases z)
      refine ⟨rfl, tyes ?_⟩
      refine ⟨_, rfl, _, rfl, t, _, rfl, dgetR (.inl ht1) hL v, ?_⟩
      refine ⟨_, rfl, ?_⟩
      cases el : latF rs root g kvs.length kvs v with
      | none => exact iteF (put false (K0.refl _) ⟨fun z => by (cases z), fun z => by (rw [el] at z; cases z.1)⟩)
      | some x =>
        have hv : v = root ∨ (g v).isSome = true := by
          have h := el
          rw [lat_iff hD hT.1] at h
          split at h
          · next h' => exact h'
          · cases h
        obtain ⟨b, eb, _⟩ := tree_due hT hG r0 r1 _ v (served hT hv)
        have dm := dget hm1 hM eb
        refine iteT ⟨_, rfl, _, rfl, t, _, rfl, dget ht1 hL el, _, rfl, _, rfl, m, _, rfl, dm, rfl, put _ (K0.refl _) ?_⟩
        rw [el, eb, decide_eq_true_iff]
        exact ⟨fun z => ⟨rfl, by rw [V.int.inj z]⟩, fun z => by rw [Option.some.inj z.2]⟩
    · obtain ⟨k, bs, hD', hbl, hall⟩ := h
      rw [List.take_of_length_le (by rw [List.length_map]; exact Nat.le_refl _)] at hall
      refine ⟨D, _, rfl, .inl (.inl (.inl hD')), rfl, flat_bls bs, qeq (q H4 (bs.all id) (k13.trans k) ?_) ?_⟩
      · rw [hall]
        constructor
        · intro h
          refine ⟨hT, fun v hv => ?_, fun v hv => (h v hv).2⟩
          have h := (h v hv).1
          rw [lat_iff hD hT.1] at h
          split at h
          · next h' => exact h'
          · cases h
        · rintro ⟨_, hS, hL'⟩ v hv
          refine ⟨?_, hL' v hv⟩
          rw [lat_iff hD hT.1, if_pos (hS v hv)]
          rfl
      · rw [inV_bls]
        simp
theorem ok_aby {f : Addr} {fd : FuncData} {f_aistree f_aon : Addr} {fd_aistree fd_aon : FuncData} (F : Fun K "_law_aby_roads" "_law_aby_roads" sABy f fd) (k_aistree : PySem.W.keepIn K (.ref f_aistree) = true) (b_aistree : Binds K fd_aistree ["net", "root", "ahead"] []) (g_aistree : mg "_law_ais_tree" = some (.ref f_aistree)) (G_aistree : FnOk P w K mg base CX0 1 f_aistree fd_aistree ["net", "root", "ahead"] (spATree K))
    (k_aon : PySem.W.keepIn K (.ref f_aon) = true) (b_aon : Binds K fd_aon ["net", "root"] []) (g_aon : mg "_law_aon_time" = some (.ref f_aon)) (G_aon : FnOk P w K mg base CX0 2 f_aon fd_aon ["net", "root"] (spAOn K)) (m_range : mg "range" = none) (m_len : mg "len" = none) : FnOk P w K mg base CX0 3 f fd ["net", "root", "some", "ahead"] (spADue K) := by
  refine F.ok scABy (fun vs H Q E h => ?_) (fun cdv A outer s H vs Q E hr h => ?_)
  · obtain ⟨a, n, rs, root, s, ns, p, kvs, g, rfl, _⟩ := h
    rfl
  · obtain ⟨a, n, rs, root, s, ns, p, kvs, g, rfl, hN, hG, hl, r0, r1, hs, hnl, hp, hD, hkl, q⟩ := h
    have hu := hu_of hr
    refine ⟨_, (pss_cons (ps_if (pt_not (pt_val (pe_call G_aistree (hr.mono (by decide)) (by rfl) g_aistree k_aistree b_aistree .nil pass0 (pa_cons (pv 0) (pa_cons (pv 1) (pa_cons (pv 3) pa_nil)))))) (pss_one (ps_ret pe_bl)) pss_nil)
      (pss_cons (ps_setLc (i := 4) (own := [("road", 8)]) (g := (gName 8)) (tt := tYes) (te := (tSl (rSlT K) (tVar 8) tNoPart (tPart (tC (.int 2))))) rfl scABy.nd rfl rfl (sw_true rfl rfl rfl rfl) (pi_tup (pe_call G_aon (hr.mono (by decide)) (by rfl) g_aon k_aon b_aon .nil pass0 (pa_cons (pv 0) (pa_cons (pv 1) pa_nil)))) (blkOk_by (N := N_scABy) (sc := defScope sABy) (by decide +kernel)) (fun _ _ _ _ _ => (pg_name (i := 8) scABy.nd rfl (.inl rfl))) (fun _ _ _ _ _ => pts_nil) (fun _ _ _ _ _ => (pe_slice sl_tup (pv 8) po_none (po_some pe_int))))
      (pss_cons (ps_for PassesOwn.never rfl (pi_tup (pv 2)) (pg_name (i := 5) scABy.nd rfl (.inl rfl))
      (pss_cons (ps_set (i := 6) scABy.nd rfl (.inl rfl) (pv 5))
      (pss_cut (ps_if (PW.pt (pw_and (pt_cmpR op_ne (pv 6) (pv 1) (nomark _)) (pw_and1 (pt_cmp (pc_dnotin hu (pv 6) (pv 3)))))) (pss_one (ps_ret pe_bl)) pss_nil)
      (pss_one (ps_for PassesOwn.never rfl (pi_range1 (by rfl) m_range (pa_cons (pe_callB call_lenR (by rfl) m_len PySem.boot_len (pa_cons (pv 3) pa_nil)) pa_nil)) (pg_name (i := 7) scABy.nd rfl (.inl rfl))
      (pss_one (ps_if (pt_cmp (pc_din hu (pv 6) (pv 3))) (pss_cons (ps_if (pt_cmpR (HkI.op_notInD hr.units) (pe_tup (pa_cons (pe_dget hu (pv 3) (pv 6) (fun _ _ => rfl)) (pa_cons (pv 6) pa_nil))) (pv 4) rfl) (pss_one (ps_ret pe_bl)) pss_nil)
      (pss_one (ps_set (i := 6) scABy.nd rfl (.inl rfl) (pe_dget hu (pv 3) (pv 6) (fun _ _ => rfl))))) pss_nil)))))))
      (pss_one (ps_ret pe_bl))))), ?_⟩
    refine ⟨_, rfl, _, rfl, _, rfl, a, n, rs, root, p, kvs, g, rfl, hN, hl, hp, hD, by omega, fun H1 b k1 hb => ⟨_, rfl, ?_⟩⟩
    have hOn := ontp_roads (ns := ns) hD hG r0 r1
    cases b with
    | false => exact iteT (q _ false k1 ⟨fun z => by (cases z), fun z => absurd (hb.mpr z.1) (by decide)⟩)
    | true =>
    have hT := hb.mp rfl
    refine iteF ⟨_, rfl, _, rfl, a, n, rs, root, rfl, hN.k0 k1, hG, hl, r0, r1, fun o xs H2 k2 hxs hR => ?_⟩
    have hrl : xs.length ≤ 156 := by
      have h1 := hR.len
      have h2 := List.length_filter_le (tight (due n rs root)) rs
      have h3 : (onT n rs root).length = (rs.filter (tight (due n rs root))).length := rfl
      omega
    have hxl : xs.length = (onT n rs root).length := hR.len
    refine ⟨o, rfl, ⟨xs, hxs⟩, fun D nD => ?_⟩
    refine lc_tup (xs := xs) (fun j H' => K0 H2 H' ∧ ∃ ys, H' D = some (.lst ys) ∧ TupsAt K H' ys (((onT n rs root).take j).map pr)) ⟨K0.new nD, [], upd_same, rfl, fun i x e => (by cases e)⟩ (fun j H' _ h => h.1.sqT hxs) (fun j x H' hx h => ?_) (fun H3 h => ?_)
    · obtain ⟨k, ys, hD', hT⟩ := h
      obtain ⟨t, q1, hrd, rfl, hs⟩ := road_at hR hx
      have htk : (onT n rs root).take (j + 1) = (onT n rs root).take j ++ [t] := by rw [List.take_add_one, hrd]; rfl
      have hys : ys.length ≤ 156 := by rw [hT.1, List.length_map, List.length_take]; omega
      refine ⟨rfl, tyes ⟨_, rfl, 2, rfl, q1, t.vs, rfl, k.sqT hs, fun z => absurd z.2 (by show ¬ (HT.sIx 4 4 (some 2) = 4); decide), fun b nb => ?_⟩⟩
      have kb : K0 H' (upd H' b (.tup [.int t.s, .int t.e])) := K0.new nb
      have hDb := kb.oth D _ hD' (fun _ z => by cases z)
      refine ⟨ys, hDb, Nat.lt_of_le_of_lt (m := 5000) (by omega) (by decide), (k.trans kb).mut nD, ys ++ [.ref b], upd_same, ?_⟩
      rw [htk, List.map_append]
      have hT2 : TupsAt K (upd H' b (.tup [.int t.s, .int t.e])) (ys ++ [.ref b]) (((onT n rs root).take j).map pr ++ [pr t]) := (hT.kt (kb.kt (t := D))).snoc (.inl (.inl upd_same))
      exact hT2.kt (Kt.set hDb)
    obtain ⟨k3, ys, hD3, hTu⟩ := h
    rw [List.take_of_length_le (by omega)] at hTu
    have k13 := (k1.trans k2).trans k3
    have hp3 := k13.oth p _ hp (fun _ z => by cases z)
    have hDl : DpAll K H3 ys (((onT n rs root).map pr).map tpD) := tups_dp hTu
    refine ⟨_, rfl, s, rfl, ⟨_, k13.sqT hs⟩, for_tup (xs := ns.map V.int) (fun j σ' H' => ∃ y5 y6 y7, σ' = [some (.ref a), some (.int root), some (.ref s), some (.ref p), some (.ref D), y5, y6, y7, none] ∧ K0 H3 H' ∧ ∀ v ∈ ns.take j, (v = root ∨ (g v).isSome = true) ∧ ∀ i, i < kvs.length → ∀ x, g (clm g i v) = some x → (road (onT n rs root) x (clm g i v)).isSome = true)
      ⟨none, none, none, rfl, K0.refl _, fun v hv => (by rw [List.take_zero] at hv; cases hv)⟩ (fun j σ' H' _ h => ?_) (fun j x σ' H' hx h => ?_) (fun σ' H' h => ?_)⟩
    · obtain ⟨_, _, _, _, k, _⟩ := h
      exact k.sqT (k13.sqT hs)
    · obtain ⟨y5, y6, y7, rfl, k, hall⟩ := h
      rw [List.getElem?_map] at hx
      cases ev : ns[j]? with
      | none => rw [ev] at hx; cases hx
      | some v =>
      rw [ev] at hx
      cases hx
      have hvm : v ∈ ns := List.mem_of_getElem? ev
      have htk : ns.take (j + 1) = ns.take j ++ [v] := by rw [List.take_add_one, ev]; rfl
      have fail : ¬ ((v = root ∨ (g v).isSome = true) ∧ ∀ i, i < kvs.length → ∀ x, g (clm g i v) = some x → (road (onT n rs root) x (clm g i v)).isSome = true) → ∀ {H7}, K0 H3 H7 → Q (.bl false) H7 := fun hn {H7} k7 =>
        q _ false (k13.trans k7) ⟨fun z => by (cases z), fun z => absurd ((hOn.mp z).2 v hvm) hn⟩
      refine ⟨_, rfl, ?_⟩
      refine ⟨fun σ' H'' => σ' = [some (.ref a), some (.int root), some (.ref s), some (.ref p), some (.ref D), some (.int v), some (.int v), y7, none] ∧ H'' = H' ∧ (v = root ∨ (g v).isSome = true), ?_, ?_⟩
      · refine ⟨_, rfl, _, rfl, rfl, _, rfl, ?_⟩
        by_cases hv : v = root
        · rw [decide_eq_true (show V.int v = V.int root by rw [hv])]
          exact iteF (iteF ⟨rfl, rfl, .inl hv⟩)
        · rw [decide_eq_false (show ¬ V.int v = V.int root from fun z => hv (V.int.inj z))]
          refine iteT ⟨_, rfl, _, rfl, p, _, rfl, dgetR (.inl (k.oth p _ hp3 (fun _ z => by cases z))) hD v, _, rfl, ?_⟩
          cases eg : g v with
          | some y => exact iteF ⟨rfl, rfl, .inr rfl⟩
          | none =>
            refine iteT (fail (fun z => ?_) k)
            rcases z.1 with z | z
            · exact absurd z hv
            · rw [eg] at z; cases z
      rintro σ' H'' ⟨rfl, rfl, hsv⟩
      have hpk : ∀ {H7}, K0 H3 H7 → Rd H7 p (.dK kvs) := fun k7 => .inl (k7.oth p _ hp3 (fun _ z => by cases z))
      refine ⟨_, rfl, p, kvs, rfl, hpk k, _, rfl, by omega, by omega, for_range (lo := 0) (n := kvs.length) (fun i σ' H' => ∃ y7, σ' = [some (.ref a), some (.int root), some (.ref s), some (.ref p), some (.ref D), some (.int v), some (.int (clm g i v)), y7, none] ∧ K0 H3 H' ∧ ∀ i', i' < i → ∀ x, g (clm g i' v) = some x → (road (onT n rs root) x (clm g i' v)).isSome = true)
        ⟨y7, rfl, k, fun i' hi' => absurd hi' (Nat.not_lt_zero _)⟩ (fun i σ' H5 hi h => ?_) (fun σ' H5 h => ?_)⟩
      · obtain ⟨y7, rfl, k5, hok⟩ := h
        have es : clm g (i + 1) v = stp g (clm g i v) := rfl
        have ext : (∀ x, g (clm g i v) = some x → (road (onT n rs root) x (clm g i v)).isSome = true) → ∀ i', i' < i + 1 → ∀ x, g (clm g i' v) = some x → (road (onT n rs root) x (clm g i' v)).isSome = true := fun h i' hi' x hx => by
          by_cases e : i' = i
          · subst e; exact h x hx
          · exact hok i' (by omega) x hx
        have fail2 : ∀ x, g (clm g i v) = some x → (road (onT n rs root) x (clm g i v)).isSome = false → ∀ {H7}, K0 H3 H7 → Q (.bl false) H7 := fun x hx hr {H7} k7 => fail (fun z => by
          have := z.2 i (by have hi : i < kvs.length := hi; exact hi) x hx
          rw [hr] at this
          cases this) k7
        generalize clm g i v = c at es ext fail2 ⊢
        refine ⟨_, rfl, _, rfl, p, _, rfl, dgetR (hpk k5) hD c, _, rfl, ?_⟩
        cases ec : g c with
        | none => exact iteF ⟨_, by rw [es, stp_none ec]; rfl, k5, ext (fun x z => by rw [ec] at z; cases z)⟩
        | some x =>
          have dc : ∀ {H7}, K0 H3 H7 → DGet H7 p (.int c) (some (.int x)) := fun k7 => by
            have := dgetR (hpk k7) hD c
            rw [ec] at this
            exact this
          refine iteT ⟨_, rfl, _, rfl, p, _, rfl, dc k5, _, rfl, by show 2 ≤ sizeLine; decide, fun b nb => ?_⟩
          have k6 := k5.trans (K0.new nb (o := .tup [.int x, .int c]))
          have hb6 : upd H5 b (.tup [.int x, .int c]) b = some (.tup (([x, c] : List Int).map V.int)) := upd_same
          generalize upd H5 b (.tup [.int x, .int c]) = H6 at k6 hb6
          refine ⟨_, rfl, tpD [x, c], ((onT n rs root).map pr).map tpD, .tup (.inl (.inl hb6)) (dpInts _), .lst (.inl (.inl (k6.oth D _ hD3 (fun _ z => by cases z)))) (k6.dpAll _ _ hDl), lay_tp _, lay_tps _, depth2 _ _, _, rfl, ?_⟩
          rw [any_road]
          cases er : (road (onT n rs root) x c).isSome with
          | false => exact iteT (fail2 x ec er k6)
          | true => exact iteF ⟨_, rfl, _, rfl, p, _, rfl, dc k6, _, by rw [es, stp_some ec]; rfl, k6, ext (fun y z => by rw [ec] at z; cases z; exact er)⟩
      · obtain ⟨y7, rfl, k5, hok⟩ := h
        refine ⟨_, _, _, rfl, k5, fun u hu => ?_⟩
        rw [htk] at hu
        rcases List.mem_append.mp hu with hu | hu
        · exact hall u hu
        · rw [List.mem_singleton.mp hu]
          exact ⟨hsv, hok⟩
    · obtain ⟨y5, y6, y7, rfl, k, hall⟩ := h
      rw [List.take_of_length_le (by rw [List.length_map]; exact Nat.le_refl _)] at hall
      exact q _ true (k13.trans k) ⟨fun _ => hOn.mpr ⟨hT, hall⟩, fun _ => rfl⟩
end
end HK

set_option Elab.async false
set_option linter.all false
set_option maxRecDepth 100000
set_option maxHeartbeats 4000000
namespace HK
open PySem PySem.Spec PyProof.Rows L2 GAl GxR
open Evl (pss_cut)
section
variable {P : Program} {w : World} {K : PySem.W.Frag} {mg : Str → Option Value} {base : Heap}
def spIsTrim (K : PySem.W.Frag) (Pn Pr Pa Pp Pg Ps Pt : Addr) : Sp := fun vs H Q _ => ∃ (a : Addr) (n : Int) (rs : List R4) (root : Int) (p : Addr) (ns : List Int) (d : Addr) (kvs : List (Key × V)) (g : IF), vs = [.ref a, .int root, .ref p, .ref d] ∧ NetAt K H a n rs ∧ Good n rs ∧ rs.length ≤ 156 ∧ 0 ≤ root ∧ root < n ∧
  SqT K H p (ns.map V.int) ∧ AreP n ns ∧ H d = some (.dK kvs) ∧ DI kvs g ∧ kvs.length ≤ 5000 ∧ TbL H [Pn, Pr, Pa, Pp, Pg, Ps, Pt] ∧ ∀ (H' : Hp) (b : Bool), K0 H H' → (b = true ↔ TrimP rs root g kvs.length ns) → Q (.bl b) H'
end
end HK

set_option Elab.async false
set_option linter.all false
set_option maxRecDepth 100000
set_option maxHeartbeats 4000000
namespace HK
open PySem PySem.Spec PyProof.Rows L2 GAl GxR
open Evl (pss_cut)
abbrev sIsOn : Stmt := topS 36
abbrev N_scIsOn : List Str := ["net", "root", "hearers", "ahead", "least", "told", "place"]
theorem scIsOn : FnScope N_scIsOn ["net", "root", "hearers", "ahead"] (defScope sIsOn) := ⟨rfl, rfl, rfl, by decide +kernel, rfl, by decide +kernel, by decide +kernel⟩
section
variable {P : Program} {w : World} {K : PySem.W.Frag} {mg : Str → Option Value} {base : Heap}
def spIsOn (K : PySem.W.Frag) (Pn Pr Pa Pp Pg Ps Po : Addr) : Sp := fun vs H Q _ => ∃ (a : Addr) (n : Int) (rs : List R4) (root : Int) (p : Addr) (ns : List Int) (d : Addr) (kvs : List (Key × V)) (g : IF), vs = [.ref a, .int root, .ref p, .ref d] ∧ NetAt K H a n rs ∧ Good n rs ∧ rs.length ≤ 156 ∧ 0 ≤ root ∧ root < n ∧
  SqT K H p (ns.map V.int) ∧ AreP n ns ∧ H d = some (.dK kvs) ∧ DI kvs g ∧ kvs.length ≤ 5000 ∧ TbL H [Pn, Pr, Pa, Pp, Pg, Ps, Po] ∧ ∀ (H' : Hp) (b : Bool), K0 H H' → (b = true ↔ OnTP n rs root g kvs.length kvs ns) → Q (.bl b) H'
theorem ok_ison {f c Pn Pr Pa Pp Pg Ps Po : Addr} {fd : FuncData} {f_neednet f_needplace f_needhearers f_grows f_serves f_early f_lateness : Addr} {fd_neednet fd_needplace fd_needhearers fd_grows fd_serves fd_early fd_lateness : FuncData} (F : FunC K "is_on_time" "is_on_time" sIsOn f fd c) (TB : TabB base mg c Po)
    (k_neednet : PySem.W.keepIn K (.ref f_neednet) = true) (b_neednet : Binds K fd_neednet ["net"] []) (g_neednet : mg "need_net" = some (.ref f_neednet)) (G_neednet : FnOk P w K mg base CX0 6 f_neednet fd_neednet ["net"] (spNeedNet K Pn Pr))
    (k_needplace : PySem.W.keepIn K (.ref f_needplace) = true) (b_needplace : Binds K fd_needplace ["net", "place"] []) (g_needplace : mg "need_place" = some (.ref f_needplace)) (G_needplace : FnOk P w K mg base CX0 4 f_needplace fd_needplace ["net", "place"] (spNeedPlace K))
    (k_needhearers : PySem.W.keepIn K (.ref f_needhearers) = true) (b_needhearers : Binds K fd_needhearers ["net", "hearers"] []) (g_needhearers : mg "need_hearers" = some (.ref f_needhearers)) (G_needhearers : FnOk P w K mg base CX0 6 f_needhearers fd_needhearers ["net", "hearers"] (spNeedH K Pr Pa))
    (k_grows : PySem.W.keepIn K (.ref f_grows) = true) (b_grows : Binds K fd_grows ["net", "root", "ahead"] []) (g_grows : mg "grows" = some (.ref f_grows)) (G_grows : FnOk P w K mg base CX0 4 f_grows fd_grows ["net", "root", "ahead"] (spGrows K Pp Pg))
    (k_serves : PySem.W.keepIn K (.ref f_serves) = true) (b_serves : Binds K fd_serves ["root", "hearers", "ahead"] []) (g_serves : mg "serves" = some (.ref f_serves)) (G_serves : FnOk P w K mg base CX0 2 f_serves fd_serves ["root", "hearers", "ahead"] (spServes K Ps))
    (k_early : PySem.W.keepIn K (.ref f_early) = true) (b_early : Binds K fd_early ["net", "root"] []) (g_early : mg "earliest" = some (.ref f_early)) (G_early : FnOk P w K mg base CX0 7 f_early fd_early ["net", "root"] (spEarly K Pn Pr))
    (k_lateness : PySem.W.keepIn K (.ref f_lateness) = true) (b_lateness : Binds K fd_lateness ["net", "root", "ahead"] []) (g_lateness : mg "lateness" = some (.ref f_lateness)) (G_lateness : FnOk P w K mg base CX0 7 f_lateness fd_lateness ["net", "root", "ahead"] (spLateness K Pn Pr Pp Pg))
    (m_all : mg "all" = none) : FnOk P w K mg base CX0 8 f fd ["net", "root", "hearers", "ahead"] (spIsOn K Pn Pr Pa Pp Pg Ps Po) := by
  refine F.ok scIsOn (fun vs H Q E h => ?_) (fun A outer s H vs Q E hr h => ?_)
  · obtain ⟨a, n, rs, root, p, ns, d, kvs, g, rfl, _⟩ := h
    rfl
  · obtain ⟨a, n, rs, root, p, ns, d, kvs, g, rfl, hN, hG, hl, r0, r1, hS, hA, hd, hD, hkl, tb, q⟩ := h
    have hu := hu_of hr
    refine ⟨_, (pss_cons (ps_expr (pe_call G_neednet (hr.mono (by decide)) (by rfl) g_neednet k_neednet b_neednet .nil pass0 (pa_cons (pv 0) pa_nil)))
      (pss_cons (ps_expr (pe_call G_needplace (hr.mono (by decide)) (by rfl) g_needplace k_needplace b_needplace .nil pass0 (pa_cons (pv 0) (pa_cons (pv 1) pa_nil))))
      (pss_cons (ps_expr (pe_call G_needhearers (hr.mono (by decide)) (by rfl) g_needhearers k_needhearers b_needhearers .nil pass0 (pa_cons (pv 0) (pa_cons (pv 2) pa_nil))))
      (pss_cons (ps_if (PW.pt (pw_or (pt_not (pt_val (pe_call G_grows (hr.mono (by decide)) (by rfl) g_grows k_grows b_grows .nil pass0 (pa_cons (pv 0) (pa_cons (pv 1) (pa_cons (pv 3) pa_nil)))))) (pw_or1 (pt_not (pt_val (pe_call G_serves (hr.mono (by decide)) (by rfl) g_serves k_serves b_serves .nil pass0 (pa_cons (pv 1) (pa_cons (pv 2) (pa_cons (pv 3) pa_nil))))))))) (pss_one (ps_ret pe_bl)) pss_nil)
      (pss_cons (ps_set (i := 4) scIsOn.nd rfl (.inr rfl) (pe_call G_early (hr.mono (by decide)) (by rfl) g_early k_early b_early .nil pass0 (pa_cons (pv 0) (pa_cons (pv 1) pa_nil))))
      (pss_cons (ps_set (i := 5) scIsOn.nd rfl (.inr rfl) (pe_call G_lateness (hr.mono (by decide)) (by rfl) g_lateness k_lateness b_lateness .nil pass0 (pa_cons (pv 0) (pa_cons (pv 1) (pa_cons (pv 3) pa_nil)))))
      (pss_one (ps_ret (pe_allG (own := [("place", 6)]) (k := 6) (g := (gName 6)) (tt := tYes) (te := (tOp rEq (tDGet (tVar 5) (tVar 6)) (tDGet (tVar 4) (tVar 6)))) (hr.mono (by decide)) (by rfl) m_all rfl scIsOn.nd TB rfl (gsc_by (N := N_scIsOn) (sc := defScope sIsOn) (by decide +kernel)) (pi_tup (pv 2)) (fun A' hr' _ _ _ _ _ _ => (pg_name (i := 6) scIsOn.nd rfl (.inl rfl))) (fun A' hr' _ _ _ _ _ _ => pts_nil) (fun A' hr' _ _ _ _ _ _ => (pe_cmpR op_eq (pe_dget (hu_of hr') (pv 5) (pv 6) (fun _ _ => rfl)) (pe_dget (hu_of hr') (pv 4) (pv 6) (fun _ _ => rfl)) (nomark _)))))))))))), ?_⟩
    refine ⟨_, rfl, a, n, rs, rfl, hN, hG, hl, tb Pn (by simp), tb Pr (by simp), fun H1 k1 => ?_⟩
    refine ⟨_, rfl, _, rfl, a, n, rs, root, rfl, hN.k0 k1, r0, r1, ?_⟩
    refine ⟨_, rfl, _, rfl, a, n, rs, p, ns, rfl, hN.k0 k1, k1.sqT hS, hA, k1.tab _ (tb Pr (by simp)), k1.tab _ (tb Pa (by simp)), fun H2 k2 => ?_⟩
    have k12 := k1.trans k2
    refine ⟨_, rfl, _, rfl, _, rfl, a, n, rs, root, d, kvs, g, rfl, hN.k0 k12, hG, hl, k12.oth d _ hd (fun _ z => by cases z), hD, hkl, k12.tab _ (tb Pp (by simp)), k12.tab _ (tb Pg (by simp)), fun H3 b k3 hb => ⟨_, rfl, ?_⟩⟩
    have k13 := k12.trans k3
    cases b with
    | false => exact iteT (iteT (q _ false k13 ⟨fun z => by (cases z), fun z => absurd (hb.mpr z.1) (by decide)⟩))
    | true =>
    have hT := hb.mp rfl
    refine iteF ⟨_, rfl, _, rfl, _, rfl, root, p, ns, d, kvs, g, rfl, k13.sqT hS, k13.oth d _ hd (fun _ z => by cases z), hD, k13.tab _ (tb Ps (by simp)), fun H4 b k4 hb => ⟨_, rfl, ?_⟩⟩
    have k14 := k13.trans k4
    cases b with
    | false => exact iteT (q _ false k14 ⟨fun z => by (cases z), fun z => absurd (hb.mpr z.2.1) (by decide)⟩)
    | true =>
    have hServ := hb.mp rfl
    refine iteF ?_
    refine ⟨_, rfl, _, rfl, a, n, rs, root, rfl, hN.k0 k14, hG, hl, r0, r1, k14.tab _ (tb Pn (by simp)), k14.tab _ (tb Pr (by simp)), fun m ms H5 k5 nm hm hM hml => ?_⟩
    have k15 := k14.trans k5
    refine ⟨_, rfl, _, rfl, _, rfl, a, n, rs, root, d, kvs, g, rfl, hN.k0 k15, hG, hl, r0, r1, k15.oth d _ hd (fun _ z => by cases z), hD, hkl, hT, ?_, fun t ts H6 k6 nt ht hL htl => ?_⟩
    · intro P hP
      exact k15.tab _ (tb P (by simp at hP ⊢; rcases hP with h | h | h | h <;> simp [h]))
    have k16 := k15.trans k6
    have hm6 := k6.oth m _ hm (fun _ z => by cases z)
    have to6 : TabG H6 Po := k16.tab _ (tb Po (by simp))
    have hS6 := k16.sqT hS
    refine ⟨_, rfl, p, rfl, ⟨_, hS6⟩, to6, fun H7 hT7 => ?_⟩
    have k7 : K0 H6 H7 := K0.tbd to6 hT7
    refine ⟨fun i m H3 => i + m = ns.length ∧ K0 H6 H3 ∧ ∀ v ∈ ns.take i, latF rs root g kvs.length kvs v = due n rs root v, ⟨ns.length, by omega, k7, fun v hv => by rw [List.take_zero] at hv; cases hv⟩, fun i w8 H8 hW => ?_⟩
    obtain ⟨em, k8, hall⟩ := hW
    have hA8 : SqT K H8 p (ns.map V.int) := k8.sqT hS6
    by_cases hi : i < ns.length
    · have h1 : i < (ns.map V.int).length := by rw [List.length_map]; omega
      have g1 : (ns.map V.int)[i]? = some (ns.map V.int)[i] := List.getElem?_eq_getElem h1
      have g0 : ns[i]? = some ns[i] := List.getElem?_eq_getElem hi
      refine .inr ⟨⟨_, _, hA8, g1⟩, fun H' => K0 H6 H' ∧ latF rs root g kvs.length kvs ns[i] = due n rs root ns[i], fun H' hN => ⟨w8 - 1, by omega, by omega, hN.1, fun v hv => ?_⟩, fun x H' hy => ?_⟩
      · rw [List.take_add_one, g0] at hv
        rcases List.mem_append.mp hv with hv | hv
        · exact hall v hv
        · have := List.mem_singleton.mp hv
          subst this
          exact hN.2
      · obtain ⟨rfl, fx⟩ := hy
        have ex : x = .int ns[i] := by
          have := fx _ hA8
          rw [List.getElem?_map, g0] at this
          exact (Option.some.inj this).symm
        subst ex
        have hsv := hServ ns[i] (List.getElem_mem hi)
        obtain ⟨y, ey, _⟩ := tree_due hT hG r0 r1 _ _ (served hT hsv)
        have el : latF rs root g kvs.length kvs ns[i] = some (lsum rs root g kvs.length ns[i]) := by rw [lat_iff hD hT.1, if_pos hsv]
        refine ⟨rfl, tyes ⟨_, rfl, _, rfl, t, _, rfl, dget (k8.oth t _ ht (fun _ z => by cases z)) hL el, _, rfl, _, rfl, m, _, rfl, dget (k8.oth m _ hm6 (fun _ z => by cases z)) hM ey, rfl, _, rfl, ?_⟩⟩
        by_cases hb : lsum rs root g kvs.length ns[i] = y
        · rw [decide_eq_true (show V.int (lsum rs root g kvs.length ns[i]) = V.int y by rw [hb])]
          exact iteT ⟨k8, by rw [el, ey, hb]⟩
        · rw [decide_eq_false (show ¬ V.int (lsum rs root g kvs.length ns[i]) = V.int y from fun z => hb (V.int.inj z))]
          refine iteF (q _ false (k16.trans k8) ⟨fun z => by (cases z), fun z => ?_⟩)
          have := z.2.2 ns[i] (List.getElem_mem hi)
          rw [el, ey] at this
          exact absurd (Option.some.inj this) hb
    · rw [List.take_of_length_le (by omega)] at hall
      exact .inl ⟨⟨_, hA8, by rw [List.length_map]; omega⟩, q _ true (k16.trans k8) ⟨fun _ => ⟨hT, hServ, hall⟩, fun _ => rfl⟩⟩
end
end HK

set_option Elab.async false
set_option linter.all false
set_option maxRecDepth 100000
set_option maxHeartbeats 4000000
namespace HK
open PySem PySem.Spec PyProof.Rows L2 GAl GxR
open Evl (pss_cut)
abbrev sLaw : Stmt := topS 51
abbrev N_scLaw : List Str := ["script", "start", "tape", "net", "root", "due", "some", "drawn", "best", "ahead", "handed", "found"]
theorem scLaw : FnScope N_scLaw ["script"] (defScope sLaw) := ⟨rfl, rfl, rfl, by decide +kernel, rfl, by decide +kernel, by decide +kernel⟩
theorem K0.withT {L : Addr} {H H1 H' : Hp} (k1 : K0 H H1) (nL : H L = none) (kl : Kt L H1 H') : K0 H H' := ⟨fun b o e m => kl.oth b o (k1.oth b o e m) (ne_of_none e nL) m, fun P hP => kl.tab P (k1.tab P hP), fun b e => k1.dom b (kl.dom b e)⟩
theorem eqvAll_r4 : ∀ ts : List R4, PyData.eqvAll (ts.map R4.d) (ts.map R4.d) = true
  | [] => rfl
  | t :: ts => by
    show (PyData.eqv t.d t.d && PyData.eqvAll (ts.map R4.d) (ts.map R4.d)) = true
    rw [eqvAll_r4 ts, Bool.and_true]
    show ((t.s == t.s) && ((t.e == t.e) && ((t.c == t.c) && ((t.l == t.l) && true)))) = true
    simp
theorem eqv_nt (n : Int) (ts : List R4) : PyData.eqv (nt (.int n) (ts.map R4.d)) (nt (.int n) (ts.map R4.d)) = true := by
  show ((n == n) && (PyData.eqvAll (ts.map R4.d) (ts.map R4.d) && true)) = true
  rw [eqvAll_r4]
  simp
theorem shaped_nt (n : Int) (ts : List R4) : SeqAt.shaped (nt (.int n) (ts.map R4.d)) = true := by
  have h1 : ∀ ts : List R4, PyData.canLayAll0 (ts.map R4.d) = true := fun ts => by
    induction ts with
    | nil => rfl
    | cons t r ih => rw [List.map_cons]; simp only [PyData.canLayAll0, ih, R4.d, PyData.canLay0, Bool.and_true]
  have h2 : ∀ ts : List R4, PyData.depthAll (ts.map R4.d) ≤ 2 := fun ts => by
    induction ts with
    | nil => decide
    | cons t r ih =>
      rw [List.map_cons]
      simp only [PyData.depthAll, R4.d, PyData.depth]
      omega
  show (PyData.canLay0 (nt (.int n) (ts.map R4.d)) && decide (PyData.depth (nt (.int n) (ts.map R4.d)) ≤ 64)) = true
  rw [Bool.and_eq_true, decide_eq_true_iff]
  refine ⟨by simp only [nt, PyData.canLay0, PyData.canLayAll0, h1 ts, Bool.and_true], ?_⟩
  have := h2 ts
  simp only [nt, PyData.depth, PyData.depthAll]
  omega
theorem NetAt.dp {K : PySem.W.Frag} {H : Hp} {a : Addr} {n : Int} {rs : List R4} (h : NetAt K H a n rs) : Dp K H (.ref a) (nt (.int n) (rs.map R4.d)) := by
  obtain ⟨r, xs, o, h1, h2, hc, hd, h3⟩ := h
  exact .tup h1 (.cons (.int _) (.cons (.tup h2 h3) .nil))
theorem rg_ints (n : Int) : ∃ l : List Int, rgV 0 n = l.map V.int ∧ l.length = n.toNat := by
  refine ⟨(List.range n.toNat).map fun (i : Nat) => (i : Int), ?_, by rw [List.length_map, List.length_range]⟩
  unfold rgV
  rw [List.map_map, Int.sub_zero]
  exact List.map_congr_left fun i _ => by show V.int (0 + (i : Int)) = V.int i; rw [Int.zero_add]
theorem slB {K : PySem.W.Frag} {H : Hp} {q : Addr} {l : List Int} {lo hi : Option Int} {Q : VK} (h : SqT K H q (l.map V.int)) (hq : ∀ (p : Addr) (m : List Int) (H' : Hp), K0 H H' → SqT K H' p (m.map V.int) → m.Sublist l → Q (.ref p) H') : rSlA K (.ref q) lo hi H Q := by
  refine ⟨q, _, rfl, h, fun _ => hq q l H (K0.refl _) h (List.Sublist.refl _), fun _ p np => hq p ((l.drop (HT.sIx (l.map V.int).length 0 lo)).take (HT.sIx (l.map V.int).length (l.map V.int).length hi - HT.sIx (l.map V.int).length 0 lo)) _ (K0.new np) ?_ ((List.take_sublist ..).trans (List.drop_sublist ..))⟩
  unfold cutV
  rw [← List.map_drop, ← List.map_take]
  exact .inl (.inl upd_same)
section
variable {P : Program} {w : World} {K : PySem.W.Frag} {mg : Str → Option Value} {base : Heap}
def spLaw (K : PySem.W.Frag) (Pn Pr Pa Pp Pg Ps Po : Addr) : Sp := fun vs H Q _ => ∃ (a : Addr) (ns : List Int), vs = [.ref a] ∧ SqL K H a (ns.map V.int) ∧ TabG H Pn ∧ TabG H Pr ∧ TabG H Pa ∧ TabG H Pp ∧ TabG H Pg ∧ TabG H Ps ∧ TabG H Po ∧ ∀ H', Q (.bl true) H'
theorem ok_law {f : Addr} {fd : FuncData} {f_atape f_anet f_adigit f_aon f_ontime f_asome f_adrawn f_ways f_abent f_ison f_adue f_aby : Addr} {fd_atape fd_anet fd_adigit fd_aon fd_ontime fd_asome fd_adrawn fd_ways fd_abent fd_ison fd_adue fd_aby : FuncData} {Pn Pr Pa Pp Pg Ps Po : Addr} (F : Fun K "law" "law" sLaw f fd)
    (k_atape : PySem.W.keepIn K (.ref f_atape) = true) (b_atape : Binds K fd_atape ["script", "k"] []) (g_atape : mg "_law_atape" = some (.ref f_atape)) (G_atape : FnOk P w K mg base CX0 2 f_atape fd_atape ["script", "k"] (spATape K))
    (k_anet : PySem.W.keepIn K (.ref f_anet) = true) (b_anet : Binds K fd_anet ["tape", "most"] []) (g_anet : mg "_law_anet" = some (.ref f_anet)) (G_anet : FnOk P w K mg base CX0 2 f_anet fd_anet ["tape", "most"] (spANet K))
    (k_adigit : PySem.W.keepIn K (.ref f_adigit) = true) (b_adigit : Binds K fd_adigit ["tape", "many"] []) (g_adigit : mg "_law_adigit" = some (.ref f_adigit)) (G_adigit : FnOk P w K mg base CX0 1 f_adigit fd_adigit ["tape", "many"] (spADigit))
    (k_aon : PySem.W.keepIn K (.ref f_aon) = true) (b_aon : Binds K fd_aon ["net", "root"] []) (g_aon : mg "_law_aon_time" = some (.ref f_aon)) (G_aon : FnOk P w K mg base CX0 2 f_aon fd_aon ["net", "root"] (spAOn K))
    (k_ontime : PySem.W.keepIn K (.ref f_ontime) = true) (b_ontime : Binds K fd_ontime ["net", "root"] []) (g_ontime : mg "on_time" = some (.ref f_ontime)) (G_ontime : FnOk P w K mg base CX0 8 f_ontime fd_ontime ["net", "root"] (spOnTime K Pn Pr))
    (k_asome : PySem.W.keepIn K (.ref f_asome) = true) (b_asome : Binds K fd_asome ["tape", "n", "most"] []) (g_asome : mg "_law_asome" = some (.ref f_asome)) (G_asome : FnOk P w K mg base CX0 2 f_asome fd_asome ["tape", "n", "most"] (spASome))
    (k_adrawn : PySem.W.keepIn K (.ref f_adrawn) = true) (b_adrawn : Binds K fd_adrawn ["tape", "net", "root", "some"] []) (g_adrawn : mg "_law_adrawn_tree" = some (.ref f_adrawn)) (G_adrawn : FnOk P w K mg base CX0 2 f_adrawn fd_adrawn ["tape", "net", "root", "some"] (spADrawn K))
    (k_ways : PySem.W.keepIn K (.ref f_ways) = true) (b_ways : Binds K fd_ways ["net", "root"] []) (g_ways : mg "ways" = some (.ref f_ways)) (G_ways : FnOk P w K mg base CX0 8 f_ways fd_ways ["net", "root"] (spWays K Pn Pr))
    (k_abent : PySem.W.keepIn K (.ref f_abent) = true) (b_abent : Binds K fd_abent ["tape", "net", "ahead"] []) (g_abent : mg "_law_abent" = some (.ref f_abent)) (G_abent : FnOk P w K mg base CX0 2 f_abent fd_abent ["tape", "net", "ahead"] (spABent K))
    (k_ison : PySem.W.keepIn K (.ref f_ison) = true) (b_ison : Binds K fd_ison ["net", "root", "hearers", "ahead"] []) (g_ison : mg "is_on_time" = some (.ref f_ison)) (G_ison : FnOk P w K mg base CX0 8 f_ison fd_ison ["net", "root", "hearers", "ahead"] (spIsOn K Pn Pr Pa Pp Pg Ps Po))
    (k_adue : PySem.W.keepIn K (.ref f_adue) = true) (b_adue : Binds K fd_adue ["net", "root", "some", "ahead"] []) (g_adue : mg "_law_adue" = some (.ref f_adue)) (G_adue : FnOk P w K mg base CX0 2 f_adue fd_adue ["net", "root", "some", "ahead"] (spADue K))
    (k_aby : PySem.W.keepIn K (.ref f_aby) = true) (b_aby : Binds K fd_aby ["net", "root", "some", "ahead"] []) (g_aby : mg "_law_aby_roads" = some (.ref f_aby)) (G_aby : FnOk P w K mg base CX0 3 f_aby fd_aby ["net", "root", "some", "ahead"] (spADue K))
    (m_len : mg "len" = none) (m_range : mg "range" = none) (m_max : mg "max" = none) (m_min : mg "min" = none) (m_tuple : mg "tuple" = none) (m_dict : mg "dict" = none) (m_isinstance : mg "isinstance" = none) (m_bool : mg "bool" = none) : FnOk P w K mg base CX0 9 f fd ["script"] (spLaw K Pn Pr Pa Pp Pg Ps Po) := by
  refine F.ok scLaw (fun vs H Q E h => ?_) (fun cdv A outer s H vs Q E hr h => ?_)
  · obtain ⟨a, ns, rfl, _⟩ := h
    rfl
  · obtain ⟨a, ns, rfl, hS, z1, z2, z3, z4, z5, z6, z7, q⟩ := h
    have tb : TbL H [Pn, Pr, Pa, Pp, Pg, Ps, Po] := fun P hP => by
      simp at hP
      rcases hP with h | h | h | h | h | h | h <;> subst h <;> assumption
    have hu := hu_of hr
    refine ⟨_, (pss_cons (ps_for PassesOwn.never rfl (pi_range2 (by rfl) m_range (pa_cons pe_int (pa_cons (pe_callB (call_max2 rfl) (by rfl) m_max (by decide +kernel) (pa_cons pe_int (pa_cons (pe_callB (call_min2 rfl) (by rfl) m_min (by decide +kernel) (pa_cons pe_int (pa_cons (pe_callB call_len_seq (by rfl) m_len PySem.boot_len (pa_cons (pv 0) pa_nil)) pa_nil))) pa_nil))) pa_nil))) (pg_name (i := 1) scLaw.nd rfl (.inl rfl))
      (pss_cons (ps_set (i := 2) scLaw.nd rfl (.inl rfl) (pe_call G_atape (hr.mono (by decide)) (by rfl) g_atape k_atape b_atape .nil pass0 (pa_cons (pv 0) (pa_cons (pv 1) pa_nil))))
      (pss_cons (ps_set (i := 3) scLaw.nd rfl (.inl rfl) (pe_call G_anet (hr.mono (by decide)) (by rfl) g_anet k_anet b_anet .nil pass0 (pa_cons (pv 2) (pa_cons pe_int pa_nil))))
      (pss_cons (ps_set (i := 4) scLaw.nd rfl (.inl rfl) (pe_call G_adigit (hr.mono (by decide)) (by rfl) g_adigit k_adigit b_adigit .nil pass0 (pa_cons (pv 2) (pa_cons (pe_ix ix_tup (pv 3) pe_int (fun _ _ => rfl)) pa_nil))))
      (pss_cons (ps_set (i := 5) scLaw.nd rfl (.inl rfl) (pe_tup (pa_cons (pe_ix ix_tup (pv 3) pe_int (fun _ _ => rfl)) (pa_cons (pe_call G_aon (hr.mono (by decide)) (by rfl) g_aon k_aon b_aon .nil pass0 (pa_cons (pv 3) (pa_cons (pv 4) pa_nil))) pa_nil))))
      (pss_cons (ps_if (PW.pt (pw_or (pt_cmpR (op_neD hr.units) (pe_call G_ontime (hr.mono (by decide)) (by rfl) g_ontime k_ontime b_ontime .nil pass0 (pa_cons (pv 3) (pa_cons (pv 4) pa_nil))) (pv 5) (nomark _)) (pw_or1 (pt_cmpR (op_neD hr.units) (pe_call G_ontime (hr.mono (by decide)) (by rfl) g_ontime k_ontime b_ontime .nil pass0 (pa_cons (pv 3) (pa_cons (pv 4) pa_nil))) (pv 5) (nomark _))))) (pss_one (ps_ret pe_bl)) pss_nil)
      (pss_cons (ps_set (i := 6) scLaw.nd rfl (.inl rfl) (pe_slice sl_tupA (pe_call G_asome (hr.mono (by decide)) (by rfl) g_asome k_asome b_asome .nil pass0 (pa_cons (pv 2) (pa_cons (pe_ix ix_tup (pv 3) pe_int (fun _ _ => rfl)) (pa_cons (pe_op op_add (pe_call G_adigit (hr.mono (by decide)) (by rfl) g_adigit k_adigit b_adigit .nil pass0 (pa_cons (pv 2) (pa_cons pe_int pa_nil))) pe_int) pa_nil)))) (po_some (pe_call G_adigit (hr.mono (by decide)) (by rfl) g_adigit k_adigit b_adigit .nil pass0 (pa_cons (pv 2) (pa_cons pe_int pa_nil)))) po_none))
      (pss_cons (ps_set (i := 7) scLaw.nd rfl (.inl rfl) (pe_call G_adrawn (hr.mono (by decide)) (by rfl) g_adrawn k_adrawn b_adrawn .nil pass0 (pa_cons (pv 2) (pa_cons (pv 3) (pa_cons (pv 4) (pa_cons (pe_tupRg rfl (by rfl) m_tuple (prg_1 (by rfl) m_range (pe_ix ix_tup (pv 3) pe_int (fun _ _ => rfl)))) pa_nil))))))
      (pss_cons (ps_set (i := 8) scLaw.nd rfl (.inl rfl) (pe_call G_ways (hr.mono (by decide)) (by rfl) g_ways k_ways b_ways .nil pass0 (pa_cons (pv 3) (pa_cons (pv 4) pa_nil))))
      (pss_one (ps_for PassesOwn.never rfl (pi_list (pe_lst (pa_cons (pv 7) (pa_cons (pv 8) (pa_cons (pe_call G_abent (hr.mono (by decide)) (by rfl) g_abent k_abent b_abent .nil pass0 (pa_cons (pv 2) (pa_cons (pv 3) (pa_cons (pv 7) pa_nil)))) (pa_cons (pe_call G_abent (hr.mono (by decide)) (by rfl) g_abent k_abent b_abent .nil pass0 (pa_cons (pv 2) (pa_cons (pv 3) (pa_cons (pv 8) pa_nil)))) (pa_cons pe_dnewK pa_nil))))))) (pg_name (i := 9) scLaw.nd rfl (.inl rfl))
      (pss_cons (ps_set (i := 10) scLaw.nd rfl (.inl rfl) (pe_callTy call_dictD (by rfl) m_dict (by decide +kernel) (pa_cons (pv 9) pa_nil)))
      (pss_cons (ps_set (i := 11) scLaw.nd rfl (.inl rfl) (pe_call G_ison (hr.mono (by decide)) (by rfl) g_ison k_ison b_ison .nil pass0 (pa_cons (pv 3) (pa_cons (pv 4) (pa_cons (pv 6) (pa_cons (pv 10) pa_nil))))))
      (pss_cons (ps_if (PW.pt (pw_or (pt_not (pt_val (pe_callB call_isi (by rfl) m_isinstance boot_isinstance (pa_cons (pv 11) (pa_cons (pe_bltn (v := .ty "bool") (by rfl) m_bool (by decide +kernel) rfl) pa_nil))))) (pw_or (pt_cmpR op_ne (pv 11) (pe_call G_adue (hr.mono (by decide)) (by rfl) g_adue k_adue b_adue .nil pass0 (pa_cons (pv 3) (pa_cons (pv 4) (pa_cons (pv 6) (pa_cons (pv 9) pa_nil))))) (nomark _)) (pw_or1 (pt_cmpR (op_ne_dictA (Nat.lt_of_succ_lt hu)) (pv 10) (pv 9) (nomark _)))))) (pss_one (ps_ret pe_bl)) pss_nil)
      (pss_one (ps_if (pt_cmpR op_ne (pv 11) (pe_call G_aby (hr.mono (by decide)) (by rfl) g_aby k_aby b_aby .nil pass0 (pa_cons (pv 3) (pa_cons (pv 4) (pa_cons (pv 6) (pa_cons (pv 9) pa_nil))))) (nomark _)) (pss_one (ps_ret pe_bl)) pss_nil))))))))))))))))
      (pss_one (ps_ret pe_bl))), ?_⟩
    refine ⟨_, rfl, a, _, rfl, .inl hS, _, _, rfl, _, _, rfl, 0, _, rfl, ⟨by decide, by decide, ?_, ?_⟩, ?_⟩
    · split <;> split <;> omega
    · split <;> split <;> omega
    refine for_range (lo := 0) (fun i σ' H' => ∃ y1 y2 y3 y4 y5 y6 y7 y8 y9 y10 y11, σ' = [some (.ref a), y1, y2, y3, y4, y5, y6, y7, y8, y9, y10, y11] ∧ K0 H H') ⟨none, none, none, none, none, none, none, none, none, none, none, rfl, K0.refl _⟩ (fun i σ' H' hi h => ?_) (fun σ' H' h => q _)
    obtain ⟨y1, y2, y3, y4, y5, y6, y7, y8, y9, y10, y11, rfl, k0⟩ := h
    -- tape, net, root
    refine ⟨_, rfl, _, rfl, a, ns, _, rfl, k0.sqL hS, by omega, fun t H1 nt0 k1 T1 => ?_⟩
    refine ⟨_, rfl, t, 8, rfl, T1, by omega, by omega, fun na n rs H2 k2 T2 hN hn8 G hlen => ?_⟩
    have n1 := G.n1
    have n2 := G.n2
    obtain ⟨r, xs, o, h1, _⟩ := id hN
    refine ⟨_, rfl, _, rfl, na, _, 0, .int n, rfl, rfl, h1, atI_nat (j := 0) rfl, t, n, rfl, T2, by omega, by omega, fun root H3 r0 r1 k3 T3 => ?_⟩
    have hN3 := hN.kt k3
    have h13 := k3.sqT h1
    have kt13 := k2.trans k3
    have tbk : ∀ {H7}, Kt t H1 H7 → TbL H7 [Pn, Pr, Pa, Pp, Pg, Ps, Po] := fun k7 P hP => k7.tab P (k1.tab P (k0.tab P (tb P hP)))
    -- due
    refine ⟨_, rfl, na, _, 0, .int n, rfl, rfl, h13, atI_nat (j := 0) rfl, _, rfl, _, rfl, na, n, rs, root, rfl, hN3, G, hlen, r0, r1, fun dq ys H4 k4 hys hR => ⟨by show 2 ≤ sizeLine; decide, fun du nd => ?_⟩⟩
    have k5 := K0.new nd (o := .tup [.int n, .ref dq])
    have hdu : Dp K (upd H4 du (.tup [.int n, .ref dq])) (.ref du) (nt (.int n) ((onT n rs root).map R4.d)) := .tup (.inl (.inl upd_same)) (.cons (.int _) (.cons (.tup (k5.sqT hys) (k5.dpAll _ _ hR)) .nil))
    have k35 := k4.trans k5
    generalize upd H4 du (.tup [.int n, .ref dq]) = H5 at k5 hdu k35
    have kt15 := kt13.trans k35.kt
    refine ⟨_, rfl, _, rfl, na, n, rs, root, rfl, hN3.k0 k35, G, hlen, r0, r1, tbk kt15 Pn (by simp), tbk kt15 Pr (by simp), fun q1 H6 k6 hN6 => ⟨_, rfl, _, _, hN6.dp, k6.dp _ _ hdu, shaped_nt _ _, shaped_nt _ _, _, rfl, ?_⟩⟩
    rw [eqv_nt]
    have k36 := k35.trans k6
    have kt16 := kt13.trans k36.kt
    refine iteF ⟨_, rfl, _, rfl, na, n, rs, root, rfl, hN3.k0 k36, G, hlen, r0, r1, tbk kt16 Pn (by simp), tbk kt16 Pr (by simp), fun q2 H7 k7 hN7 => ⟨_, rfl, _, _, hN7.dp, (k6.trans k7).dp _ _ hdu, shaped_nt _ _, shaped_nt _ _, _, rfl, ?_⟩⟩
    rw [eqv_nt]
    have k37 := k36.trans k7
    have T7 := T3.k0 k37
    have hN7 := hN3.k0 k37
    have h17 := k37.sqT h13
    have kt17 := kt13.trans k37.kt
    clear hdu hR hys
    -- some
    refine iteF ⟨_, rfl, _, rfl, na, _, 0, .int n, rfl, rfl, h17, atI_nat (j := 0) rfl, _, rfl, t, 5, rfl, T7, by omega, by omega, fun d5 H8 d50 d51 k8 T8 => ⟨d5, 1, rfl, rfl, t, n, d5 + 1, rfl, T8, n1, n2, by omega, fun so oo l H9 k9 T9 nso hso hA hll hl0 => ?_⟩⟩
    refine ⟨_, rfl, t, 2, rfl, T9, by omega, by omega, fun d2 H10 d20 d21 k10 T10 => ⟨d2, rfl, ?_⟩⟩
    dsimp only [tNoPart]
    have hso10 : SqT K H10 so (l.map V.int) := .inl (.inr ⟨oo, k10.frz _ _ _ hso⟩)
    refine slB hso10 fun sm m H11 k11 hsm hml => ?_
    have hAm : AreP n m := ⟨fun v hv => hA.1 v (hml.subset hv), hA.2.sublist hml⟩
    have hmlen : m.length ≤ 12 := Nat.le_trans hml.length_le hll
    have kt711 := ((k8.trans k9).trans k10).trans k11.kt
    have T11 := T10.k0 k11
    have hN11 := hN7.kt kt711
    have h111 := kt711.sqT h17
    have kt111 := kt17.trans kt711
    -- drawn
    refine ⟨_, rfl, _, rfl, _, rfl, _, rfl, na, _, 0, .int n, rfl, rfl, h111, atI_nat (j := 0) rfl, n, rfl, RgOk.of_le (by omega) (by omega) (by omega) (by omega), fun pe npe => ?_⟩
    obtain ⟨ev, eev, evl⟩ := rg_ints n
    have k12 : K0 H11 (upd H11 pe (.tup (rgV 0 n))) := K0.new npe
    have hpe : SqT K (upd H11 pe (.tup (rgV 0 n))) pe (ev.map V.int) := by rw [eev]; exact .inl (.inl upd_same)
    generalize upd H11 pe (.tup (rgV 0 n)) = H12 at k12 hpe
    have T12 := T11.k0 k12
    have kt112 := kt111.trans k12.kt
    refine ⟨t, na, n, rs, root, pe, ev, rfl, T12, hN11.k0 k12, G, hlen, hpe, fun dr kd gd H13 k13 T13 nd13 hdr hdD hdl => ?_⟩
    have kt1213 := k12.kt.trans k13
    have hN13 := hN11.kt kt1213
    have kt113 := kt112.trans k13
    have hdrt : dr ≠ t := T12.ne nd13
    -- best
    refine ⟨_, rfl, _, rfl, na, n, rs, root, rfl, hN13, G, hlen, r0, r1, tbk kt113 Pn (by simp), tbk kt113 Pr (by simp), fun be kbs H14 k14 nb14 hbe hbD hbl => ?_⟩
    have T14 := T13.k0 k14
    have hN14 := hN13.k0 k14
    have hdr14 := k14.oth dr _ hdr (fun _ z => by cases z)
    have hbet : be ≠ t := T13.ne nb14
    have kt114 := kt113.trans k14.kt
    -- bent
    refine ⟨_, rfl, _, rfl, _, rfl, _, rfl, _, rfl, t, na, n, rs, dr, kd, gd, rfl, T14, hN14, G, hlen, hdr14, hdD, hdl, fun b1 l1 f1 H15 k15 T15 nb15 hb1 hD1 hl1 => ?_⟩
    have hN15 := hN14.kt k15
    have hbe15 := k15.oth be _ hbe hbet (fun _ z => by cases z)
    have hdr15 := k15.oth dr _ hdr14 hdrt (fun _ z => by cases z)
    have hb1t : b1 ≠ t := T14.ne nb15
    refine ⟨_, rfl, _, rfl, _, rfl, t, na, n, rs, be, kbs, _, rfl, T15, hN15, G, hlen, hbe15, hbD, hbl, fun b2 l2 f2 H16 k16 T16 nb16 hb2 hD2 hl2 => ?_⟩
    have hN16 := hN15.kt k16
    have hbe16 := k16.oth be _ hbe15 hbet (fun _ z => by cases z)
    have hdr16 := k16.oth dr _ hdr15 hdrt (fun _ z => by cases z)
    have hb116 := k16.oth b1 _ hb1 hb1t (fun _ z => by cases z)
    have kt1416 := k15.trans k16
    have kt116 := kt114.trans kt1416
    have hsm16 : SqT K H16 sm (m.map V.int) := kt1416.sqT (k14.sqT (kt1213.sqT hsm))
    refine fun pz npz => ⟨by show 5 ≤ sizeLine; decide, fun L nL => ?_⟩
    have kz := K0.new npz (o := .dK [])
    have hz : upd H16 pz (.dK []) pz = some (.dK []) := upd_same
    generalize upd H16 pz (.dK []) = H17 at kz hz nL
    have kL := K0.new nL (o := .lst [.ref dr, .ref be, .ref b1, .ref b2, .ref pz])
    have hL : upd H17 L (.lst [.ref dr, .ref be, .ref b1, .ref b2, .ref pz]) L = some (.lst [.ref dr, .ref be, .ref b1, .ref b2, .ref pz]) := upd_same
    generalize upd H17 L (.lst [.ref dr, .ref be, .ref b1, .ref b2, .ref pz]) = H18 at kL hL
    have kzL := kz.trans kL
    have d0 : DI [] (fun _ => none) := ⟨List.nodup_nil, fun p hp => (by cases hp), fun i => rfl⟩
    have all5 : ∀ (j : Nat) (x : V), [V.ref dr, .ref be, .ref b1, .ref b2, .ref pz][j]? = some x → ∃ (p : Addr) (kvs : List (Key × V)) (g : IF), x = .ref p ∧ H18 p = some (.dK kvs) ∧ DI kvs g ∧ kvs.length ≤ 13 := fun j x hx => by
      match j, hx with
      | 0, hx => cases hx; exact ⟨dr, kd, gd, rfl, kzL.oth dr _ hdr16 (fun _ z => by cases z), hdD, by omega⟩
      | 1, hx => cases hx; exact ⟨be, kbs, _, rfl, kzL.oth be _ hbe16 (fun _ z => by cases z), hbD, by omega⟩
      | 2, hx => cases hx; exact ⟨b1, l1, f1, rfl, kzL.oth b1 _ hb116 (fun _ z => by cases z), hD1, hl1⟩
      | 3, hx => cases hx; exact ⟨b2, l2, f2, rfl, kzL.oth b2 _ hb2 (fun _ z => by cases z), hD2, hl2⟩
      | 4, hx => cases hx; exact ⟨pz, [], _, rfl, kL.oth pz _ hz (fun _ z => by cases z), d0, Nat.zero_le _⟩
      | j + 5, hx => cases hx
    have hN18 := hN16.k0 kzL
    have hsm18 := kzL.sqT hsm16
    have kt118 := kt116.trans kzL.kt
    refine ⟨L, rfl, ⟨_, .inl (.inl hL)⟩, for_list (K := K) (a := L) (xs := [.ref dr, .ref be, .ref b1, .ref b2, .ref pz]) (fun j σ' H' => ∃ y9 y10 y11, σ' = [some (.ref a), some (.int (0 + (i : Int))), some (.ref t), some (.ref na), some (.int root), some (.ref du), some (.ref sm), some (.ref dr), some (.ref be), y9, y10, y11] ∧ K0 H18 H')
      ⟨_, _, _, rfl, K0.refl _⟩ (fun j σ' H' _ h => ?_) (fun j x σ' H' hx h => ?_) (fun σ' H' h => ?_)⟩
    · obtain ⟨_, _, _, _, k⟩ := h
      exact k.sqL (.inl (.inl hL))
    · obtain ⟨y9, y10, y11, rfl, k⟩ := h
      obtain ⟨p, kvs, g, rfl, hp, hD, hkl⟩ := all5 j x hx
      have hp0 := k.oth p _ hp (fun _ z => by cases z)
      -- handed
      refine ⟨_, rfl, p, kvs, rfl, .inl hp0, fun hd nhd => ?_⟩
      have kh := K0.new nhd (o := .dK kvs)
      have hhd : upd H' hd (.dK kvs) hd = some (.dK kvs) := upd_same
      have k19 := k.trans kh
      generalize upd H' hd (.dK kvs) = H19 at kh hhd k19
      -- found
      refine ⟨_, rfl, _, rfl, _, rfl, _, rfl, na, n, rs, root, sm, m, hd, kvs, g, rfl, hN18.k0 k19, G, hlen, r0, r1, k19.sqT hsm18, hAm, hhd, hD, by omega, tbk (kt118.trans k19.kt), fun H20 b k20 hb => ?_⟩
      have k1820 := k19.trans k20
      refine ⟨_, rfl, .bl b, .ty "bool", .type "bool", _, true, rfl, .ty "bool", .base (.bl b), kit_ty (tys_bool (T := "bool") (by decide)), _, rfl, iteF ?_⟩
      refine ⟨_, rfl, _, rfl, _, rfl, _, rfl, _, rfl, na, n, rs, root, sm, m, p, kvs, g, rfl, hN18.k0 k1820, G, hlen, r0, r1, k1820.sqT hsm18, by omega, k1820.oth p _ hp (fun _ z => by cases z), hD, by omega, fun H21 b' k21 hb' => ⟨rfl, _, rfl, ?_⟩⟩
      have e1 : b' = b := by rw [Bool.eq_iff_iff, hb, hb']
      subst e1
      rw [decide_eq_true (show V.bl b' = V.bl b' from rfl)]
      have k1821 := k1820.trans k21
      obtain ⟨e7, e8⟩ := hD.same hD
      refine iteF ⟨_, rfl, _, rfl, hd, p, kvs, kvs, rfl, rfl, (k20.trans k21).oth hd _ hhd (fun _ z => by cases z), k1821.oth p _ hp (fun _ z => by cases z), e7, e8, _, rfl, iteF ?_⟩
      -- by roads
      refine ⟨_, rfl, _, rfl, _, rfl, _, rfl, _, rfl, na, n, rs, root, sm, m, p, kvs, g, rfl, hN18.k0 k1821, G, hlen, r0, r1, k1821.sqT hsm18, by omega, k1821.oth p _ hp (fun _ z => by cases z), hD, by omega, fun H22 b2 k22 hb2 => ⟨rfl, _, rfl, ?_⟩⟩
      have e2 : b2 = b' := by rw [Bool.eq_iff_iff, hb', hb2]
      subst e2
      rw [decide_eq_true (show V.bl b2 = V.bl b2 from rfl)]
      exact iteF ⟨_, _, _, rfl, k1821.trans k22⟩
    · obtain ⟨y9, y10, y11, rfl, k⟩ := h
      exact ⟨_, _, _, _, _, _, _, _, _, _, _, rfl, k0.trans (k1.withT nt0 (kt118.trans k.kt))⟩
end
end HK

set_option Elab.async false
set_option linter.all false
set_option maxRecDepth 100000
set_option maxHeartbeats 4000000
namespace HK
open PySem PySem.Spec PyProof.Rows L2 GAl GxR
/-- every def's table of code objects is empty at the law's entry -/
def Tabs (q : Program) (mg : Str → Option Value) (h : Heap) : Prop := ∀ nm : Str, ((recsOf q).any fun e => e.name == nm) = true → ∃ a o fd c P, mg nm = some (.ref a) ∧ h.get? a = some o ∧ o.data = .func fd ∧ fd.code = .ref c ∧ PySem.W.CodeHd h c P ∧ h.get? P = some { cls := .none, data := .fields #[] }
theorem walk_tabs {l : PySem.W.OpenLaw} {n k : Nat} {q : Program} {loose : List Str} {XP : (Str → Option Value) → Heap → Prop} {YP : World → Heap → Prop} {d : DefRec} {K : Params → PySem.W.Frag} {CX : World → CXT} {x : Str}
    (hn : l.most = some n) (hn2 : n ≤ sizeLine) (hdf : d.params.defaults = []) (hr : Room k callerA) (hY : ∀ (w : World) (h : Heap), YP w h → (K w.params).In h)
    (F : ∀ (w : World) (mg : Str → Option Value) (fa : Addr) (h : Heap), YP w h → (K w.params).In h → h.Ns mainGlobals mg → mg d.name = some (.ref fa) → Tabs q mg h → LamX.LawAtS l w (K w.params) (CX w) k n x mg fa h)
    (hCX : ∀ (w : World) (H : Hp) (s : Shared) (e : Value) (s' : Shared), CX w [] H s (fun _ _ _ => False) e s' → False) :
    PySem.W.WalkO q loose XP YP l.row.toRowW d [] (fun f vs => PySem.call f vs) := by
  refine Att.attach_callB hn hdf fun w s₀ s₁ mg mb fa o pm cd doc a vs ns G Y ho hd hcd hmg hobj hints hlen hbits hg => ?_
  have KX := hY w _ Y
  have tabs : Tabs q mg s₁.heap := fun nm h => by
    obtain ⟨e, he, hnm⟩ := List.any_eq_true.mp h
    obtain ⟨a', o', fd', c', P', h1, h2, h3, h4, h5, h6⟩ := G.T.tab e he
    exact ⟨a', o', fd', c', P', by rw [← (beq_iff_eq.mp hnm)]; exact h1, h2, h3, h4, PySem.W.CodeHd.of h5 h6, h6.2⟩
  obtain ⟨fd, cs, sp, hT, nT, C, hb, hsp, hF⟩ := F w mg fa _ Y KX G.T.g hmg tabs
  exact LamX.law_callTs KX G.T.g G.T.b G.T.builtins G.T.nolimit hg hT nT C G.T.bmain hobj hints (Nat.le_trans hlen hn2) hr hF hb (fun H hH hS => hsp H a ns hlen hbits hH hS) fun H e s' => hCX w H s₁ e s'
/-- a def's table, by its code object in the written part -/
theorem tab_of {K : PySem.W.Frag} {q : Program} {mg : Str → Option Value} {h : Heap} {nm : Str} {f c P0 : Addr} {o : Obj} {fd : FuncData} {e : Value} {dd : Option Addr} {vs : Array Value} {sl : Array (Option Value)} (X : K.In h) (T : Tabs q mg h) (hq : ((recsOf q).any fun e => e.name == nm) = true)
    (g : mg nm = some (.ref f)) (l : K.lookup f = some o) (hd : o.data = .func fd) (hc : fd.code = .ref c) (lc : K.lookup c = some ⟨e, dd, .fields vs, sl⟩) (hv : vs[11]? = some (.ref P0)) :
    PySem.W.CodeHd h c P0 ∧ h.get? P0 = some { cls := .none, data := .fields #[] } := by
  obtain ⟨a', o', fd', c', P', h1, h2, h3, h4, h5, h6⟩ := T nm hq
  rw [g] at h1; cases h1
  rw [X _ _ l] at h2; cases h2
  rw [hd] at h3; cases h3
  rw [hc] at h4; cases h4
  have h5' := h5
  obtain ⟨oc, vc, _, _, _, _, _, _, _, e1, _, e3, e4, _⟩ := h5'
  rw [X _ _ lc] at e1; cases e1
  cases e3
  rw [hv] at e4; cases e4
  exact ⟨h5, h6⟩
theorem all_mk {l : PySem.W.OpenLaw} {q : Program} {w : World} {K : PySem.W.Frag} {h : Heap} {mg : Str → Option Value} {fa f1 f2 f3 f4 f5 f6 f7 f8 f9 f10 f11 f12 f13 f14 f15 f16 f17 f18 f19 f20 f21 f23 f24 f25 f26 f27 f28 f29 f30 f31 f32 f33 f34 f35 f36 f37 f38 f39 cc11 P11 cc10 P10 cc23 P23 cc25 P25 cc28 P28 cc29 P29 cc34 P34 : Addr} (X : K.In h) (G : h.Ns mainGlobals mg) (hfa : mg "law" = some (.ref fa)) (T : Tabs q mg h) (hl : l.most = some 63)
    {od1 an1 od2 an2 od3 an3 od4 an4 od5 an5 od6 an6 od7 an7 od8 an8 od9 an9 od10 an10 od11 an11 od12 an12 od13 an13 od14 an14 od15 an15 od16 an16 od17 an17 od18 an18 od19 an19 od20 an20 od21 an21 od23 an23 od24 an24 od25 an25 od26 an26 od27 an27 od28 an28 od29 an29 od30 an30 od31 an31 od32 an32 od33 an33 od34 an34 od35 an35 od36 an36 od37 an37 od38 an38 od39 an39 dd11 dd10 dd23 dd25 dd28 dd29 dd34 : Option Addr} {sl1 sl2 sl3 sl4 sl5 sl6 sl7 sl8 sl9 sl10 sl11 sl12 sl13 sl14 sl15 sl16 sl17 sl18 sl19 sl20 sl21 sl23 sl24 sl25 sl26 sl27 sl28 sl29 sl30 sl31 sl32 sl33 sl34 sl35 sl36 sl37 sl38 sl39 sc11 sc10 sc23 sc25 sc28 sc29 sc34 : Array (Option Value)} {oc1 kV1 dc1 pm1 cd1 ct1 oc2 kV2 dc2 pm2 cd2 ct2 oc3 kV3 dc3 pm3 cd3 ct3 oc4 kV4 dc4 pm4 cd4 ct4 oc5 kV5 dc5 pm5 cd5 ct5 oc6 kV6 dc6 pm6 cd6 ct6 oc7 kV7 dc7 pm7 cd7 ct7 oc8 kV8 dc8 pm8 cd8 ct8 oc9 kV9 dc9 pm9 cd9 ct9 oc10 kV10 dc10 pm10 ct10 oc11 kV11 dc11 pm11 ct11 oc12 kV12 dc12 pm12 cd12 ct12 oc13 kV13 dc13 pm13 cd13 ct13 oc14 kV14 dc14 pm14 cd14 ct14 oc15 kV15 dc15 pm15 cd15 ct15 oc16 kV16 dc16 pm16 cd16 ct16 oc17 kV17 dc17 pm17 cd17 ct17 oc18 kV18 dc18 pm18 cd18 ct18 oc19 kV19 dc19 pm19 cd19 ct19 oc20 kV20 dc20 pm20 cd20 ct20 oc21 kV21 dc21 pm21 cd21 ct21 oc23 kV23 dc23 pm23 ct23 oc24 kV24 dc24 pm24 cd24 ct24 oc25 kV25 dc25 pm25 ct25 oc26 kV26 dc26 pm26 cd26 ct26 oc27 kV27 dc27 pm27 cd27 ct27 oc28 kV28 dc28 pm28 ct28 oc29 kV29 dc29 pm29 ct29 oc30 kV30 dc30 pm30 cd30 ct30 oc31 kV31 dc31 pm31 cd31 ct31 oc32 kV32 dc32 pm32 cd32 ct32 oc33 kV33 dc33 pm33 cd33 ct33 oc34 kV34 dc34 pm34 ct34 oc35 kV35 dc35 pm35 cd35 ct35 oc36 kV36 dc36 pm36 cd36 ct36 oc37 kV37 dc37 pm37 cd37 ct37 oc38 kV38 dc38 pm38 cd38 ct38 oc39 kV39 dc39 pm39 cd39 ct39 e11 e10 e23 e25 e28 e29 e34 : Value} {t1 t2 t3 t4 : Tok} {vs11 vs10 vs23 vs25 vs28 vs29 vs34 : Array Value}
    (a1 : PySem.W.nsIn K mainGlobals "_law_acell" = some (some (.ref f1))) (l1 : K.lookup f1 = some ⟨oc1, od1, .func (PySem.W.fnOf "_law_acell" "_law_acell" (defArgs sACell) (defBody sACell) (defScope sACell) .none kV1 dc1 pm1 an1 cd1 ct1), sl1⟩) (c1 : PySem.W.codeIn K cd1 "_law_acell" = true) (k1 : PySem.W.keepIn K (.ref f1) = true)
    (a2 : PySem.W.nsIn K mainGlobals "_law_atape" = some (some (.ref f2))) (l2 : K.lookup f2 = some ⟨oc2, od2, .func (PySem.W.fnOf "_law_atape" "_law_atape" (defArgs sATape) (defBody sATape) (defScope sATape) .none kV2 dc2 pm2 an2 cd2 ct2), sl2⟩) (c2 : PySem.W.codeIn K cd2 "_law_atape" = true) (k2 : PySem.W.keepIn K (.ref f2) = true)
    (a3 : PySem.W.nsIn K mainGlobals "_law_adigit" = some (some (.ref f3))) (l3 : K.lookup f3 = some ⟨oc3, od3, .func (PySem.W.fnOf "_law_adigit" "_law_adigit" (defArgs sADigit) (defBody sADigit) (defScope sADigit) .none kV3 dc3 pm3 an3 cd3 ct3), sl3⟩) (c3 : PySem.W.codeIn K cd3 "_law_adigit" = true) (k3 : PySem.W.keepIn K (.ref f3) = true)
    (a4 : PySem.W.nsIn K mainGlobals "_law_anet" = some (some (.ref f4))) (l4 : K.lookup f4 = some ⟨oc4, od4, .func (PySem.W.fnOf "_law_anet" "_law_anet" (defArgs sANet) (defBody sANet) (defScope sANet) .none kV4 dc4 pm4 an4 cd4 ct4), sl4⟩) (c4 : PySem.W.codeIn K cd4 "_law_anet" = true) (k4 : PySem.W.keepIn K (.ref f4) = true)
    (a5 : PySem.W.nsIn K mainGlobals "_law_aearly" = some (some (.ref f5))) (l5 : K.lookup f5 = some ⟨oc5, od5, .func (PySem.W.fnOf "_law_aearly" "_law_aearly" (defArgs sAEarly) (defBody sAEarly) (defScope sAEarly) .none kV5 dc5 pm5 an5 cd5 ct5), sl5⟩) (c5 : PySem.W.codeIn K cd5 "_law_aearly" = true) (k5 : PySem.W.keepIn K (.ref f5) = true)
    (a6 : PySem.W.nsIn K mainGlobals "_law_aon_time" = some (some (.ref f6))) (l6 : K.lookup f6 = some ⟨oc6, od6, .func (PySem.W.fnOf "_law_aon_time" "_law_aon_time" (defArgs sAOn) (defBody sAOn) (defScope sAOn) .none kV6 dc6 pm6 an6 cd6 ct6), sl6⟩) (c6 : PySem.W.codeIn K cd6 "_law_aon_time" = true) (k6 : PySem.W.keepIn K (.ref f6) = true)
    (a7 : PySem.W.nsIn K mainGlobals "is_whole" = some (some (.ref f7))) (l7 : K.lookup f7 = some ⟨oc7, od7, .func (PySem.W.fnOf "is_whole" "is_whole" (defArgs sWhole) (defBody sWhole) (defScope sWhole) .none kV7 dc7 pm7 an7 cd7 ct7), sl7⟩) (c7 : PySem.W.codeIn K cd7 "is_whole" = true) (k7 : PySem.W.keepIn K (.ref f7) = true)
    (a8 : PySem.W.nsIn K mainGlobals "is_within" = some (some (.ref f8))) (l8 : K.lookup f8 = some ⟨oc8, od8, .func (PySem.W.fnOf "is_within" "is_within" (defArgs sWithin) (defBody sWithin) (defScope sWithin) .none kV8 dc8 pm8 an8 cd8 ct8), sl8⟩) (c8 : PySem.W.codeIn K cd8 "is_within" = true) (k8 : PySem.W.keepIn K (.ref f8) = true)
    (a9 : PySem.W.nsIn K mainGlobals "is_road" = some (some (.ref f9))) (l9 : K.lookup f9 = some ⟨oc9, od9, .func (PySem.W.fnOf "is_road" "is_road" (defArgs sIsRoad) (defBody sIsRoad) (defScope sIsRoad) .none kV9 dc9 pm9 an9 cd9 ct9), sl9⟩) (c9 : PySem.W.codeIn K cd9 "is_road" = true) (k9 : PySem.W.keepIn K (.ref f9) = true)
    (a10 : PySem.W.nsIn K mainGlobals "rises" = some (some (.ref f10))) (l10 : K.lookup f10 = some ⟨oc10, od10, .func (PySem.W.fnOf "rises" "rises" (defArgs sRises) (defBody sRises) (defScope sRises) .none kV10 dc10 pm10 an10 (.ref cc10) ct10), sl10⟩) (c10 : PySem.W.codeIn K (.ref cc10) "rises" = true) (k10 : PySem.W.keepIn K (.ref f10) = true)
    (a11 : PySem.W.nsIn K mainGlobals "is_net" = some (some (.ref f11))) (l11 : K.lookup f11 = some ⟨oc11, od11, .func (PySem.W.fnOf "is_net" "is_net" (defArgs sIsNet) (defBody sIsNet) (defScope sIsNet) .none kV11 dc11 pm11 an11 (.ref cc11) ct11), sl11⟩) (c11 : PySem.W.codeIn K (.ref cc11) "is_net" = true) (k11 : PySem.W.keepIn K (.ref f11) = true)
    (a12 : PySem.W.nsIn K mainGlobals "need_net" = some (some (.ref f12))) (l12 : K.lookup f12 = some ⟨oc12, od12, .func (PySem.W.fnOf "need_net" "need_net" (defArgs sNeedNet) (defBody sNeedNet) (defScope sNeedNet) .none kV12 dc12 pm12 an12 cd12 ct12), sl12⟩) (c12 : PySem.W.codeIn K cd12 "need_net" = true) (k12 : PySem.W.keepIn K (.ref f12) = true)
    (a13 : PySem.W.nsIn K mainGlobals "is_place" = some (some (.ref f13))) (l13 : K.lookup f13 = some ⟨oc13, od13, .func (PySem.W.fnOf "is_place" "is_place" (defArgs sIsPlace) (defBody sIsPlace) (defScope sIsPlace) .none kV13 dc13 pm13 an13 cd13 ct13), sl13⟩) (c13 : PySem.W.codeIn K cd13 "is_place" = true) (k13 : PySem.W.keepIn K (.ref f13) = true)
    (a14 : PySem.W.nsIn K mainGlobals "need_place" = some (some (.ref f14))) (l14 : K.lookup f14 = some ⟨oc14, od14, .func (PySem.W.fnOf "need_place" "need_place" (defArgs sNeedPlace) (defBody sNeedPlace) (defScope sNeedPlace) .none kV14 dc14 pm14 an14 cd14 ct14), sl14⟩) (c14 : PySem.W.codeIn K cd14 "need_place" = true) (k14 : PySem.W.keepIn K (.ref f14) = true)
    (a15 : PySem.W.nsIn K mainGlobals "undercuts" = some (some (.ref f15))) (l15 : K.lookup f15 = some ⟨oc15, od15, .func (PySem.W.fnOf "undercuts" "undercuts" (defArgs sUnder) (defBody sUnder) (defScope sUnder) .none kV15 dc15 pm15 an15 cd15 ct15), sl15⟩) (c15 : PySem.W.codeIn K cd15 "undercuts" = true) (k15 : PySem.W.keepIn K (.ref f15) = true)
    (a16 : PySem.W.nsIn K mainGlobals "earliest" = some (some (.ref f16))) (l16 : K.lookup f16 = some ⟨oc16, od16, .func (PySem.W.fnOf "earliest" "earliest" (defArgs sEarly) (defBody sEarly) (defScope sEarly) .none kV16 dc16 pm16 an16 cd16 ct16), sl16⟩) (c16 : PySem.W.codeIn K cd16 "earliest" = true) (k16 : PySem.W.keepIn K (.ref f16) = true)
    (a17 : PySem.W.nsIn K mainGlobals "on_time" = some (some (.ref f17))) (l17 : K.lookup f17 = some ⟨oc17, od17, .func (PySem.W.fnOf "on_time" "on_time" (defArgs sOnTime) (defBody sOnTime) (defScope sOnTime) .none kV17 dc17 pm17 an17 cd17 ct17), sl17⟩) (c17 : PySem.W.codeIn K cd17 "on_time" = true) (k17 : PySem.W.keepIn K (.ref f17) = true)
    (a18 : PySem.W.nsIn K mainGlobals "_law_asome" = some (some (.ref f18))) (l18 : K.lookup f18 = some ⟨oc18, od18, .func (PySem.W.fnOf "_law_asome" "_law_asome" (defArgs sASome) (defBody sASome) (defScope sASome) .none kV18 dc18 pm18 an18 cd18 ct18), sl18⟩) (c18 : PySem.W.codeIn K cd18 "_law_asome" = true) (k18 : PySem.W.keepIn K (.ref f18) = true)
    (a19 : PySem.W.nsIn K mainGlobals "_law_adrawn_tree" = some (some (.ref f19))) (l19 : K.lookup f19 = some ⟨oc19, od19, .func (PySem.W.fnOf "_law_adrawn_tree" "_law_adrawn_tree" (defArgs sADrawn) (defBody sADrawn) (defScope sADrawn) .none kV19 dc19 pm19 an19 cd19 ct19), sl19⟩) (c19 : PySem.W.codeIn K cd19 "_law_adrawn_tree" = true) (k19 : PySem.W.keepIn K (.ref f19) = true)
    (a20 : PySem.W.nsIn K mainGlobals "ways" = some (some (.ref f20))) (l20 : K.lookup f20 = some ⟨oc20, od20, .func (PySem.W.fnOf "ways" "ways" (defArgs sWays) (defBody sWays) (defScope sWays) .none kV20 dc20 pm20 an20 cd20 ct20), sl20⟩) (c20 : PySem.W.codeIn K cd20 "ways" = true) (k20 : PySem.W.keepIn K (.ref f20) = true)
    (a21 : PySem.W.nsIn K mainGlobals "_law_abent" = some (some (.ref f21))) (l21 : K.lookup f21 = some ⟨oc21, od21, .func (PySem.W.fnOf "_law_abent" "_law_abent" (defArgs sABent) (defBody sABent) (defScope sABent) .none kV21 dc21 pm21 an21 cd21 ct21), sl21⟩) (c21 : PySem.W.codeIn K cd21 "_law_abent" = true) (k21 : PySem.W.keepIn K (.ref f21) = true)
    (a23 : PySem.W.nsIn K mainGlobals "are_places" = some (some (.ref f23))) (l23 : K.lookup f23 = some ⟨oc23, od23, .func (PySem.W.fnOf "are_places" "are_places" (defArgs sAreP) (defBody sAreP) (defScope sAreP) .none kV23 dc23 pm23 an23 (.ref cc23) ct23), sl23⟩) (c23 : PySem.W.codeIn K (.ref cc23) "are_places" = true) (k23 : PySem.W.keepIn K (.ref f23) = true)
    (a24 : PySem.W.nsIn K mainGlobals "need_hearers" = some (some (.ref f24))) (l24 : K.lookup f24 = some ⟨oc24, od24, .func (PySem.W.fnOf "need_hearers" "need_hearers" (defArgs sNeedH) (defBody sNeedH) (defScope sNeedH) .none kV24 dc24 pm24 an24 cd24 ct24), sl24⟩) (c24 : PySem.W.codeIn K cd24 "need_hearers" = true) (k24 : PySem.W.keepIn K (.ref f24) = true)
    (a25 : PySem.W.nsIn K mainGlobals "are_whole_pairs" = some (some (.ref f25))) (l25 : K.lookup f25 = some ⟨oc25, od25, .func (PySem.W.fnOf "are_whole_pairs" "are_whole_pairs" (defArgs sPairs) (defBody sPairs) (defScope sPairs) .none kV25 dc25 pm25 an25 (.ref cc25) ct25), sl25⟩) (c25 : PySem.W.codeIn K (.ref cc25) "are_whole_pairs" = true) (k25 : PySem.W.keepIn K (.ref f25) = true)
    (a26 : PySem.W.nsIn K mainGlobals "road_prices" = some (some (.ref f26))) (l26 : K.lookup f26 = some ⟨oc26, od26, .func (PySem.W.fnOf "road_prices" "road_prices" (defArgs sPrices) (defBody sPrices) (defScope sPrices) .none kV26 dc26 pm26 an26 cd26 ct26), sl26⟩) (c26 : PySem.W.codeIn K cd26 "road_prices" = true) (k26 : PySem.W.keepIn K (.ref f26) = true)
    (a27 : PySem.W.nsIn K mainGlobals "leads_to" = some (some (.ref f27))) (l27 : K.lookup f27 = some ⟨oc27, od27, .func (PySem.W.fnOf "leads_to" "leads_to" (defArgs sLeads) (defBody sLeads) (defScope sLeads) .none kV27 dc27 pm27 an27 cd27 ct27), sl27⟩) (c27 : PySem.W.codeIn K cd27 "leads_to" = true) (k27 : PySem.W.keepIn K (.ref f27) = true)
    (a28 : PySem.W.nsIn K mainGlobals "grows" = some (some (.ref f28))) (l28 : K.lookup f28 = some ⟨oc28, od28, .func (PySem.W.fnOf "grows" "grows" (defArgs sGrows) (defBody sGrows) (defScope sGrows) .none kV28 dc28 pm28 an28 (.ref cc28) ct28), sl28⟩) (c28 : PySem.W.codeIn K (.ref cc28) "grows" = true) (k28 : PySem.W.keepIn K (.ref f28) = true)
    (a29 : PySem.W.nsIn K mainGlobals "serves" = some (some (.ref f29))) (l29 : K.lookup f29 = some ⟨oc29, od29, .func (PySem.W.fnOf "serves" "serves" (defArgs sServes) (defBody sServes) (defScope sServes) .none kV29 dc29 pm29 an29 (.ref cc29) ct29), sl29⟩) (c29 : PySem.W.codeIn K (.ref cc29) "serves" = true) (k29 : PySem.W.keepIn K (.ref f29) = true)
    (a30 : PySem.W.nsIn K mainGlobals "need_tree" = some (some (.ref f30))) (l30 : K.lookup f30 = some ⟨oc30, od30, .func (PySem.W.fnOf "need_tree" "need_tree" (defArgs sNeedTree) (defBody sNeedTree) (defScope sNeedTree) .none kV30 dc30 pm30 an30 cd30 ct30), sl30⟩) (c30 : PySem.W.codeIn K cd30 "need_tree" = true) (k30 : PySem.W.keepIn K (.ref f30) = true)
    (a31 : PySem.W.nsIn K mainGlobals "road_lates" = some (some (.ref f31))) (l31 : K.lookup f31 = some ⟨oc31, od31, .func (PySem.W.fnOf "road_lates" "road_lates" (defArgs sLates) (defBody sLates) (defScope sLates) .none kV31 dc31 pm31 an31 cd31 ct31), sl31⟩) (c31 : PySem.W.codeIn K cd31 "road_lates" = true) (k31 : PySem.W.keepIn K (.ref f31) = true)
    (a32 : PySem.W.nsIn K mainGlobals "lateness_up" = some (some (.ref f32))) (l32 : K.lookup f32 = some ⟨oc32, od32, .func (PySem.W.fnOf "lateness_up" "lateness_up" (defArgs sUp) (defBody sUp) (defScope sUp) .none kV32 dc32 pm32 an32 cd32 ct32), sl32⟩) (c32 : PySem.W.codeIn K cd32 "lateness_up" = true) (k32 : PySem.W.keepIn K (.ref f32) = true)
    (a33 : PySem.W.nsIn K mainGlobals "lateness" = some (some (.ref f33))) (l33 : K.lookup f33 = some ⟨oc33, od33, .func (PySem.W.fnOf "lateness" "lateness" (defArgs sLateness) (defBody sLateness) (defScope sLateness) .none kV33 dc33 pm33 an33 cd33 ct33), sl33⟩) (c33 : PySem.W.codeIn K cd33 "lateness" = true) (k33 : PySem.W.keepIn K (.ref f33) = true)
    (a34 : PySem.W.nsIn K mainGlobals "is_on_time" = some (some (.ref f34))) (l34 : K.lookup f34 = some ⟨oc34, od34, .func (PySem.W.fnOf "is_on_time" "is_on_time" (defArgs sIsOn) (defBody sIsOn) (defScope sIsOn) .none kV34 dc34 pm34 an34 (.ref cc34) ct34), sl34⟩) (c34 : PySem.W.codeIn K (.ref cc34) "is_on_time" = true) (k34 : PySem.W.keepIn K (.ref f34) = true)
    (a35 : PySem.W.nsIn K mainGlobals "_law_ais_tree" = some (some (.ref f35))) (l35 : K.lookup f35 = some ⟨oc35, od35, .func (PySem.W.fnOf "_law_ais_tree" "_law_ais_tree" (defArgs sATree) (defBody sATree) (defScope sATree) .none kV35 dc35 pm35 an35 cd35 ct35), sl35⟩) (c35 : PySem.W.codeIn K cd35 "_law_ais_tree" = true) (k35 : PySem.W.keepIn K (.ref f35) = true)
    (a36 : PySem.W.nsIn K mainGlobals "_law_alates" = some (some (.ref f36))) (l36 : K.lookup f36 = some ⟨oc36, od36, .func (PySem.W.fnOf "_law_alates" "_law_alates" (defArgs sALates) (defBody sALates) (defScope sALates) .none kV36 dc36 pm36 an36 cd36 ct36), sl36⟩) (c36 : PySem.W.codeIn K cd36 "_law_alates" = true) (k36 : PySem.W.keepIn K (.ref f36) = true)
    (a37 : PySem.W.nsIn K mainGlobals "_law_adue" = some (some (.ref f37))) (l37 : K.lookup f37 = some ⟨oc37, od37, .func (PySem.W.fnOf "_law_adue" "_law_adue" (defArgs sADue) (defBody sADue) (defScope sADue) .none kV37 dc37 pm37 an37 cd37 ct37), sl37⟩) (c37 : PySem.W.codeIn K cd37 "_law_adue" = true) (k37 : PySem.W.keepIn K (.ref f37) = true)
    (a38 : PySem.W.nsIn K mainGlobals "_law_aby_roads" = some (some (.ref f38))) (l38 : K.lookup f38 = some ⟨oc38, od38, .func (PySem.W.fnOf "_law_aby_roads" "_law_aby_roads" (defArgs sABy) (defBody sABy) (defScope sABy) .none kV38 dc38 pm38 an38 cd38 ct38), sl38⟩) (c38 : PySem.W.codeIn K cd38 "_law_aby_roads" = true) (k38 : PySem.W.keepIn K (.ref f38) = true)
    (a39 : PySem.W.nsIn K mainGlobals "law" = some (some (.ref f39))) (l39 : K.lookup f39 = some ⟨oc39, od39, .func (PySem.W.fnOf "law" "law" (defArgs sLaw) (defBody sLaw) (defScope sLaw) .none kV39 dc39 pm39 an39 cd39 ct39), sl39⟩) (c39 : PySem.W.codeIn K cd39 "law" = true) (k39 : PySem.W.keepIn K (.ref f39) = true)
    (z0 : PySem.W.nsIn K mainGlobals "len" = some none)
    (z1 : PySem.W.nsIn K mainGlobals "range" = some none)
    (z2 : PySem.W.nsIn K mainGlobals "tuple" = some none)
    (z3 : PySem.W.nsIn K mainGlobals "isinstance" = some none)
    (z4 : PySem.W.nsIn K mainGlobals "int" = some none)
    (z5 : PySem.W.nsIn K mainGlobals "bool" = some none)
    (z6 : PySem.W.nsIn K mainGlobals "zip" = some none)
    (z7 : PySem.W.nsIn K mainGlobals "all" = some none)
    (z8 : PySem.W.nsIn K mainGlobals "dict" = some none)
    (z9 : PySem.W.nsIn K mainGlobals "sorted" = some none)
    (z10 : PySem.W.nsIn K mainGlobals "max" = some none)
    (z11 : PySem.W.nsIn K mainGlobals "min" = some none)
    (y0 : PySem.W.nsIn K mainGlobals "MOST_PRICE" = some (some (.int 1000 t1)))
    (y1 : PySem.W.nsIn K mainGlobals "LEAST_LATE" = some (some (.int 1 t2)))
    (y2 : PySem.W.nsIn K mainGlobals "MOST_LATE" = some (some (.int 1000 t3)))
    (y3 : PySem.W.nsIn K mainGlobals "MOST_PLACES" = some (some (.int 12 t4)))
    (w11 : K.lookup cc11 = some ⟨e11, dd11, .fields vs11, sc11⟩) (v11 : vs11[11]? = some (.ref P11)) (n11 : K.lookup P11 = none) (q11 : ((recsOf q).any fun e => e.name == ("is_net" : Str)) = true) (w10 : K.lookup cc10 = some ⟨e10, dd10, .fields vs10, sc10⟩) (v10 : vs10[11]? = some (.ref P10)) (n10 : K.lookup P10 = none) (q10 : ((recsOf q).any fun e => e.name == ("rises" : Str)) = true) (w23 : K.lookup cc23 = some ⟨e23, dd23, .fields vs23, sc23⟩) (v23 : vs23[11]? = some (.ref P23)) (n23 : K.lookup P23 = none) (q23 : ((recsOf q).any fun e => e.name == ("are_places" : Str)) = true) (w25 : K.lookup cc25 = some ⟨e25, dd25, .fields vs25, sc25⟩) (v25 : vs25[11]? = some (.ref P25)) (n25 : K.lookup P25 = none) (q25 : ((recsOf q).any fun e => e.name == ("are_whole_pairs" : Str)) = true) (w28 : K.lookup cc28 = some ⟨e28, dd28, .fields vs28, sc28⟩) (v28 : vs28[11]? = some (.ref P28)) (n28 : K.lookup P28 = none) (q28 : ((recsOf q).any fun e => e.name == ("grows" : Str)) = true) (w29 : K.lookup cc29 = some ⟨e29, dd29, .fields vs29, sc29⟩) (v29 : vs29[11]? = some (.ref P29)) (n29 : K.lookup P29 = none) (q29 : ((recsOf q).any fun e => e.name == ("serves" : Str)) = true) (w34 : K.lookup cc34 = some ⟨e34, dd34, .fields vs34, sc34⟩) (v34 : vs34[11]? = some (.ref P34)) (n34 : K.lookup P34 = none) (q34 : ((recsOf q).any fun e => e.name == ("is_on_time" : Str)) = true) :
    LamX.LawAtS l w K CX0 9 63 "script" mg fa h := by
  have e := hfa.symm.trans (PySem.W.mg_of X G a39)
  cases e
  have F1 := fun_mk (st := sACell) l1 c1 k1
  have F2 := fun_mk (st := sATape) l2 c2 k2
  have F3 := fun_mk (st := sADigit) l3 c3 k3
  have F4 := fun_mk (st := sANet) l4 c4 k4
  have F5 := fun_mk (st := sAEarly) l5 c5 k5
  have F6 := fun_mk (st := sAOn) l6 c6 k6
  have F7 := fun_mk (st := sWhole) l7 c7 k7
  have F8 := fun_mk (st := sWithin) l8 c8 k8
  have F9 := fun_mk (st := sIsRoad) l9 c9 k9
  have F10 := func_mk (st := sRises) l10 c10 k10
  have F11 := func_mk (st := sIsNet) l11 c11 k11
  have F12 := fun_mk (st := sNeedNet) l12 c12 k12
  have F13 := fun_mk (st := sIsPlace) l13 c13 k13
  have F14 := fun_mk (st := sNeedPlace) l14 c14 k14
  have F15 := fun_mk (st := sUnder) l15 c15 k15
  have F16 := fun_mk (st := sEarly) l16 c16 k16
  have F17 := fun_mk (st := sOnTime) l17 c17 k17
  have F18 := fun_mk (st := sASome) l18 c18 k18
  have F19 := fun_mk (st := sADrawn) l19 c19 k19
  have F20 := fun_mk (st := sWays) l20 c20 k20
  have F21 := fun_mk (st := sABent) l21 c21 k21
  have F23 := func_mk (st := sAreP) l23 c23 k23
  have F24 := fun_mk (st := sNeedH) l24 c24 k24
  have F25 := func_mk (st := sPairs) l25 c25 k25
  have F26 := fun_mk (st := sPrices) l26 c26 k26
  have F27 := fun_mk (st := sLeads) l27 c27 k27
  have F28 := func_mk (st := sGrows) l28 c28 k28
  have F29 := func_mk (st := sServes) l29 c29 k29
  have F30 := fun_mk (st := sNeedTree) l30 c30 k30
  have F31 := fun_mk (st := sLates) l31 c31 k31
  have F32 := fun_mk (st := sUp) l32 c32 k32
  have F33 := fun_mk (st := sLateness) l33 c33 k33
  have F34 := func_mk (st := sIsOn) l34 c34 k34
  have F35 := fun_mk (st := sATree) l35 c35 k35
  have F36 := fun_mk (st := sALates) l36 c36 k36
  have F37 := fun_mk (st := sADue) l37 c37 k37
  have F38 := fun_mk (st := sABy) l38 c38 k38
  have F39 := fun_mk (st := sLaw) l39 c39 k39
  have b1 := F1.binds (ps := ["script", "k"]) fun _ _ _ _ _ _ us hl => match us, hl with | [_, _], _ => rfl
  have b2 := F2.binds (ps := ["script", "k"]) fun _ _ _ _ _ _ us hl => match us, hl with | [_, _], _ => rfl
  have b3 := F3.binds (ps := ["tape", "many"]) fun _ _ _ _ _ _ us hl => match us, hl with | [_, _], _ => rfl
  have b4 := F4.binds (ps := ["tape", "most"]) fun _ _ _ _ _ _ us hl => match us, hl with | [_, _], _ => rfl
  have b5 := F5.binds (ps := ["net", "root"]) fun _ _ _ _ _ _ us hl => match us, hl with | [_, _], _ => rfl
  have b6 := F6.binds (ps := ["net", "root"]) fun _ _ _ _ _ _ us hl => match us, hl with | [_, _], _ => rfl
  have b7 := F7.binds (ps := ["thing"]) fun _ _ _ _ _ _ us hl => match us, hl with | [_], _ => rfl
  have b8 := F8.binds (ps := ["thing", "least", "greatest"]) fun _ _ _ _ _ _ us hl => match us, hl with | [_, _, _], _ => rfl
  have b9 := F9.binds (ps := ["many", "thing"]) fun _ _ _ _ _ _ us hl => match us, hl with | [_, _], _ => rfl
  have b10 := F10.toFun.binds (ps := ["row"]) fun _ _ _ _ _ _ us hl => match us, hl with | [_], _ => rfl
  have b11 := F11.toFun.binds (ps := ["thing"]) fun _ _ _ _ _ _ us hl => match us, hl with | [_], _ => rfl
  have b12 := F12.binds (ps := ["net"]) fun _ _ _ _ _ _ us hl => match us, hl with | [_], _ => rfl
  have b13 := F13.binds (ps := ["net", "thing"]) fun _ _ _ _ _ _ us hl => match us, hl with | [_, _], _ => rfl
  have b14 := F14.binds (ps := ["net", "place"]) fun _ _ _ _ _ _ us hl => match us, hl with | [_, _], _ => rfl
  have b15 := F15.binds (ps := ["numbers", "start", "end", "more"]) fun _ _ _ _ _ _ us hl => match us, hl with | [_, _, _, _], _ => rfl
  have b16 := F16.binds (ps := ["net", "root"]) fun _ _ _ _ _ _ us hl => match us, hl with | [_, _], _ => rfl
  have b17 := F17.binds (ps := ["net", "root"]) fun _ _ _ _ _ _ us hl => match us, hl with | [_, _], _ => rfl
  have b18 := F18.binds (ps := ["tape", "n", "most"]) fun _ _ _ _ _ _ us hl => match us, hl with | [_, _, _], _ => rfl
  have b19 := F19.binds (ps := ["tape", "net", "root", "some"]) fun _ _ _ _ _ _ us hl => match us, hl with | [_, _, _, _], _ => rfl
  have b20 := F20.binds (ps := ["net", "root"]) fun _ _ _ _ _ _ us hl => match us, hl with | [_, _], _ => rfl
  have b21 := F21.binds (ps := ["tape", "net", "ahead"]) fun _ _ _ _ _ _ us hl => match us, hl with | [_, _, _], _ => rfl
  have b23 := F23.toFun.binds (ps := ["net", "thing"]) fun _ _ _ _ _ _ us hl => match us, hl with | [_, _], _ => rfl
  have b24 := F24.binds (ps := ["net", "hearers"]) fun _ _ _ _ _ _ us hl => match us, hl with | [_, _], _ => rfl
  have b25 := F25.toFun.binds (ps := ["thing"]) fun _ _ _ _ _ _ us hl => match us, hl with | [_], _ => rfl
  have b26 := F26.binds (ps := ["net"]) fun _ _ _ _ _ _ us hl => match us, hl with | [_], _ => rfl
  have b27 := F27.binds (ps := ["root", "ahead", "place"]) fun _ _ _ _ _ _ us hl => match us, hl with | [_, _, _], _ => rfl
  have b28 := F28.toFun.binds (ps := ["net", "root", "ahead"]) fun _ _ _ _ _ _ us hl => match us, hl with | [_, _, _], _ => rfl
  have b29 := F29.toFun.binds (ps := ["root", "hearers", "ahead"]) fun _ _ _ _ _ _ us hl => match us, hl with | [_, _, _], _ => rfl
  have b30 := F30.binds (ps := ["net", "root", "ahead"]) fun _ _ _ _ _ _ us hl => match us, hl with | [_, _, _], _ => rfl
  have b31 := F31.binds (ps := ["net"]) fun _ _ _ _ _ _ us hl => match us, hl with | [_], _ => rfl
  have b32 := F32.binds (ps := ["lates", "root", "ahead", "place"]) fun _ _ _ _ _ _ us hl => match us, hl with | [_, _, _, _], _ => rfl
  have b33 := F33.binds (ps := ["net", "root", "ahead"]) fun _ _ _ _ _ _ us hl => match us, hl with | [_, _, _], _ => rfl
  have b34 := F34.toFun.binds (ps := ["net", "root", "hearers", "ahead"]) fun _ _ _ _ _ _ us hl => match us, hl with | [_, _, _, _], _ => rfl
  have b35 := F35.binds (ps := ["net", "root", "ahead"]) fun _ _ _ _ _ _ us hl => match us, hl with | [_, _, _], _ => rfl
  have b36 := F36.binds (ps := ["net", "root", "ahead"]) fun _ _ _ _ _ _ us hl => match us, hl with | [_, _, _], _ => rfl
  have b37 := F37.binds (ps := ["net", "root", "some", "ahead"]) fun _ _ _ _ _ _ us hl => match us, hl with | [_, _, _, _], _ => rfl
  have b38 := F38.binds (ps := ["net", "root", "some", "ahead"]) fun _ _ _ _ _ _ us hl => match us, hl with | [_, _, _, _], _ => rfl
  have g1 := PySem.W.mg_of X G a1
  have g2 := PySem.W.mg_of X G a2
  have g3 := PySem.W.mg_of X G a3
  have g4 := PySem.W.mg_of X G a4
  have g5 := PySem.W.mg_of X G a5
  have g6 := PySem.W.mg_of X G a6
  have g7 := PySem.W.mg_of X G a7
  have g8 := PySem.W.mg_of X G a8
  have g9 := PySem.W.mg_of X G a9
  have g10 := PySem.W.mg_of X G a10
  have g11 := PySem.W.mg_of X G a11
  have g12 := PySem.W.mg_of X G a12
  have g13 := PySem.W.mg_of X G a13
  have g14 := PySem.W.mg_of X G a14
  have g15 := PySem.W.mg_of X G a15
  have g16 := PySem.W.mg_of X G a16
  have g17 := PySem.W.mg_of X G a17
  have g18 := PySem.W.mg_of X G a18
  have g19 := PySem.W.mg_of X G a19
  have g20 := PySem.W.mg_of X G a20
  have g21 := PySem.W.mg_of X G a21
  have g23 := PySem.W.mg_of X G a23
  have g24 := PySem.W.mg_of X G a24
  have g25 := PySem.W.mg_of X G a25
  have g26 := PySem.W.mg_of X G a26
  have g27 := PySem.W.mg_of X G a27
  have g28 := PySem.W.mg_of X G a28
  have g29 := PySem.W.mg_of X G a29
  have g30 := PySem.W.mg_of X G a30
  have g31 := PySem.W.mg_of X G a31
  have g32 := PySem.W.mg_of X G a32
  have g33 := PySem.W.mg_of X G a33
  have g34 := PySem.W.mg_of X G a34
  have g35 := PySem.W.mg_of X G a35
  have g36 := PySem.W.mg_of X G a36
  have g37 := PySem.W.mg_of X G a37
  have g38 := PySem.W.mg_of X G a38
  have g39 := PySem.W.mg_of X G a39
  have m0 := PySem.W.mg_none_of X G z0
  have m1 := PySem.W.mg_none_of X G z1
  have m2 := PySem.W.mg_none_of X G z2
  have m3 := PySem.W.mg_none_of X G z3
  have m4 := PySem.W.mg_none_of X G z4
  have m5 := PySem.W.mg_none_of X G z5
  have m6 := PySem.W.mg_none_of X G z6
  have m7 := PySem.W.mg_none_of X G z7
  have m8 := PySem.W.mg_none_of X G z8
  have m9 := PySem.W.mg_none_of X G z9
  have m10 := PySem.W.mg_none_of X G z10
  have m11 := PySem.W.mg_none_of X G z11
  have u0 := PySem.W.mg_of X G y0
  have u1 := PySem.W.mg_of X G y1
  have u2 := PySem.W.mg_of X G y2
  have u3 := PySem.W.mg_of X G y3
  obtain ⟨hc11, hp11⟩ := tab_of X T q11 g11 l11 rfl rfl w11 v11
  obtain ⟨hc10, hp10⟩ := tab_of X T q10 g10 l10 rfl rfl w10 v10
  obtain ⟨hc23, hp23⟩ := tab_of X T q23 g23 l23 rfl rfl w23 v23
  obtain ⟨hc25, hp25⟩ := tab_of X T q25 g25 l25 rfl rfl w25 v25
  obtain ⟨hc28, hp28⟩ := tab_of X T q28 g28 l28 rfl rfl w28 v28
  obtain ⟨hc29, hp29⟩ := tab_of X T q29 g29 l29 rfl rfl w29 v29
  obtain ⟨hc34, hp34⟩ := tab_of X T q34 g34 l34 rfl rfl w34 v34
  refine ⟨PySem.W.fnOf "law" "law" (defArgs sLaw) (defBody sLaw) (defScope sLaw) .none kV39 dc39 pm39 an39 cd39 ct39, [(cc11, P11), (cc10, P10), (cc23, P23), (cc25, P25), (cc28, P28), (cc29, P29), (cc34, P34)], spLaw K P11 P10 P23 P25 P28 P29 P34, fun p hp => ?_, fun p hp => ?_, fun p hp => ?_, fun s v => .of_eq rfl, fun H a ns _ _ hH hS => ?_, fun base hK hN hB => ?_⟩
  · simp only [List.mem_cons, List.not_mem_nil, or_false] at hp
    rcases hp with rfl | rfl | rfl | rfl | rfl | rfl | rfl
    · exact hp11
    · exact hp10
    · exact hp23
    · exact hp25
    · exact hp28
    · exact hp29
    · exact hp34
  · simp only [List.mem_cons, List.not_mem_nil, or_false] at hp
    rcases hp with rfl | rfl | rfl | rfl | rfl | rfl | rfl
    · exact n11
    · exact n10
    · exact n23
    · exact n25
    · exact n28
    · exact n29
    · exact n34
  · simp only [List.mem_cons, List.not_mem_nil, or_false] at hp
    rcases hp with rfl | rfl | rfl | rfl | rfl | rfl | rfl
    · exact hc11
    · exact hc10
    · exact hc23
    · exact hc25
    · exact hc28
    · exact hc29
    · exact hc34
  · have t11 : H P11 = some (.tbl #[]) := hH (cc11, P11) (by simp)
    have t10 : H P10 = some (.tbl #[]) := hH (cc10, P10) (by simp)
    have t23 : H P23 = some (.tbl #[]) := hH (cc23, P23) (by simp)
    have t25 : H P25 = some (.tbl #[]) := hH (cc25, P25) (by simp)
    have t28 : H P28 = some (.tbl #[]) := hH (cc28, P28) (by simp)
    have t29 : H P29 = some (.tbl #[]) := hH (cc29, P29) (by simp)
    have t34 : H P34 = some (.tbl #[]) := hH (cc34, P34) (by simp)
    exact ⟨a, ns, rfl, hS, ⟨_, t11, trivial⟩, ⟨_, t10, trivial⟩, ⟨_, t23, trivial⟩, ⟨_, t25, trivial⟩, ⟨_, t28, trivial⟩, ⟨_, t29, trivial⟩, ⟨_, t34, trivial⟩, fun _ => rfl⟩
  · obtain ⟨x11a, x11b, x11c⟩ := hB (cc11, P11) (by simp)
    have B11 : GxR.TabB base mg cc11 P11 := ⟨x11a, x11b, x11c⟩
    obtain ⟨x10a, x10b, x10c⟩ := hB (cc10, P10) (by simp)
    have B10 : GxR.TabB base mg cc10 P10 := ⟨x10a, x10b, x10c⟩
    obtain ⟨x23a, x23b, x23c⟩ := hB (cc23, P23) (by simp)
    have B23 : GxR.TabB base mg cc23 P23 := ⟨x23a, x23b, x23c⟩
    obtain ⟨x25a, x25b, x25c⟩ := hB (cc25, P25) (by simp)
    have B25 : GxR.TabB base mg cc25 P25 := ⟨x25a, x25b, x25c⟩
    obtain ⟨x28a, x28b, x28c⟩ := hB (cc28, P28) (by simp)
    have B28 : GxR.TabB base mg cc28 P28 := ⟨x28a, x28b, x28c⟩
    obtain ⟨x29a, x29b, x29c⟩ := hB (cc29, P29) (by simp)
    have B29 : GxR.TabB base mg cc29 P29 := ⟨x29a, x29b, x29c⟩
    obtain ⟨x34a, x34b, x34c⟩ := hB (cc34, P34) (by simp)
    have B34 : GxR.TabB base mg cc34 P34 := ⟨x34a, x34b, x34c⟩
    have O1 := ok_acell (P := l.prog) (w := w) (mg := mg) (base := base) F1 m0
    have O2 := ok_atape (P := l.prog) (w := w) (mg := mg) (base := base) F2 k1 b1 g1 O1 m1
    have O3 := ok_adigit (P := l.prog) (w := w) (mg := mg) (base := base) F3
    have O4 := ok_anet (P := l.prog) (w := w) (mg := mg) (base := base) F4 k3 b3 g3 O3 m1 m2
    have O5 := ok_aearly (P := l.prog) (w := w) (mg := mg) (base := base) F5 m1
    have O6 := ok_aon (P := l.prog) (w := w) (mg := mg) (base := base) F6 k5 b5 g5 O5 m2
    have O7 := ok_whole (P := l.prog) (w := w) (mg := mg) (base := base) F7 m3 m4 m5
    have O8 := ok_within (P := l.prog) (w := w) (mg := mg) (base := base) F8 F7 b7 g7 O7
    have O9 := ok_road (P := l.prog) (w := w) (mg := mg) (base := base) F9 F8 b8 g8 O8 m3 m2 m0 u0 u1 u2
    have O10 := ok_rises (P := l.prog) (w := w) (mg := mg) (base := base) F10 B10 m6 m7
    have O11 := ok_isnet (P := l.prog) (w := w) (mg := mg) (base := base) F11 B11 k8 b8 g8 O8 k9 b9 g9 O9 k10 b10 g10 O10 m3 m2 m0 m7 u3
    have O12 := ok_neednet (P := l.prog) (w := w) (mg := mg) (base := base) F12 k11 b11 g11 O11
    have O13 := ok_isplace (P := l.prog) (w := w) (mg := mg) (base := base) F13 k8 b8 g8 O8
    have O14 := ok_needplace (P := l.prog) (w := w) (mg := mg) (base := base) F14 k13 b13 g13 O13
    have O15 := ok_under (P := l.prog) (w := w) (mg := mg) (base := base) F15
    have O16 := ok_early (P := l.prog) (w := w) (mg := mg) (base := base) F16 k12 b12 g12 O12 k14 b14 g14 O14 k15 b15 g15 O15 m1
    have O17 := ok_ontime (P := l.prog) (w := w) (mg := mg) (base := base) F17 k16 b16 g16 O16 m2
    have O18 := ok_asome (P := l.prog) (w := w) (mg := mg) (base := base) F18 k3 b3 g3 O3 m1 m2 m0
    have O19 := ok_adrawn (P := l.prog) (w := w) (mg := mg) (base := base) F19 k3 b3 g3 O3 m1 m0
    have O20 := ok_ways (P := l.prog) (w := w) (mg := mg) (base := base) F20 k16 b16 g16 O16
    have O21 := ok_abent (P := l.prog) (w := w) (mg := mg) (base := base) F21 k3 b3 g3 O3 m8 m9 m0
    have O22 := ok_risesI (P := l.prog) (w := w) (mg := mg) (base := base) F10 B10 m6 m7
    have O23 := ok_arep (P := l.prog) (w := w) (mg := mg) (base := base) F23 B23 k13 b13 g13 O13 k10 b10 g10 O22 m3 m2 m7
    have O24 := ok_needh (P := l.prog) (w := w) (mg := mg) (base := base) F24 k23 b23 g23 O23
    have O25 := ok_pairs (P := l.prog) (w := w) (mg := mg) (base := base) F25 B25 k7 b7 g7 O7 m3 m8 m7
    have O26 := ok_prices (P := l.prog) (w := w) (mg := mg) (base := base) F26
    have O27 := ok_leads (P := l.prog) (w := w) (mg := mg) (base := base) F27 m1 m0
    have O28 := ok_grows (P := l.prog) (w := w) (mg := mg) (base := base) F28 B28 k25 b25 g25 O25 k26 b26 g26 O26 k27 b27 g27 O27 m7
    have O29 := ok_serves (P := l.prog) (w := w) (mg := mg) (base := base) F29 B29 m7
    have O30 := ok_needtree (P := l.prog) (w := w) (mg := mg) (base := base) F30 k28 b28 g28 O28
    have O31 := ok_lates (P := l.prog) (w := w) (mg := mg) (base := base) F31
    have O32 := ok_up (P := l.prog) (w := w) (mg := mg) (base := base) F32
    have O33 := ok_lateness (P := l.prog) (w := w) (mg := mg) (base := base) F33 k12 b12 g12 O12 k14 b14 g14 O14 k30 b30 g30 O30 k31 b31 g31 O31 k32 b32 g32 O32
    have O34 := ok_ison (P := l.prog) (w := w) (mg := mg) (base := base) F34 B34 k12 b12 g12 O12 k14 b14 g14 O14 k24 b24 g24 O24 k28 b28 g28 O28 k29 b29 g29 O29 k16 b16 g16 O16 k33 b33 g33 O33 m7
    have O35 := ok_atree (P := l.prog) (w := w) (mg := mg) (base := base) F35 m1 m0
    have O36 := ok_alates (P := l.prog) (w := w) (mg := mg) (base := base) F36 m1 m0
    have O37 := ok_adue (P := l.prog) (w := w) (mg := mg) (base := base) F37 k35 b35 g35 O35 k5 b5 g5 O5 k36 b36 g36 O36
    have O38 := ok_aby (P := l.prog) (w := w) (mg := mg) (base := base) F38 k35 b35 g35 O35 k6 b6 g6 O6 m1 m0
    exact ok_law F39 k2 b2 g2 O2 k4 b4 g4 O4 k3 b3 g3 O3 k6 b6 g6 O6 k17 b17 g17 O17 k18 b18 g18 O18 k19 b19 g19 O19 k20 b20 g20 O20 k21 b21 g21 O21 k34 b34 g34 O34 k37 b37 g37 O37 k38 b38 g38 O38 m0 m1 m10 m11 m2 m8 m3 m5
end HK

open PySem PySem.W PyProof.Rows
set_option Elab.async false
set_option maxRecDepth 100000
set_option maxHeartbeats 0 in
theorem PySem.Challenge.cw_hearkenway_k25_roads_on_time_holds : PySem.Challenge.rw_hearkenway_k25_roads_on_time.Holds := by
  w_on; o_law; k_head; (case hw => w_witness2)
  k_fill
  refine HK.walk_tabs (l := PySem.Challenge.rw_hearkenway_k25_roads_on_time) (n := 63) (k := 9) (x := "script") (CX := fun _ => L2.CX0) rfl (by decide) rfl ⟨rfl, by decide, by decide⟩ (fun w h Y => PySem.W.kIn_of Y) ?F (fun _ _ _ _ _ h => h)
  case F =>
    intro w mg fa h Y KX G hmg tabs
    refine' HK.all_mk KX G hmg tabs rfl ?a1 ?l1 ?c1 ?k1 ?a2 ?l2 ?c2 ?k2 ?a3 ?l3 ?c3 ?k3 ?a4 ?l4 ?c4 ?k4 ?a5 ?l5 ?c5 ?k5 ?a6 ?l6 ?c6 ?k6 ?a7 ?l7 ?c7 ?k7 ?a8 ?l8 ?c8 ?k8 ?a9 ?l9 ?c9 ?k9 ?a10 ?l10 ?c10 ?k10 ?a11 ?l11 ?c11 ?k11 ?a12 ?l12 ?c12 ?k12 ?a13 ?l13 ?c13 ?k13 ?a14 ?l14 ?c14 ?k14 ?a15 ?l15 ?c15 ?k15 ?a16 ?l16 ?c16 ?k16 ?a17 ?l17 ?c17 ?k17 ?a18 ?l18 ?c18 ?k18 ?a19 ?l19 ?c19 ?k19 ?a20 ?l20 ?c20 ?k20 ?a21 ?l21 ?c21 ?k21 ?a23 ?l23 ?c23 ?k23 ?a24 ?l24 ?c24 ?k24 ?a25 ?l25 ?c25 ?k25 ?a26 ?l26 ?c26 ?k26 ?a27 ?l27 ?c27 ?k27 ?a28 ?l28 ?c28 ?k28 ?a29 ?l29 ?c29 ?k29 ?a30 ?l30 ?c30 ?k30 ?a31 ?l31 ?c31 ?k31 ?a32 ?l32 ?c32 ?k32 ?a33 ?l33 ?c33 ?k33 ?a34 ?l34 ?c34 ?k34 ?a35 ?l35 ?c35 ?k35 ?a36 ?l36 ?c36 ?k36 ?a37 ?l37 ?c37 ?k37 ?a38 ?l38 ?c38 ?k38 ?a39 ?l39 ?c39 ?k39 ?z0 ?z1 ?z2 ?z3 ?z4 ?z5 ?z6 ?z7 ?z8 ?z9 ?z10 ?z11 ?y0 ?y1 ?y2 ?y3 ?w11 ?v11 ?n11 ?q11 ?w10 ?v10 ?n10 ?q10 ?w23 ?v23 ?n23 ?q23 ?w25 ?v25 ?n25 ?q25 ?w28 ?v28 ?n28 ?q28 ?w29 ?v29 ?n29 ?q29 ?w34 ?v34 ?n34 ?q34
    (case a1 => k_is); (case l1 => k_is); (case c1 => k_is); (case k1 => k_is); (case a2 => k_is); (case l2 => k_is); (case c2 => k_is); (case k2 => k_is); (case a3 => k_is); (case l3 => k_is); (case c3 => k_is); (case k3 => k_is); (case a4 => k_is); (case l4 => k_is); (case c4 => k_is); (case k4 => k_is); (case a5 => k_is); (case l5 => k_is); (case c5 => k_is); (case k5 => k_is); (case a6 => k_is); (case l6 => k_is); (case c6 => k_is); (case k6 => k_is); (case a7 => k_is); (case l7 => k_is); (case c7 => k_is); (case k7 => k_is); (case a8 => k_is); (case l8 => k_is); (case c8 => k_is); (case k8 => k_is); (case a9 => k_is); (case l9 => k_is); (case c9 => k_is); (case k9 => k_is); (case a10 => k_is); (case l10 => k_is); (case c10 => k_is); (case k10 => k_is); (case a11 => k_is); (case l11 => k_is); (case c11 => k_is); (case k11 => k_is); (case a12 => k_is); (case l12 => k_is); (case c12 => k_is); (case k12 => k_is); (case a13 => k_is); (case l13 => k_is); (case c13 => k_is); (case k13 => k_is); (case a14 => k_is); (case l14 => k_is); (case c14 => k_is); (case k14 => k_is); (case a15 => k_is); (case l15 => k_is); (case c15 => k_is); (case k15 => k_is); (case a16 => k_is); (case l16 => k_is); (case c16 => k_is); (case k16 => k_is); (case a17 => k_is); (case l17 => k_is); (case c17 => k_is); (case k17 => k_is); (case a18 => k_is); (case l18 => k_is); (case c18 => k_is); (case k18 => k_is); (case a19 => k_is); (case l19 => k_is); (case c19 => k_is); (case k19 => k_is); (case a20 => k_is); (case l20 => k_is); (case c20 => k_is); (case k20 => k_is); (case a21 => k_is); (case l21 => k_is); (case c21 => k_is); (case k21 => k_is); (case a23 => k_is); (case l23 => k_is); (case c23 => k_is); (case k23 => k_is); (case a24 => k_is); (case l24 => k_is); (case c24 => k_is); (case k24 => k_is); (case a25 => k_is); (case l25 => k_is); (case c25 => k_is); (case k25 => k_is); (case a26 => k_is); (case l26 => k_is); (case c26 => k_is); (case k26 => k_is); (case a27 => k_is); (case l27 => k_is); (case c27 => k_is); (case k27 => k_is); (case a28 => k_is); (case l28 => k_is); (case c28 => k_is); (case k28 => k_is); (case a29 => k_is); (case l29 => k_is); (case c29 => k_is); (case k29 => k_is); (case a30 => k_is); (case l30 => k_is); (case c30 => k_is); (case k30 => k_is); (case a31 => k_is); (case l31 => k_is); (case c31 => k_is); (case k31 => k_is); (case a32 => k_is); (case l32 => k_is); (case c32 => k_is); (case k32 => k_is); (case a33 => k_is); (case l33 => k_is); (case c33 => k_is); (case k33 => k_is); (case a34 => k_is); (case l34 => k_is); (case c34 => k_is); (case k34 => k_is); (case a35 => k_is); (case l35 => k_is); (case c35 => k_is); (case k35 => k_is); (case a36 => k_is); (case l36 => k_is); (case c36 => k_is); (case k36 => k_is); (case a37 => k_is); (case l37 => k_is); (case c37 => k_is); (case k37 => k_is); (case a38 => k_is); (case l38 => k_is); (case c38 => k_is); (case k38 => k_is); (case a39 => k_is); (case l39 => k_is); (case c39 => k_is); (case k39 => k_is); (case z0 => k_is); (case z1 => k_is); (case z2 => k_is); (case z3 => k_is); (case z4 => k_is); (case z5 => k_is); (case z6 => k_is); (case z7 => k_is); (case z8 => k_is); (case z9 => k_is); (case z10 => k_is); (case z11 => k_is); (case y0 => k_is); (case y1 => k_is); (case y2 => k_is); (case y3 => k_is); (case w11 => k_is); (case w10 => k_is); (case w23 => k_is); (case w25 => k_is); (case w28 => k_is); (case w29 => k_is); (case w34 => k_is)
    (case v11 => rfl); (case n11 => rfl); (case v10 => rfl); (case n10 => rfl); (case v23 => rfl); (case n23 => rfl); (case v25 => rfl); (case n25 => rfl); (case v28 => rfl); (case n28 => rfl); (case v29 => rfl); (case n29 => rfl); (case v34 => rfl); (case n34 => rfl)
    (case q11 => decide +kernel); (case q10 => decide +kernel); (case q23 => decide +kernel); (case q25 => decide +kernel); (case q28 => decide +kernel); (case q29 => decide +kernel); (case q34 => decide +kernel)
