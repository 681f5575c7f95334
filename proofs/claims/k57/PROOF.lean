import PyProof.Rows.All
import Wide.All
import OpenK.AllK
import Wide.FinOn
import HandS.AnyAll
import HandS.GenOver
import HandS.ForMost
import HandS.IsInst
import HandS.EndTab
import HandS.Wide
import HandS.Style
import HandS.Evl
import HandS.TupAny
import HandS.DictComp
import HandS.More
import HandS.Walk
import HandS.WordsDict
import HandS.SetFor
import PyProof.EqKinds
import HandS.ForExc
import HandS.ExcIs
import HandS.Text
import HandS.FStr
import HandS.Steps
import HandS.Iter
import HandS.Dict
import PyProof.SumAny
import KE.KDictList
import HandS.ListItems
import HandS.Conv
import HandS.Strs
import HandS.Zip
import HandS.Defaults
import HandS.Head0
import HandS.Head1
import HandS.Head2
import HandS.HeadEnd
import HandS.HeadHook1
import HandS.HeadHook2
import HandS.HeadHook3
import HandS.HeadHook4
import HandS.HeadWalk
import HandS.EndOwn
import PyProof.Rows.StrCase
import PyProof.StrLawsReplace
import PyProof.StrBlock2
import HandS.Replace
import HandS.ReplaceLit
import HandS.Deep
import KE.KRevSl
import PySem.Challenge.RW_hearkenway_k57_texts_that_write_no_net
set_option Elab.async false
set_option linter.all false
set_option maxRecDepth 100000
set_option maxHeartbeats 2000000
namespace GAl
open PySem PySem.Spec PyProof.Rows L2 GxR
open Sem (wp)

theorem Inv.kall {X : Cx} {pins : List (Addr × Obj)} {σ : L2.St} {H : Hp} {s s'' : Shared} (I : Inv X pins σ H s) (ho : s''.os = s.os) (hb : AllBare s''.gens)
    (k : ∀ b o, s.heap.get? b = some o → s''.heap.get? b = some o) : Inv X pins σ H s'' := by
  obtain ⟨h', g', d', t', o'⟩ := s''
  have e : o' = s.os := ho
  subst e
  exact I.call (h' := h') (g' := g') (d' := d') (t' := t') (ch := []) (Un.kept k) (I.hok.kept k) hb (fun b z => absurd z (by simp))

theorem bare_set {s : Shared} {g : Nat} {x : GenState} (h : AllBare s.gens) (hx : x.bare = true) : AllBare (s.setGen g x).gens := by
  intro y hy
  simp only [Shared.setGen] at hy
  rcases Array.mem_or_eq_of_mem_setIfInBounds hy with z | z
  · exact h y z
  · rw [z]; exact hx

/-- the context of a generator expression's code -/
abbrev gcx (X : Cx) (A' : Around) (s : Shared) (H : Hp) (cenv : Env) (fp : List Addr) : Cx :=
  { X with A := A', s_0 := s, H_0 := H, env := cenv, outer := X.stack, stack := cenv :: X.stack, ex := fp, fn := fun _ => false, pn := [], xe := fun _ _ => False }

section
variable {X : Cx} {pins : List (Addr × Obj)} {σ : L2.St} {H : Hp} {s : Shared}

theorem gen_start {scope : Scope} {own : List (Str × Nat)} {fp : List Addr} {A' : Around} {cenv : Env} {code : Value} {m : Str → Option Value} {h5 : Heap} {g' : Array GenState} {t5 : Nat} {a : Addr} {oa : Obj}
    (I : Inv X pins σ H s) (ok : BlkOk X.N X.env.scope scope own) (hcell : ∀ y ∈ scope.names, y.2 ≠ .cell) (hN : X.N.Nodup)
    (hfp : ∀ b ∈ fp, FpOk X pins H b ∧ b < s.heap.objs.size)
    (hce : cenv = genEnv scope (cloFrom X.env.cells scope.names []) s.heap.objs.size code builtinsNs X.env)
    (hA : A'.frames = some (cenv :: X.stack)) (hh : A'.handled = none)
    (hns : h5.Ns s.heap.objs.size m) (kp : ∀ b o, s.heap.get? b = some o → h5.get? b = some o) (hb : AllBare g')
    (ha : h5.get? a = some oa) (hla : s.heap.objs.size < a) (hda : ∀ v, oa.data ≠ .cell v) :
    Inv (gcx X A' s H cenv fp) [(a, oa)] (wipe σ (own.map (·.2))) H { s with heap := h5, gens := g', toks := t5 } := by
  have hfree : ∀ y ∈ scope.names, y.2 = .free → ∃ c, X.env.cells.lookup y.1 = some c := fun y hy e => by
    rcases ok.free y hy e with k | k
    · exact I.ok.has _ (.inl k)
    · exact I.ok.has _ (.inr k)
  have hL : cenv.locals = s.heap.objs.size := by rw [hce]; rfl
  have hcl : cenv.cells = cloFrom X.env.cells scope.names [] := by rw [hce]; rfl
  have hsc : cenv.scope = scope := by rw [hce]; rfl
  have mem : ∀ {y c}, cenv.cells.lookup y = some c → X.env.cells.lookup y = some c ∧ c < s.heap.objs.size := fun {y c} e => by
    rw [hcl] at e
    rcases cloFrom_mem (PySem.mem_of_lookup e) with hm | ⟨h1, rfl⟩
    · cases hm
    · obtain ⟨c, hc⟩ := hfree _ h1 rfl
      rw [hc]
      obtain ⟨w, z⟩ := I.cell _ _ hc
      exact ⟨rfl, z.lt⟩
  have look : ∀ {y}, scope.names.lookup y = some .free → ∃ c, cenv.cells.lookup y = some c ∧ X.env.cells.lookup y = some c := fun {y} hl => by
    have hy : (y, NameKind.free) ∈ scope.names := PySem.mem_of_lookup hl
    obtain ⟨c', e'⟩ := mem_lookup (cloFrom_has (cells := X.env.cells) (acc := []) hy)
    rw [← hcl] at e'
    exact ⟨c', e', (mem e').1⟩
  have kfree : ∀ {y k}, cenv.kindOf y = some k → (k = .cell ∨ k = .free) → scope.names.lookup y = some .free := fun {y k} hk hk' => by
    unfold Env.kindOf at hk
    rw [hsc] at hk
    rcases hk' with rfl | rfl
    · exact absurd rfl (hcell _ (PySem.mem_of_lookup hk))
    · exact hk
  have okB : (gcx X A' s H cenv fp).Ok := by
    refine ⟨I.ok.mod, by show cenv.scope.kind = _; rw [hsc]; exact ok.kind, by show cenv.globals = _; rw [hce]; exact I.ok.glob, by show cenv.builtins = _; rw [hce]; rfl, by show s.heap.objs.size ≤ cenv.locals; rw [hL]; exact Nat.le_refl _,
      fun y z c e1 e2 => I.ok.inj y z c (mem e1).1 (mem e2).1, fun y hy => ?_, fun y c z e => (by cases z), fun _ => hh, hA, .inr ⟨rfl, by show cenv.frame = some cenv.locals; rw [hce]; rfl⟩, fun b hb => ⟨?_, fun y c e z => ?_⟩, I.bs, Nat.le_trans I.ok.bsz I.sz, fun b o e hb => ?_, fun b hb z => ?_, I.stack, I.stkFree⟩
    · rcases hy with hy | hy
      · obtain ⟨c, h1, _⟩ := look (kfree hy (.inl rfl)); exact ⟨c, h1⟩
      · obtain ⟨c, h1, _⟩ := look (kfree hy (.inr rfl)); exact ⟨c, h1⟩
    · show b ≠ cenv.locals
      rw [hL]; exact Nat.ne_of_lt (hfp b hb).2
    · exact (hfp b hb).1.2.2.2.2.1 y c (mem e).1 z
    · rcases (hfp b hb).1.2.2.2.1 with z | z
      · exact I.ok.noex b o e z
      · exact absurd (Nat.lt_of_lt_of_le (Heap.lt_size e) (Nat.le_trans I.ok.bsz z)) (Nat.lt_irrefl _)
    · rcases List.mem_cons.mp (I.stkSub b z) with z | z
      · exact (hfp b hb).1.2.1 z
      · exact (hfp b hb).1.2.2.1 z
  refine ⟨okB, rfl, hb, Un.kept kp, ⟨m, ?_, fun i y av e1 e2 e3 => ?_⟩, fun y c e => ?_, ?_, fun y c e => ?_, fun p hp => ?_, I.hok.kept kp, by rw [wipe_length]; exact I.len⟩
  · show Heap.Ns _ cenv.locals _
    rw [hL]
    exact hns
  · obtain ⟨e2, hne⟩ := wipe_some e2
    have hfr : scope.names.lookup y = some .free := by
      have key : ∀ k, scope.names.lookup y = some k → k = .local ∨ k = .cell ∨ k = .free → scope.names.lookup y = some .free := fun k hk hk' => by
        have no : ¬ (k = .local ∨ k = .cell) := fun hh => by
          rcases ok.own _ (PySem.mem_of_lookup hk) hh with e' | e'
          · obtain ⟨p, hp, hpy⟩ := List.mem_map.mp e'
            have e3 := ok.ix p hp
            have : p.1 = y := hpy
            rw [this] at e3
            exact hne (List.mem_map.mpr ⟨p, hp, nodup_ix hN e3 e1⟩)
          · exact e' (List.mem_of_getElem? e1)
        rcases hk' with rfl | rfl | rfl
        · exact absurd (.inl rfl) no
        · exact absurd (.inr rfl) no
        · exact hk
      have e3 : Vis cenv.scope y := e3
      rw [hsc] at e3
      rcases e3 with e3 | e3 | e3
      · exact key _ e3 (.inl rfl)
      · exact key _ e3 (.inr (.inl rfl))
      · exact key _ e3 (.inr (.inr rfl))
    obtain ⟨m, hn, hl⟩ := I.loc
    have hvis : Vis X.env.scope y := (ok.free _ (PySem.mem_of_lookup hfr) rfl).elim (fun k => .inr (.inl k)) (fun k => .inr (.inr k))
    obtain ⟨w, r, q⟩ := hl i y av e1 e2 hvis
    refine ⟨w, r, .inr ⟨.inr (by show cenv.scope.names.lookup y = _; rw [hsc]; exact hfr), ?_⟩⟩
    obtain ⟨c, h1, h2⟩ := look hfr
    rcases q with ⟨k, _⟩ | ⟨_, c', e', z⟩
    · have k : X.env.scope.names.lookup y = some .local := k
      rcases ok.free _ (PySem.mem_of_lookup hfr) rfl with k' | k' <;> rw [show X.env.scope.names.lookup y = _ from k'] at k <;> cases k
    · rw [h2] at e'; cases e'
      exact ⟨c, h1, z.keeps kp⟩
  · obtain ⟨w, z⟩ := I.cell y c (mem e).1
    exact ⟨w, z.keeps kp⟩
  · show H cenv.locals = none
    rw [hL]; exact I.hok.fresh (Nat.le_refl _)
  · exact I.freeC y c (mem e).1
  · have hp : p ∈ ([] : List (Addr × Obj)) ++ [(a, oa)] := hp
    simp only [List.nil_append, List.mem_singleton] at hp
    subst hp
    refine ⟨ha, I.hok.fresh (Nat.le_of_lt hla), ?_, ?_, hda⟩
    · show a ≠ cenv.locals
      rw [hL]; exact Nat.ne_of_gt hla
    · intro z
      have z : a ∈ frs X.stack := z
      obtain ⟨_, o, ho, _⟩ := I.stack.mem z
      exact absurd (Nat.lt_trans hla (Heap.lt_size ho)) (Nat.lt_irrefl _)
end
end GAl

set_option Elab.async false
set_option linter.all false
set_option maxRecDepth 100000
set_option maxHeartbeats 2000000
namespace GAl
open PySem PySem.Spec PyProof.Rows L2 GxR
open Sem (wp)

/-- the generator's end and what it hands out -/
def REnd (XG : Cx) (a : Addr) (oa : Obj) (σw : L2.St) (Qd : Hp → Prop) : Nat → Shared → Shared → Prop := fun _ _ s₁ => ∃ H4, Inv XG [(a, oa)] σw H4 s₁ ∧ Qd H4
def YOut (XG : Cx) (a : Addr) (oa : Obj) (stp : V → Hp → Prop → Prop) : Protocol := fun _ _ v s kap =>
  ∃ y H4 σ4, Inv XG [(a, oa)] σ4 H4 s ∧ RelV y v ∧ stp y H4 (∀ s'' : Shared, s''.os = s.os → AllBare s''.gens → (∀ b o, s.heap.get? b = some o → s''.heap.get? b = some o) → kap (.send .none) s'')

/-- what a turn asks (W by the turn and a measure) -/
def GTurn (J : It) (g : TG) (tt : TT) (te : TE) (vs : List Nat) (σw : L2.St) (Qd : Hp → Prop) (stp : V → Hp → Prop → Prop) (W : Nat → Nat → Hp → Prop) : Prop :=
  ∀ i m H, W i m H → (J.stop i H ∧ Qd H) ∨ (J.go i H ∧ ∃ Nx : Hp → Prop, (∀ H', Nx H' → ∃ m', m' < m ∧ W (i + 1) m' H') ∧ ∀ x H', J.yld i H x H' → g x σw H' fun σ2 H2 => wipe σ2 vs = σw ∧ tt σ2 H2 fun b H3 =>
    if b = true then te σ2 H3 fun y H4 => stp y H4 (Nx H4) else Nx H3)

section
variable {X : Cx} {σ : L2.St} {elt tg iter : Expr} {ifs : List Expr} {scope : Scope} {pos : Pos} {it a : Addr} {oa : Obj} {fp : List Addr} {cenv : Env} {AG : Around} {s4 : Shared} {Hs : Hp} {J : It} {tn : Nat → Heap → Prop}
  {g : TG} {tt : TT} {te : TE} {vs : List Nat} {σw : L2.St} {Qd : Hp → Prop} {stp : V → Hp → Prop → Prop} {W : Nat → Nat → Hp → Prop}

theorem gen_loop (hc : X.calm = true) (hco : cenv.scope.isCoroutine = false) (T : Turn X.prog X.w X.K tg J fp it tn) (hafp : ∀ b ∈ fp, a ≠ b)
    (hmono : ∀ y H (p q : Prop), (p → q) → stp y H p → stp y H q)
    (pg : PG (gcx X (AG.over (.compLoop (.GeneratorExp elt [⟨tg, iter, ifs, 0⟩] scope pos) 0 (.ref it) .none cenv) []) s4 Hs cenv fp) tg g)
    (pt : PTs (gcx X (AG.over (.compLoop (.GeneratorExp elt [⟨tg, iter, ifs, 0⟩] scope pos) 0 (.ref it) .none cenv) []) s4 Hs cenv fp) ifs tt)
    (pe : PE (gcx X (AG.over (.compLoop (.GeneratorExp elt [⟨tg, iter, ifs, 0⟩] scope pos) 0 (.ref it) .none cenv) []) s4 Hs cenv fp) elt te)
    (hW : GTurn J g tt te vs σw Qd stp W) :
    ∀ (m n i : Nat) (s₀ s : Shared) (H : Hp), m < n → W i m H → Inv (gcx X (AG.over (.compLoop (.GeneratorExp elt [⟨tg, iter, ifs, 0⟩] scope pos) 0 (.ref it) .none cenv) []) s4 Hs cenv fp) [(a, oa)] σw H s → tn i s.heap → (∀ b ∈ fp, H b = none) →
      Seg (model X.prog X.w) AG (fun n s₀ r s₁ => r = .ok .next ∧ REnd (gcx X (AG.over (.compLoop (.GeneratorExp elt [⟨tg, iter, ifs, 0⟩] scope pos) 0 (.ref it) .none cenv) []) s4 Hs cenv fp) a oa σw Qd n s₀ s₁)
        (YOut (gcx X (AG.over (.compLoop (.GeneratorExp elt [⟨tg, iter, ifs, 0⟩] scope pos) 0 (.ref it) .none cenv) []) s4 Hs cenv fp) a oa stp) n s₀
        (.compLoop (.GeneratorExp elt [⟨tg, iter, ifs, 0⟩] scope pos) 0 (.ref it) .none cenv)
        ((model X.prog X.w).den (.compLoop (.GeneratorExp elt [⟨tg, iter, ifs, 0⟩] scope pos) 0 (.ref it) .none cenv)) [] s := by
  generalize hXG : gcx X (AG.over (.compLoop (.GeneratorExp elt [⟨tg, iter, ifs, 0⟩] scope pos) 0 (.ref it) .none cenv) []) s4 Hs cenv fp = XG at pg pt pe ⊢
  have hA : XG.A = AG.over (.compLoop (.GeneratorExp elt [⟨tg, iter, ifs, 0⟩] scope pos) 0 (.ref it) .none cenv) [] := by rw [← hXG]
  have hP : XG.prog = X.prog := by rw [← hXG]
  have hw : XG.w = X.w := by rw [← hXG]
  have hK : XG.K = X.K := by rw [← hXG]
  have hcalm : XG.calm = true := by rw [← hXG]; exact hc
  have henv : XG.env = cenv := by rw [← hXG]
  have hxe : XG.xe = fun _ _ => False := by rw [← hXG]
  have hex : XG.ex = fp := by rw [← hXG]
  have hpn : XG.pn = [] := by rw [← hXG]
  have stat : ∀ {σ' : L2.St} {H' : Hp} {s' : Shared}, Inv XG [(a, oa)] σ' H' s' → (∀ b ∈ fp, H' b = none) → ∀ b ∈ fp, FpOk XG [(a, oa)] H' b := fun {σ' H' s'} I' hn b hb =>
    ⟨hn b hb, (I'.ok.exf b (by rw [hex]; exact hb)).1, I'.ok.exfs b (by rw [hex]; exact hb), .inl (by rw [hex]; exact hb), fun x c e => (I'.ok.exf b (by rw [hex]; exact hb)).2 x c e, fun p hp => by
      rw [hpn] at hp
      simp only [List.nil_append, List.mem_singleton] at hp
      subst hp
      exact hafp b hb⟩
  intro m
  induction m using Nat.strongRecOn with
  | ind m ih =>
    intro n i s₀ s H hmn w I st nH
    show Seg _ AG _ _ _ s₀ _ ((compTurn (.GeneratorExp elt [⟨tg, iter, ifs, 0⟩] scope pos) 0 (.ref it) .none cenv).onRaise (leaving cenv)) [] s
    rw [compTurn_gen, Sem.onRaise_eq_wrap]
    refine seg_bind_wrap (wpAny_standAt ?_)
    rcases hW i m H w with ⟨stop, qq⟩ | ⟨go, Nx, hNx, step⟩
    · have td := T.done XG hP hw hK hcalm i _ s _ H (fun _ _ => False) I (stat I nH) st stop
      rw [hA] at td
      refine seg_bind_wrap (thnF td fun r s1 ⟨hr, I1⟩ => ?_)
      subst hr
      exact seg_end (.ok .next) ⟨rfl, H, I1, qq⟩
    · have ti := T.item XG hP hw hK hcalm i _ s _ H (fun _ _ => False) I (stat I nH) st go
      rw [hA] at ti
      refine seg_bind_wrap (thnF ti fun r s1 ⟨u, hr, h1⟩ => ?_)
      subst hr
      refine seg_bind_wrap (thnF h1 fun _ s2 ⟨x, H2, I2, r2, y2, st2, n2⟩ => ?_)
      have I2' := I2.pinned (stat I2 n2) (T.obj _ _ st2)
      have rg := pg.run _ s2 _ H2 x u _ I2' r2 (step x H2 y2)
      rw [hA, hP, hw, henv, hxe] at rg
      refine seg_bind_wrap (thnF rg fun _ s3 ⟨σ3, H3, I3, hw3, q3⟩ => ?_)
      have rt := pt.run _ s3 σ3 H3 _ I3 q3
      rw [hA, hP, hw, henv, hxe] at rt
      refine seg_bind_wrap (thnF rt fun b s5 ⟨H5, I5, q5⟩ => ?_)
      have fin : ∀ {s' s'' : Shared} {H' : Hp}, Inv XG ([(a, oa)] ++ pinsAt fp s2.heap) σ3 H' s' → s''.os = s'.os → AllBare s''.gens → (∀ b o, s'.heap.get? b = some o → s''.heap.get? b = some o) → Nx H' →
          ∃ m', m' < m ∧ W (i + 1) m' H' ∧ Inv XG [(a, oa)] σw H' s'' ∧ tn (i + 1) s''.heap ∧ (∀ b ∈ fp, H' b = none) := fun {s' s'' H'} I' e1 e2 e3 nx => by
        obtain ⟨m', hm, w'⟩ := hNx H' nx
        have pin' : ∀ b ∈ fp, ∀ o, s2.heap.get? b = some o → s'.heap.get? b = some o ∧ H' b = none := fun b hb o e =>
          let z := I'.pin (b, o) (List.mem_append_right _ (List.mem_append_right _ (mem_pinsAt hb e)))
          ⟨z.1, z.2.1⟩
        have hl : σw.length = σ3.length := by rw [← hw3, wipe_length]
        refine ⟨m', hm, w', Inv.kall ((I'.unpinned (pins := [(a, oa)])).weak hl (fun j v e => ?_)) e1 e2 e3, T.keep _ _ _ st2 fun b hb o e => e3 b o (pin' b hb o e).1, fun b hb => ?_⟩
        · rw [← hw3] at e
          exact (wipe_some e).1
        · obtain ⟨o, e, _⟩ := T.obj _ _ st2 b hb
          exact (pin' b hb o e).2
      cases b with
      | false =>
        simp only [Bool.false_eq_true, if_false] at q5 ⊢
        obtain ⟨m', hm, w', I', st', n'⟩ := fin I5 rfl I5.bare (fun _ _ e => e) q5
        exact seg_again rfl (ih m' hm n (i + 1) s₀ s5 H5 (by omega) w' I' st' n')
      | true =>
        simp only [if_true] at q5 ⊢
        have hy : ∀ v, yieldOut cenv v = yieldValue v := fun v => by simp only [yieldOut, hco, Bool.false_eq_true, if_false]
        simp only [hy]
        rw [Sem.bind_eq_wrap', Sem.bind_eq_wrap', Sem.wrap_wrap, Sem.wrap_wrap]
        have re := pe.run _ s5 σ3 H5 _ I5 q5
        rw [hA, hP, hw, henv, hxe] at re
        refine seg_wrap (thnF re fun z s6 ⟨yv, H6, I6, r6, q6⟩ => ?_)
        cases n with
        | zero => exact absurd hmn (Nat.not_lt_zero _)
        | succ n =>
          refine seg_at (seg_yield rfl rfl rfl ⟨yv, H6, σ3, I6.unpinned (pins := [(a, oa)]), r6, hmono _ _ _ _ (fun nx s'' e1 e2 e3 => ?_) q6⟩)
          obtain ⟨m', hm, w', I', st', n'⟩ := fin I6 e1 e2 e3 nx
          exact seg_again rfl (ih m' hm n (i + 1) s'' s'' H6 (by omega) w' I' st' n')

theorem gen_begin (hc : X.calm = true) (hco : cenv.scope.isCoroutine = false) (T : Turn X.prog X.w X.K tg J fp it tn) (hafp : ∀ b ∈ fp, a ≠ b)
    (hmono : ∀ y H (p q : Prop), (p → q) → stp y H p → stp y H q)
    (pg : PG (gcx X (AG.over (.compLoop (.GeneratorExp elt [⟨tg, iter, ifs, 0⟩] scope pos) 0 (.ref it) .none cenv) []) s4 Hs cenv fp) tg g)
    (pt : PTs (gcx X (AG.over (.compLoop (.GeneratorExp elt [⟨tg, iter, ifs, 0⟩] scope pos) 0 (.ref it) .none cenv) []) s4 Hs cenv fp) ifs tt)
    (pe : PE (gcx X (AG.over (.compLoop (.GeneratorExp elt [⟨tg, iter, ifs, 0⟩] scope pos) 0 (.ref it) .none cenv) []) s4 Hs cenv fp) elt te)
    (hW : GTurn J g tt te vs σw Qd stp W) (m : Nat) (s₀ s : Shared) (H : Hp) (w : W 0 m H)
    (I : Inv (gcx X (AG.over (.compLoop (.GeneratorExp elt [⟨tg, iter, ifs, 0⟩] scope pos) 0 (.ref it) .none cenv) []) s4 Hs cenv fp) [(a, oa)] σw H s) (st : tn 0 s.heap) (nH : ∀ b ∈ fp, H b = none) :
      Seg (model X.prog X.w) AG (fun n s₀ r s₁ => r = .ok .next ∧ REnd (gcx X (AG.over (.compLoop (.GeneratorExp elt [⟨tg, iter, ifs, 0⟩] scope pos) 0 (.ref it) .none cenv) []) s4 Hs cenv fp) a oa σw Qd n s₀ s₁)
        (YOut (gcx X (AG.over (.compLoop (.GeneratorExp elt [⟨tg, iter, ifs, 0⟩] scope pos) 0 (.ref it) .none cenv) []) s4 Hs cenv fp) a oa stp) (m + 1) s₀
        (.compStart (.GeneratorExp elt [⟨tg, iter, ifs, 0⟩] scope pos) 0 (.ref it) .none cenv)
        ((model X.prog X.w).den (.compStart (.GeneratorExp elt [⟨tg, iter, ifs, 0⟩] scope pos) 0 (.ref it) .none cenv)) [] s := by
  have loop := gen_loop (a := a) (oa := oa) hc hco T hafp hmono pg pt pe hW m (m + 1) 0 s₀ s H (Nat.lt_succ_self _) w I st nH
  show Seg _ AG _ _ _ s₀ _ ((compStart (.GeneratorExp elt [⟨tg, iter, ifs, 0⟩] scope pos) 0 (.ref it) .none cenv).onRaise (leaving cenv)) [] s
  unfold compStart
  rw [Sem.onRaise_eq_wrap]
  show Seg _ AG _ _ _ s₀ _ ((ask >>= _).wrap _ _ _ _) [] s
  refine seg_bind_wrap (wpAny_askSetting ?_)
  split
  · exact seg_again rfl loop
  · first
      | exact seg_bind_wrap (wpAny_rule (seg_bind_wrap (wpAny_standAt (seg_bind_wrap (T.self _ 0 s _ _ st (seg_again rfl loop))))))
      | (refine seg_bind_wrap (wpAny_rule ?_); show Seg _ AG _ _ _ s₀ _ ((standAt iter.pos >>= _).wrap _ _ _ _) [] s; exact seg_bind_wrap (wpAny_standAt (seg_bind_wrap (T.self _ 0 s _ _ st (seg_again rfl loop)))))
end

/-! ### the consumer's side -/
section
variable {prog : Program} {w : World} {A : Around} {E : Value → Shared → Prop} {s : Shared}
theorem next_sz {a : Addr} {g n : Nat} {gs : GenState} {P : Nat → Shared → Shared → Prop} {Y : Protocol} {Q : Option Value → Shared → Prop} (hh : A.handled = none)
    (hl : s.heap.NoLimit) (hroom : A.depth < recursionLimit)
    (hg : s.heap.IsGen a g) (hgs : s.gens[g]? = some gs)
    (hgo : gs.Goes (model prog w) A.in1 (fun n s₀ r s₁ => r = .ok .next ∧ P n s₀ s₁) Y n (.send .none) (s.setGen g .running))
    (hY : ∀ v s₁ gs', s.gens.size ≤ s₁.gens.size → gs'.bare = true → Y (n - 1) (s.setGen g .running) v s₁ (fun r' s'' => match n with
        | 0 => False
        | m + 1 => gs'.Goes (model prog w) A.in1 (fun n s₀ r s₁ => r = .ok .next ∧ P n s₀ s₁) Y m r' s'') → Q (some v) (s₁.setGen g gs'))
    (hP : ∀ s₁, s.gens.size ≤ s₁.gens.size → P n (s.setGen g .running) s₁ → ∀ h', (∀ b o, s₁.heap.get? b = some o → h'.get? b = some o) → Q none { s₁.setGen g .finished with heap := h' }) :
    wpAny (model prog w) A (pyNext (.ref a)) Q E s := by
  refine GenW.wpAny_gsz (n := s.gens.size) (Nat.le_refl _) (wpAny_pyNext_genexpQ (E := fun e s' => s.gens.size ≤ s'.gens.size → E e s') (Q := fun r s' => s.gens.size ≤ s'.gens.size → Q r s') hh hl hroom hg hgs hgo
    (fun v s₁ gs' hb hv hz => hY v s₁ gs' (by rw [GenW.setGen_size] at hz; exact hz) hb hv)
    (fun s₁ hp h' hk hz => hP s₁ (by have z : s.gens.size ≤ (s₁.setGen g .finished).gens.size := hz; rw [GenW.setGen_size] at z; exact z) hp h' hk))
end
end GAl

set_option Elab.async false
set_option linter.all false
set_option maxRecDepth 100000
set_option maxHeartbeats 2000000
namespace GAl
open PySem PySem.Spec PyProof.Rows L2 GxR
open Sem (wp)

/-- the generator stands, ready for its next turn, at most n - 1 more are to come -/
def GSt (M : Model) (AG : Around) (P : Nat → Shared → Shared → Prop) (Y : Protocol) (a : Addr) (g n : Nat) (s : Shared) : Prop :=
  s.heap.IsGen a g ∧ s.heap.NoLimit ∧ ∃ gs, s.gens[g]? = some gs ∧ gs.Goes M AG (fun n s₀ r s₁ => r = .ok .next ∧ P n s₀ s₁) Y n (.send .none) (s.setGen g .running)

def stpAll (Qf : Hp → Prop) : V → Hp → Prop → Prop := fun y H N => ∃ c, y = .bl c ∧ (if c = true then N else Qf H)
def stpAny (Qt : Hp → Prop) : V → Hp → Prop → Prop := fun y H N => ∃ c, y = .bl c ∧ (if c = true then Qt H else N)
theorem stpAll_mono {Qf : Hp → Prop} : ∀ y H (p q : Prop), (p → q) → stpAll Qf y H p → stpAll Qf y H q := fun y H p q h ⟨c, e, k⟩ => ⟨c, e, by
  cases c with
  | true => simp only [if_true] at k ⊢; exact h k
  | false => simp only [Bool.false_eq_true, if_false] at k ⊢; exact k⟩
theorem stpAny_mono {Qf : Hp → Prop} : ∀ y H (p q : Prop), (p → q) → stpAny Qf y H p → stpAny Qf y H q := fun y H p q h ⟨c, e, k⟩ => ⟨c, e, by
  cases c with
  | false => simp only [Bool.false_eq_true, if_false] at k ⊢; exact h k
  | true => simp only [if_true] at k ⊢; exact k⟩

theorem gens_some {s : Shared} {g k : Nat} {gs : GenState} (h : s.gens[g]? = some gs) (hk : s.gens.size ≤ k) {s₁ : Shared} (e : s₁.gens.size = k) : ∃ x, s₁.gens[g]? = some x := by
  obtain ⟨hl, _⟩ := Array.getElem?_eq_some_iff.mp h
  exact ⟨_, Array.getElem?_eq_getElem (by omega)⟩

section
variable {X XG : Cx} {A : Around} {a : Addr} {oa : Obj} {g : Nat} {σw : L2.St} {Qd Qf : Hp → Prop} {R : Result → Shared → Prop}
theorem isgen_of {h h' : Heap} (hg : h.IsGen a g) (ho : h.get? a = some oa) (ho' : h'.get? a = some oa) : h'.IsGen a g := by
  obtain ⟨o, nm, qn, e, r⟩ := hg
  rw [ho] at e; cases e
  exact ⟨_, nm, qn, ho', r⟩

/-- all.loop over it -/
theorem all_loop (hprog : XG.prog = X.prog) (hw : XG.w = X.w) (hh : A.handled = none) (hroom : A.depth < recursionLimit) (hpn : XG.pn = [])
    (hfin : ∀ s' σ' H', Inv XG [(a, oa)] σ' H' s' → Qd H' → R (.ok (.ret (.bool true))) s')
    (hcut : ∀ s' σ' H', Inv XG [(a, oa)] σ' H' s' → Qf H' → R (.ok (.ret (.bool false))) s') :
    ∀ (n : Nat) (s : Shared), s.heap.get? a = some oa → GSt (model X.prog X.w) A.in1.in1 (REnd XG a oa σw Qd) (YOut XG a oa (stpAll Qf)) a g n s → codeAny (model X.prog X.w) A (.builtin "all.loop" ⟨[.ref a], []⟩) R s := by
  intro n
  induction n with
  | zero =>
    intro s hoa ⟨hg, hl, gs, hgs, hgo⟩
    refine codeAny_builtin F.entry_all_loop ?_
    rw [Around.under_plainId F.plain_all_loop _]
    show wpAny _ A.in1 (pyNext (.ref a) >>= _) _ _ s
    refine wpAny_bind (next_sz (A := A.in1) hh hl hroom hg hgs hgo (fun v s₁ gs' hsz hb hv => ?_) (fun s₁ hsz hp h' hk => ?_))
    · obtain ⟨y, H4, σ4, I4, r, c, e, k⟩ := hv
      subst e
      cases r
      refine wpAny_bind (wpAny_holding (wpAny_truthy_bool ?_))
      refine wpAny_bind (wpAny_letGo ?_)
      cases c with
      | true =>
        simp only [if_true] at k
        exact False.elim (k s₁ rfl I4.bare fun _ _ e => e)
      | false =>
        simp only [Bool.false_eq_true, if_false] at k ⊢
        refine wpAny_bind (wpAny_rule (wpAny_pure ?_))
        exact hcut _ σ4 H4 (Inv.kall I4 rfl (bare_set I4.bare hb) fun _ _ e => e) k
    · obtain ⟨H4, I4, q⟩ := hp
      refine wpAny_bind (wpAny_rule (wpAny_pure ?_))
      exact hfin _ σw H4 (Inv.kall I4 rfl (bare_set I4.bare rfl) hk) q
  | succ n ih =>
    intro s hoa ⟨hg, hl, gs, hgs, hgo⟩
    refine codeAny_builtin F.entry_all_loop ?_
    rw [Around.under_plainId F.plain_all_loop _]
    show wpAny _ A.in1 (pyNext (.ref a) >>= _) _ _ s
    refine wpAny_bind (next_sz (A := A.in1) hh hl hroom hg hgs hgo (fun v s₁ gs' hsz hb hv => ?_) (fun s₁ hsz hp h' hk => ?_))
    · obtain ⟨y, H4, σ4, I4, r, c, e, k⟩ := hv
      subst e
      cases r
      refine wpAny_bind (wpAny_holding (wpAny_truthy_bool ?_))
      refine wpAny_bind (wpAny_letGo ?_)
      cases c with
      | true =>
        simp only [if_true] at k ⊢
        have ha : s₁.heap.get? a = some oa := (I4.pin (a, oa) (by rw [hpn]; simp)).1
        obtain ⟨x, hx⟩ := gens_some hgs hsz rfl
        refine wpAny_pure ⟨plainId_quiet F.plain_all_loop _, ih (s₁.setGen g gs') ha ⟨isgen_of hg hoa ha, I4.nolimit, gs', setGen_self hx, ?_⟩⟩
        exact k ((s₁.setGen g gs').setGen g .running) rfl (bare_set (bare_set I4.bare hb) rfl) fun _ _ e => e
      | false =>
        simp only [Bool.false_eq_true, if_false] at k ⊢
        refine wpAny_bind (wpAny_rule (wpAny_pure ?_))
        exact hcut _ σ4 H4 (Inv.kall I4 rfl (bare_set I4.bare hb) fun _ _ e => e) k
    · obtain ⟨H4, I4, q⟩ := hp
      refine wpAny_bind (wpAny_rule (wpAny_pure ?_))
      exact hfin _ σw H4 (Inv.kall I4 rfl (bare_set I4.bare rfl) hk) q
/-- any.loop over it -/
theorem any_loop (hprog : XG.prog = X.prog) (hw : XG.w = X.w) (hh : A.handled = none) (hroom : A.depth < recursionLimit) (hpn : XG.pn = [])
    (hfin : ∀ s' σ' H', Inv XG [(a, oa)] σ' H' s' → Qd H' → R (.ok (.ret (.bool false))) s')
    (hcut : ∀ s' σ' H', Inv XG [(a, oa)] σ' H' s' → Qf H' → R (.ok (.ret (.bool true))) s') :
    ∀ (n : Nat) (s : Shared), s.heap.get? a = some oa → GSt (model X.prog X.w) A.in1.in1 (REnd XG a oa σw Qd) (YOut XG a oa (stpAny Qf)) a g n s → codeAny (model X.prog X.w) A (.builtin "any.loop" ⟨[.ref a], []⟩) R s := by
  intro n
  induction n with
  | zero =>
    intro s hoa ⟨hg, hl, gs, hgs, hgo⟩
    refine codeAny_builtin F.entry_any_loop ?_
    rw [Around.under_plainId F.plain_any_loop _]
    show wpAny _ A.in1 (pyNext (.ref a) >>= _) _ _ s
    refine wpAny_bind (next_sz (A := A.in1) hh hl hroom hg hgs hgo (fun v s₁ gs' hsz hb hv => ?_) (fun s₁ hsz hp h' hk => ?_))
    · obtain ⟨y, H4, σ4, I4, r, c, e, k⟩ := hv
      subst e
      cases r
      refine wpAny_bind (wpAny_holding (wpAny_truthy_bool ?_))
      refine wpAny_bind (wpAny_letGo ?_)
      cases c with
      | false =>
        simp only [Bool.false_eq_true, if_false] at k
        exact False.elim (k s₁ rfl I4.bare fun _ _ e => e)
      | true =>
        simp only [if_true] at k ⊢
        refine wpAny_bind (wpAny_rule (wpAny_pure ?_))
        exact hcut _ σ4 H4 (Inv.kall I4 rfl (bare_set I4.bare hb) fun _ _ e => e) k
    · obtain ⟨H4, I4, q⟩ := hp
      refine wpAny_bind (wpAny_rule (wpAny_pure ?_))
      exact hfin _ σw H4 (Inv.kall I4 rfl (bare_set I4.bare rfl) hk) q
  | succ n ih =>
    intro s hoa ⟨hg, hl, gs, hgs, hgo⟩
    refine codeAny_builtin F.entry_any_loop ?_
    rw [Around.under_plainId F.plain_any_loop _]
    show wpAny _ A.in1 (pyNext (.ref a) >>= _) _ _ s
    refine wpAny_bind (next_sz (A := A.in1) hh hl hroom hg hgs hgo (fun v s₁ gs' hsz hb hv => ?_) (fun s₁ hsz hp h' hk => ?_))
    · obtain ⟨y, H4, σ4, I4, r, c, e, k⟩ := hv
      subst e
      cases r
      refine wpAny_bind (wpAny_holding (wpAny_truthy_bool ?_))
      refine wpAny_bind (wpAny_letGo ?_)
      cases c with
      | false =>
        simp only [Bool.false_eq_true, if_false] at k ⊢
        have ha : s₁.heap.get? a = some oa := (I4.pin (a, oa) (by rw [hpn]; simp)).1
        obtain ⟨x, hx⟩ := gens_some hgs hsz rfl
        refine wpAny_pure ⟨plainId_quiet F.plain_any_loop _, ih (s₁.setGen g gs') ha ⟨isgen_of hg hoa ha, I4.nolimit, gs', setGen_self hx, ?_⟩⟩
        exact k ((s₁.setGen g gs').setGen g .running) rfl (bare_set (bare_set I4.bare hb) rfl) fun _ _ e => e
      | true =>
        simp only [if_true] at k ⊢
        refine wpAny_bind (wpAny_rule (wpAny_pure ?_))
        exact hcut _ σ4 H4 (Inv.kall I4 rfl (bare_set I4.bare hb) fun _ _ e => e) k
    · obtain ⟨H4, I4, q⟩ := hp
      refine wpAny_bind (wpAny_rule (wpAny_pure ?_))
      exact hfin _ σw H4 (Inv.kall I4 rfl (bare_set I4.bare rfl) hk) q
end
end GAl

set_option Elab.async false
set_option linter.all false
set_option maxRecDepth 100000
set_option maxHeartbeats 2000000
namespace GAl
open PySem PySem.Spec PyProof.Rows L2 GxR
open Sem (wp)

/-- the scope of a generator expression -/
structure GSc (N : List Str) (sc scope : Scope) (own : List (Str × Nat)) : Prop where
  blk : BlkOk N sc scope own
  co : scope.isCoroutine = false
  cell : ∀ y ∈ scope.names, y.2 ≠ .cell
  dot : scope.names.lookup (".0" : Str) = some NameKind.local
def gscC (N : List Str) (sc scope : Scope) (own : List (Str × Nat)) : Bool :=
  blkC N sc scope own && !scope.isCoroutine && (scope.names.all fun y => match y.2 with | .cell => false | _ => true) && (match scope.names.lookup (".0" : Str) with | some .local => true | _ => false)
theorem gsc_by {N : List Str} {sc scope : Scope} {own : List (Str × Nat)} (h : gscC N sc scope own = true) : GSc N sc scope own := by
  unfold gscC at h
  simp only [Bool.and_eq_true, List.all_eq_true, Bool.not_eq_true'] at h
  obtain ⟨⟨⟨h1, h2⟩, h3⟩, h4⟩ := h
  refine ⟨blkOk_by h1, h2, fun y hy e => ?_, ?_⟩
  · have q := h3 y hy
    rw [e] at q
    exact Bool.noConfusion q
  · split at h4
    · assumption
    · cases h4

/-- what a consumed generator expression asks: the walked thing, the def's table, the turns -/
def tGenB (P : Addr) (wi : TI) (g : TG) (tt : TT) (te : TE) (vs : List Nat) (stp : V → Hp → Prop → Prop) (Qd : Hp → Prop) : L2.St → Hp → Prop := fun σ H =>
  wi σ H fun J H1 => TabG H1 P ∧ ∀ H2, Tabbed P H1 H2 → ∃ W : Nat → Nat → Hp → Prop, (∃ m, W 0 m H2) ∧ GTurn J g tt te vs (wipe σ vs) Qd stp W
def tAllG (P : Addr) (wi : TI) (g : TG) (tt : TT) (te : TE) (vs : List Nat) : TE := fun σ H Q => tGenB P wi g tt te vs (stpAll (Q (.bl false))) (Q (.bl true)) σ H
def tAnyG (P : Addr) (wi : TI) (g : TG) (tt : TT) (te : TE) (vs : List Nat) : TE := fun σ H Q => tGenB P wi g tt te vs (stpAny (Q (.bl true))) (Q (.bl false)) σ H

section
variable {X : Cx} {pins : List (Addr × Obj)} {σ : L2.St} {H : Hp} {s : Shared}
theorem gen_make {c P : Addr} {elt tg iter : Expr} {ifs : List Expr} {gpos : Pos} {scope : Scope} {own : List (Str × Nat)} {wi : TI} {g : TG} {tt : TT} {te : TE} {k : Nat} {stp : V → Hp → Prop → Prop} {Qd : Hp → Prop} {Q' : Value → Shared → Prop}
    (hr : Room (k + 1) X.A) (hc : X.calm = true) (hN : X.N.Nodup) (TB : TabB X.base X.mg c P) (hcode : X.env.code = .ref c) (S : GSc X.N X.env.scope scope own) (hi : PI X tg iter wi)
    (hg : ∀ (A' : Around), Room k A' → ∀ (s : Shared) (H : Hp) (cl : List (Str × Addr)) (C : Addr) (code : Value) (fp : List Addr), PG (gcx X A' s H (genEnv scope cl C code builtinsNs X.env) fp) tg g)
    (ht : ∀ (A' : Around), Room k A' → ∀ (s : Shared) (H : Hp) (cl : List (Str × Addr)) (C : Addr) (code : Value) (fp : List Addr), PTs (gcx X A' s H (genEnv scope cl C code builtinsNs X.env) fp) ifs tt)
    (he : ∀ (A' : Around), Room k A' → ∀ (s : Shared) (H : Hp) (cl : List (Str × Addr)) (C : Addr) (code : Value) (fp : List Addr), PE (gcx X A' s H (genEnv scope cl C code builtinsNs X.env) fp) elt te)
    (hmono : ∀ y H (p q : Prop), (p → q) → stp y H p → stp y H q)
    (hs : ∀ v, genFold iter X.env v = pure v) (I : Inv X pins σ H s) (h : tGenB P wi g tt te (own.map (·.2)) stp Qd σ H)
    (hQ : ∀ (XG : Cx) (a : Addr) (oa : Obj) (gn n : Nat) (σw : L2.St) (s5 : Shared), XG.prog = X.prog → XG.w = X.w → XG.pn = [] → s5.heap.get? a = some oa →
      GSt (model X.prog X.w) X.A.in1.in1 (REnd XG a oa σw Qd) (YOut XG a oa stp) a gn n s5 → (∀ s' σ' H', Inv XG [(a, oa)] σ' H' s' → Inv X pins σ H' s') → Q' (.ref a) s5) :
    wpAny (model X.prog X.w) X.A (eval (.GeneratorExp elt [⟨tg, iter, ifs, 0⟩] scope gpos) X.env) Q' X.xe s := by
  have ok := S.blk
  have hfree : ∀ y ∈ scope.names, y.2 = .free → ∃ c, X.env.cells.lookup y.1 = some c := fun y hy e => by
    rcases ok.free y hy e with k | k
    · exact I.ok.has _ (.inl k)
    · exact I.ok.has _ (.inr k)
  refine wpAny_GeneratorExp_make S.co (closure_ok hfree) S.cell S.dot ok.kind (by have := hr.dp; omega) ?_ hs
  refine thn (hi.run pins s σ H _ I h) fun xv s1 hx => thn hx fun itv s2 h2 => ?_
  obtain ⟨it, fp, tn, J, H2, e, I2, T, st2, f2, ⟨ps, hP, hts⟩, q⟩ := h2
  subst e
  have hPs : s2.heap.get? P = some { cls := .none, data := .fields ps } := I2.hok P _ hP
  have cd : PySem.W.CodeHd s2.heap c P := TB.code.keeps fun b u e => I2.bk b u e
  have nP : ∀ b ∈ fp, b ≠ P := fun b hb z => by
    have := (f2 b hb).1
    rw [z, hP] at this; cases this
  have sz2 : ∀ b ∈ fp, b < s2.heap.objs.size := fun b hb => by
    obtain ⟨o, e, _⟩ := T.obj _ _ st2 b hb
    exact Heap.lt_size e
  have cont : ∀ (code : Value) (h3 : Heap) (tk : Nat) (ps' : Array Value), Heap.ExtBut P s2.heap h3 → s2.heap.objs.size ≤ h3.objs.size → h3.get? P = some { cls := .none, data := .fields ps' } → (∃ more, ps' = ps ++ more) → TriplesOk ps'.toList →
      wpAny (model X.prog X.w) X.A (builtinsFor X.env.globals X.env.builtins) (fun bi s₄ =>
        ∀ h', h'.Ns s₄.heap.objs.size (fun y => if y = ".0" then some (.ref it) else none) → Heap.SameBut s₄.heap.objs.size (s₄.heap.push { cls := .type "frame", data := .dict #[] }) h' →
          Q' (.ref h'.objs.size) { s₄ with
            gens := s₄.gens.push (.fresh (.compStart (.GeneratorExp elt [⟨tg, iter, ifs, 0⟩] scope gpos) 0 (.ref it) .none (genEnv scope (cloFrom X.env.cells scope.names []) s₄.heap.objs.size code bi X.env))),
            toks := s₄.toks + 1 + 1 + 1,
            heap := h'.push { cls := .type "generator", data := .fields #[.int s₄.gens.size 0, .str "<genexpr>" (s₄.toks + 1), .str (X.env.qual ++ "<genexpr>") (s₄.toks + 1 + 1)] } }) X.xe { s2 with heap := h3, toks := tk } := by
    intro code h3 tk ps' hx hsz hP3 hmore ht3
    obtain ⟨bm, ob, e1, e2, e3, e4, e5, e6, e7, e8⟩ := TB.bm
    have keep3 : ∀ b u, b ≠ P → s2.heap.get? b = some u → h3.get? b = some u := fun b u hb e => hx b u hb e
    refine wpAny_builtinsFor (m := X.mg) (by rw [I2.ok.glob]; exact (I2.mod.glob.keeps I2.bk).extBut hx TB.gP) e1 e2 (keep3 _ _ e4 (I2.bk _ _ e5)) e6 e7 e8 ?_
    intro h' hn' hs'
    obtain ⟨more, em⟩ := hmore
    have I3 : Inv X pins σ (upd H2 P (.tbl (ps ++ more))) { s2 with heap := h3, toks := tk } :=
      inv_tab (more := more) (h' := h3) (g' := s2.gens) (d' := s2.drawn) (t' := tk) I2 hP keep3 (by rw [← em]; exact hP3) I2.bare
    obtain ⟨W, ⟨m0, w0⟩, turn⟩ := q (upd H2 P (.tbl (ps ++ more))) ⟨⟨ps ++ more, upd_same, by rw [← em]; exact ht3⟩, fun b hb => upd_ne hb⟩
    generalize hH3 : upd H2 P (.tbl (ps ++ more)) = H3 at I3 w0
    generalize hs4 : ({ s2 with heap := h3, toks := tk } : Shared) = s4 at I3 hn' hs' ⊢
    have hh4 : s4.heap = h3 := by rw [← hs4]
    have st4 : tn 0 s4.heap := T.keep _ _ _ st2 fun b hb o e => by rw [hh4]; exact keep3 b o (nP b hb) e
    have f3 : ∀ b ∈ fp, FpOk X pins H3 b ∧ b < s4.heap.objs.size := fun b hb => by
      refine ⟨⟨?_, (f2 b hb).2⟩, by rw [hh4]; exact Nat.lt_of_lt_of_le (sz2 b hb) hsz⟩
      rw [← hH3, upd_ne (nP b hb)]
      exact (f2 b hb).1
    have hszh : h'.objs.size = s4.heap.objs.size + 1 := by rw [hs'.1, Heap.size_push]
    have keep' : ∀ b o, s4.heap.get? b = some o → h'.get? b = some o := fun b o e => hs'.extBut b o (Nat.ne_of_lt (Heap.lt_size e)) (Heap.get?_push_of_some _ e)
    generalize hoa : ({ cls := .type "generator", data := .fields #[.int s4.gens.size 0, .str "<genexpr>" (s4.toks + 1), .str (X.env.qual ++ "<genexpr>") (s4.toks + 1 + 1)] } : Obj) = oa
    have ga : (h'.push oa).get? h'.objs.size = some oa := Heap.get?_push_size _ (by rw [← hoa]; rfl)
    have isg : (h'.push oa).IsGen h'.objs.size s4.gens.size := by rw [← hoa]; exact ⟨_, _, _, Heap.get?_push_size _ rfl, rfl, rfl, rfl⟩
    generalize hce : genEnv scope (cloFrom X.env.cells scope.names []) s4.heap.objs.size code builtinsNs X.env = cenv
    generalize hA' : X.A.in1.in1.over (.compLoop (.GeneratorExp elt [⟨tg, iter, ifs, 0⟩] scope gpos) 0 (.ref it) .none cenv) [] = A'
    have hfr : A'.frames = some (cenv :: X.stack) := by
      rw [← hA']
      show pushEnvs [cenv] (pushEnvs [] X.A.frames) = _
      rw [I2.ok.frames]
      rfl
    have hdp : A'.depth = X.A.depth + 1 := by rw [← hA']; rfl
    have hun : A'.units = X.A.units + 5 := by rw [← hA']; rfl
    have hhd : A'.handled = none := by rw [← hA']; exact hr.hd
    have hr' : Room k A' := ⟨hhd, by rw [hdp]; have := hr.dp; omega, by rw [hun]; have := hr.un; omega⟩
    have bare5 : AllBare (s4.gens.push (.fresh (.compStart (.GeneratorExp elt [⟨tg, iter, ifs, 0⟩] scope gpos) 0 (.ref it) .none cenv))) := I3.bare.push rfl
    have I5 := gen_start (A' := A') (cenv := cenv) (code := code) (m := fun y => if y = ".0" then some (.ref it) else none) (h5 := h'.push oa) (g' := s4.gens.push (.fresh (.compStart (.GeneratorExp elt [⟨tg, iter, ifs, 0⟩] scope gpos) 0 (.ref it) .none cenv)))
      (t5 := s4.toks + 1 + 1 + 1) (a := h'.objs.size) (oa := oa) I3 ok S.cell hN f3 hce.symm hfr hhd (hn'.push _) (fun b o e => Heap.get?_push_of_some _ (keep' b o e)) bare5 ga (by omega) (by rw [← hoa]; intro v z; cases z)
    have back : ∀ s' σ' H', Inv (gcx X A' s4 H3 cenv fp) [(h'.objs.size, oa)] σ' H' s' → Inv X pins σ H' s' := fun s' σ' H' I' =>
      I3.call' (ch := fp) I'.os I'.base I'.hok I'.bare fun b hb => ⟨(f3 b hb).1.2.2.2.1, (f3 b hb).1.2.1, (f3 b hb).1.2.2.2.2.1, (f3 b hb).1.2.2.2.2.2⟩
    have pg : PG (gcx X A' s4 H3 cenv fp) tg g := by rw [← hce]; exact hg A' hr' _ _ _ _ _ _
    have pt : PTs (gcx X A' s4 H3 cenv fp) ifs tt := by rw [← hce]; exact ht A' hr' _ _ _ _ _ _
    have pe : PE (gcx X A' s4 H3 cenv fp) elt te := by rw [← hce]; exact he A' hr' _ _ _ _ _ _
    refine hQ (gcx X A' s4 H3 cenv fp) h'.objs.size oa s4.gens.size (m0 + 1) (wipe σ (own.map (·.2))) _ rfl rfl rfl ga ⟨isg, I5.nolimit, _, Array.getElem?_push_size .., ?_⟩ back
    refine ⟨rfl, ?_⟩
    subst hA'
    refine gen_begin hc (by rw [← hce]; exact S.co) T (fun b hb z => ?_) hmono pg pt pe turn m0 _ _ H3 w0 (Inv.kall I5 rfl (bare_set I5.bare rfl) fun _ _ e => e) ?_ (fun b hb => (f3 b hb).1.1)
    · have h9 := (f3 b hb).2
      rw [← z] at h9
      have h9 : h'.objs.size < s4.heap.objs.size := h9
      omega
    · exact T.keep _ _ _ st4 fun b hb o e => Heap.get?_push_of_some _ (keep' b o e)
  refine ⟨I2.nolimit, ?_⟩
  cases hf : codeAmong gpos ps.toList with
  | none =>
    refine wpAny_genexprCodeX hcode (cd.code hPs hts) (cd.tab hPs) hf fun c' h' tk hx hge hlt hco' _ htab' _ => ?_
    obtain ⟨o1, vs, f1, tf, fl, tg', inF, tx, tt', op, _, _, _, _, _, _, _, _, _, htr, _⟩ := hco'
    exact cont _ h' tk _ hx (Nat.le_trans hge (Nat.le_of_lt hlt)) htab'.2 ⟨_, rfl⟩ htr
  | some cv =>
    refine wpAny_genexprCode_hit hcode (cd.code hPs hts) hf ?_
    exact cont cv s2.heap s2.toks ps (Heap.ExtBut.refl _ _) (Nat.le_refl _) hPs ⟨#[], by simp⟩ hts

theorem pe_allG {c P : Addr} {elt tg iter : Expr} {ifs : List Expr} {p pos gpos : Pos} {scope : Scope} {own : List (Str × Nat)} {wi : TI} {g : TG} {tt : TT} {te : TE} {k : Nat}
    (hr : Room (k + 1) X.A) (hgl : Gl X "all") (hm : X.mg "all" = none) (hc : X.calm = true) (hN : X.N.Nodup) (TB : TabB X.base X.mg c P) (hcode : X.env.code = .ref c) (S : GSc X.N X.env.scope scope own) (hi : PI X tg iter wi)
    (hg : ∀ (A' : Around), Room k A' → ∀ (s : Shared) (H : Hp) (cl : List (Str × Addr)) (C : Addr) (code : Value) (fp : List Addr), PG (gcx X A' s H (genEnv scope cl C code builtinsNs X.env) fp) tg g)
    (ht : ∀ (A' : Around), Room k A' → ∀ (s : Shared) (H : Hp) (cl : List (Str × Addr)) (C : Addr) (code : Value) (fp : List Addr), PTs (gcx X A' s H (genEnv scope cl C code builtinsNs X.env) fp) ifs tt)
    (he : ∀ (A' : Around), Room k A' → ∀ (s : Shared) (H : Hp) (cl : List (Str × Addr)) (C : Addr) (code : Value) (fp : List Addr), PE (gcx X A' s H (genEnv scope cl C code builtinsNs X.env) fp) elt te)
    (hs : ∀ v, genFold iter X.env v = pure v := by intro _; rfl)
    (hst : starEach [.GeneratorExp elt [⟨tg, iter, ifs, 0⟩] scope gpos] X.env = (false, eval (.GeneratorExp elt [⟨tg, iter, ifs, 0⟩] scope gpos) X.env) :: starEach [] X.env := by rfl)
    (hb : bootBuiltins "all" = some (.builtin "all") := by decide +kernel) :
    PE X (.Call (.Name "all" p) [.GeneratorExp elt [⟨tg, iter, ifs, 0⟩] scope gpos] [] pos) (tAllG P wi g tt te (own.map (·.2))) := by
  refine ⟨fun pins s σ H Q I h => ?_⟩
  refine wpAny_Call_Name_kw (ld_blt I hgl hm hb ?_)
  refine PyProof.Rows.callWith_builtin1 ?_ hst (by rfl)
  rw [hst]
  show wpAny _ _ (spliced ((false, eval (.GeneratorExp elt [⟨tg, iter, ifs, 0⟩] scope gpos) X.env) :: backTo pos (starEach [] X.env))) _ _ s
  refine Calls.spliced_cons (gen_make hr hc hN TB hcode S hi hg ht he stpAll_mono hs I h fun XG a oa gn n σw s5 eP eW epn ha hG back => ?_)
  refine Calls.spliced_nil ?_
  refine call_function_tree F.kind_all F.plain_all F.entry_all (F.args_all1 _) ?_
  unfold Builtin.«all»
  refine wpAny_bind (m := oneArg "all" _) (wpAny_pure ?_)
  refine wpAny_bind (wpAny_pyIter_gen hG.1 ?_)
  refine wpAny_pure ⟨plainId_quiet F.plain_all_loop _, all_loop (X := X) (XG := XG) (σw := σw) (Qd := Q (.bl true)) (Qf := Q (.bl false)) eP eW hr.hd (by have := hr.dp; omega) epn (fun s' σ' H' I' q => ?_) (fun s' σ' H' I' q => ?_) n s5 ha hG⟩
  · exact ⟨.bl true, H', back s' σ' H' I', rfl, q⟩
  · exact ⟨.bl false, H', back s' σ' H' I', rfl, q⟩
theorem pe_anyG {c P : Addr} {elt tg iter : Expr} {ifs : List Expr} {p pos gpos : Pos} {scope : Scope} {own : List (Str × Nat)} {wi : TI} {g : TG} {tt : TT} {te : TE} {k : Nat}
    (hr : Room (k + 1) X.A) (hgl : Gl X "any") (hm : X.mg "any" = none) (hc : X.calm = true) (hN : X.N.Nodup) (TB : TabB X.base X.mg c P) (hcode : X.env.code = .ref c) (S : GSc X.N X.env.scope scope own) (hi : PI X tg iter wi)
    (hg : ∀ (A' : Around), Room k A' → ∀ (s : Shared) (H : Hp) (cl : List (Str × Addr)) (C : Addr) (code : Value) (fp : List Addr), PG (gcx X A' s H (genEnv scope cl C code builtinsNs X.env) fp) tg g)
    (ht : ∀ (A' : Around), Room k A' → ∀ (s : Shared) (H : Hp) (cl : List (Str × Addr)) (C : Addr) (code : Value) (fp : List Addr), PTs (gcx X A' s H (genEnv scope cl C code builtinsNs X.env) fp) ifs tt)
    (he : ∀ (A' : Around), Room k A' → ∀ (s : Shared) (H : Hp) (cl : List (Str × Addr)) (C : Addr) (code : Value) (fp : List Addr), PE (gcx X A' s H (genEnv scope cl C code builtinsNs X.env) fp) elt te)
    (hs : ∀ v, genFold iter X.env v = pure v := by intro _; rfl)
    (hst : starEach [.GeneratorExp elt [⟨tg, iter, ifs, 0⟩] scope gpos] X.env = (false, eval (.GeneratorExp elt [⟨tg, iter, ifs, 0⟩] scope gpos) X.env) :: starEach [] X.env := by rfl)
    (hb : bootBuiltins "any" = some (.builtin "any") := by decide +kernel) :
    PE X (.Call (.Name "any" p) [.GeneratorExp elt [⟨tg, iter, ifs, 0⟩] scope gpos] [] pos) (tAnyG P wi g tt te (own.map (·.2))) := by
  refine ⟨fun pins s σ H Q I h => ?_⟩
  refine wpAny_Call_Name_kw (ld_blt I hgl hm hb ?_)
  refine PyProof.Rows.callWith_builtin1 ?_ hst (by rfl)
  rw [hst]
  show wpAny _ _ (spliced ((false, eval (.GeneratorExp elt [⟨tg, iter, ifs, 0⟩] scope gpos) X.env) :: backTo pos (starEach [] X.env))) _ _ s
  refine Calls.spliced_cons (gen_make hr hc hN TB hcode S hi hg ht he stpAny_mono hs I h fun XG a oa gn n σw s5 eP eW epn ha hG back => ?_)
  refine Calls.spliced_nil ?_
  refine call_function_tree F.kind_any F.plain_any F.entry_any (F.args_any1 _) ?_
  unfold Builtin.«any»
  refine wpAny_bind (m := oneArg "any" _) (wpAny_pure ?_)
  refine wpAny_bind (wpAny_pyIter_gen hG.1 ?_)
  refine wpAny_pure ⟨plainId_quiet F.plain_any_loop _, any_loop (X := X) (XG := XG) (σw := σw) (Qd := Q (.bl false)) (Qf := Q (.bl true)) eP eW hr.hd (by have := hr.dp; omega) epn (fun s' σ' H' I' q => ?_) (fun s' σ' H' I' q => ?_) n s5 ha hG⟩
  · exact ⟨.bl false, H', back s' σ' H' I', rfl, q⟩
  · exact ⟨.bl true, H', back s' σ' H' I', rfl, q⟩
end
end GAl

set_option Elab.async false
set_option linter.all false
set_option maxRecDepth 100000
set_option maxHeartbeats 2000000
namespace HK
open PySem PySem.Spec PyProof.Rows L2 GAl GxR
/-! ### defs whose code object is known -/
structure FunC (K : PySem.W.Frag) (x qual : Str) (st : Stmt) (f : Addr) (fd : FuncData) (c : Addr) : Prop where
  ex : ∃ (oc : Value) (od : Option Addr) (kV doc pm : Value) (an : Option Addr) (ct : Value) (osl : Array (Option Value)),
    fd = PySem.W.fnOf x qual (defArgs st) (defBody st) (defScope st) .none kV doc pm an (.ref c) ct ∧ K.lookup f = some ⟨oc, od, .func fd, osl⟩ ∧ PySem.W.codeIn K (.ref c) qual = true
  kp : PySem.W.keepIn K (.ref f) = true
section
variable {P : Program} {w : World} {K : PySem.W.Frag} {mg : Str → Option Value} {base : Heap}
theorem FunC.toFun {x qual : Str} {st : Stmt} {f : Addr} {fd : FuncData} {c : Addr} (F : FunC K x qual st f fd c) : Fun K x qual st f fd := by
  obtain ⟨⟨oc, od, kV, doc, pm, an, ct, osl, e, l, h⟩, k⟩ := F
  exact ⟨⟨oc, od, kV, doc, pm, an, _, ct, osl, e, l, h⟩, k⟩
theorem FunC.ok {x qual : Str} {st : Stmt} {f : Addr} {fd : FuncData} {c : Addr} {N ps : List Str} {k : Nat} {sp : Sp} (F : FunC K x qual st f fd c) (S : FnScope N ps (defScope st)) (len : ∀ vs H Q E, sp vs H Q E → vs.length = ps.length)
    (hbody : ∀ (A : Around) (outer : List Env) (s : Shared) (H : Hp) (vs : List V) (Q : VK) (E : XK), Room k (A.deeper (envOfC qual (defScope st) s.heap.objs.size f (.ref c))) → sp vs H Q E →
      ∃ t, PSs (cxOf CX0 P w K mg base N qual (defScope st) f (.ref c) A outer s H E).nox (defBody st) t ∧ t { nx := fun _ H' => Q .non H', rt := Q } (start N vs) H) : FnOk P w K mg base CX0 (k + 1) f fd ps sp := by
  obtain ⟨oc, od, kV, doc, pm, an, ct, osl, rfl, lk, hcd⟩ := F.ex
  refine fn_of lk hcd S len fun A outer s H vs Q E hr hsp => ?_
  obtain ⟨t, h, q⟩ := hbody A outer s H vs Q E hr hsp
  exact ⟨t, h.nox, q⟩
theorem func_mk {x qual : Str} {st : Stmt} {f c : Addr} {oc : Value} {od an : Option Addr} {osl : Array (Option Value)} {kV doc pm ct : Value} (l : K.lookup f = some ⟨oc, od, .func (PySem.W.fnOf x qual (defArgs st) (defBody st) (defScope st) .none kV doc pm an (.ref c) ct), osl⟩)
    (h : PySem.W.codeIn K (.ref c) qual = true) (k : PySem.W.keepIn K (.ref f) = true) : FunC K x qual st f (PySem.W.fnOf x qual (defArgs st) (defBody st) (defScope st) .none kV doc pm an (.ref c) ct) c := ⟨⟨oc, od, kV, doc, pm, an, ct, osl, rfl, l, h⟩, k⟩
end

/-! ### what stays: everything but the list at t; tables stay tables -/
structure Kt (t : Addr) (H H' : Hp) : Prop where
  tup : ∀ b xs, H b = some (.tup xs) → H' b = some (.tup xs)
  frz : ∀ b o u, H b = some (.frz o u) → H' b = some (.frz o u)
  oth : ∀ b o, H b = some o → b ≠ t → (∀ ps, o ≠ .tbl ps) → H' b = some o
  tab : ∀ P, TabG H P → TabG H' P
  dom : ∀ b, H' b = none → H b = none
/-- everything; tables stay tables -/
structure K0 (H H' : Hp) : Prop where
  oth : ∀ b o, H b = some o → (∀ ps, o ≠ .tbl ps) → H' b = some o
  tab : ∀ P, TabG H P → TabG H' P
  dom : ∀ b, H' b = none → H b = none
theorem upd_none {H : Hp} {p b : Addr} {o : HO} (h : upd H p o b = none) : H b = none := by
  by_cases e : b = p
  · rw [e, upd_same] at h; cases h
  · rw [upd_ne e] at h; exact h
theorem K0.refl (H : Hp) : K0 H H := ⟨fun _ _ h _ => h, fun _ h => h, fun _ h => h⟩
theorem K0.trans {H H1 H2 : Hp} (a : K0 H H1) (b : K0 H1 H2) : K0 H H2 := ⟨fun x o h n => b.oth x o (a.oth x o h n) n, fun P h => b.tab P (a.tab P h), fun x h => a.dom x (b.dom x h)⟩
theorem K0.kt {t : Addr} {H H' : Hp} (a : K0 H H') : Kt t H H' := ⟨fun b xs h => a.oth b _ h (fun _ z => by cases z), fun b o u h => a.oth b _ h (fun _ z => by cases z), fun b o h _ n => a.oth b o h n, a.tab, a.dom⟩
theorem Kt.refl (t : Addr) (H : Hp) : Kt t H H := (K0.refl H).kt
theorem Kt.trans {t : Addr} {H H1 H2 : Hp} (a : Kt t H H1) (b : Kt t H1 H2) : Kt t H H2 := ⟨fun x xs h => b.tup x xs (a.tup x xs h), fun x o u h => b.frz x o u (a.frz x o u h), fun x o h n m => b.oth x o (a.oth x o h n m) n m, fun P h => b.tab P (a.tab P h), fun x h => a.dom x (b.dom x h)⟩
theorem tabG_upd {H : Hp} {p : Addr} {o : HO} (n : H p = none) {P : Addr} (h : TabG H P) : TabG (upd H p o) P := by
  obtain ⟨ps, e, ht⟩ := h
  exact ⟨ps, by rw [upd_ne (ne_of_none e n)]; exact e, ht⟩
theorem K0.new {H : Hp} {p : Addr} {o : HO} (n : H p = none) : K0 H (upd H p o) := ⟨fun b u e _ => by rw [upd_ne (ne_of_none e n)]; exact e, fun P h => tabG_upd n h, fun _ h => upd_none h⟩
theorem K0.tbd {P : Addr} {H H' : Hp} (h0 : TabG H P) (h : Tabbed P H H') : K0 H H' := ⟨fun b o e n => by
  have hb : b ≠ P := fun z => by
    obtain ⟨ps, e', _⟩ := h0
    rw [z, e'] at e
    exact n ps (Option.some.inj e).symm
  rw [h.2 b hb]; exact e, fun Q hq => by
  by_cases hQ : Q = P
  · rw [hQ]; exact h.1
  · obtain ⟨ps, e, ht⟩ := hq
    exact ⟨ps, by rw [h.2 Q hQ]; exact e, ht⟩, fun b e => by
  by_cases hb : b = P
  · obtain ⟨ps, e', _⟩ := h.1
    rw [hb, e'] at e; cases e
  · rw [h.2 b hb] at e; exact e⟩
/-- the list at t is written -/
theorem Kt.set {t : Addr} {H : Hp} {xs ys : List V} (h : H t = some (.lst xs)) : Kt t H (upd H t (.lst ys)) := ⟨fun b zs e => by
  rw [upd_ne (ne_of e h (fun z => by cases z))]; exact e, fun b o u e => by
  rw [upd_ne (ne_of e h (fun z => by cases z))]; exact e, fun b o e n _ => by rw [upd_ne n]; exact e, fun P hP => by
  obtain ⟨ps, e, ht⟩ := hP
  exact ⟨ps, by rw [upd_ne (ne_of e h (fun z => by cases z))]; exact e, ht⟩, fun _ e => upd_none e⟩
theorem Kt.sqT {K : PySem.W.Frag} {t a : Addr} {H H' : Hp} {xs : List V} (k : Kt t H H') (h : SqT K H a xs) : SqT K H' a xs := by
  rcases h with (h | ⟨o, h⟩) | h
  · exact .inl (.inl (k.tup _ _ h))
  · exact .inl (.inr ⟨o, k.frz _ _ _ h⟩)
  · exact .inr h
theorem K0.sqT {K : PySem.W.Frag} {a : Addr} {H H' : Hp} {xs : List V} (k : K0 H H') (h : SqT K H a xs) : SqT K H' a xs := (k.kt (t := 0)).sqT h
theorem K0.sqL {K : PySem.W.Frag} {a : Addr} {H H' : Hp} {xs : List V} (k : K0 H H') (h : SqL K H a xs) : SqL K H' a xs := by
  rcases h with (h | ⟨o, h⟩) | h
  · exact .inl (.inl (k.oth _ _ h (fun _ z => by cases z)))
  · exact .inl (.inr ⟨o, k.oth _ _ h (fun _ z => by cases z)⟩)
  · exact .inr h
theorem Kt.sqL {K : PySem.W.Frag} {t a : Addr} {H H' : Hp} {xs : List V} (k : Kt t H H') (n : a ≠ t) (h : SqL K H a xs) : SqL K H' a xs := by
  rcases h with (h | ⟨o, h⟩) | h
  · exact .inl (.inl (k.oth _ _ h n (fun _ z => by cases z)))
  · exact .inl (.inr ⟨o, k.frz _ _ _ h⟩)
  · exact .inr h
mutual
theorem K0.dp {K : PySem.W.Frag} {H H' : Hp} (k : K0 H H') : ∀ (d : PyData) (v : V), Dp K H v d → Dp K H' v d
  | .none, _, h => by cases h; exact .non
  | .bool _, _, h => by cases h; exact .bl _
  | .int _, _, h => by cases h; exact .int _
  | .str _, _, h => by cases h; exact .str _
  | .list ds, _, h => by cases h with | lst a b => exact .lst (k.sqL a) (K0.dpAll k ds _ b)
  | .tuple ds, _, h => by cases h with | tup a b => exact .tup (k.sqT a) (K0.dpAll k ds _ b)
  | .dict _, _, h => by cases h
theorem K0.dpAll {K : PySem.W.Frag} {H H' : Hp} (k : K0 H H') : ∀ (ds : List PyData) (vs : List V), DpAll K H vs ds → DpAll K H' vs ds
  | [], _, h => by cases h; exact .nil
  | d :: ds, _, h => by cases h with | cons a b => exact .cons (K0.dp k d _ a) (K0.dpAll k ds _ b)
end

/-! ### kinds -/
def tys : List String := ["NoneType", "bool", "int", "str", "list", "tuple", "dict"]
theorem tys_int {T : String} (h : T ∈ tys) : kitB T "int" = some (T == "int" || T == "bool") := by
  simp only [tys, List.mem_cons, List.not_mem_nil, or_false] at h
  rcases h with rfl | rfl | rfl | rfl | rfl | rfl | rfl <;> decide +kernel
theorem tys_bool {T : String} (h : T ∈ tys) : kitB T "bool" = some (T == "bool") := by
  simp only [tys, List.mem_cons, List.not_mem_nil, or_false] at h
  rcases h with rfl | rfl | rfl | rfl | rfl | rfl | rfl <;> decide +kernel
theorem tys_tuple {T : String} (h : T ∈ tys) : kitB T "tuple" = some (T == "tuple") := by
  simp only [tys, List.mem_cons, List.not_mem_nil, or_false] at h
  rcases h with rfl | rfl | rfl | rfl | rfl | rfl | rfl <;> decide +kernel
theorem tys_dict {T : String} (h : T ∈ tys) : kitB T "dict" = some (T == "dict") := by
  simp only [tys, List.mem_cons, List.not_mem_nil, or_false] at h
  rcases h with rfl | rfl | rfl | rfl | rfl | rfl | rfl <;> decide +kernel
theorem sqT_ty {K : PySem.W.Frag} {H : Hp} {a : Addr} {xs : List V} (h : SqT K H a xs) : TyX K H (.ref a) (.type "tuple") := by
  rcases h with (h | ⟨o, h⟩) | ⟨o, _, _, ho, h, _⟩
  · exact .base (.tup h)
  · exact .fTuple h
  · exact .kTuple ho h
theorem sqL_ty {K : PySem.W.Frag} {H : Hp} {a : Addr} {xs : List V} (h : SqL K H a xs) : TyX K H (.ref a) (.type "list") := by
  rcases h with (h | ⟨o, h⟩) | ⟨o, _, _, ho, h, _⟩
  · exact .base (.lst h)
  · exact .base (.frz h)
  · exact .kList ho h
def tyD : PyData → String
  | .none => "NoneType" | .bool _ => "bool" | .int _ => "int" | .str _ => "str" | .list _ => "list" | .tuple _ => "tuple" | .dict _ => "dict"
theorem tyD_mem (d : PyData) : tyD d ∈ tys := by cases d <;> simp [tyD, tys]
theorem dp_ty {K : PySem.W.Frag} {H : Hp} {v : V} {d : PyData} (h : Dp K H v d) : TyX K H v (.type (tyD d)) := by
  cases h with
  | non => exact .base .non
  | bl b => exact .base (.bl b)
  | int i => exact .base (.int i)
  | str x => exact .base (.str x)
  | lst a _ => exact sqL_ty a
  | tup a _ => exact sqT_ty a
def isWholeD : PyData → Bool
  | .int _ => true
  | _ => false
def withinD (d : PyData) (lo hi : Int) : Bool := match d with
  | .int i => decide (lo ≤ i) && decide (i ≤ hi)
  | _ => false
theorem whole_ty (d : PyData) : ((tyD d == "int" || tyD d == "bool") && !(tyD d == "bool")) = isWholeD d := by cases d <;> simp [tyD, isWholeD]
theorem dp_int {K : PySem.W.Frag} {H : Hp} {x : V} {d : PyData} (h : Dp K H x d) (e : isWholeD d = true) : ∃ i, x = .int i ∧ d = .int i := by
  cases h <;> first | exact ⟨_, rfl, rfl⟩ | cases e
end HK

set_option Elab.async false
set_option linter.all false
set_option maxRecDepth 100000
set_option maxHeartbeats 2000000
namespace HK
open PySem PySem.Spec PyProof.Rows L2 GAl GxR
def topS (i : Nat) : Stmt := PySem.Challenge.pw_hearkenway_k57_texts_that_write_no_net.main.body.getD i (.Pass ⟨0, 0, 0, 0⟩)
abbrev sWhole : Stmt := topS 14
abbrev sWithin : Stmt := topS 15
abbrev sRises : Stmt := topS 16
abbrev sIsNet : Stmt := topS 22
abbrev sIsRoad : Stmt := topS 23
theorem scWhole : FnScope ["thing"] ["thing"] (defScope sWhole) := ⟨rfl, rfl, rfl, by decide +kernel, rfl, by decide +kernel, by decide +kernel⟩
theorem scWithin : FnScope ["thing", "least", "greatest"] ["thing", "least", "greatest"] (defScope sWithin) := ⟨rfl, rfl, rfl, by decide +kernel, rfl, by decide +kernel, by decide +kernel⟩
theorem scIsRoad : FnScope ["many", "thing", "start", "end", "cost", "late"] ["many", "thing"] (defScope sIsRoad) := ⟨rfl, rfl, rfl, by decide +kernel, rfl, by decide +kernel, by decide +kernel⟩

theorem qeq {Q : VK} {a b : Bool} {H : Hp} (q : Q (.bl a) H) (e : a = b) : Q (.bl b) H := e ▸ q
section
variable {P : Program} {w : World} {K : PySem.W.Frag} {mg : Str → Option Value} {base : Heap}
def spWhole (K : PySem.W.Frag) : Sp := fun vs H Q _ => ∃ x d, vs = [x] ∧ Dp K H x d ∧ Q (.bl (isWholeD d)) H
theorem ok_whole {f : Addr} {fd : FuncData} (F : Fun K "is_whole" "is_whole" sWhole f fd) (mi : mg "isinstance" = none) (mI : mg "int" = none) (mB : mg "bool" = none) : FnOk P w K mg base CX0 1 f fd ["thing"] (spWhole K) := by
  refine F.ok scWhole (fun vs H Q E h => ?_) (fun cdv A outer s H vs Q E hr h => ?_)
  · obtain ⟨x, d, rfl, _⟩ := h
    rfl
  · obtain ⟨x, d, rfl, hd, q⟩ := h
    refine ⟨_, pss_one (ps_ret (pe_and (pe_callB call_isi (by rfl) mi boot_isinstance (pa_cons (pv 0) (pa_cons (pe_bltn (v := .ty "int") (by rfl) mI (by decide +kernel) rfl) pa_nil)))
      (pe_one (pe_not (pe_callB call_isi (by rfl) mi boot_isinstance (pa_cons (pv 0) (pa_cons (pe_bltn (v := .ty "bool") (by rfl) mB (by decide +kernel) rfl) pa_nil))))))), ?_⟩
    refine ⟨x, rfl, x, .ty "int", _, _, _, rfl, .ty "int", dp_ty hd, kit_ty (tys_int (tyD_mem d)), _, rfl, ite2 (fun e => ?_) (fun e => ?_)⟩
    · refine ⟨x, rfl, x, .ty "bool", _, _, _, rfl, .ty "bool", dp_ty hd, kit_ty (tys_bool (tyD_mem d)), _, rfl, ?_⟩
      exact qeq q (by rw [← whole_ty d, e, Bool.true_and])
    · have e' : (tyD d == "int" || tyD d == "bool") = false := by simpa using e
      exact qeq q (by rw [← whole_ty d, e', Bool.false_and])
def spWithin (K : PySem.W.Frag) : Sp := fun vs H Q _ => ∃ x d lo hi, vs = [x, .int lo, .int hi] ∧ Dp K H x d ∧ Q (.bl (withinD d lo hi)) H
theorem ok_within {f fW : Addr} {fd fdW : FuncData} (F : Fun K "is_within" "is_within" sWithin f fd) (FW : Fun K "is_whole" "is_whole" sWhole fW fdW) (bW : Binds K fdW ["thing"] []) (gW : mg "is_whole" = some (.ref fW))
    (GW : FnOk P w K mg base CX0 1 fW fdW ["thing"] (spWhole K)) : FnOk P w K mg base CX0 2 f fd ["thing", "least", "greatest"] (spWithin K) := by
  refine F.ok scWithin (fun vs H Q E h => ?_) (fun cdv A outer s H vs Q E hr h => ?_)
  · obtain ⟨x, d, lo, hi, rfl, _⟩ := h
    rfl
  · obtain ⟨x, d, lo, hi, rfl, hd, q⟩ := h
    refine ⟨_, pss_one (ps_ret (pe_and (pe_call GW hr (by rfl) gW FW.kp bW .nil pass0 (pa_cons (pv 0) pa_nil)) (pe_one (pe_chain op_le op_le (pv 1) (pv 0) (pv 2))))), ?_⟩
    refine ⟨x, rfl, x, d, rfl, hd, _, rfl, ite2 (fun e => ?_) (fun e => ?_)⟩
    · obtain ⟨i, rfl, rfl⟩ := dp_int hd e
      refine ⟨_, rfl, _, rfl, _, _, rfl, rfl, _, rfl, ite2 (fun e1 => ?_) (fun e1 => ?_)⟩
      · refine ⟨_, rfl, _, _, rfl, rfl, ?_⟩
        exact qeq q (by show (decide (lo ≤ i) && decide (i ≤ hi)) = _; rw [e1, Bool.true_and])
      · exact qeq q (by show (decide (lo ≤ i) && decide (i ≤ hi)) = _; simp only [Bool.not_eq_true] at e1; rw [e1, Bool.false_and])
    · exact qeq q (by cases d <;> first | rfl | exact absurd rfl e)
end
end HK

set_option Elab.async false
set_option linter.all false
set_option maxRecDepth 100000
set_option maxHeartbeats 2000000
namespace HK
open PySem PySem.Spec PyProof.Rows L2 GAl GxR
def neD : PyData → PyData → Bool
  | .int a, .int b => !decide (a = b)
  | _, _ => false
def isRoadD (n : Int) : PyData → Bool
  | .tuple [s, e, c, l] => (withinD s 0 (n - 1) && withinD e 0 (n - 1) && neD s e) && (withinD c 0 1000 && withinD l 1 1000)
  | _ => false
theorem dpAll_len {K : PySem.W.Frag} {H : Hp} : ∀ {xs : List V} {ds : List PyData}, DpAll K H xs ds → xs.length = ds.length
  | _, _, .nil => rfl
  | _, _, .cons _ t => by rw [List.length_cons, List.length_cons, dpAll_len t]
theorem within_int {d : PyData} {lo hi : Int} (h : withinD d lo hi = true) : ∃ i, d = .int i ∧ lo ≤ i ∧ i ≤ hi := by
  cases d <;> simp only [withinD] at h <;> first | cases h | skip
  rename_i i
  simp only [Bool.and_eq_true, decide_eq_true_eq] at h
  exact ⟨i, rfl, h.1, h.2⟩
theorem dp_int' {K : PySem.W.Frag} {H : Hp} {x : V} {i : Int} (h : Dp K H x (.int i)) : x = .int i := by cases h; rfl
theorem dp_tup {K : PySem.W.Frag} {H : Hp} {x : V} {ds : List PyData} (h : Dp K H x (.tuple ds)) : ∃ a xs, x = .ref a ∧ SqT K H a xs ∧ DpAll K H xs ds := by cases h with | tup a b => exact ⟨_, _, rfl, a, b⟩

section
variable {P : Program} {w : World} {K : PySem.W.Frag} {mg : Str → Option Value} {base : Heap}
def spRoad (K : PySem.W.Frag) : Sp := fun vs H Q _ => ∃ (n : Int) (x : V) (d : PyData), vs = [.int n, x] ∧ Dp K H x d ∧ Q (.bl (isRoadD n d)) H
theorem ok_road {f fW : Addr} {fd fdW : FuncData} {t1 t2 t3 : Tok} (F : Fun K "is_road" "is_road" sIsRoad f fd) (FW : Fun K "is_within" "is_within" sWithin fW fdW) (bW : Binds K fdW ["thing", "least", "greatest"] []) (gW : mg "is_within" = some (.ref fW))
    (GW : FnOk P w K mg base CX0 2 fW fdW ["thing", "least", "greatest"] (spWithin K)) (mi : mg "isinstance" = none) (mT : mg "tuple" = none) (ml : mg "len" = none)
    (g1 : mg "MOST_PRICE" = some (.int 1000 t1)) (g2 : mg "LEAST_LATE" = some (.int 1 t2)) (g3 : mg "MOST_LATE" = some (.int 1000 t3)) : FnOk P w K mg base CX0 3 f fd ["many", "thing"] (spRoad K) := by
  refine F.ok scIsRoad (fun vs H Q E h => ?_) (fun cdv A outer s H vs Q E hr h => ?_)
  · obtain ⟨n, x, d, rfl, _⟩ := h
    rfl
  · obtain ⟨n, x, d, rfl, hd, q⟩ := h
    refine ⟨_, pss_cons (ps_if (pt_not (PW.pt (pw_and (pt_val (pe_callB call_isi (by rfl) mi boot_isinstance (pa_cons (pv 1) (pa_cons (pe_bltn (v := .ty "tuple") (by rfl) mT (by decide +kernel) rfl) pa_nil))))
        (pw_and1 (pt_cmpR op_eq (pe_callB call_len_seq (by rfl) ml PySem.boot_len (pa_cons (pv 1) pa_nil)) pe_int (nomark _)))))) (pss_one (ps_ret pe_bl)) pss_nil)
      (pss_cons (ps_asg (pv 1) (pg_tup rfl (pgs_cons (pg_name (i := 2) scIsRoad.nd rfl (.inl rfl)) (pgs_cons (pg_name (i := 3) scIsRoad.nd rfl (.inl rfl)) (pgs_cons (pg_name (i := 4) scIsRoad.nd rfl (.inl rfl)) (pgs_cons (pg_name (i := 5) scIsRoad.nd rfl (.inl rfl)) pgs_nil))))))
      (pss_cons (ps_if (pt_not (PW.pt (pw_and (pt_val (pe_call GW hr (by rfl) gW FW.kp bW .nil pass0 (pa_cons (pv 2) (pa_cons pe_int (pa_cons (pe_op op_sub (pv 0) pe_int) pa_nil)))))
        (pw_and (pt_val (pe_call GW hr (by rfl) gW FW.kp bW .nil pass0 (pa_cons (pv 3) (pa_cons pe_int (pa_cons (pe_op op_sub (pv 0) pe_int) pa_nil)))))
          (pw_and1 (pt_cmpR op_ne (pv 2) (pv 3) (nomark _))))))) (pss_one (ps_ret pe_bl)) pss_nil)
      (pss_one (ps_ret (pe_and (pe_call GW hr (by rfl) gW FW.kp bW .nil pass0 (pa_cons (pv 4) (pa_cons pe_int (pa_cons (pe_glob (v := .int 1000) (by rfl) g1 ⟨_, rfl⟩) pa_nil))))
        (pe_one (pe_call GW hr (by rfl) gW FW.kp bW .nil pass0 (pa_cons (pv 5) (pa_cons (pe_glob (v := .int 1) (by rfl) g2 ⟨_, rfl⟩) (pa_cons (pe_glob (v := .int 1000) (by rfl) g3 ⟨_, rfl⟩) pa_nil)))))))))), ?_⟩
    -- isinstance(thing, tuple) and len(thing) == 4
    refine ⟨x, rfl, x, .ty "tuple", _, _, _, rfl, .ty "tuple", dp_ty hd, kit_ty (tys_tuple (tyD_mem d)), _, rfl, ite2 (fun e => ?_) (fun e => ?_)⟩
    · obtain ⟨ds, rfl⟩ : ∃ ds, d = .tuple ds := by cases d <;> first | exact ⟨_, rfl⟩ | (simp [tyD] at e)
      obtain ⟨a, xs, rfl, hq, hall⟩ := dp_tup hd
      refine ⟨.ref a, rfl, a, xs, rfl, .inr hq, rfl, _, rfl, ?_⟩
      by_cases h4 : xs.length = 4
      · rw [decide_eq_true (show (V.int (xs.length : Int)) = .int 4 by rw [h4]; rfl)]
        refine iteF ?_
        have h4' : ds.length = 4 := by rw [← dpAll_len hall]; exact h4
        obtain ⟨s1, e1, c1, l1, rfl⟩ : ∃ s1 e1 c1 l1, ds = [s1, e1, c1, l1] := by
          match ds, h4' with
          | [a, b, c, d], _ => exact ⟨a, b, c, d, rfl⟩
        cases hall with
        | cons d1 hall => cases hall with
          | cons d2 hall => cases hall with
            | cons d3 hall => cases hall with
              | cons d4 hall =>
                cases hall
                rename_i v1 v2 v3 v4
                refine ⟨.ref a, rfl, a, _, rfl, hq, rfl, v1, _, rfl, v2, _, rfl, v3, _, rfl, v4, _, rfl, rfl, ?_⟩
                refine ⟨v1, rfl, .int n, rfl, n, 1, rfl, rfl, v1, s1, 0, n - 1, rfl, d1, _, rfl, ite2 (fun b1 => ?_) (fun b1 => ?_)⟩
                · refine ⟨v2, rfl, .int n, rfl, n, 1, rfl, rfl, v2, e1, 0, n - 1, rfl, d2, _, rfl, ite2 (fun b2 => ?_) (fun b2 => ?_)⟩
                  · obtain ⟨i, rfl, _⟩ := within_int b1
                    obtain ⟨j, rfl, _⟩ := within_int b2
                    obtain rfl := dp_int' d1
                    obtain rfl := dp_int' d2
                    refine ⟨_, rfl, _, rfl, rfl, _, rfl, ?_⟩
                    have hne : (!decide (V.int i = V.int j)) = neD (.int i) (.int j) := by
                      show (!decide (V.int i = V.int j)) = !decide (i = j)
                      congr 1
                      exact decide_eq_decide.mpr ⟨fun z => V.int.inj z, fun z => by rw [z]⟩
                    rw [hne]
                    cases b3 : neD (.int i) (.int j) with
                    | true =>
                      refine iteF ?_
                      refine ⟨v3, rfl, v3, c1, 0, 1000, rfl, d3, _, rfl, ite2 (fun b4 => ?_) (fun b4 => ?_)⟩
                      · refine ⟨v4, rfl, v4, l1, 1, 1000, rfl, d4, ?_⟩
                        exact qeq q (by show ((_ && _ && _) && (_ && _)) = _; rw [b1, b2, b3, b4]; rfl)
                      · simp only [Bool.not_eq_true] at b4
                        exact qeq q (by show ((_ && _ && _) && (_ && _)) = _; rw [b4, Bool.false_and, Bool.and_false])
                    | false =>
                      refine iteT ?_
                      exact qeq q (by show ((_ && _ && _) && (_ && _)) = _; rw [b3, Bool.and_false, Bool.false_and])
                  · simp only [Bool.not_eq_true] at b2
                    refine iteT ?_
                    exact qeq q (by show ((_ && _ && _) && (_ && _)) = _; rw [b2, Bool.and_false, Bool.false_and, Bool.false_and])
                · simp only [Bool.not_eq_true] at b1
                  refine iteT ?_
                  exact qeq q (by show ((_ && _ && _) && (_ && _)) = _; rw [b1, Bool.false_and, Bool.false_and, Bool.false_and])
      · rw [decide_eq_false (show ¬ (V.int (xs.length : Int)) = .int 4 from fun z => h4 (by have := V.int.inj z; omega))]
        refine iteT ?_
        refine qeq q ?_
        have h4' : ds.length ≠ 4 := by rw [← dpAll_len hall]; exact h4
        unfold isRoadD
        split
        · rename_i heq
          cases heq
          exact absurd rfl h4'
        · rfl
    · refine iteT ?_
      refine qeq q ?_
      cases d <;> first | rfl | (exact absurd rfl e)
end
end HK

set_option Elab.async false
set_option linter.all false
set_option maxRecDepth 100000
set_option maxHeartbeats 2000000
namespace HK
open PySem PySem.Spec PyProof.Rows L2 GAl GxR
theorem tyes {σ : L2.St} {H : Hp} {A B : Hp → Prop} (h : A H) : tYes σ H (fun b H3 => if b = true then A H3 else B H3) := by
  show (fun (b : Bool) (H3 : Hp) => if b = true then A H3 else B H3) true H
  simp only [if_true]
  exact h
def risesB (l : List (List Int)) : Bool := (List.range (l.length - 1)).all fun i => HT.lexLt (l.getD i []) (l.getD (i + 1) [])
theorem risesB_yes {l : List (List Int)} (h : ∀ j, j < l.length - 1 → HT.lexLt (l.getD j []) (l.getD (j + 1) []) = true) : risesB l = true := by
  unfold risesB
  rw [List.all_eq_true]
  exact fun j hj => h j (List.mem_range.mp hj)
theorem risesB_no {l : List (List Int)} {j : Nat} (hj : j < l.length - 1) (h : HT.lexLt (l.getD j []) (l.getD (j + 1) []) = false) : risesB l = false := by
  unfold risesB
  rw [Bool.eq_false_iff]
  intro z
  have := List.all_eq_true.mp z j (List.mem_range.mpr hj)
  rw [h] at this
  cases this
theorem cut1 (xs : List V) : cutV xs (some 1) none = xs.drop 1 := by
  unfold cutV
  rw [show HT.sIx xs.length 0 (some 1) = min 1 xs.length from HT.sIx_nat xs.length 0 1, HT.sIx_none]
  cases xs with
  | nil => rfl
  | cons x r =>
    rw [show min 1 (x :: r).length = 1 by
      rw [List.length_cons]
      omega]
    show (List.take ((x :: r).length - 1) r) = r
    rw [List.length_cons, Nat.add_sub_cancel]
    exact List.take_length
theorem scRises : FnScope ["row", "low", "high"] ["row"] (defScope sRises) := ⟨rfl, rfl, rfl, by decide +kernel, rfl, by decide +kernel, by decide +kernel⟩
section
variable {P : Program} {w : World} {K : PySem.W.Frag} {mg : Str → Option Value} {base : Heap}
/-- the list at a holds tuples of ints -/
def TupsAt (K : PySem.W.Frag) (H : Hp) (xs : List V) (l : List (List Int)) : Prop := xs.length = l.length ∧ ∀ (i : Nat) (x : V), xs[i]? = some x → ∃ t, x = .ref t ∧ SqT K H t ((l.getD i []).map V.int)
theorem TupsAt.k0 {H H' : Hp} {xs : List V} {l : List (List Int)} (h : TupsAt K H xs l) (k : K0 H H') : TupsAt K H' xs l := ⟨h.1, fun i x e => by
  obtain ⟨t, e, s⟩ := h.2 i x e
  exact ⟨t, e, k.sqT s⟩⟩
def spRises (K : PySem.W.Frag) (Pr : Addr) : Sp := fun vs H Q _ => ∃ (a : Addr) (xs : List V) (l : List (List Int)), vs = [.ref a] ∧ SqL K H a xs ∧ TupsAt K H xs l ∧ TabG H Pr ∧ ∀ H', K0 H H' → Q (.bl (risesB l)) H'
theorem ok_rises {f c Pr : Addr} {fd : FuncData} (F : FunC K "rises" "rises" sRises f fd c) (TB : TabB base mg c Pr) (mz : mg "zip" = none) (ma : mg "all" = none) : FnOk P w K mg base CX0 2 f fd ["row"] (spRises K Pr) := by
  refine F.ok scRises (fun vs H Q E h => ?_) (fun A outer s H vs Q E hr h => ?_)
  · obtain ⟨a, xs, l, rfl, _⟩ := h
    rfl
  · obtain ⟨a, xs, l, rfl, hS, hT, hP, q⟩ := h
    refine ⟨_, pss_one (ps_ret (pe_allG (own := [("low", 1), ("high", 2)]) (k := 0) (g := gTup K 2 (gCons (gName 1) (gCons (gName 2) gNil))) (tt := tYes) (te := tOp (rLtT K) (tVar 1) (tVar 2)) hr (by rfl) ma rfl scRises.nd TB rfl (gsc_by (N := ["row", "low", "high"]) (sc := defScope sRises) (by decide +kernel))
      (pi_zip (by rfl) mz (pa_cons (pv 0) (pa_cons (pe_slice sl_list (pv 0) (po_some pe_int) po_none) pa_nil)))
      (fun A' hr' _ _ _ _ _ _ => pg_tup rfl (pgs_cons (pg_name (i := 1) scRises.nd rfl (.inl rfl)) (pgs_cons (pg_name (i := 2) scRises.nd rfl (.inl rfl)) pgs_nil)))
      (fun A' hr' _ _ _ _ _ _ => pts_nil)
      (fun A' hr' _ _ _ _ _ _ => pe_cmpR (op_ltT hr'.units0) (pv 1) (pv 2) (nomark _)))), ?_⟩
    refine ⟨.ref a, rfl, .ref a, rfl, 1, rfl, a, xs, rfl, hS, fun c nc => ?_⟩
    have k1 : K0 H (upd H c (.lst (cutV xs (some 1) none))) := K0.new nc
    refine ⟨a, c, xs, _, rfl, k1.sqL hS, .inl (.inl upd_same), k1.tab _ hP, fun H2 hT2 => ?_⟩
    have k2 : K0 H H2 := k1.trans (K0.tbd (k1.tab _ hP) hT2)
    have hc2 : H2 c = some (.lst (xs.drop 1)) := by
      have := (K0.tbd (k1.tab _ hP) hT2).oth c _ upd_same (fun _ z => by cases z)
      rw [cut1] at this
      exact this
    refine ⟨fun i m H3 => i + m = xs.length - 1 ∧ K0 H H3 ∧ H3 c = some (.lst (xs.drop 1)) ∧ ∀ j, j < i → HT.lexLt (l.getD j []) (l.getD (j + 1) []) = true, ⟨xs.length - 1, by omega, k2, hc2, fun j hj => absurd hj (Nat.not_lt_zero _)⟩, fun i m H3 hW => ?_⟩
    obtain ⟨em, k3, ec, hlt⟩ := hW
    have hA : SqL K H3 a xs := k3.sqL hS
    have hC : SqL K H3 c (xs.drop 1) := .inl (.inl ec)
    by_cases hi : i < xs.length - 1
    · have h1 : i < xs.length := by omega
      have h2 : i + 1 < xs.length := by omega
      have g1 : xs[i]? = some xs[i] := List.getElem?_eq_getElem h1
      have g2 : (xs.drop 1)[i]? = some xs[i + 1] := by rw [List.getElem?_drop, Nat.add_comm 1 i]; exact List.getElem?_eq_getElem h2
      refine .inr ⟨⟨_, _, _, _, hA, hC, g1, g2⟩, fun H' => K0 H H' ∧ H' c = some (.lst (xs.drop 1)) ∧ HT.lexLt (l.getD i []) (l.getD (i + 1) []) = true, fun H' hN => ?_, fun x H' hy => ?_⟩
      · obtain ⟨k', ec', hl'⟩ := hN
        refine ⟨m - 1, by omega, by omega, k', ec', fun j hj => ?_⟩
        by_cases e : j = i
        · rw [e]; exact hl'
        · exact hlt j (by omega)
      · obtain ⟨T, x1, x2, rfl, nT, rfl, f1, f2⟩ := hy
        have ex1 : x1 = xs[i] := Option.some.inj ((f1 _ hA).symm.trans g1)
        have ex2 : x2 = xs[i + 1] := Option.some.inj ((f2 _ hC).symm.trans g2)
        have kT : K0 H3 (upd H3 T (.tup [x1, x2])) := K0.new nT
        obtain ⟨t1, e1, s1⟩ := hT.2 i x1 (by rw [ex1]; exact g1)
        obtain ⟨t2, e2, s2⟩ := hT.2 (i + 1) x2 (by rw [ex2]; exact List.getElem?_eq_getElem h2)
        refine ⟨T, [x1, x2], rfl, .inl (.inl upd_same), rfl, x1, [x2], rfl, x2, [], rfl, rfl, rfl, ?_⟩
        refine tyes ?_
        have k4 := k3.trans kT
        refine ⟨x1, rfl, x2, rfl, t1, t2, _, _, e1, e2, k4.sqT s1, k4.sqT s2, _, rfl, ?_⟩
        cases hb : HT.lexLt (l.getD i []) (l.getD (i + 1) []) with
        | true => exact iteT ⟨k4, kT.oth c _ ec (fun _ z => by cases z), rfl⟩
        | false => exact iteF (qeq (q _ k4) (risesB_no (by rw [← hT.1]; exact hi) hb))
    · refine .inl ⟨⟨_, _, hA, hC, .inr (by rw [List.length_drop]; omega)⟩, ?_⟩
      exact qeq (q _ k3) (risesB_yes fun j hj => hlt j (by rw [← hT.1] at hj; omega))
end
end HK

set_option Elab.async false
set_option linter.all false
set_option maxRecDepth 100000
set_option maxHeartbeats 2000000
namespace HK
open PySem PySem.Spec PyProof.Rows L2 GAl GxR
def pairD : PyData → List Int
  | .tuple (.int s :: .int e :: _) => [s, e]
  | _ => []
def isNetD : PyData → Bool
  | .tuple [.int m, .tuple rs] => (decide (1 ≤ m) && decide (m ≤ 12)) && (rs.all (isRoadD m) && risesB (rs.map pairD))
  | _ => false
theorem road_ints {n : Int} {d : PyData} (h : isRoadD n d = true) : ∃ s e c l : Int, d = .tuple [.int s, .int e, .int c, .int l] ∧ 0 ≤ s ∧ s ≤ n - 1 ∧ 0 ≤ e ∧ e ≤ n - 1 ∧ s ≠ e ∧ 0 ≤ c ∧ c ≤ 1000 ∧ 1 ≤ l ∧ l ≤ 1000 := by
  unfold isRoadD at h
  split at h
  · rename_i s e c l
    simp only [Bool.and_eq_true] at h
    obtain ⟨⟨⟨h1, h2⟩, h3⟩, h4, h5⟩ := h
    obtain ⟨i, rfl, a1, a2⟩ := within_int h1
    obtain ⟨j, rfl, b1, b2⟩ := within_int h2
    obtain ⟨k, rfl, c1, c2⟩ := within_int h4
    obtain ⟨q, rfl, d1, d2⟩ := within_int h5
    refine ⟨i, j, k, q, rfl, a1, a2, b1, b2, fun z => ?_, c1, c2, d1, d2⟩
    rw [z] at h3
    simp [neD] at h3
  · cases h
theorem dp_ints4 {K : PySem.W.Frag} {H : Hp} {x : V} {s e c l : Int} (h : Dp K H x (.tuple [.int s, .int e, .int c, .int l])) : ∃ a, x = .ref a ∧ SqT K H a [.int s, .int e, .int c, .int l] := by
  obtain ⟨a, xs, rfl, hq, hall⟩ := dp_tup h
  cases hall with
  | cons d1 hall => cases hall with
    | cons d2 hall => cases hall with
      | cons d3 hall => cases hall with
        | cons d4 hall =>
          cases hall
          obtain rfl := dp_int' d1
          obtain rfl := dp_int' d2
          obtain rfl := dp_int' d3
          obtain rfl := dp_int' d4
          exact ⟨a, rfl, hq⟩
theorem dpAll_get {K : PySem.W.Frag} {H : Hp} : ∀ {xs : List V} {ds : List PyData} {i : Nat} {x : V}, DpAll K H xs ds → xs[i]? = some x → ∃ d, ds[i]? = some d ∧ Dp K H x d
  | _, _, _, _, .nil, e => by simp at e
  | _, _, 0, _, .cons h _, e => by simp at e; subst e; exact ⟨_, rfl, h⟩
  | _, _, i + 1, x, .cons _ t, e => by
    obtain ⟨d, h1, h2⟩ := dpAll_get (i := i) (x := x) t (by simpa using e)
    exact ⟨d, by simpa using h1, h2⟩
theorem K0.mut {H H' : Hp} {p : Addr} {o : HO} (k : K0 H H') (n : H p = none) : K0 H (upd H' p o) := ⟨fun b u e m => by
  rw [upd_ne (ne_of_none e n)]; exact k.oth b u e m, fun P h => by
  obtain ⟨ps, e, ht⟩ := h
  obtain ⟨ps', e', ht'⟩ := k.tab P ⟨ps, e, ht⟩
  exact ⟨ps', by rw [upd_ne (ne_of_none e n)]; exact e', ht'⟩, fun b e => k.dom b (upd_none e)⟩
theorem TupsAt.kt {K : PySem.W.Frag} {t : Addr} {H H' : Hp} {xs : List V} {l : List (List Int)} (h : TupsAt K H xs l) (k : Kt t H H') : TupsAt K H' xs l := ⟨h.1, fun i x e => by
  obtain ⟨t, e, s⟩ := h.2 i x e
  exact ⟨t, e, k.sqT s⟩⟩
theorem TupsAt.snoc {K : PySem.W.Frag} {H : Hp} {xs : List V} {l : List (List Int)} {t : Addr} {ns : List Int} (h : TupsAt K H xs l) (s : SqT K H t (ns.map V.int)) : TupsAt K H (xs ++ [.ref t]) (l ++ [ns]) := by
  refine ⟨by simp [h.1], fun i x e => ?_⟩
  by_cases hi : i < xs.length
  · rw [List.getElem?_append_left hi] at e
    obtain ⟨t', e', s'⟩ := h.2 i x e
    refine ⟨t', e', ?_⟩
    have : (l ++ [ns]).getD i [] = l.getD i [] := by
      simp only [List.getD_eq_getElem?_getD]
      rw [List.getElem?_append_left (by rw [← h.1]; exact hi)]
    rw [this]; exact s'
  · have hx : i = xs.length := by
      have : i < (xs ++ [V.ref t]).length := (List.getElem?_eq_some_iff.mp e).1
      rw [List.length_append, List.length_singleton] at this
      omega
    subst hx
    rw [List.getElem?_append_right (Nat.le_refl _), Nat.sub_self] at e
    have e : V.ref t = x := Option.some.inj e
    refine ⟨t, e.symm, ?_⟩
    have : (l ++ [ns]).getD xs.length [] = ns := by
      simp only [List.getD_eq_getElem?_getD]
      rw [h.1, List.getElem?_append_right (Nat.le_refl _), Nat.sub_self]; rfl
    rw [this]; exact s
theorem scIsNet : FnScope ["thing", "many", "roads", "road"] ["thing"] (defScope sIsNet) := ⟨rfl, rfl, rfl, by decide +kernel, rfl, by decide +kernel, by decide +kernel⟩
theorem all_no {rs : List PyData} {p : PyData → Bool} {i : Nat} {d : PyData} (h : rs[i]? = some d) (hd : p d = false) : rs.all p = false := by
  rw [Bool.eq_false_iff]
  intro z
  have := List.all_eq_true.mp z d (List.mem_of_getElem? h)
  rw [hd] at this; cases this
theorem all_yes {rs : List PyData} {p : PyData → Bool} (h : ∀ (j : Nat) (d : PyData), rs[j]? = some d → p d = true) : rs.all p = true := by
  rw [List.all_eq_true]
  intro d hd
  obtain ⟨j, hj, e⟩ := List.getElem_of_mem hd
  exact h j d (by rw [← e]; exact List.getElem?_eq_getElem hj)

section
variable {P : Program} {w : World} {K : PySem.W.Frag} {mg : Str → Option Value} {base : Heap}
def NetAns (K : PySem.W.Frag) (H : Hp) (v : V) (b : Bool) : Prop := (∃ d, Dp K H v d ∧ (∀ m rs, d = .tuple [m, .tuple rs] → rs.length ≤ 1000) ∧ b = isNetD d) ∨ (∃ T, T ∈ tys ∧ TyX K H v (.type T) ∧ (T == "tuple") = false ∧ b = false)
def spIsNet (K : PySem.W.Frag) (Pn Pr : Addr) : Sp := fun vs H Q _ => ∃ (v : V) (b : Bool), vs = [v] ∧ NetAns K H v b ∧ TabG H Pn ∧ TabG H Pr ∧ ∀ H', K0 H H' → Q (.bl b) H'
theorem ok_isnet {f c Pn Pr fW fR fS : Addr} {fd fdW fdR fdS : FuncData} {t1 : Tok} (F : FunC K "is_net" "is_net" sIsNet f fd c) (TB : TabB base mg c Pn)
    (kW : PySem.W.keepIn K (.ref fW) = true) (bW : Binds K fdW ["thing", "least", "greatest"] []) (gW : mg "is_within" = some (.ref fW)) (GW : FnOk P w K mg base CX0 2 fW fdW ["thing", "least", "greatest"] (spWithin K))
    (kR : PySem.W.keepIn K (.ref fR) = true) (bR : Binds K fdR ["many", "thing"] []) (gR : mg "is_road" = some (.ref fR)) (GR : FnOk P w K mg base CX0 3 fR fdR ["many", "thing"] (spRoad K))
    (kS : PySem.W.keepIn K (.ref fS) = true) (bS : Binds K fdS ["row"] []) (gS : mg "rises" = some (.ref fS)) (GS : FnOk P w K mg base CX0 2 fS fdS ["row"] (spRises K Pr))
    (mi : mg "isinstance" = none) (mT : mg "tuple" = none) (ml : mg "len" = none) (ma : mg "all" = none) (g1 : mg "MOST_PLACES" = some (.int 12 t1)) : FnOk P w K mg base CX0 5 f fd ["thing"] (spIsNet K Pn Pr) := by
  refine F.ok scIsNet (fun vs H Q E h => ?_) (fun A outer s H vs Q E hr h => ?_)
  · obtain ⟨v, b, rfl, _⟩ := h
    rfl
  · obtain ⟨v, b, rfl, hA, hPn, hPr, q⟩ := h
    refine ⟨_, pss_cons (ps_if (pt_not (PW.pt (pw_and (pt_val (pe_callB call_isi (by rfl) mi boot_isinstance (pa_cons (pv 0) (pa_cons (pe_bltn (v := .ty "tuple") (by rfl) mT (by decide +kernel) rfl) pa_nil))))
        (pw_and1 (pt_cmpR op_eq (pe_callB call_len_seq (by rfl) ml PySem.boot_len (pa_cons (pv 0) pa_nil)) pe_int (nomark _)))))) (pss_one (ps_ret pe_bl)) pss_nil)
      (pss_cons (ps_asg (pv 0) (pg_tup rfl (pgs_cons (pg_name (i := 1) scIsNet.nd rfl (.inr rfl)) (pgs_cons (pg_name (i := 2) scIsNet.nd rfl (.inl rfl)) pgs_nil))))
      (pss_cons (ps_if (pt_not (PW.pt (pw_and (pt_val (pe_call GW (hr.mono (by decide)) (by rfl) gW kW bW .nil pass0 (pa_cons (pv 1) (pa_cons pe_int (pa_cons (pe_glob (v := .int 12) (by rfl) g1 ⟨_, rfl⟩) pa_nil)))))
        (pw_and1 (pt_val (pe_callB call_isi (by rfl) mi boot_isinstance (pa_cons (pv 2) (pa_cons (pe_bltn (v := .ty "tuple") (by rfl) mT (by decide +kernel) rfl) pa_nil)))))))) (pss_one (ps_ret pe_bl)) pss_nil)
      (pss_cons (ps_if (pt_not (pt_val (pe_allG (own := [("road", 3)]) (k := 3) (g := gName 3) (tt := tYes) (te := tCall (spRoad K) [] E0 (tCons (tVar 1) (tCons (tVar 3) tNil))) hr (by rfl) ma rfl scIsNet.nd TB rfl (gsc_by (N := ["thing", "many", "roads", "road"]) (sc := defScope sIsNet) (by decide +kernel))
          (pi_tup (pv 2)) (fun A' hr' _ _ _ _ _ _ => pg_name (i := 3) scIsNet.nd rfl (.inl rfl)) (fun A' hr' _ _ _ _ _ _ => pts_nil)
          (fun A' hr' _ _ _ _ _ _ => pe_call GR hr' (by rfl) gR kR bR .nil pass0 (pa_cons (pv 1) (pa_cons (pv 3) pa_nil)))))) (pss_one (ps_ret pe_bl)) pss_nil)
      (pss_one (ps_ret (pe_call GS (hr.mono (by decide)) (by rfl) gS kS bS .nil pass0 (pa_cons (pe_lc (own := [("road", 3)]) (g := gName 3) (tt := tYes) (te := tSl (rSlT K) (tVar 3) tNoPart (tPart (tC (.int 2)))) rfl scIsNet.nd (pi_tup (pv 2))
          (blkOk_by (N := ["thing", "many", "roads", "road"]) (sc := defScope sIsNet) (by decide +kernel)) (fun _ _ _ _ _ => pg_name (i := 3) scIsNet.nd rfl (Or.inl rfl)) (fun _ _ _ _ _ => pts_nil)
          (fun _ _ _ _ _ => pe_slice sl_tup (pv 3) po_none (po_some pe_int))) pa_nil))))))), ?_⟩
    rcases hA with ⟨d, hd, hsz, rfl⟩ | ⟨T, hT, hty, hne, rfl⟩
    · refine ⟨v, rfl, v, .ty "tuple", _, _, _, rfl, .ty "tuple", dp_ty hd, kit_ty (tys_tuple (tyD_mem d)), _, rfl, ite2 (fun e => ?_) (fun e => ?_)⟩
      · obtain ⟨ds, rfl⟩ : ∃ ds, d = .tuple ds := by cases d <;> first | exact ⟨_, rfl⟩ | (simp [tyD] at e)
        obtain ⟨a, xs, rfl, hq, hall⟩ := dp_tup hd
        refine ⟨.ref a, rfl, a, xs, rfl, .inr hq, rfl, _, rfl, ?_⟩
        by_cases h4 : xs.length = 2
        · rw [decide_eq_true (show (V.int (xs.length : Int)) = .int 2 by rw [h4]; rfl)]
          refine iteF ?_
          have h4' : ds.length = 2 := by rw [← dpAll_len hall]; exact h4
          obtain ⟨dm, dr, rfl⟩ : ∃ dm dr, ds = [dm, dr] := by
            match ds, h4' with
            | [a, b], _ => exact ⟨a, b, rfl⟩
          cases hall with
          | cons d1 hall => cases hall with
            | cons d2 hall =>
              cases hall
              rename_i v1 v2
              refine ⟨.ref a, rfl, a, _, rfl, hq, rfl, v1, _, rfl, v2, _, rfl, rfl, ?_⟩
              refine ⟨v1, rfl, v1, dm, 1, 12, rfl, d1, _, rfl, ite2 (fun b1 => ?_) (fun b1 => ?_)⟩
              · obtain ⟨m, rfl, m1, m2⟩ := within_int b1
                obtain rfl := dp_int' d1
                refine ⟨v2, rfl, v2, .ty "tuple", _, _, _, rfl, .ty "tuple", dp_ty d2, kit_ty (tys_tuple (tyD_mem dr)), _, rfl, ?_⟩
                cases hb2 : (tyD dr == "tuple") with
                | false =>
                  refine iteT (qeq (q _ (K0.refl _)) ?_)
                  cases dr <;> first | rfl | (simp [tyD] at hb2)
                | true =>
                  refine iteF ?_
                  obtain ⟨rs, rfl⟩ : ∃ ds, dr = .tuple ds := by cases dr <;> first | exact ⟨_, rfl⟩ | (simp [tyD] at hb2)
                  obtain ⟨r, ys, rfl, hqr, hallr⟩ := dp_tup d2
                  have hm : isNetD (.tuple [.int m, .tuple rs]) = (rs.all (isRoadD m) && risesB (rs.map pairD)) := by
                    show ((decide (1 ≤ m) && decide (m ≤ 12)) && _) = _
                    rw [decide_eq_true m1, decide_eq_true m2, Bool.true_and, Bool.true_and]
                  rw [hm] at q
                  have hlen : ys.length = rs.length := dpAll_len hallr
                  -- all(is_road(many, road) for road in roads)
                  refine ⟨.ref r, rfl, r, rfl, ⟨_, hqr⟩, hPn, fun H2 hT2 => ?_⟩
                  have k2 : K0 H H2 := K0.tbd hPn hT2
                  refine ⟨fun i mm H3 => i + mm = ys.length ∧ K0 H H3 ∧ ∀ (j : Nat) (d : PyData), j < i → rs[j]? = some d → isRoadD m d = true, ⟨ys.length, by omega, k2, fun j _ hj => absurd hj (Nat.not_lt_zero _)⟩, fun i mm H3 hW => ?_⟩
                  obtain ⟨em, k3, hlt⟩ := hW
                  have hY : SqT K H3 r ys := k3.sqT hqr
                  by_cases hi : i < ys.length
                  · have g1 : ys[i]? = some ys[i] := List.getElem?_eq_getElem hi
                    obtain ⟨di, hdi, hDi⟩ := dpAll_get hallr g1
                    refine .inr ⟨⟨_, _, hY, g1⟩, fun H' => K0 H H' ∧ isRoadD m di = true, fun H' hN => ?_, fun x H' hy => ?_⟩
                    · obtain ⟨k', hb'⟩ := hN
                      refine ⟨mm - 1, by omega, by omega, k', fun j d hj hd => ?_⟩
                      by_cases e : j = i
                      · subst e
                        rw [hdi] at hd; cases hd; exact hb'
                      · exact hlt j d (by omega) hd
                    · obtain ⟨rfl, fx⟩ := hy
                      have ex : x = ys[i] := Option.some.inj ((fx _ hY).symm.trans g1)
                      subst ex
                      refine ⟨rfl, tyes ?_⟩
                      refine ⟨.int m, rfl, _, rfl, m, _, di, rfl, K0.dp k3 di _ hDi, _, rfl, ?_⟩
                      cases hb3 : isRoadD m di with
                      | true => exact iteT ⟨k3, rfl⟩
                      | false =>
                        refine iteF ⟨_, rfl, iteT (qeq (q _ k3) ?_)⟩
                        rw [all_no hdi hb3, Bool.false_and]
                  · refine .inl ⟨⟨_, hY, by omega⟩, _, rfl, iteF ?_⟩
                    have hallR : ∀ (j : Nat) (d : PyData), rs[j]? = some d → isRoadD m d = true := fun j d hd => hlt j d (by
                      have := (List.getElem?_eq_some_iff.mp hd).1
                      omega) hd
                    have hat : rs.all (isRoadD m) = true := all_yes hallR
                    rw [hat, Bool.true_and] at q
                    -- rises([road[:2] for road in roads])
                    refine ⟨.ref r, rfl, r, rfl, ⟨_, hY⟩, fun D nD => lc_tup (K := K) (a := r) (xs := ys) (fun i H4 => K0 H3 H4 ∧ ∃ zs, H4 D = some (.lst zs) ∧ TupsAt K H4 zs ((rs.take i).map pairD)) ⟨K0.new nD, [], upd_same, rfl, fun i x e => by simp at e⟩ (fun i H4 _ h => h.1.sqT hY) (fun i x H4 hx h => ?_) (fun H4 h => ?_)⟩
                    · obtain ⟨k4, zs, ez, hz⟩ := h
                      obtain ⟨di, hdi, hDi⟩ := dpAll_get hallr hx
                      obtain ⟨s1, e1, c1, l1, rfl, _⟩ := road_ints (hallR i di hdi)
                      obtain ⟨ar, rfl, hqa⟩ := dp_ints4 (K0.dp (k3.trans k4) _ _ hDi)
                      refine ⟨rfl, tyes ?_⟩
                      refine ⟨.ref ar, rfl, 2, rfl, ar, _, rfl, hqa, fun z => absurd z.2 (by show ¬ (HT.sIx 4 4 (some 2) = 4); decide), fun p np => ?_⟩
                      have kp : K0 H4 (upd H4 p (.tup (cutV [.int s1, .int e1, .int c1, .int l1] none (some 2)))) := K0.new np
                      have ez' := kp.oth D _ ez (fun _ z => by cases z)
                      have hl : zs.length ≤ rs.length := by
                        rw [hz.1, List.length_map, List.length_take]; omega
                      refine ⟨zs, ez', small1000 (Nat.le_trans hl (hsz _ _ rfl)), ?_⟩
                      refine ⟨(k4.trans kp).mut nD, zs ++ [.ref p], upd_same, ?_⟩
                      have : (rs.take (i + 1)).map pairD = (rs.take i).map pairD ++ [[s1, e1]] := by
                        rw [List.take_add_one, hdi, List.map_append]; rfl
                      rw [this]
                      refine TupsAt.snoc ((hz.k0 kp).kt (Kt.set ez')) ?_
                      exact (Kt.set ez').sqT (.inl (.inl upd_same))
                    · obtain ⟨k4, zs, ez, hz⟩ := h
                      rw [hlen, List.take_length] at hz
                      exact ⟨D, zs, _, rfl, .inl (.inl ez), hz, (k3.trans k4).tab _ hPr, fun H5 k5 => q _ ((k3.trans k4).trans k5)⟩
              · simp only [Bool.not_eq_true] at b1
                refine iteT (qeq (q _ (K0.refl _)) ?_)
                unfold isNetD
                split
                · rename_i heq
                  cases heq
                  show (withinD (.int _) 1 12 && _) = false
                  rw [b1, Bool.false_and]
                · rfl
        · rw [decide_eq_false (show ¬ (V.int (xs.length : Int)) = .int 2 from fun z => h4 (by have := V.int.inj z; omega))]
          refine iteT (qeq (q _ (K0.refl _)) ?_)
          have h4' : ds.length ≠ 2 := by rw [← dpAll_len hall]; exact h4
          unfold isNetD
          split
          · rename_i heq
            cases heq
            exact absurd rfl h4'
          · rfl
      · refine iteT (qeq (q _ (K0.refl _)) ?_)
        cases d <;> first | rfl | (exact absurd rfl e)
    · refine ⟨v, rfl, v, .ty "tuple", _, _, _, rfl, .ty "tuple", hty, kit_ty (tys_tuple hT), _, rfl, ?_⟩
      rw [hne]
      exact iteF (iteT (q _ (K0.refl _)))
end
end HK

set_option Elab.async false
set_option linter.all false
set_option maxRecDepth 100000
set_option maxHeartbeats 2000000
namespace HK
open PySem PySem.Spec PyProof.Rows L2 GAl GxR
open Evl (pss_cut)
theorem dpInts {K : PySem.W.Frag} {H : Hp} : ∀ ns : List Int, DpAll K H (ns.map V.int) (ns.map PyData.int)
  | [] => .nil
  | n :: ns => .cons (.int n) (dpInts ns)
/-- the script, at s: written, locked, or a list apart from the tape's at t -/
def Scr (K : PySem.W.Frag) (t : Addr) (H : Hp) (s : Addr) (ns : List Int) : Prop := (H s = some (.lst (ns.map V.int)) ∧ s ≠ t) ∨ (∃ o, H s = some (.frz o (.lst (ns.map V.int)))) ∨
  ∃ (o : Obj) (its : Array Value) (n : Nat), K.lookup s = some o ∧ o.cls = .type "list" ∧ o.dict = none ∧ o.data = .seq its n ∧ its.size ≤ sizeLine ∧ Vals (ns.map V.int) its.toList
theorem Scr.sq {K : PySem.W.Frag} {t : Addr} {H : Hp} {s : Addr} {ns : List Int} (h : Scr K t H s ns) : SqL K H s (ns.map V.int) := by
  rcases h with ⟨h, _⟩ | h | h
  · exact .inl (.inl h)
  · exact .inl (.inr h)
  · exact .inr h
theorem Scr.kt {K : PySem.W.Frag} {t : Addr} {H H' : Hp} {s : Addr} {ns : List Int} (h : Scr K t H s ns) (k : Kt t H H') : Scr K t H' s ns := by
  rcases h with ⟨h, n⟩ | ⟨o, h⟩ | h
  · exact .inl ⟨k.oth _ _ h n (fun _ z => by cases z), n⟩
  · exact .inr (.inl ⟨o, k.frz _ _ _ h⟩)
  · exact .inr (.inr h)
theorem Scr.of {K : PySem.W.Frag} {t : Addr} {H : Hp} {s : Addr} {ns : List Int} {o : HO} (h : SqL K H s (ns.map V.int)) (n : H t = none) : Scr K t (upd H t o) s ns := by
  rcases h with (h | ⟨o', h⟩) | h
  · have z := ne_of_none h n
    exact .inl ⟨by rw [upd_ne z]; exact h, z⟩
  · have z := ne_of_none h n
    exact .inr (.inl ⟨o', by rw [upd_ne z]; exact h⟩)
  · exact .inr (.inr h)
/-- the tape: the script, the next place, what is left of the number -/
def TapeV (H : Hp) (t s : Addr) : Prop := ∃ p v : Int, H t = some (.lst [.ref s, .int p, .int v]) ∧ 0 ≤ p ∧ 0 ≤ v
structure Tape (K : PySem.W.Frag) (H : Hp) (t s : Addr) (ns : List Int) : Prop where
  v : TapeV H t s
  scr : Scr K t H s ns
theorem canLay_ints : ∀ ns : List Int, SeqAt.shaped (.list (ns.map PyData.int)) = true := PySem.W.shaped_ints
theorem eqv_nil (ns : List Int) : PyData.eqv (.list (ns.map PyData.int)) (.list []) = ns.isEmpty := by
  cases ns <;> simp [PyData.eqv, PyData.eqvAll]
section
variable {P : Program} {w : World} {K : PySem.W.Frag} {mg : Str → Option Value} {base : Heap}
def spSpread : Sp := fun vs H Q _ => ∃ cell place : Int, vs = [.int cell, .int place] ∧ 0 ≤ place ∧ ∀ v : Int, 0 ≤ v → Q (.int v) H
theorem mulR {i j : Int} (h : -(2 ^ 64) < j) (h2 : j < 2 ^ 64) : CMul i j := .inr ⟨h, h2⟩
theorem mulL {i j : Int} (h : -(2 ^ 64) < i) (h2 : i < 2 ^ 64) : CMul i j := .inl ⟨h, h2⟩
def spDigit (K : PySem.W.Frag) : Sp := fun vs H Q _ => ∃ (t sc : Addr) (many : Int) (ns : List Int), vs = [.ref t, .int many] ∧ Tape K H t sc ns ∧ 0 < many ∧ many ≤ 100000000000000000000 ∧
  ∀ (d : Int) (H' : Hp), 0 ≤ d → d < many → Kt t H H' → Tape K H' t sc ns → Q (.int d) H'
end
end HK

set_option Elab.async false
set_option linter.all false
set_option maxRecDepth 100000
set_option maxHeartbeats 2000000
namespace HK
open PySem PySem.Spec PyProof.Rows L2 GAl GxR
section
variable {X : Cx}
/-- tuple(xs) of a list: the new object is known -/
theorem call_tuple_fz : CallR X (.type "tuple") (fun xs H Q => ∃ p ys, xs = [.ref p] ∧ SqL X.K H p ys ∧ ∀ l o, H l = none → o.cls = .type "tuple" → o.dict = none → Q (.ref l) (upd H l (.frz o (.tup ys)))) := by
  intro pins s σ H xs us Q I r h
  obtain ⟨p, ys, rfl, hq, q⟩ := h
  obtain ⟨u, rfl, rx⟩ := vals1 r
  cases rx
  obtain ⟨its, r', pl, hz⟩ := I.list hq
  have hlen := r'.length
  refine call_tuple_list pl.isList (fun h' kp => ?_) (by simp only [List.size_toArray] <;> omega)
  have I1 : Inv X pins σ H { s with heap := h' } := I.kept (t' := s.toks) kp
  have hget : (h'.push { cls := .type "tuple", data := .seq its.toArray }).get? h'.objs.size = some { cls := .type "tuple", data := .seq its.toArray } := Heap.get?_push_size _ rfl
  have I2 : Inv X pins σ (upd H h'.objs.size (.frz { cls := .type "tuple", data := .seq its.toArray } (.tup ys))) { s with heap := h'.push { cls := .type "tuple", data := .seq its.toArray } } :=
    I1.laid (t' := s.toks) (fun b o e => Heap.get?_push_of_some _ e) (Nat.le_refl _) (show ObjOk X.prog X.w _ _ _ (.frz _ (.tup ys)) from ⟨hget, hz, its, r', IsTup.new _ _⟩)
  exact ⟨.ref h'.objs.size, _, I2, rfl, q _ _ (I1.hok.fresh (Nat.le_refl _)) rfl rfl⟩
/-- a method of a built-in type, of an object that is known -/
def tBMF (T : String) (r : V → List V → Hp → VK → Prop) (to : TE) (t : TA) : TE := fun σ H Q => to σ H fun x H1 => (∃ a ob u, x = .ref a ∧ H1 a = some (.frz ob u) ∧ ob.cls = .type T ∧ ob.dict = none) ∧ t σ H1 fun xs H2 => r x xs H2 Q
theorem pe_bmF {o e : Expr} {es : List Expr} {to : TE} {t : TA} {name : Str} {apos cpos : Pos} {T id : String} {r : V → List V → Hp → VK → Prop}
    (pa : PlainAttrs T) (slot : Slot T name id) (hty : typeOf (.builtin id) = pure (.type "method_descriptor")) (hm : MtR X id r) (ho : PE X o to) (ha : PA X (e :: es) t)
    (hbase : attributeBase o name X.env (eval o X.env) = eval o X.env := by rfl)
    (hfew : ((backTo cpos (starEach (e :: es) X.env)).all (fun x => !x.1) && (backToKw cpos (keywordEach [] X.env)).all (fun x => x.1.isSome)
      && decide ((e :: es).length + ([] : List Keyword).length + (if ([] : List Keyword).isEmpty then 0 else 1) < 30)) = true := by rfl)
    (hline : (apos.endLine == cpos.line) = true := by rfl) (hs : starEach (e :: es) X.env = (false, eval e X.env) :: starEach es X.env := by rfl) (hplain : (backTo cpos (starEach es X.env)).any (·.1) = false := by rfl) :
    PE X (.Call (.Attribute o name apos) (e :: es) [] cpos) (tBMF T r to t) := by
  refine ⟨fun pins s σ H Q I h => ?_⟩
  refine wpAny_Call_method_late hbase hfew hline rfl (thn (ho.run pins s σ H _ I h) fun v s1 ⟨x, H1, I1, r1, ⟨a, ob, u, ex, hob, hc, hd⟩, q1⟩ => ?_)
  subst ex
  have hget := (show ObjOk X.prog X.w H1 s1.heap a (.frz ob u) from I1.hok a _ hob).1
  have ev : v = .ref a := r1
  refine ⟨T, id, pa, slot, hty, by rw [ev]; exact ⟨ob, hget, hc⟩, fun b e2 => ?_, ?_⟩
  · rw [ev] at e2
    cases e2
    exact ⟨ob, hget, hd⟩
  have hA := ha.run cpos pins s1 σ H1 _ I1 q1
  rw [hs] at hA ⊢
  refine Calls.callWith_builtin (by show (false || (backTo cpos (starEach es X.env)).any (·.1)) = false; rw [hplain] <;> rfl) (Calls.evalArgs_plain ?_)
  exact thn hA fun us s2 ⟨vs, H2, I2, r2, q2⟩ => hm pins s2 σ H2 (.ref a) vs v us Q I2 r1 r2 q2
end
end HK

set_option Elab.async false
set_option linter.all false
set_option maxRecDepth 100000
set_option maxHeartbeats 2000000
namespace HK
open PySem PySem.Spec PyProof.Rows L2 GAl GxR
open Evl (pss_cut)
structure R4 where
  s : Int
  e : Int
  c : Int
  l : Int
def R4.vs (r : R4) : List V := [.int r.s, .int r.e, .int r.c, .int r.l]
def R4.d (r : R4) : PyData := .tuple [.int r.s, .int r.e, .int r.c, .int r.l]
structure RoadOk (n : Int) (r : R4) : Prop where
  s0 : 0 ≤ r.s
  s1 : r.s < n
  e0 : 0 ≤ r.e
  e1 : r.e < n
  ne : r.s ≠ r.e
  c0 : 0 ≤ r.c
  c1 : r.c ≤ 1000
  l0 : 1 ≤ r.l
  l1 : r.l ≤ 1000
def R4.lt (a b : R4) : Prop := a.s < b.s ∨ (a.s = b.s ∧ a.e < b.e)
structure Good (n : Int) (rs : List R4) : Prop where
  n1 : 1 ≤ n
  n2 : n ≤ 12
  ok : ∀ r ∈ rs, RoadOk n r
  up : rs.Pairwise R4.lt
/-- the roads' tuples -/
def Roads (K : PySem.W.Frag) (H : Hp) (xs : List V) (rs : List R4) : Prop := DpAll K H xs (rs.map R4.d)
theorem dp_r4 {K : PySem.W.Frag} {H : Hp} {x : V} {r : R4} (h : Dp K H x r.d) : ∃ a, x = .ref a ∧ SqT K H a r.vs := dp_ints4 h
theorem r4_dp {K : PySem.W.Frag} {H : Hp} {a : Addr} {r : R4} (h : SqT K H a r.vs) : Dp K H (.ref a) r.d := .tup h (.cons (.int _) (.cons (.int _) (.cons (.int _) (.cons (.int _) .nil))))
theorem Kt.roads {K : PySem.W.Frag} {t : Addr} {H H' : Hp} (k : Kt t H H') : ∀ {xs : List V} {rs : List R4}, Roads K H xs rs → Roads K H' xs rs
  | _, [], .nil => .nil
  | _, r :: rs, .cons a b => .cons (by
      obtain ⟨p, rfl, h⟩ := dp_r4 (r := r) a
      exact r4_dp (r := r) (k.sqT h)) (Kt.roads k (rs := rs) b)
theorem dpAll_snoc {K : PySem.W.Frag} {H : Hp} : ∀ {xs : List V} {ds : List PyData} {x : V} {d : PyData}, DpAll K H xs ds → Dp K H x d → DpAll K H (xs ++ [x]) (ds ++ [d])
  | _, _, _, _, .nil, h => .cons h .nil
  | _, _, _, _, .cons a b, h => .cons a (dpAll_snoc b h)
theorem Roads.snoc {K : PySem.W.Frag} {H : Hp} {xs : List V} {rs : List R4} {a : Addr} {r : R4} (h : Roads K H xs rs) (s : SqT K H a r.vs) : Roads K H (xs ++ [.ref a]) (rs ++ [r]) := by
  unfold Roads
  rw [List.map_append]
  exact dpAll_snoc h (r4_dp s)
theorem Roads.len {K : PySem.W.Frag} {H : Hp} {xs : List V} {rs : List R4} (h : Roads K H xs rs) : xs.length = rs.length := by
  have := dpAll_len h
  rw [List.length_map] at this
  exact this
theorem Kt.mut {t : Addr} {H H' : Hp} {p : Addr} {o : HO} (k : Kt t H H') (n : H p = none) : Kt t H (upd H' p o) := ⟨fun b u e => by
  rw [upd_ne (ne_of_none e n)]; exact k.tup b u e, fun b o u e => by
  rw [upd_ne (ne_of_none e n)]; exact k.frz b o u e, fun b u e m m' => by
  rw [upd_ne (ne_of_none e n)]; exact k.oth b u e m m', fun P h => by
  obtain ⟨ps, e, ht⟩ := h
  obtain ⟨ps', e', ht'⟩ := k.tab P ⟨ps, e, ht⟩
  exact ⟨ps', by rw [upd_ne (ne_of_none e n)]; exact e', ht'⟩, fun b e => k.dom b (upd_none e)⟩
theorem Tape.k0 {K : PySem.W.Frag} {H H' : Hp} {t s : Addr} {ns : List Int} (h : Tape K H t s ns) (k : K0 H H') : Tape K H' t s ns := by
  obtain ⟨⟨p, v, e, r⟩, q⟩ := h
  exact ⟨⟨p, v, k.oth t _ e (fun _ z => by cases z), r⟩, q.kt k.kt⟩
theorem Tape.ne {K : PySem.W.Frag} {H : Hp} {t s b : Addr} {ns : List Int} (h : Tape K H t s ns) (n : H b = none) : b ≠ t := fun z => by
  obtain ⟨_, _, e, _⟩ := h.v
  rw [z, e] at n; cases n
/-- a list of the law's own, at b, is written -/
theorem Tape.mut {K : PySem.W.Frag} {H H' : Hp} {t s b : Addr} {ns : List Int} {o : HO} (h : Tape K H' t s ns) (h0 : Scr K t H s ns) (k : Kt t H H') (n : H b = none) (nb : b ≠ t) : Tape K (upd H' b o) t s ns := by
  obtain ⟨⟨p, v, e, r⟩, q⟩ := h
  exact ⟨⟨p, v, by rw [upd_ne nb.symm]; exact e, r⟩, h0.kt (k.mut n)⟩
theorem pick8 {x d : Int} (h0 : 0 ≤ d) (h1 : d < 8) (hx : 0 ≤ x ∧ x ≤ 1000) : ∃ y : Int, atI [V.int 0, .int 1, .int 1, .int 2, .int 3, .int 7, .int 1000, .int x] d = some (.int y) ∧ 0 ≤ y ∧ y ≤ 1000 := by
  obtain ⟨k, rfl⟩ := Int.eq_ofNat_of_zero_le h0
  match k, h1 with
  | 0, _ => exact ⟨0, atI_nat rfl, by omega, by omega⟩
  | 1, _ => exact ⟨1, atI_nat rfl, by omega, by omega⟩
  | 2, _ => exact ⟨1, atI_nat rfl, by omega, by omega⟩
  | 3, _ => exact ⟨2, atI_nat rfl, by omega, by omega⟩
  | 4, _ => exact ⟨3, atI_nat rfl, by omega, by omega⟩
  | 5, _ => exact ⟨7, atI_nat rfl, by omega, by omega⟩
  | 6, _ => exact ⟨1000, atI_nat rfl, by omega, by omega⟩
  | 7, _ => exact ⟨x, atI_nat rfl, hx⟩
  | k + 8, h => exact absurd h (by omega)
theorem pick7 {x d : Int} (h0 : 0 ≤ d) (h1 : d < 7) (hx : 1 ≤ x ∧ x ≤ 1000) : ∃ y : Int, atI [V.int 1, .int 1, .int 2, .int 3, .int 5, .int 1000, .int x] d = some (.int y) ∧ 1 ≤ y ∧ y ≤ 1000 := by
  obtain ⟨k, rfl⟩ := Int.eq_ofNat_of_zero_le h0
  match k, h1 with
  | 0, _ => exact ⟨1, atI_nat rfl, by omega, by omega⟩
  | 1, _ => exact ⟨1, atI_nat rfl, by omega, by omega⟩
  | 2, _ => exact ⟨2, atI_nat rfl, by omega, by omega⟩
  | 3, _ => exact ⟨3, atI_nat rfl, by omega, by omega⟩
  | 4, _ => exact ⟨5, atI_nat rfl, by omega, by omega⟩
  | 5, _ => exact ⟨1000, atI_nat rfl, by omega, by omega⟩
  | 6, _ => exact ⟨x, atI_nat rfl, hx⟩
  | k + 7, h => exact absurd h (by omega)

section
variable {P : Program} {w : World} {K : PySem.W.Frag} {mg : Str → Option Value} {base : Heap}
/-- what the law's net is -/
def NetAt (K : PySem.W.Frag) (H : Hp) (a : Addr) (n : Int) (rs : List R4) : Prop := ∃ (r : Addr) (xs : List V) (_ : Unit), SqT K H a [.int n, .ref r] ∧ SqT K H r xs ∧ True ∧ True ∧ Roads K H xs rs
theorem NetAt.kt {t : Addr} {H H' : Hp} {a : Addr} {n : Int} {rs : List R4} (h : NetAt K H a n rs) (k : Kt t H H') : NetAt K H' a n rs := by
  obtain ⟨r, xs, o, h1, h2, hc, hd, h3⟩ := h
  exact ⟨r, xs, o, k.sqT h1, k.sqT h2, hc, hd, k.roads h3⟩
def spNet (K : PySem.W.Frag) : Sp := fun vs H Q _ => ∃ (t sc : Addr) (most : Int) (ns : List Int), vs = [.ref t, .int most] ∧ Tape K H t sc ns ∧ 1 ≤ most ∧ most ≤ 12 ∧
  ∀ (a : Addr) (n : Int) (rs : List R4) (H' : Hp), Kt t H H' → Tape K H' t sc ns → NetAt K H' a n rs → n ≤ most → Good n rs → rs.length ≤ 156 → Q (.ref a) H'
/-- between the turns -/
structure NI (K : PySem.W.Frag) (H : Hp) (t sc ra : Addr) (ns : List Int) (n : Int) (i j : Nat) (H3 : Hp) : Prop where
  kt : Kt t H H3
  tp : Tape K H3 t sc ns
  ex : ∃ xs rs, H3 ra = some (.lst xs) ∧ Roads K H3 xs rs ∧ Good n rs ∧ (∀ r ∈ rs, r.s < i ∨ (r.s = i ∧ r.e < j)) ∧ rs.length ≤ 12 * i + j
end
end HK

set_option Elab.async false
set_option linter.all false
set_option maxRecDepth 100000
set_option maxHeartbeats 2000000
namespace HK
open PySem PySem.Spec PyProof.Rows L2 GAl GxR
mutual
/-- data whose lists are tracked, apart from the tape -/
inductive Dq (K : PySem.W.Frag) (T : Addr → Prop) (H : Hp) : V → PyData → Prop
  | non : Dq K T H .non .none
  | bl (b : Bool) : Dq K T H (.bl b) (.bool b)
  | int (i : Int) : Dq K T H (.int i) (.int i)
  | str (x : Str) : Dq K T H (.str x) (.str x)
  | lst {a : Addr} {xs : List V} {ds : List PyData} : H a = some (.lst xs) → ¬ T a → DqAll K T H xs ds → Dq K T H (.ref a) (.list ds)
  | tup {a : Addr} {xs : List V} {ds : List PyData} : SqT K H a xs → DqAll K T H xs ds → Dq K T H (.ref a) (.tuple ds)
inductive DqAll (K : PySem.W.Frag) (T : Addr → Prop) (H : Hp) : List V → List PyData → Prop
  | nil : DqAll K T H [] []
  | cons {v : V} {vs : List V} {d : PyData} {ds : List PyData} : Dq K T H v d → DqAll K T H vs ds → DqAll K T H (v :: vs) (d :: ds)
end
mutual
theorem Dq.dp {K : PySem.W.Frag} {T : Addr → Prop} {H : Hp} : ∀ (d : PyData) (v : V), Dq K T H v d → Dp K H v d
  | .none, _, h => by cases h; exact .non
  | .bool _, _, h => by cases h; exact .bl _
  | .int _, _, h => by cases h; exact .int _
  | .str _, _, h => by cases h; exact .str _
  | .list ds, _, h => by cases h with | lst a _ b => exact .lst (.inl (.inl a)) (DqAll.dp ds _ b)
  | .tuple ds, _, h => by cases h with | tup a b => exact .tup a (DqAll.dp ds _ b)
  | .dict _, _, h => by cases h
theorem DqAll.dp {K : PySem.W.Frag} {T : Addr → Prop} {H : Hp} : ∀ (ds : List PyData) (vs : List V), DqAll K T H vs ds → DpAll K H vs ds
  | [], _, h => by cases h; exact .nil
  | d :: ds, _, h => by cases h with | cons a b => exact .cons (Dq.dp d _ a) (DqAll.dp ds _ b)
end
mutual
theorem Dq.kt {K : PySem.W.Frag} {T : Addr → Prop} {t : Addr} {H H' : Hp} (hT : T t) (k : Kt t H H') : ∀ (d : PyData) (v : V), Dq K T H v d → Dq K T H' v d
  | .none, _, h => by cases h; exact .non
  | .bool _, _, h => by cases h; exact .bl _
  | .int _, _, h => by cases h; exact .int _
  | .str _, _, h => by cases h; exact .str _
  | .list ds, _, h => by cases h with | lst a n b => exact .lst (k.oth _ _ a (fun z => n (z ▸ hT)) (fun _ z => by cases z)) n (DqAll.kt hT k ds _ b)
  | .tuple ds, _, h => by cases h with | tup a b => exact .tup (k.sqT a) (DqAll.kt hT k ds _ b)
  | .dict _, _, h => by cases h
theorem DqAll.kt {K : PySem.W.Frag} {T : Addr → Prop} {t : Addr} {H H' : Hp} (hT : T t) (k : Kt t H H') : ∀ (ds : List PyData) (vs : List V), DqAll K T H vs ds → DqAll K T H' vs ds
  | [], _, h => by cases h; exact .nil
  | d :: ds, _, h => by cases h with | cons a b => exact .cons (Dq.kt hT k d _ a) (DqAll.kt hT k ds _ b)
end
theorem DqAll.len {K : PySem.W.Frag} {T : Addr → Prop} {H : Hp} : ∀ {vs : List V} {ds : List PyData}, DqAll K T H vs ds → vs.length = ds.length
  | _, _, .nil => rfl
  | _, _, .cons _ b => by rw [List.length_cons, List.length_cons, b.len]
theorem DqAll.app {K : PySem.W.Frag} {T : Addr → Prop} {H : Hp} : ∀ {vs ws : List V} {ds es : List PyData}, DqAll K T H vs ds → DqAll K T H ws es → DqAll K T H (vs ++ ws) (ds ++ es)
  | _, _, _, _, .nil, h => h
  | _, _, _, _, .cons a b, h => .cons a (b.app h)
theorem DqAll.take {K : PySem.W.Frag} {T : Addr → Prop} {H : Hp} : ∀ {vs : List V} {ds : List PyData} (k : Nat), DqAll K T H vs ds → DqAll K T H (vs.take k) (ds.take k)
  | _, _, 0, _ => .nil
  | _, _, _ + 1, .nil => .nil
  | _, _, k + 1, .cons a b => .cons a (b.take k)
theorem DqAll.drop {K : PySem.W.Frag} {T : Addr → Prop} {H : Hp} : ∀ {vs : List V} {ds : List PyData} (k : Nat), DqAll K T H vs ds → DqAll K T H (vs.drop k) (ds.drop k)
  | _, _, 0, h => h
  | _, _, _ + 1, .nil => .nil
  | _, _, k + 1, .cons _ b => b.drop k
theorem DqAll.get {K : PySem.W.Frag} {T : Addr → Prop} {H : Hp} : ∀ {vs : List V} {ds : List PyData} {i : Nat} {x : V}, DqAll K T H vs ds → vs[i]? = some x → ∃ d, ds[i]? = some d ∧ Dq K T H x d
  | _, _, _, _, .nil, e => by simp at e
  | _, _, 0, _, .cons h _, e => by simp at e; subst e; exact ⟨_, rfl, h⟩
  | _, _, i + 1, x, .cons _ b, e => by
    obtain ⟨d, h1, h2⟩ := DqAll.get (i := i) (x := x) b (by simpa using e)
    exact ⟨d, by simpa using h1, h2⟩
theorem DqAll.rev {K : PySem.W.Frag} {T : Addr → Prop} {H : Hp} : ∀ {vs : List V} {ds : List PyData}, DqAll K T H vs ds → DqAll K T H vs.reverse ds.reverse
  | _, _, .nil => .nil
  | _, _, .cons a b => by
    rw [List.reverse_cons, List.reverse_cons]
    exact b.rev.app (.cons a .nil)
theorem roads_dq {K : PySem.W.Frag} {T : Addr → Prop} {H : Hp} : ∀ {xs : List V} {rs : List R4}, Roads K H xs rs → DqAll K T H xs (rs.map R4.d)
  | _, [], .nil => .nil
  | _, r :: rs, .cons a b => .cons (by
      obtain ⟨p, rfl, h⟩ := dp_r4 (r := r) a
      exact .tup h (.cons (.int _) (.cons (.int _) (.cons (.int _) (.cons (.int _) .nil))))) (roads_dq (rs := rs) b)

/-- what stays, the tape a tape -/
structure Kp (K : PySem.W.Frag) (t sc : Addr) (ns : List Int) (H H' : Hp) : Prop where
  kt : Kt t H H'
  tp : Tape K H t sc ns → Tape K H' t sc ns
theorem Kp.refl {K : PySem.W.Frag} {t sc : Addr} {ns : List Int} (H : Hp) : Kp K t sc ns H H := ⟨Kt.refl _ _, fun h => h⟩
theorem Kp.trans {K : PySem.W.Frag} {t sc : Addr} {ns : List Int} {H H1 H2 : Hp} (a : Kp K t sc ns H H1) (b : Kp K t sc ns H1 H2) : Kp K t sc ns H H2 := ⟨a.kt.trans b.kt, fun h => b.tp (a.tp h)⟩
theorem K0.kp {K : PySem.W.Frag} {t sc : Addr} {ns : List Int} {H H' : Hp} (k : K0 H H') : Kp K t sc ns H H' := ⟨k.kt, fun h => h.k0 k⟩

section
variable {K : PySem.W.Frag} {T : Addr → Prop} {t sc : Addr} {ns : List Int} {H0 : Hp} {σ : L2.St}
/-- an expression makes data of which P holds -/
def Mk (K : PySem.W.Frag) (T : Addr → Prop) (t sc : Addr) (ns : List Int) (H0 : Hp) (σ : L2.St) (te : TE) (P : PyData → Prop) : Prop := T t → (∀ b, T b → H0 b ≠ none) → ∀ H, Kp K t sc ns H0 H → ∀ Q : VK, (∀ v H' d, Kp K t sc ns H H' → P d → Dq K T H' v d → Q v H') → te σ H Q
def MkL (K : PySem.W.Frag) (T : Addr → Prop) (t sc : Addr) (ns : List Int) (H0 : Hp) (σ : L2.St) (ta : TA) (P : List PyData → Prop) : Prop := T t → (∀ b, T b → H0 b ≠ none) → ∀ H, Kp K t sc ns H0 H → ∀ Q : List V → Hp → Prop, (∀ vs H' ds, Kp K t sc ns H H' → P ds → DqAll K T H' vs ds → Q vs H') → ta σ H Q
def MkI (K : PySem.W.Frag) (T : Addr → Prop) (t sc : Addr) (ns : List Int) (H0 : Hp) (σ : L2.St) (te : TE) (i : Int) : Prop := Mk K T t sc ns H0 σ te (· = .int i)
theorem Mk.imp {te : TE} {P P' : PyData → Prop} (h : Mk K T t sc ns H0 σ te P) (i : ∀ d, P d → P' d) : Mk K T t sc ns H0 σ te P' := fun hTt hdm H k Q q => h hTt hdm H k Q fun v H' d k' p dq => q v H' d k' (i d p) dq
theorem mk_int {i : Int} : Mk K T t sc ns H0 σ (tC (.int i)) (· = .int i) := fun _ _ H _ _ q => q _ H _ (Kp.refl H) rfl (.int i)
theorem mk_bl {b : Bool} : Mk K T t sc ns H0 σ (tC (.bl b)) (· = .bool b) := fun _ _ H _ _ q => q _ H _ (Kp.refl H) rfl (.bl b)
theorem mk_non : Mk K T t sc ns H0 σ (tC .non) (· = .none) := fun _ _ H _ _ q => q _ H _ (Kp.refl H) rfl .non
theorem mk_str {x : Str} : Mk K T t sc ns H0 σ (tC (.str x)) (· = .str x) := fun _ _ H _ _ q => q _ H _ (Kp.refl H) rfl (.str x)
theorem mk_var {i : Nat} {v : V} {d : PyData} (e : σ[i]? = some (some v)) (h : Dq K T H0 v d) : Mk K T t sc ns H0 σ (tVar i) (· = d) := fun hTt hdm H k _ q => ⟨v, e, q v H d (Kp.refl H) rfl (Dq.kt hTt k.kt d v h)⟩
theorem mk_add {ta tb : TE} {i j : Int} (ha : Mk K T t sc ns H0 σ ta (· = .int i)) (hb : Mk K T t sc ns H0 σ tb (· = .int j)) : Mk K T t sc ns H0 σ (tOp (rI0 fun i j => .int (i + j)) ta tb) (· = .int (i + j)) := fun hTt hdm H k Q q => ha hTt hdm H k _ fun v H1 d k1 e dq => by
  subst e; cases dq
  exact hb hTt hdm H1 (k.trans k1) _ fun v H2 d k2 e dq => by
    subst e; cases dq
    exact ⟨i, j, rfl, rfl, q _ H2 _ (k1.trans k2) rfl (.int _)⟩
theorem mk_sub {ta tb : TE} {i j : Int} (ha : Mk K T t sc ns H0 σ ta (· = .int i)) (hb : Mk K T t sc ns H0 σ tb (· = .int j)) : Mk K T t sc ns H0 σ (tOp (rI0 fun i j => .int (i - j)) ta tb) (· = .int (i - j)) := fun hTt hdm H k Q q => ha hTt hdm H k _ fun v H1 d k1 e dq => by
  subst e; cases dq
  exact hb hTt hdm H1 (k.trans k1) _ fun v H2 d k2 e dq => by
    subst e; cases dq
    exact ⟨i, j, rfl, rfl, q _ H2 _ (k1.trans k2) rfl (.int _)⟩
theorem mk_neg {ta : TE} {i : Int} (ha : Mk K T t sc ns H0 σ ta (· = .int i)) : Mk K T t sc ns H0 σ (tUn (rU fun i => .int (-i)) ta) (· = .int (-i)) := fun hTt hdm H k Q q => ha hTt hdm H k _ fun v H1 d k1 e dq => by
  subst e; cases dq
  exact ⟨i, rfl, q _ H1 _ k1 rfl (.int _)⟩
theorem mkl_nil : MkL K T t sc ns H0 σ tNil (· = []) := fun _ _ H _ _ q => q [] H [] (Kp.refl H) rfl .nil
theorem mkl_cons {te : TE} {ta : TA} {d : PyData} {ds : List PyData} (h : Mk K T t sc ns H0 σ te (· = d)) (hr : MkL K T t sc ns H0 σ ta (· = ds)) : MkL K T t sc ns H0 σ (tCons te ta) (· = d :: ds) := fun hTt hdm H k Q q => h hTt hdm H k _ fun v H1 d1 k1 e dq => hr hTt hdm H1 (k.trans k1) _ fun vs H2 es k2 e2 dqs => by
  subst e e2
  exact q _ H2 _ (k1.trans k2) rfl (.cons (Dq.kt hTt k2.kt _ _ dq) dqs)
theorem mkl_consP {te : TE} {ta : TA} {P : PyData → Prop} {ds : List PyData} (h : Mk K T t sc ns H0 σ te P) (hr : MkL K T t sc ns H0 σ ta (· = ds)) : MkL K T t sc ns H0 σ (tCons te ta) (fun l => ∃ d, P d ∧ l = d :: ds) := fun hTt hdm H k Q q => h hTt hdm H k _ fun v H1 d1 k1 e dq => hr hTt hdm H1 (k.trans k1) _ fun vs H2 es k2 e2 dqs => by
  subst e2
  exact q _ H2 _ (k1.trans k2) ⟨d1, e, rfl⟩ (.cons (Dq.kt hTt k2.kt _ _ dq) dqs)
theorem mk_tup {ta : TA} {P : List PyData → Prop} (h : MkL K T t sc ns H0 σ ta P) (hl : ∀ ds, P ds → ds.length ≤ 1000) : Mk K T t sc ns H0 σ (tTup ta) (fun d => ∃ ds, P ds ∧ d = .tuple ds) := fun hTt hdm H k Q q => h hTt hdm H k _ fun vs H1 ds k1 p dqs => by
  refine ⟨by rw [dqs.len]; exact Nat.le_of_lt (small1000 (hl ds p)), fun a na => ?_⟩
  have kn : K0 H1 (upd H1 a (.tup vs)) := K0.new na
  exact q _ _ _ (k1.trans kn.kp) ⟨ds, p, rfl⟩ (.tup (.inl (.inl upd_same)) (DqAll.kt hTt kn.kt _ _ dqs))
theorem mk_tupE {ta : TA} {ds : List PyData} (h : MkL K T t sc ns H0 σ ta (· = ds)) (hl : ds.length ≤ 1000 := by decide) : Mk K T t sc ns H0 σ (tTup ta) (· = .tuple ds) := (mk_tup h fun es e => by rw [e]; exact hl).imp fun d ⟨es, e, e2⟩ => by rw [e2, e]
theorem mk_lst {ta : TA} {P : List PyData → Prop} (h : MkL K T t sc ns H0 σ ta P) (hl : ∀ ds, P ds → ds.length ≤ 1000) : Mk K T t sc ns H0 σ (tLst ta) (fun d => ∃ ds, P ds ∧ d = .list ds) := fun hTt hdm H k Q q => h hTt hdm H k _ fun vs H1 ds k1 p dqs => by
  refine ⟨by rw [dqs.len]; exact Nat.le_of_lt (small1000 (hl ds p)), fun a na => ?_⟩
  have kn : K0 H1 (upd H1 a (.lst vs)) := K0.new na
  exact q _ _ _ (k1.trans kn.kp) ⟨ds, p, rfl⟩ (.lst upd_same (fun z => hdm _ z ((k.trans k1).kt.dom _ na)) (DqAll.kt hTt kn.kt _ _ dqs))
theorem mk_lstE {ta : TA} {ds : List PyData} (h : MkL K T t sc ns H0 σ ta (· = ds)) (hl : ds.length ≤ 1000 := by decide) : Mk K T t sc ns H0 σ (tLst ta) (· = .list ds) := (mk_lst h fun es e => by rw [e]; exact hl).imp fun d ⟨es, e, e2⟩ => by rw [e2, e]
/-- xs + ys, two lists -/
theorem mk_catL {ta tb : TE} {ds es : List PyData} (ha : Mk K T t sc ns H0 σ ta (· = .list ds)) (hb : Mk K T t sc ns H0 σ tb (· = .list es)) (hl : ds.length + es.length ≤ 1000 := by decide) : Mk K T t sc ns H0 σ (tOp rCat ta tb) (· = .list (ds ++ es)) := fun hTt hdm H k Q q => ha hTt hdm H k _ fun v H1 d k1 e dq => by
  subst e
  exact hb hTt hdm H1 (k.trans k1) _ fun v2 H2 d k2 e dq2 => by
    subst e
    have dq' := Dq.kt hTt k2.kt _ _ dq
    cases dq' with
    | @lst a xs _ h1 n1 a1 => cases dq2 with
      | @lst b ys _ h2 n2 a2 =>
        refine ⟨_, _, _, _, rfl, rfl, h1, h2, ?_, fun p np => ?_⟩
        · rw [a1.len, a2.len]; exact Nat.le_of_lt (small1000 hl)
        · have kn : K0 H2 (upd H2 p (.lst (xs ++ ys))) := K0.new np
          exact q _ _ _ ((k1.trans k2).trans kn.kp) rfl (.lst upd_same (fun z => hdm _ z (((k.trans k1).trans k2).kt.dom _ np)) (DqAll.kt hTt kn.kt _ _ (a1.app a2)))
/-- t + u, two tuples -/
theorem mk_catT {ta tb : TE} {P1 P2 : List PyData → Prop} (ha : Mk K T t sc ns H0 σ ta (fun d => ∃ ds, P1 ds ∧ d = .tuple ds)) (hb : Mk K T t sc ns H0 σ tb (fun d => ∃ ds, P2 ds ∧ d = .tuple ds)) (hl : ∀ ds es, P1 ds → P2 es → ds.length + es.length ≤ 1000) :
    Mk K T t sc ns H0 σ (tOp (rCatA K) ta tb) (fun d => ∃ ds, (∃ d1 d2, P1 d1 ∧ P2 d2 ∧ ds = d1 ++ d2) ∧ d = .tuple ds) := fun hTt hdm H k Q q => ha hTt hdm H k _ fun v H1 d k1 e dq => by
  obtain ⟨ds, p1, rfl⟩ := e
  exact hb hTt hdm H1 (k.trans k1) _ fun v2 H2 d k2 e dq2 => by
    obtain ⟨es, p2, rfl⟩ := e
    have dq' := Dq.kt hTt k2.kt _ _ dq
    cases dq' with
    | @tup a xs _ h1 a1 => cases dq2 with
      | @tup b ys _ h2 a2 =>
        refine ⟨_, _, _, _, rfl, rfl, h1, h2, ?_, fun e => ?_, fun e1 e2 => ?_, fun _ _ p np => ?_⟩
        · rw [a1.len, a2.len]; exact Nat.le_of_lt (small1000 (hl _ _ p1 p2))
        · subst e
          cases a1
          exact q _ _ _ (k1.trans k2) ⟨es, ⟨[], es, p1, p2, rfl⟩, rfl⟩ (.tup h2 a2)
        · subst e2
          cases a2
          exact q _ _ _ (k1.trans k2) ⟨ds, ⟨ds, [], p1, p2, by simp⟩, rfl⟩ (.tup h1 a1)
        · have kn : K0 H2 (upd H2 p (.tup (xs ++ ys))) := K0.new np
          exact q _ _ _ ((k1.trans k2).trans kn.kp) ⟨_, ⟨ds, es, p1, p2, rfl⟩, rfl⟩ (.tup (.inl (.inl upd_same)) (DqAll.kt hTt kn.kt _ _ (a1.app a2)))
def cutD (ds : List PyData) (lo hi : Option Int) : List PyData := (ds.drop (HT.sIx ds.length 0 lo)).take (HT.sIx ds.length ds.length hi - HT.sIx ds.length 0 lo)
def MkO (K : PySem.W.Frag) (T : Addr → Prop) (t sc : Addr) (ns : List Int) (H0 : Hp) (σ : L2.St) (to : TO) (o : Option Int) : Prop := T t → (∀ b, T b → H0 b ≠ none) → ∀ H, Kp K t sc ns H0 H → ∀ Q : Option Int → Hp → Prop, (∀ H', Kp K t sc ns H H' → Q o H') → to σ H Q
theorem mko_none : MkO K T t sc ns H0 σ tNoPart none := fun _ _ H _ _ q => q H (Kp.refl H)
theorem mko_some {te : TE} {i : Int} (h : Mk K T t sc ns H0 σ te (· = .int i)) : MkO K T t sc ns H0 σ (tPart te) (some i) := fun hTt hdm H k _ q => h hTt hdm H k _ fun v H1 d k1 e dq => by
  subst e; cases dq
  exact ⟨i, rfl, q H1 k1⟩
theorem mk_sl {te : TE} {tl th : TO} {lo hi : Option Int} {ds : List PyData} (h : Mk K T t sc ns H0 σ te (· = .tuple ds)) (h1 : MkO K T t sc ns H0 σ tl lo) (h2 : MkO K T t sc ns H0 σ th hi) : Mk K T t sc ns H0 σ (tSl (rSlA K) te tl th) (· = .tuple (cutD ds lo hi)) := fun hTt hdm H k Q q => h hTt hdm H k _ fun v H1 d k1 e dq => by
  subst e
  exact h1 hTt hdm H1 (k.trans k1) _ fun H2 k2 => h2 hTt hdm H2 ((k.trans k1).trans k2) _ fun H3 k3 => by
    have dq' := Dq.kt hTt (k2.trans k3).kt _ _ dq
    cases dq' with
    | @tup a xs _ hq hall =>
      refine ⟨_, _, rfl, hq, fun hw => ?_, fun hw p np => ?_⟩
      · have : cutD ds lo hi = ds := by
          unfold cutD
          rw [← hall.len, hw.1, hw.2, List.drop_zero, Nat.sub_zero]
          exact List.take_of_length_le (by rw [hall.len]; exact Nat.le_refl _)
        rw [this] at q
        exact q _ H3 _ ((k1.trans k2).trans k3) rfl (.tup hq hall)
      · have kn : K0 H3 (upd H3 p (.tup (cutV xs lo hi))) := K0.new np
        refine q _ _ _ (((k1.trans k2).trans k3).trans kn.kp) rfl (.tup (.inl (.inl upd_same)) (DqAll.kt hTt kn.kt _ _ ?_))
        unfold cutV cutD
        rw [hall.len]
        exact (hall.drop _).take _
/-- t[i], a tuple at a written place -/
theorem mk_ixT {te ti : TE} {ds : List PyData} {j : Nat} {d : PyData} (h : Mk K T t sc ns H0 σ te (· = .tuple ds)) (hi : Mk K T t sc ns H0 σ ti (· = .int j)) (hd : ds[j]? = some d) : Mk K T t sc ns H0 σ (tOp (rIxT K) te ti) (· = d) := fun hTt hdm H k Q q => h hTt hdm H k _ fun v H1 d1 k1 e dq => by
  subst e
  exact hi hTt hdm H1 (k.trans k1) _ fun v2 H2 d2 k2 e dq2 => by
    subst e; cases dq2
    have dq' := Dq.kt hTt k2.kt _ _ dq
    cases dq' with
    | @tup a xs _ hq hall =>
      have hl : j < xs.length := by rw [hall.len]; exact (List.getElem?_eq_some_iff.mp hd).1
      obtain ⟨d', e1, e2⟩ := hall.get (List.getElem?_eq_getElem hl)
      rw [hd] at e1; cases e1
      exact ⟨_, _, _, _, rfl, rfl, hq, atI_nat (List.getElem?_eq_getElem hl), q _ H2 _ (k1.trans k2) rfl e2⟩
end
end HK

set_option Elab.async false
set_option linter.all false
set_option maxRecDepth 100000
set_option maxHeartbeats 2000000
namespace HK
open PySem PySem.Spec PyProof.Rows L2 GAl GxR
open Evl (pss_cut)
section
variable {P : Program} {w : World} {K : PySem.W.Frag} {mg : Str → Option Value} {base : Heap}
def spSome (K : PySem.W.Frag) : Sp := fun vs H Q _ => ∃ (t sc r : Addr) (ns : List Int) (xs : List V), vs = [.ref t, .ref r] ∧ Tape K H t sc ns ∧ (SqT K H r xs ∨ (H r = some (.lst xs) ∧ r ≠ t)) ∧ 0 < xs.length ∧ xs.length ≤ 100000 ∧
  ∀ (j : Nat) (x : V) (H' : Hp), xs[j]? = some x → Kp K t sc ns H H' → Q x H'
end
end HK

set_option Elab.async false
set_option linter.all false
set_option maxHeartbeats 2000000
namespace HK
/-! ### the mathematics: going through the roads as often as there are places -/
abbrev IF := Int → Option Int
def put (f : IF) (i x : Int) : IF := fun j => if j = i then some x else f j
def Le (g f : IF) : Prop := ∀ v a, f v = some a → ∃ b, g v = some b ∧ b ≤ a
theorem Le.refl (f : IF) : Le f f := fun v a h => ⟨a, h, Int.le_refl _⟩
theorem Le.trans {f g h : IF} (a : Le f g) (b : Le g h) : Le f h := fun v x e => by
  obtain ⟨y, e1, l1⟩ := b v x e
  obtain ⟨z, e2, l2⟩ := a v y e1
  exact ⟨z, e2, by omega⟩
def rlx (src g : IF) (r : R4) : IF := match src r.s with
  | none => g
  | some a => match g r.e with
    | none => put g r.e (a + r.l)
    | some b => if a + r.l < b then put g r.e (a + r.l) else g
structure IInv (n : Int) (rs : List R4) (root : Int) (f : IF) : Prop where
  rt0 : f root = some 0
  rng : ∀ v a, f v = some a → 0 ≤ v ∧ v < n ∧ 0 ≤ a
  wt : ∀ v b, f v = some b → v = root ∨ ∃ r ∈ rs, r.e = v ∧ ∃ a, f r.s = some a ∧ a + r.l ≤ b
def Closed (rs : List R4) (f : IF) : Prop := ∀ r ∈ rs, ∀ a, f r.s = some a → ∃ b, f r.e = some b ∧ b ≤ a + r.l
section
variable {n root : Int} {rs : List R4}
theorem put_inv {g : IF} {r : R4} {x a' : Int} (I : IInv n rs root g) (hr : RoadOk n r) (hm : r ∈ rs) (ha : g r.s = some a') (hx : a' + r.l ≤ x) (hlt : ∀ b, g r.e = some b → x < b) : IInv n rs root (put g r.e x) ∧ Le (put g r.e x) g := by
  have h0 := (I.rng _ _ ha).2.2
  have hl := hr.l0
  have ne : r.e ≠ root := fun z => by
    have := hlt 0 (by rw [z]; exact I.rt0)
    omega
  have le : Le (put g r.e x) g := fun v b e => by
    by_cases hv : v = r.e
    · subst hv
      exact ⟨x, if_pos rfl, Int.le_of_lt (hlt b e)⟩
    · exact ⟨b, by unfold put; rw [if_neg hv]; exact e, Int.le_refl _⟩
  refine ⟨⟨?_, fun v b e => ?_, fun v b e => ?_⟩, le⟩
  · unfold put; rw [if_neg (fun z => ne z.symm)]; exact I.rt0
  · unfold put at e
    by_cases hv : v = r.e
    · rw [if_pos hv] at e
      cases e
      rw [hv]
      exact ⟨hr.e0, hr.e1, by omega⟩
    · rw [if_neg hv] at e
      exact I.rng v b e
  · by_cases hv : v = r.e
    · unfold put at e
      rw [if_pos hv] at e
      cases e
      exact .inr ⟨r, hm, hv.symm, a', by unfold put; rw [if_neg hr.ne]; exact ha, hx⟩
    · unfold put at e
      rw [if_neg hv] at e
      rcases I.wt v b e with h | ⟨r', h1, h2, a, h3, h4⟩
      · exact .inl h
      · obtain ⟨a2, h5, h6⟩ := le _ _ h3
        exact .inr ⟨r', h1, h2, a2, h5, by omega⟩
theorem rlx_inv {src g : IF} {r : R4} (I : IInv n rs root g) (hr : RoadOk n r) (hm : r ∈ rs) (hs : Le g src) :
    IInv n rs root (rlx src g r) ∧ Le (rlx src g r) g ∧ ∀ a, src r.s = some a → ∃ b, rlx src g r r.e = some b ∧ b ≤ a + r.l := by
  unfold rlx
  cases e : src r.s with
  | none => exact ⟨I, .refl _, fun a z => by cases z⟩
  | some a =>
    obtain ⟨a', e1, l1⟩ := hs _ _ e
    cases e2 : g r.e with
    | none =>
      obtain ⟨h1, h2⟩ := put_inv (x := a + r.l) I hr hm e1 (by omega) (fun b z => by rw [e2] at z; cases z)
      exact ⟨h1, h2, fun a2 z => by cases z; exact ⟨_, if_pos rfl, Int.le_refl _⟩⟩
    | some b =>
      by_cases hb : a + r.l < b
      · simp only [hb, if_true]
        obtain ⟨h1, h2⟩ := put_inv (x := a + r.l) I hr hm e1 (by omega) (fun b' z => by rw [e2] at z; cases z; exact hb)
        exact ⟨h1, h2, fun a2 z => by cases z; exact ⟨_, if_pos rfl, Int.le_refl _⟩⟩
      · simp only [hb, if_false]
        exact ⟨I, .refl _, fun a2 z => by cases z; exact ⟨b, e2, by omega⟩⟩
def rnd (S : IF → IF) (l : List R4) (g : IF) : IF := l.foldl (fun g r => rlx (S g) g r) g
theorem rnd_inv {S : IF → IF} {f : IF} (hS : ∀ g, Le g f → Le g (S g) ∧ Le (S g) f) : ∀ (l : List R4) (g : IF), (∀ r ∈ l, r ∈ rs ∧ RoadOk n r) → IInv n rs root g → Le g f →
    IInv n rs root (rnd S l g) ∧ Le (rnd S l g) g ∧ ∀ r ∈ l, ∀ a, f r.s = some a → ∃ b, rnd S l g r.e = some b ∧ b ≤ a + r.l
  | [], g, _, I, _ => ⟨I, .refl _, fun r h => by cases h⟩
  | r :: l, g, hl, I, hf => by
    obtain ⟨s1, s2⟩ := hS g hf
    obtain ⟨i1, i2, i3⟩ := rlx_inv I (hl r (List.mem_cons_self ..)).2 (hl r (List.mem_cons_self ..)).1 s1
    obtain ⟨j1, j2, j3⟩ := rnd_inv hS l (rlx (S g) g r) (fun q h => hl q (List.mem_cons_of_mem _ h)) i1 (i2.trans hf)
    refine ⟨j1, j2.trans i2, fun q hq a ha => ?_⟩
    rcases List.mem_cons.mp hq with rfl | hq
    · obtain ⟨a', e, le⟩ := s2 _ _ ha
      obtain ⟨b, e2, le2⟩ := i3 a' e
      obtain ⟨c, e3, le3⟩ := j2 _ _ e2
      exact ⟨c, e3, by omega⟩
    · exact j3 q hq a ha
def iter (F : IF → IF) : Nat → IF → IF
  | 0, f => f
  | k + 1, f => F (iter F k f)
theorem half {D f : IF} (hok : ∀ r ∈ rs, RoadOk n r) (c : Closed rs D) (d0 : D root = some 0) (I : IInv n rs root f) : Le D f := by
  have key : ∀ (N : Nat) (v b : Int), f v = some b → b.toNat < N → ∃ c, D v = some c ∧ c ≤ b := by
    intro N
    induction N with
    | zero => intro v b _ h; omega
    | succ N ih =>
      intro v b e hb
      have h0 := (I.rng v b e).2.2
      rcases I.wt v b e with rfl | ⟨r, hm, rfl, a, e2, le⟩
      · exact ⟨0, d0, h0⟩
      · have hl := (hok r hm).l0
        have ha := (I.rng _ _ e2).2.2
        obtain ⟨x, e3, l3⟩ := ih r.s a e2 (by omega)
        obtain ⟨y, e4, l4⟩ := c r hm x e3
        exact ⟨y, e4, by omega⟩
  exact fun v b e => key (b.toNat + 1) v b e (by omega)
theorem two_same {f g : IF} (hok : ∀ r ∈ rs, RoadOk n r) (cf : Closed rs f) (If : IInv n rs root f) (cg : Closed rs g) (Ig : IInv n rs root g) : f = g := by
  have h1 := half hok cf If.rt0 Ig
  have h2 := half hok cg Ig.rt0 If
  funext v
  cases e : f v with
  | none =>
    cases e2 : g v with
    | none => rfl
    | some b => obtain ⟨c, e3, _⟩ := h1 v b e2; rw [e] at e3; cases e3
  | some a =>
    obtain ⟨b, e2, l2⟩ := h2 v a e
    obtain ⟨c, e3, l3⟩ := h1 v b e2
    rw [e] at e3
    cases e3
    rw [e2]
    have : a = b := by omega
    rw [this]
theorem countP_lt {α : Type} {p q : α → Bool} : ∀ {l : List α}, (∀ x ∈ l, p x = true → q x = true) → (∃ x ∈ l, q x = true ∧ ¬ p x = true) → l.countP p < l.countP q
  | [], _, h => by obtain ⟨x, hx, _⟩ := h; cases hx
  | y :: l, h, hx => by
    have hm : l.countP p ≤ l.countP q := List.countP_mono_left (fun x hx => h x (List.mem_cons_of_mem _ hx))
    obtain ⟨x, hx, hq, hp⟩ := hx
    rw [List.countP_cons, List.countP_cons]
    rcases List.mem_cons.mp hx with rfl | hx
    · rw [if_pos hq, if_neg hp]; omega
    · have ih := countP_lt (fun x hx => h x (List.mem_cons_of_mem _ hx)) ⟨x, hx, hq, hp⟩
      have := h y (List.mem_cons_self ..)
      by_cases hy : p y = true
      · rw [if_pos hy, if_pos (this hy)]; omega
      · rw [if_neg hy]
        split <;> omega
variable {F : IF → IF} {f0 : IF}
def Turns (n : Int) (rs : List R4) (root : Int) (F : IF → IF) : Prop := ∀ f, IInv n rs root f → IInv n rs root (F f) ∧ Le (F f) f ∧ ∀ r ∈ rs, ∀ a, f r.s = some a → ∃ b, F f r.e = some b ∧ b ≤ a + r.l
theorem iter_inv (hF : Turns n rs root F) (I0 : IInv n rs root f0) : ∀ k, IInv n rs root (iter F k f0)
  | 0 => I0
  | k + 1 => (hF _ (iter_inv hF I0 k)).1
theorem iter_le (hF : Turns n rs root F) (I0 : IInv n rs root f0) (k : Nat) : ∀ j, Le (iter F (k + j) f0) (iter F k f0)
  | 0 => .refl _
  | j + 1 => ((hF _ (iter_inv hF I0 (k + j))).2.1).trans (iter_le hF I0 k j)
theorem stab (hF : Turns n rs root F) (I0 : IInv n rs root f0) (v : Int) : ∃ K, ∀ k, K ≤ k → iter F k f0 v = iter F K f0 v := by
  have key : ∀ (N k : Nat) (m : Int), iter F k f0 v = some m → m.toNat < N → ∃ K, ∀ k, K ≤ k → iter F k f0 v = iter F K f0 v := by
    intro N
    induction N with
    | zero => intro k m _ h; omega
    | succ N ih =>
      intro k m e hm
      by_cases hh : ∀ j, k ≤ j → iter F j f0 v = some m
      · exact ⟨k, fun j hj => by rw [hh j hj, e]⟩
      · have ⟨j, hj⟩ := Classical.not_forall.mp hh
        have ⟨hk, hj⟩ := Classical.not_imp.mp hj
        obtain ⟨d, rfl⟩ := Nat.exists_eq_add_of_le hk
        obtain ⟨b, e2, l2⟩ := iter_le hF I0 k d v m e
        have hb := ((iter_inv hF I0 (k + d)).rng _ _ e2).2.2
        have : b ≠ m := fun z => hj (by rw [e2, z])
        exact ih (k + d) b e2 (by omega)
  by_cases h : ∃ k m, iter F k f0 v = some m
  · obtain ⟨k, m, e⟩ := h
    exact key (m.toNat + 1) k m e (by omega)
  · have none : ∀ k, iter F k f0 v = none := fun k => by
      cases e : iter F k f0 v with
      | none => rfl
      | some m => exact absurd ⟨k, m, e⟩ h
    exact ⟨0, fun k _ => by rw [none k, none 0]⟩
theorem stab_all (hF : Turns n rs root F) (I0 : IInv n rs root f0) : ∀ N : Nat, ∃ K, ∀ (i : Nat), i < N → ∀ k, K ≤ k → iter F k f0 (i : Int) = iter F K f0 (i : Int)
  | 0 => ⟨0, fun i h => by omega⟩
  | N + 1 => by
    obtain ⟨K1, h1⟩ := stab_all hF I0 N
    obtain ⟨K2, h2⟩ := stab hF I0 (N : Int)
    refine ⟨max K1 K2, fun i hi k hk => ?_⟩
    have a1 : K1 ≤ max K1 K2 := Nat.le_max_left ..
    have a2 : K2 ≤ max K1 K2 := Nat.le_max_right ..
    by_cases hi' : i = N
    · subst hi'
      rw [h2 k (by omega), h2 _ a2]
    · rw [h1 i (by omega) k (by omega), h1 i (by omega) _ a1]
theorem limit (hF : Turns n rs root F) (I0 : IInv n rs root f0) : ∃ D, IInv n rs root D ∧ Closed rs D := by
  obtain ⟨K, h⟩ := stab_all hF I0 n.toNat
  have same : iter F (K + 1) f0 = iter F K f0 := by
    funext v
    by_cases hv : 0 ≤ v ∧ v < n
    · obtain ⟨i, rfl⟩ := Int.eq_ofNat_of_zero_le hv.1
      exact h i (by omega) (K + 1) (by omega)
    · have none : ∀ k, iter F k f0 v = none := fun k => by
        cases e : iter F k f0 v with
        | none => rfl
        | some m =>
          have := (iter_inv hF I0 k).rng _ _ e
          exact absurd ⟨this.1, this.2.1⟩ hv
      rw [none, none]
  refine ⟨_, iter_inv hF I0 K, fun r hr a ha => ?_⟩
  obtain ⟨b, e, l⟩ := (hF _ (iter_inv hF I0 K)).2.2 r hr a ha
  exact ⟨b, by rw [← same]; exact e, l⟩
theorem conv (hok : ∀ r ∈ rs, RoadOk n r) (hF : Turns n rs root F) (I0 : IInv n rs root f0) : Closed rs (iter F n.toNat f0) := by
  obtain ⟨D, ID, cD⟩ := limit hF I0
  have low : ∀ k, Le D (iter F k f0) := fun k => half hok cD ID.rt0 (iter_inv hF I0 k)
  have stay : ∀ k v b, D v = some b → iter F k f0 v = some b → iter F (k + 1) f0 v = some b := fun k v b hd e => by
    obtain ⟨c, e1, l1⟩ := (hF _ (iter_inv hF I0 k)).2.1 v b e
    obtain ⟨c', e2, l2⟩ := low (k + 1) v c e1
    rw [hd] at e2
    cases e2
    have : c = b := by omega
    rw [← this]; exact e1
  have prog : ∀ (k N : Nat) (v b : Int), D v = some b → b.toNat < N → iter F k f0 v ≠ some b → ∃ v' b', D v' = some b' ∧ iter F k f0 v' ≠ some b' ∧ iter F (k + 1) f0 v' = some b' := by
    intro k N
    induction N with
    | zero => intro v b _ h; omega
    | succ N ih =>
      intro v b hd hb hne
      rcases ID.wt v b hd with rfl | ⟨r, hm, rfl, a, e2, le⟩
      · rw [ID.rt0] at hd
        cases hd
        exact absurd (iter_inv hF I0 k).rt0 hne
      · have hl := (hok r hm).l0
        have ha := (ID.rng _ _ e2).2.2
        by_cases hs : iter F k f0 r.s = some a
        · obtain ⟨b', e3, l3⟩ := (hF _ (iter_inv hF I0 k)).2.2 r hm a hs
          obtain ⟨c, e4, l4⟩ := low (k + 1) r.e b' e3
          rw [hd] at e4
          cases e4
          have : b' = b := by omega
          exact ⟨r.e, b, hd, hne, by rw [← this]; exact e3⟩
        · exact ih r.s a e2 (by omega) hs
  let fin : Nat → Nat → Bool := fun k i => decide (iter F k f0 (i : Int) = D (i : Int)) && (D (i : Int)).isSome
  have hn : ∀ v b, D v = some b → ∃ i : Nat, v = (i : Int) ∧ i ∈ List.range n.toNat := fun v b e => by
    have := ID.rng v b e
    obtain ⟨i, rfl⟩ := Int.eq_ofNat_of_zero_le this.1
    exact ⟨i, rfl, List.mem_range.mpr (by omega)⟩
  have main : ∀ k, (∀ v b, D v = some b → iter F k f0 v = some b) ∨ k + 1 ≤ (List.range n.toNat).countP (fin k) := by
    intro k
    induction k with
    | zero =>
      obtain ⟨i, hi, hm⟩ := hn root 0 ID.rt0
      refine .inr (List.countP_pos_iff.mpr ⟨i, hm, ?_⟩)
      show (decide (f0 (i : Int) = D (i : Int)) && (D (i : Int)).isSome) = true
      rw [← hi, I0.rt0, ID.rt0]
      rfl
    | succ k ih =>
      rcases ih with h | h
      · exact .inl fun v b e => stay k v b e (h v b e)
      · by_cases all : ∀ v b, D v = some b → iter F k f0 v = some b
        · exact .inl fun v b e => stay k v b e (all v b e)
        · refine .inr (Nat.lt_of_le_of_lt h (countP_lt (fun i _ hi => ?_) ?_))
          · have hi' := Bool.and_eq_true_iff.mp hi
            have h1 := of_decide_eq_true hi'.1
            obtain ⟨b, e⟩ := Option.isSome_iff_exists.mp hi'.2
            have := stay k i b e (h1.trans e)
            exact Bool.and_eq_true_iff.mpr ⟨decide_eq_true (this.trans e.symm), hi'.2⟩
          · have ⟨v, hv⟩ := Classical.not_forall.mp all
            have ⟨b, hb⟩ := Classical.not_forall.mp hv
            have ⟨hd, hne⟩ := Classical.not_imp.mp hb
            obtain ⟨v', b', d', n', e'⟩ := prog k (b.toNat + 1) v b hd (by omega) hne
            obtain ⟨i, rfl, hm⟩ := hn v' b' d'
            refine ⟨i, hm, Bool.and_eq_true_iff.mpr ⟨decide_eq_true (e'.trans d'.symm), by rw [d']; rfl⟩, fun z => ?_⟩
            exact n' ((of_decide_eq_true (Bool.and_eq_true_iff.mp z).1).trans d')
  have fin' : ∀ v b, D v = some b → iter F n.toNat f0 v = some b := by
    rcases main n.toNat with h | h
    · exact h
    · have := List.countP_le_length (p := fin n.toNat) (l := List.range n.toNat)
      rw [List.length_range] at this
      omega
  have eq : iter F n.toNat f0 = D := by
    funext v
    cases e : D v with
    | some b => exact fin' v b e
    | none =>
      cases e2 : iter F n.toNat f0 v with
      | none => rfl
      | some b => obtain ⟨c, e3, _⟩ := low n.toNat v b e2; rw [e] at e3; cases e3
  rw [eq]; exact cD
/-- the two ways of going through -/
theorem turns_at (hok : ∀ r ∈ rs, RoadOk n r) : Turns n rs root (fun f => rnd id rs f) := fun f I => by
  obtain ⟨h1, h2, h3⟩ := rnd_inv (S := id) (f := f) (n := n) (rs := rs) (root := root) (fun g h => ⟨.refl _, h⟩) rs f (fun r h => ⟨h, hok r h⟩) I (.refl _)
  exact ⟨h1, h2, h3⟩
theorem turns_by (hok : ∀ r ∈ rs, RoadOk n r) : Turns n rs root (fun f => rnd (fun _ => f) rs f) := fun f I => by
  obtain ⟨h1, h2, h3⟩ := rnd_inv (S := fun _ => f) (f := f) (n := n) (rs := rs) (root := root) (fun g h => ⟨h, .refl _⟩) rs f (fun r h => ⟨h, hok r h⟩) I (.refl _)
  exact ⟨h1, h2, h3⟩
def ini (root : Int) : IF := put (fun _ => none) root 0
theorem ini_inv (h0 : 0 ≤ root) (h1 : root < n) : IInv n rs root (ini root) := by
  refine ⟨if_pos rfl, fun v a e => ?_, fun v b e => ?_⟩
  · unfold ini put at e
    by_cases hv : v = root
    · rw [if_pos hv] at e; cases e; subst hv; exact ⟨h0, h1, Int.le_refl _⟩
    · rw [if_neg hv] at e; cases e
  · unfold ini put at e
    by_cases hv : v = root
    · exact .inl hv
    · rw [if_neg hv] at e; cases e
end
/-- what is found -/
def due (n : Int) (rs : List R4) (root : Int) : IF := iter (fun f => rnd id rs f) n.toNat (ini root)
theorem due_inv {n root : Int} {rs : List R4} (hok : ∀ r ∈ rs, RoadOk n r) (h0 : 0 ≤ root) (h1 : root < n) : IInv n rs root (due n rs root) := iter_inv (turns_at hok) (ini_inv h0 h1) _
theorem due_closed {n root : Int} {rs : List R4} (hok : ∀ r ∈ rs, RoadOk n r) (h0 : 0 ≤ root) (h1 : root < n) : Closed rs (due n rs root) := conv hok (turns_at hok) (ini_inv h0 h1)
theorem due_by {n root : Int} {rs : List R4} (hok : ∀ r ∈ rs, RoadOk n r) (h0 : 0 ≤ root) (h1 : root < n) : iter (fun f => rnd (fun _ => f) rs f) n.toNat (ini root) = due n rs root :=
  two_same hok (conv hok (turns_by hok) (ini_inv h0 h1)) (iter_inv (turns_by hok) (ini_inv h0 h1) _) (due_closed hok h0 h1) (due_inv hok h0 h1)
end HK

set_option Elab.async false
set_option linter.all false
set_option maxRecDepth 100000
set_option maxHeartbeats 2000000
namespace HK
open PySem PySem.Spec PyProof.Rows L2 GAl GxR
/-! ### a dict of whole numbers by whole numbers -/
structure DI (kvs : List (Key × V)) (f : IF) : Prop where
  nd : (kvs.map (·.1)).Nodup
  ks : ∀ p ∈ kvs, ∃ i x : Int, p = (Sum.inl i, V.int x)
  val : ∀ i : Int, valV kvs (Sum.inl i) = (f i).map V.int
theorem valV_mem {κ : Type} [DecidableEq κ] : ∀ {kvs : List (κ × V)} {p : κ × V}, (kvs.map (·.1)).Nodup → p ∈ kvs → valV kvs p.1 = some p.2
  | q :: r, p, nd, h => by
    have nd' := List.nodup_cons.mp nd
    rcases List.mem_cons.mp h with rfl | h
    · exact valV_pos rfl
    · have : ¬ q.1 = p.1 := fun z => nd'.1 (List.mem_map.mpr ⟨p, h, z.symm⟩)
      rw [valV_neg this]
      exact valV_mem nd'.2 h
theorem DI.at_ {kvs : List (Key × V)} {f : IF} (h : DI kvs f) {p : Key × V} (hp : p ∈ kvs) : ∃ i x : Int, p = (Sum.inl i, V.int x) ∧ f i = some x := by
  obtain ⟨i, x, rfl⟩ := h.ks p hp
  have e := valV_mem h.nd hp
  rw [h.val] at e
  cases e2 : f i with
  | none => rw [e2] at e; cases e
  | some y => rw [e2] at e; cases e; exact ⟨i, _, rfl, e2⟩
theorem DI.mem {kvs : List (Key × V)} {f : IF} (h : DI kvs f) (i : Int) : (Sum.inl i : Key) ∈ kvs.map (·.1) ↔ (f i).isSome = true := by
  constructor
  · intro hm
    obtain ⟨p, hp, e⟩ := List.mem_map.mp hm
    obtain ⟨j, x, rfl, e2⟩ := h.at_ hp
    have e : (Sum.inl j : Key) = Sum.inl i := e
    cases e
    rw [e2]; rfl
  · intro hs
    obtain ⟨x, e⟩ := Option.isSome_iff_exists.mp hs
    exact valV_in (v := .int x) (by rw [h.val, e]; rfl)
theorem DI.put {kvs : List (Key × V)} {f : IF} (h : DI kvs f) (i x : Int) : DI (putK kvs (Sum.inl i) (.int x)) (HK.put f i x) := by
  refine ⟨?_, fun p hp => ?_, fun j => ?_⟩
  · cases e : valV kvs (Sum.inl i) with
    | none => exact nd_putK _ h.nd e
    | some v =>
      unfold putK
      rw [valV_any, e]
      simp only [Option.isSome_some, if_true]
      have : (kvs.map fun kv => if kv.1 = (Sum.inl i : Key) then (kv.1, V.int x) else kv).map (·.1) = kvs.map (·.1) := by
        rw [List.map_map]
        exact List.map_congr_left fun p _ => by
          show (if p.1 = (Sum.inl i : Key) then (p.1, V.int x) else p).1 = p.1
          split <;> rfl
      rw [this]; exact h.nd
  · unfold putK at hp
    split at hp
    · obtain ⟨q, hq, rfl⟩ := List.mem_map.mp hp
      obtain ⟨j, y, rfl⟩ := h.ks q hq
      by_cases e : (Sum.inl j : Key) = Sum.inl i
      · exact ⟨j, x, by simp only [e, if_true]⟩
      · exact ⟨j, y, by simp only [e, if_false]⟩
    · rcases List.mem_append.mp hp with hp | hp
      · exact h.ks p hp
      · exact ⟨i, x, List.mem_singleton.mp hp⟩
  · rw [valV_put, h.val]
    unfold HK.put
    by_cases e : j = i
    · subst e; simp
    · simp [e]
theorem DI.one (root : Int) : DI (mergeK [] [(Sum.inl root, V.int 0)]) (ini root) := by
  have h0 : DI [] (fun _ => none) := ⟨List.nodup_nil, fun p hp => (by cases hp), fun i => rfl⟩
  exact h0.put root 0
theorem DI.same {ks ls : List (Key × V)} {f : IF} (h : DI ks f) (g : DI ls f) : ks.length = ls.length ∧ ∀ p ∈ ks, valV ls p.1 = some p.2 ∧ flatB p.2 = true := by
  constructor
  · have : (ks.map (·.1)).Perm (ls.map (·.1)) := (List.perm_ext_iff_of_nodup h.nd g.nd).mpr fun k => by
      cases k with
      | inl i => rw [h.mem, g.mem]
      | inr s =>
        constructor
        · intro hm
          obtain ⟨p, hp, e⟩ := List.mem_map.mp hm
          obtain ⟨j, x, rfl⟩ := h.ks p hp
          cases e
        · intro hm
          obtain ⟨p, hp, e⟩ := List.mem_map.mp hm
          obtain ⟨j, x, rfl⟩ := g.ks p hp
          cases e
    have := this.length_eq
    rwa [List.length_map, List.length_map] at this
  · intro p hp
    obtain ⟨i, x, rfl, e⟩ := h.at_ hp
    exact ⟨by show valV ls (Sum.inl i) = _; rw [g.val, e]; rfl, rfl⟩
theorem DI.pair {kvs : List (Key × V)} {f : IF} (h : DI kvs f) {v x : Int} (e : f v = some x) : (Sum.inl v, V.int x) ∈ kvs := by
  have := (h.mem v).mpr (by rw [e]; rfl)
  obtain ⟨pp, hpp, ep⟩ := List.mem_map.mp this
  obtain ⟨j, z, rfl, ej⟩ := h.at_ hpp
  cases ep
  rw [e] at ej
  cases ej
  exact hpp
theorem rnd_take {S : IF → IF} {rs : List R4} {g : IF} {j : Nat} {r : R4} (h : rs[j]? = some r) : rnd S (rs.take (j + 1)) g = rlx (S (rnd S (rs.take j) g)) (rnd S (rs.take j) g) r := by
  have : rs.take (j + 1) = rs.take j ++ [r] := by rw [List.take_add_one, h]; rfl
  rw [this]
  unfold rnd
  rw [List.foldl_append]
  rfl
/-! ### a good net is one -/
def pr (r : R4) : List Int := [r.s, r.e]
theorem pairs_map (rs : List R4) : (rs.map R4.d).map pairD = rs.map pr := by rw [List.map_map]; rfl
abbrev nt (m : PyData) (ds : List PyData) : PyData := .tuple [m, .tuple ds]
theorem lex_fore {a b : R4} (h : a.lt b) : HT.lexLt (pr a) (pr b) = true := by
  have h : a.s < b.s ∨ (a.s = b.s ∧ a.e < b.e) := h
  simp only [pr, HT.lexLt]
  rcases h with h | ⟨h, h2⟩
  · rw [if_neg (by omega)]
    exact decide_eq_true (by omega)
  · rw [if_pos h, if_neg (by omega)]
    exact decide_eq_true (by omega)
/-- a good net is one -/
theorem road_yes {n : Int} {r : R4} (h : RoadOk n r) : isRoadD n r.d = true := by
  obtain ⟨h1, h2, h3, h4, h5, h6, h7, h8, h9⟩ := h
  have a1 : r.s ≤ n - 1 := by omega
  have a2 : r.e ≤ n - 1 := by omega
  simp [R4.d, isRoadD, withinD, neD, h1, a1, h3, a2, h5, h6, h7, h8, h9]
theorem net_yes {n : Int} {rs : List R4} (G : Good n rs) : isNetD (nt (.int n) (rs.map R4.d)) = true := by
  show ((decide (1 ≤ n) && decide (n ≤ 12)) && (((rs.map R4.d).all (isRoadD n)) && risesB ((rs.map R4.d).map pairD))) = true
  rw [decide_eq_true G.n1, decide_eq_true G.n2, pairs_map]
  have h1 : (rs.map R4.d).all (isRoadD n) = true := by
    rw [List.all_map, List.all_eq_true]
    exact fun r hr => road_yes (G.ok r hr)
  have h2 : risesB (rs.map pr) = true := risesB_yes fun j hj => by
    rw [List.length_map] at hj
    have hp := List.pairwise_iff_getElem.mp G.up j (j + 1) (by omega) (by omega) (by omega)
    have e1 : (rs.map pr).getD j [] = pr rs[j] := by simp [List.getD_eq_getElem?_getD, List.getElem?_eq_getElem (show j < rs.length by omega)]
    have e2 : (rs.map pr).getD (j + 1) [] = pr rs[j + 1] := by simp [List.getD_eq_getElem?_getD, List.getElem?_eq_getElem (show j + 1 < rs.length by omega)]
    rw [e1, e2]
    exact lex_fore hp
  rw [h1, h2]
  rfl
theorem NetAt.k0 {K : PySem.W.Frag} {H H' : Hp} {a : Addr} {n : Int} {rs : List R4} (h : NetAt K H a n rs) (k : K0 H H') : NetAt K H' a n rs := h.kt (k.kt (t := 0))
theorem NetAt.ans {K : PySem.W.Frag} {H : Hp} {a : Addr} {n : Int} {rs : List R4} (h : NetAt K H a n rs) (G : Good n rs) (hl : rs.length ≤ 156) : NetAns K H (.ref a) true := by
  obtain ⟨r, xs, o, h1, h2, hc, hd, h3⟩ := h
  refine .inl ⟨nt (.int n) (rs.map R4.d), .tup h1 (.cons (.int _) (.cons (.tup (h2) h3) .nil)), fun m rs' e => ?_, (net_yes G).symm⟩
  cases e
  rw [List.length_map]; omega
end HK

set_option Elab.async false
set_option linter.all false
set_option maxRecDepth 100000
set_option maxHeartbeats 2000000
namespace HK
open PySem PySem.Spec PyProof.Rows L2 GAl GxR
abbrev sNeedNet : Stmt := topS 24
theorem scNeedNet : FnScope ["net"] ["net"] (defScope sNeedNet) := ⟨rfl, rfl, rfl, by decide +kernel, rfl, by decide +kernel, by decide +kernel⟩
theorem K0.lock {H H' : Hp} {p : Addr} {u : HO} {od : Obj} (h : H p = some u) (nt : ∀ ps, u ≠ .tbl ps) (k : K0 (upd H p (.frz od u)) H') : K0 H (upd H' p u) := by
  refine ⟨fun b o e m => ?_, fun P hP => ?_, fun b e => ?_⟩
  · by_cases hb : b = p
    · subst hb
      rw [h] at e
      cases e
      exact upd_same
    · rw [upd_ne hb]
      exact k.oth b o (by rw [upd_ne hb]; exact e) m
  · obtain ⟨ps, e, ht⟩ := hP
    have hb : P ≠ p := fun z => by
      rw [z, h] at e
      exact nt ps (Option.some.inj e)
    obtain ⟨ps', e', ht'⟩ := k.tab P ⟨ps, by rw [upd_ne hb]; exact e, ht⟩
    exact ⟨ps', by rw [upd_ne hb]; exact e', ht'⟩
  · by_cases hb : b = p
    · rw [hb, upd_same] at e; cases e
    · rw [upd_ne hb] at e
      have := k.dom b e
      rwa [upd_ne hb] at this
section
variable {P : Program} {w : World} {K : PySem.W.Frag} {mg : Str → Option Value} {base : Heap}
def spIsPlace (K : PySem.W.Frag) : Sp := fun vs H Q _ => ∃ (a : Addr) (n : Int) (rs : List R4) (v : Int), vs = [.ref a, .int v] ∧ NetAt K H a n rs ∧ Q (.bl (decide (0 ≤ v) && decide (v ≤ n - 1))) H
def spNeedNet (K : PySem.W.Frag) (Pn Pr : Addr) : Sp := fun vs H Q _ => ∃ (a : Addr) (n : Int) (rs : List R4), vs = [.ref a] ∧ NetAt K H a n rs ∧ Good n rs ∧ rs.length ≤ 156 ∧ TabG H Pn ∧ TabG H Pr ∧ ∀ H', K0 H H' → Q .non H'
theorem ok_neednet {f fN Pn Pr : Addr} {fd fdN : FuncData} (F : Fun K "need_net" "need_net" sNeedNet f fd)
    (kN : PySem.W.keepIn K (.ref fN) = true) (bN : Binds K fdN ["thing"] []) (gN : mg "is_net" = some (.ref fN)) (GN : FnOk P w K mg base CX0 5 fN fdN ["thing"] (spIsNet K Pn Pr)) :
    FnOk P w K mg base CX0 6 f fd ["net"] (spNeedNet K Pn Pr) := by
  refine F.ok scNeedNet (fun vs H Q E h => ?_) (fun cdv A outer s H vs Q E hr h => ?_)
  · obtain ⟨a, n, rs, rfl, _⟩ := h
    rfl
  · obtain ⟨a, n, rs, rfl, hN, hG, hl, tn, tr, q⟩ := h
    refine ⟨_, pss_one (ps_if (pt_not (pt_val (pe_call GN hr (by rfl) gN kN bN .nil pass0 (pa_cons (pv 0) pa_nil)))) pss_never pss_nil), ?_⟩
    exact ⟨_, rfl, .ref a, true, rfl, hN.ans hG hl, tn, tr, fun H' k => ⟨_, rfl, iteF (q H' k)⟩⟩
def spNeedPlace (K : PySem.W.Frag) : Sp := fun vs H Q _ => ∃ (a : Addr) (n : Int) (rs : List R4) (v : Int), vs = [.ref a, .int v] ∧ NetAt K H a n rs ∧ 0 ≤ v ∧ v < n ∧ Q .non H
theorem road_at {H : Hp} {xs : List V} {rs : List R4} {j : Nat} {x : V} (h3 : Roads K H xs rs) (hx : xs[j]? = some x) : ∃ (t : R4) (q1 : Addr), rs[j]? = some t ∧ x = .ref q1 ∧ SqT K H q1 t.vs := by
  obtain ⟨d, e1, e2⟩ := dpAll_get h3 hx
  obtain ⟨t, rfl, hrd⟩ : ∃ t : R4, d = t.d ∧ rs[j]? = some t := by
    rw [List.getElem?_map] at e1
    cases e3 : rs[j]? with
    | none => rw [e3] at e1; cases e1
    | some t => rw [e3] at e1; cases e1; exact ⟨t, rfl, rfl⟩
  obtain ⟨q1, rfl, hs⟩ := dp_r4 e2
  exact ⟨t, q1, hrd, rfl, hs⟩
theorem dget {H : Hp} {p : Addr} {kvs : List (Key × V)} {g : IF} {v x : Int} (hk : H p = some (.dK kvs)) (hD : DI kvs g) (e : g v = some x) : DGet H p (.int v) (some (.int x)) := by
  have := DGet.k (k := Sum.inl v) hk
  rw [hD.val, e] at this
  exact this
theorem inV_mem {i : Int} {js : List Int} (h : i ∈ js) : inV (.int i) (js.map V.int) = true := by
  unfold inV
  rw [List.any_map, List.any_eq_true]
  exact ⟨i, h, by simp [eqV]⟩
theorem upd_back {H : Hp} {p : Addr} {o : HO} (h : H p = some o) : upd H p o = H := by
  funext b
  by_cases e : b = p
  · rw [e, upd_same, h]
  · rw [upd_ne e]
theorem sqT_lock {H : Hp} {a p : Addr} {xs : List V} {kvs : List (Key × V)} {o : HO} (h : SqT K H a xs) (hp : H p = some (.dK kvs)) : SqT K (upd H p o) a xs := by
  rcases h with (h | ⟨o', h⟩) | h
  · exact .inl (.inl (by rw [upd_ne (ne_of h hp (fun z => by cases z))]; exact h))
  · exact .inl (.inr ⟨o', by rw [upd_ne (ne_of h hp (fun z => by cases z))]; exact h⟩)
  · exact .inr h
end
end HK

set_option Elab.async false
set_option linter.all false
set_option maxRecDepth 100000
set_option maxHeartbeats 4000000
namespace HK
open PySem PySem.Spec PyProof.Rows L2 GAl GxR
open Evl (pss_cut)
theorem dgetR {H : Hp} {p : Addr} {kvs : List (Key × V)} {g : IF} (hk : Rd H p (.dK kvs)) (hD : DI kvs g) (v : Int) : DGet H p (.int v) ((g v).map V.int) := .inl ⟨kvs, Sum.inl v, hk, rfl, by rw [hD.val]⟩
theorem K0.rd {H H' : Hp} {p : Addr} {kvs : List (Key × V)} (k : K0 H H') (h : Rd H p (.dK kvs)) : Rd H' p (.dK kvs) := by
  rcases h with h | ⟨o, h⟩
  · exact .inl (k.oth p _ h (fun _ z => by cases z))
  · exact .inr ⟨o, k.oth p _ h (fun _ z => by cases z)⟩
section
variable {P : Program} {w : World} {K : PySem.W.Frag} {mg : Str → Option Value} {base : Heap}
theorem tabG_lock {H : Hp} {p : Addr} {u o : HO} {Pp : Addr} (h : H p = some u) (nt : ∀ ps, u ≠ .tbl ps) (hT : TabG H Pp) : TabG (upd H p o) Pp := by
  obtain ⟨ps, e, ht⟩ := hT
  exact ⟨ps, by rw [upd_ne (fun z => by rw [z, h] at e; exact nt ps (Option.some.inj e))]; exact e, ht⟩
theorem netAt_lock {H : Hp} {a p : Addr} {n : Int} {rs : List R4} {kvs : List (Key × V)} {od : Obj} (h : NetAt K H a n rs) (hp : H p = some (.dK kvs)) : NetAt K (upd H p (.frz od (.dK kvs))) a n rs := by
  obtain ⟨r, xs, o, h1, h2, hc, hd, h3⟩ := h
  refine ⟨r, xs, o, sqT_lock h1 hp, sqT_lock h2 hp, hc, hd, ?_⟩
  clear h1 h2
  unfold Roads at h3 ⊢
  induction rs generalizing xs with
  | nil => cases h3; exact .nil
  | cons r rs ih =>
    cases h3 with
    | cons a b =>
      refine .cons ?_ (ih _ b)
      obtain ⟨q, rfl, h⟩ := dp_r4 (r := r) a
      exact r4_dp (r := r) (sqT_lock h hp)
end
end HK

set_option Elab.async false
set_option linter.all false
set_option maxRecDepth 100000
set_option maxHeartbeats 4000000
namespace HK
open PySem PySem.Spec PyProof.Rows L2 GAl GxR
open Evl (pss_cut)
abbrev sBlend : Stmt := topS 32
abbrev N_scBlend : List Str := ["cell", "place", "low", "high", "last"]
theorem scBlend : FnScope N_scBlend ["cell", "place"] (defScope sBlend) := ⟨rfl, rfl, rfl, by decide +kernel, rfl, by decide +kernel, by decide +kernel⟩
abbrev sDraw : Stmt := topS 33
abbrev N_scDraw : List Str := ["tray", "many", "place", "cell", "drawn"]
theorem scDraw : FnScope N_scDraw ["tray", "many"] (defScope sDraw) := ⟨rfl, rfl, rfl, by decide +kernel, rfl, by decide +kernel, by decide +kernel⟩
/-- the tray: the script, the next place (at most b), what is left of the number -/
structure Tray (K : PySem.W.Frag) (H : Hp) (t s : Addr) (ns : List Int) (b : Int) : Prop where
  v : ∃ p v : Int, H t = some (.lst [.ref s, .int p, .int v]) ∧ 0 ≤ p ∧ 0 ≤ v ∧ p ≤ b
  scr : Scr K t H s ns
section
variable {P : Program} {w : World} {K : PySem.W.Frag} {mg : Str → Option Value} {base : Heap}
theorem Tray.le {H : Hp} {t s : Addr} {ns : List Int} {b c : Int} (h : Tray K H t s ns b) (l : b ≤ c) : Tray K H t s ns c := by
  obtain ⟨⟨p, v, e, h1, h2, h3⟩, q⟩ := h
  exact ⟨⟨p, v, e, h1, h2, by omega⟩, q⟩
theorem Tray.k0 {H H' : Hp} {t s : Addr} {ns : List Int} {b : Int} (h : Tray K H t s ns b) (k : K0 H H') : Tray K H' t s ns b := by
  obtain ⟨⟨p, v, e, r⟩, q⟩ := h
  exact ⟨⟨p, v, k.oth t _ e (fun _ z => by cases z), r⟩, q.kt k.kt⟩
theorem Tray.ne {H : Hp} {t s x : Addr} {ns : List Int} {b : Int} (h : Tray K H t s ns b) (n : H x = none) : x ≠ t := fun z => by
  obtain ⟨_, _, e, _⟩ := h.v
  rw [z, e] at n; cases n
/-- an object of the law's own, new since H, is written -/
theorem Tray.mut {H H' : Hp} {t s x : Addr} {ns : List Int} {b b' : Int} {o : HO} (h : Tray K H' t s ns b) (h0 : Tray K H t s ns b') (k : Kt t H H') (n : H x = none) : Tray K (upd H' x o) t s ns b := by
  obtain ⟨⟨p, v, e, r⟩, q⟩ := h
  exact ⟨⟨p, v, by rw [upd_ne (h0.ne n).symm]; exact e, r⟩, h0.scr.kt (k.mut n)⟩
theorem ok_blend {f : Addr} {fd : FuncData} (F : Fun K "_law_e_blend" "_law_e_blend" sBlend f fd) : FnOk P w K mg base CX0 1 f fd ["cell", "place"] (fun vs H Q _ => ∃ cell place : Int, vs = [.int cell, .int place] ∧ 0 ≤ place ∧ place ≤ 1000000000 ∧ ∀ v : Int, 0 ≤ v → Q (.int v) H) := by
  refine F.ok scBlend (fun vs H Q E h => ?_) (fun cdv A outer s H vs Q E hr h => ?_)
  · obtain ⟨a, b, rfl, _⟩ := h
    rfl
  · obtain ⟨cell, place, rfl, hp, hp2, q⟩ := h
    refine ⟨_, (pss_cons (ps_if (pt_cmpR op_ge (pv 0) (pe_op op_pow pe_int pe_int) (nomark _)) (pss_one (ps_ret (pv 0))) pss_nil)
      (pss_cut (ps_set (i := 2) scBlend.nd rfl (.inl rfl) (pe_op op_mod (pe_op op_add (pe_op op_add (pe_op op_mul (pe_op op_mod (pv 0) pe_int) pe_int) (pe_op op_mul (pv 1) pe_int)) pe_int) pe_int))
      (pss_cut (ps_set (i := 3) scBlend.nd rfl (.inl rfl) (pe_op op_mod (pe_op op_add (pe_op op_add (pe_op op_add (pe_op op_mul (pv 2) (pv 2)) (pe_op op_mul pe_int (pv 2))) (pe_op op_mul (pv 1) (pv 1))) pe_int) pe_int))
      (pss_cut (ps_set (i := 4) scBlend.nd rfl (.inl rfl) (pe_op op_mod (pe_op op_add (pe_op op_add (pe_op op_mul (pv 3) (pv 3)) (pe_op op_mul pe_int (pv 1))) (pv 2)) pe_int))
      (pss_one (ps_ret (pe_op op_add (pe_op op_mul (pv 3) pe_int) (pv 4)))))))), ?_⟩
    refine ⟨.int cell, rfl, 10, 18, rfl, rfl, ⟨by decide, by decide, by decide⟩, cell, _, rfl, rfl, _, rfl, ite2 (fun e => ?_) (fun e => ?_)⟩
    · refine ⟨.int cell, rfl, q cell ?_⟩
      have h1 : (10 : Int) ^ (18 : Int).toNat ≤ cell := of_decide_eq_true e
      have h2 : (0 : Int) ≤ (10 : Int) ^ (18 : Int).toNat := by decide
      omega
    · refine ⟨fun σ' H' => ∃ m : Int, σ' = [some (.int cell), some (.int place), some (.int m), none, none] ∧ H' = H ∧ 0 ≤ m ∧ m < 2147483497, ?_, ?_⟩
      · exact ⟨.int cell, rfl, cell, 2147483549, rfl, rfl, (show (0 : Int) < 2147483549 by decide), _, 33797, rfl, rfl, mulR (by decide) (by decide), .int place, rfl, place, 104729, rfl, rfl, mulR (by decide) (by decide), _, _, rfl, rfl, _, 29, rfl, rfl, _, 2147483497, rfl, rfl, (show (0 : Int) < 2147483497 by decide),
          _, rfl, rfl, Int.emod_nonneg _ (by decide), Int.emod_lt_of_pos _ (by decide)⟩
      rintro σ' H' ⟨m1, rfl, rfl, b1, b2⟩
      refine ⟨fun σ' H'' => ∃ m : Int, σ' = [some (.int cell), some (.int place), some (.int m1), some (.int m), none] ∧ H'' = H' ∧ 0 ≤ m ∧ m < 2147483489, ?_, ?_⟩
      · exact ⟨.int m1, rfl, .int m1, rfl, m1, m1, rfl, rfl, mulL (by omega) (by omega), .int m1, rfl, 5077, m1, rfl, rfl, mulL (by decide) (by decide), _, _, rfl, rfl, .int place, rfl, .int place, rfl, place, place, rfl, rfl, mulL (by omega) (by omega), _, _, rfl, rfl, _, 2, rfl, rfl, _, 2147483489, rfl, rfl, (show (0 : Int) < 2147483489 by decide),
          _, rfl, rfl, Int.emod_nonneg _ (by decide), Int.emod_lt_of_pos _ (by decide)⟩
      rintro σ' H'' ⟨m2, rfl, rfl, c1, c2⟩
      refine ⟨fun σ' H' => ∃ m : Int, σ' = [some (.int cell), some (.int place), some (.int m1), some (.int m2), some (.int m)] ∧ H' = H'' ∧ 0 ≤ m, ?_, ?_⟩
      · exact ⟨.int m2, rfl, .int m2, rfl, m2, m2, rfl, rfl, mulL (by omega) (by omega), .int place, rfl, 911, place, rfl, rfl, mulL (by decide) (by decide), _, _, rfl, rfl, .int m1, rfl, _, m1, rfl, rfl, _, 2147483477, rfl, rfl, (show (0 : Int) < 2147483477 by decide),
          _, rfl, rfl, Int.emod_nonneg _ (by decide)⟩
      rintro σ' H' ⟨m3, rfl, rfl, d1⟩
      refine ⟨.int m2, rfl, m2, 2147483477, rfl, rfl, mulL (by omega) (by omega), .int m3, rfl, _, m3, rfl, rfl, ?_⟩
      exact q _ (by omega)
def spDraw (K : PySem.W.Frag) : Sp := fun vs H Q _ => ∃ (t sc : Addr) (many : Int) (ns : List Int) (b : Int), vs = [.ref t, .int many] ∧ Tray K H t sc ns b ∧ b ≤ 1000000 ∧ 0 < many ∧ many ≤ 100000000000000000001 ∧
  ∀ (d : Int) (H' : Hp), 0 ≤ d → d < many → Kt t H H' → Tray K H' t sc ns (b + 1) → Q (.int d) H'
theorem ok_draw {f : Addr} {fd : FuncData} {f_blend : Addr} {fd_blend : FuncData} (F : Fun K "_law_e_draw" "_law_e_draw" sDraw f fd) (k_blend : PySem.W.keepIn K (.ref f_blend) = true) (b_blend : Binds K fd_blend ["cell", "place"] []) (g_blend : mg "_law_e_blend" = some (.ref f_blend)) (G_blend : FnOk P w K mg base CX0 1 f_blend fd_blend ["cell", "place"] (fun vs H Q _ => ∃ cell place : Int, vs = [.int cell, .int place] ∧ 0 ≤ place ∧ place ≤ 1000000000 ∧ ∀ v : Int, 0 ≤ v → Q (.int v) H)) (m_len : mg "len" = none) : FnOk P w K mg base CX0 2 f fd ["tray", "many"] (spDraw K) := by
  refine F.ok scDraw (fun vs H Q E h => ?_) (fun cdv A outer s H vs Q E hr h => ?_)
  · obtain ⟨a, b, c, ns, b, rfl, _⟩ := h
    rfl
  · obtain ⟨t, sc, many, ns, b, rfl, ⟨⟨p, v, ht, hp, hv, hpb⟩, hScr⟩, hb, hm, hm2, q⟩ := h
    have hS := hScr.sq
    have hu := hu_of hr
    refine ⟨_, (pss_cut (ps_if (pt_cmpR op_lt (pe_ix ix_list (pv 0) pe_int (fun _ _ => rfl)) (pv 1) (nomark _)) (pss_cons (ps_set (i := 2) scDraw.nd rfl (.inl rfl) (pe_ix ix_list (pv 0) pe_int (fun _ _ => rfl)))
      (pss_cons (ps_set (i := 3) scDraw.nd rfl (.inl rfl) (pe_op op_add (pe_op op_mul pe_int (pv 2)) pe_int))
      (pss_cut (ps_if (pt_cmpR op_lt (pv 2) (pe_callB call_len_seq (by rfl) m_len PySem.boot_len (pa_cons (pe_ix ix_list (pv 0) pe_int (fun _ _ => rfl)) pa_nil)) (nomark _)) (pss_one (ps_set (i := 3) scDraw.nd rfl (.inl rfl) (pe_ix ix_list (pe_ix ix_list (pv 0) pe_int (fun _ _ => rfl)) (pv 2) (fun _ _ => rfl)))) (pss_one (ps_if (pt_cmpR op_gt (pe_callB call_len_seq (by rfl) m_len PySem.boot_len (pa_cons (pe_ix ix_list (pv 0) pe_int (fun _ _ => rfl)) pa_nil)) pe_int (nomark _)) (pss_one (ps_set (i := 3) scDraw.nd rfl (.inl rfl) (pe_op op_add (pe_op op_mod (pe_ix ix_list (pe_ix ix_list (pv 0) pe_int (fun _ _ => rfl)) (pe_op op_mod (pe_op op_mul (pv 2) pe_int) (pe_callB call_len_seq (by rfl) m_len PySem.boot_len (pa_cons (pe_ix ix_list (pv 0) pe_int (fun _ _ => rfl)) pa_nil))) (fun _ _ => rfl)) pe_int) (pe_op op_mul (pv 2) pe_int)))) pss_nil)))
      (pss_cons (ps_asg (pe_op op_add (pv 2) pe_int) (pg_sub (pv 0) pe_int set_list))
      (pss_one (ps_asg (pe_call G_blend (hr.mono (by decide)) (by rfl) g_blend k_blend b_blend .nil pass0 (pa_cons (pv 3) (pa_cons (pv 2) pa_nil))) (pg_sub (pv 0) pe_int set_list))))))) pss_nil)
      (pss_cons (ps_set (i := 4) scDraw.nd rfl (.inl rfl) (pe_op op_mod (pe_ix ix_list (pv 0) pe_int (fun _ _ => rfl)) (pv 1)))
      (pss_cons (ps_asg (pe_op op_fdivW (pe_ix ix_list (pv 0) pe_int (fun _ _ => rfl)) (pv 1)) (pg_sub (pv 0) pe_int set_list))
      (pss_one (ps_ret (pv 4)))))), ?_⟩
    refine ⟨fun σ' H' => ∃ y2 y3 y4 p' v', σ' = [some (.ref t), some (.int many), y2, y3, y4] ∧ Kt t H H' ∧ H' t = some (.lst [.ref sc, .int p', .int v']) ∧ 0 ≤ p' ∧ 0 ≤ v' ∧ p' ≤ b + 1, ?_, ?_⟩
    · refine ⟨.ref t, rfl, t, _, 2, .int v, rfl, rfl, .inl (.inl ht), atI_nat (j := 2) rfl, .int many, rfl, v, many, rfl, rfl, _, rfl, ite2 (fun e => ?_) (fun e => ?_)⟩
      · refine ⟨.ref t, rfl, t, _, 1, .int p, rfl, rfl, .inl (.inl ht), atI_nat (j := 1) rfl, .int p, rfl, 13, p, rfl, rfl, mulL (by decide) (by decide), _, 1, rfl, rfl, ?_⟩
        refine ⟨fun σ' H' => ∃ c : Int, σ' = [some (.ref t), some (.int many), some (.int p), some (.int c), none] ∧ K0 H H', ?_, ?_⟩
        · refine ⟨.int p, rfl, .ref t, rfl, t, _, 0, .ref sc, rfl, rfl, .inl (.inl ht), atI_nat (j := 0) rfl, sc, _, rfl, .inl hS, p, _, rfl, rfl, _, rfl, ite2 (fun e2 => ?_) (fun e2 => ?_)⟩
          · have hlt : p < ((ns.map V.int).length : Int) := of_decide_eq_true e2
            rw [List.length_map] at hlt
            obtain ⟨j, rfl⟩ := Int.eq_ofNat_of_zero_le hp
            have hj : j < ns.length := by omega
            refine ⟨.ref t, rfl, t, _, 0, .ref sc, rfl, rfl, .inl (.inl ht), atI_nat (j := 0) rfl, _, rfl, sc, _, _, .int ns[j], rfl, rfl, hS, atI_nat (by rw [List.getElem?_map, List.getElem?_eq_getElem hj]; rfl), ?_⟩
            exact ⟨_, rfl, K0.refl _⟩
          · refine ⟨.ref t, rfl, t, _, 0, .ref sc, rfl, rfl, .inl (.inl ht), atI_nat (j := 0) rfl, sc, _, rfl, .inl hS, _, 0, rfl, rfl, _, rfl, ite2 (fun e3 => ?_) (fun e3 => ⟨_, rfl, K0.refl _⟩)⟩
            have hl' : 0 < ((ns.map V.int).length : Int) := of_decide_eq_true e3
            have hix : ∃ k : Nat, p * 5 % ((ns.map V.int).length : Int) = (k : Int) ∧ k < ns.length := by
              have h1 := Int.emod_nonneg (p * 5) (show ((ns.map V.int).length : Int) ≠ 0 by omega)
              have h2 := Int.emod_lt_of_pos (p * 5) hl'
              obtain ⟨k, hk⟩ := Int.eq_ofNat_of_zero_le h1
              rw [List.length_map] at h2
              refine ⟨k, hk, ?_⟩
              rw [List.length_map] at hk
              omega
            obtain ⟨k, hk, hkl⟩ := hix
            refine ⟨.ref t, rfl, t, _, 0, .ref sc, rfl, rfl, .inl (.inl ht), atI_nat (j := 0) rfl, .int p, rfl, p, 5, rfl, rfl, mulR (by decide) (by decide), .ref t, rfl, t, _, 0, .ref sc, rfl, rfl, .inl (.inl ht), atI_nat (j := 0) rfl, sc, _, rfl, .inl hS, _, _, rfl, rfl, hl',
              sc, _, _, .int ns[k], rfl, rfl, hS, (by rw [hk]; exact atI_nat (by rw [List.getElem?_map, List.getElem?_eq_getElem hkl]; rfl)), _, _, rfl, rfl, (show (0 : Int) < 888888883 by decide), .int p, rfl, p, 5000000, rfl, rfl, mulR (by decide) (by decide), _, _, rfl, rfl, ?_⟩
            exact ⟨_, rfl, K0.refl _⟩
        · rintro σ' H' ⟨c, rfl, k⟩
          have ht' := k.oth t _ ht (fun _ z => by cases z)
          refine ⟨.int p, rfl, p, 1, rfl, rfl, .ref t, rfl, t, _, 1, 1, rfl, rfl, ht', rfl, ?_⟩
          refine ⟨.int c, rfl, .int p, rfl, c, p, rfl, hp, by omega, fun v' hv' => ?_⟩
          refine ⟨.ref t, rfl, t, _, 2, 2, rfl, rfl, upd_same, rfl, ?_⟩
          rw [upd_upd]
          have kk : Kt t H (upd H' t (.lst [.ref sc, .int (p + 1), .int v'])) := (k.kt).trans (Kt.set ht')
          exact ⟨_, _, _, p + 1, v', rfl, kk, upd_same, by omega, hv', by omega⟩
      · exact ⟨_, _, _, p, v, rfl, Kt.refl _ _, ht, hp, hv, by omega⟩
    · rintro σ' H' ⟨y2, y3, y4, p', v', rfl, k, ht', hp', hv', hpb'⟩
      refine ⟨.ref t, rfl, t, _, 2, .int v', rfl, rfl, .inl (.inl ht'), atI_nat (j := 2) rfl, .int many, rfl, v', many, rfl, rfl, hm, ?_⟩
      refine ⟨.ref t, rfl, t, _, 2, .int v', rfl, rfl, .inl (.inl ht'), atI_nat (j := 2) rfl, .int many, rfl, v', many, rfl, rfl, ?_, .ref t, rfl, t, _, 2, 2, rfl, rfl, ht', rfl, ?_⟩
      · exact wide_div (b := 70) hm (by omega) (by decide) (by decide)
      · refine ⟨_, rfl, q _ _ (Int.emod_nonneg _ (by omega)) (Int.emod_lt_of_pos _ hm) (k.trans (Kt.set ht')) ?_⟩
        exact ⟨⟨p', v' / many, upd_same, hp', Int.ediv_nonneg hv' (by omega), hpb'⟩, hScr.kt (k.trans (Kt.set ht'))⟩
end
end HK

set_option Elab.async false
set_option linter.all false
set_option maxRecDepth 100000
set_option maxHeartbeats 2000000
namespace HkE
open PySem PySem.Spec PyProof.Rows L2 PyProof
/-! ### list.count on truths -/
def eqB (k : Bool) : Value → Bool
  | .bool b => b == k
  | _ => false
theorem vals_bools : ∀ (bs : List Bool) (us : List Value), Vals (bs.map V.bl) us → us = bs.map Value.bool
  | [], us, h => by
    cases h
    rfl
  | b :: bs, us, h => by
    cases h with
    | cons r rr =>
      rw [vals_bools bs _ rr]
      rw [show _ = Value.bool b from r]
      rfl
theorem countP_bools (k : Bool) : ∀ bs : List Bool, (bs.map Value.bool).countP (eqB k) = bs.count k
  | [] => rfl
  | b :: bs => by
    rw [List.map_cons, List.countP_cons, countP_bools k bs, List.count_cons]
    rfl
def rCntB (K : PySem.W.Frag) : V → List V → Hp → VK → Prop := fun x args H Q => ∃ (p : Addr) (bs : List Bool) (k : Bool), x = .ref p ∧ args = [.bl k] ∧ SqL K H p (bs.map V.bl) ∧ Q (.int (bs.count k : Nat)) H
theorem mt_countB {X : Cx} : MtR X "list.count" (rCntB X.K) := by
  intro pins s σ H x args v us Q I rx rargs h
  obtain ⟨p, bs, k, rfl, rfl, hp, q⟩ := h
  cases rx
  obtain ⟨u, rfl, ru⟩ := rargs.one
  obtain rfl : u = Value.bool k := ru
  obtain ⟨its, rv, ⟨⟨c, dd, dat, sl⟩, n, ho, hc, hdn, hd⟩, hlen⟩ := I.list hp
  simp only at hc hd
  subst hc
  subst hd
  obtain rfl := vals_bools bs its rv
  refine call_meets PySem.F.slot_list_count ⟨_, ho, rfl⟩ PySem.F.entry_list_count (PySem.F.args_list_count_2 _ _) (SeqAt.list_countAt p (bs.map Value.bool).toArray n dd sl (.bool k) (eqB k)) ⟨ho, ?_, ?_⟩
  · intro y hy
    have hy' : y ∈ bs.map Value.bool := by simpa using hy
    obtain ⟨b, _, rfl⟩ := List.mem_map.mp hy'
    exact PySem.SeqAt.EqAt.bool_bool b k
  · refine ⟨.int (bs.count k : Nat), H, I.tok _, ⟨s.toks, ?_⟩, q⟩
    rw [← countP_bools k bs]
end HkE

set_option Elab.async false
set_option linter.all false
set_option maxRecDepth 100000
set_option maxHeartbeats 2000000
namespace HkE
open PySem PySem.Spec PyProof.Rows L2
/-- what was caught and is kept: an object of that class -/
def Caught (cls : Value) (a : Addr) : HO := .ext fun h => ∃ oe : Obj, h.get? a = some oe ∧ Zc cls none oe ∧ ∃ vs, oe.data = .fields vs
theorem caught_ok {P : Program} {w : World} {H : Hp} {h : Heap} {a : Addr} {cls : Value} {oe : Obj} (e : h.get? a = some oe) (z : Zc cls none oe) (d : ∃ vs, oe.data = .fields vs) : ObjOk P w H h a (Caught cls a) :=
  ⟨⟨oe, e, z, d⟩, ⟨oe, e⟩, fun _ _ ⟨o, q, r⟩ k => ⟨o, k o q, r⟩⟩
section
variable {X : Cx} {σ : L2.St} {H : Hp} {s : Shared} {pins : List (Addr × Obj)}
/-- an object that wasn't there at the entry and that nothing else stands for is tracked from here on -/
theorem inv_track {a : Addr} {oe : Obj} {cls : Value} (I : Inv X pins σ H s) (h0 : X.s_0.heap.get? a = none) (na : H a = none) (nL : X.env.locals ≠ a) (np : ∀ p ∈ X.pn ++ pins, p.1 ≠ a)
    (e : s.heap.get? a = some oe) (z : Zc cls none oe) (d : ∃ vs, oe.data = .fields vs) : Inv X pins σ (upd H a (Caught cls a)) s := by
  have cne : ∀ x c, X.env.cells.lookup x = some c → c ≠ a := by
    intro x c hc hca
    obtain ⟨v, o, ho, hd⟩ := I.cell x c hc
    obtain ⟨vs, hv⟩ := d
    rw [hca] at ho
    rw [e] at ho
    cases ho
    rw [hv] at hd
    cases hd
  have other : ∀ {b : Addr} {o : HO}, H b = some o → b ≠ a := by
    intro b o hb hba
    rw [hba, na] at hb
    cases hb
  have base' : Un X.fs X.ex X.H_0 (upd H a (Caught cls a)) X.s_0.heap s.heap :=
    { keep := I.base.keep, slot := I.base.slot, there := I.base.there
      free := by
        intro b o hb n hx
        have hne : b ≠ a := by
          intro hba
          rw [hba, h0] at hb
          cases hb
        rw [upd_ne hne]
        exact I.base.free b o hb n hx
      tups := by
        intro b xs hb
        have q := I.base.tups b xs hb
        rw [upd_ne (other q)]
        exact q
      frzs := by
        intro b o u hb
        have q := I.base.frzs b o u hb
        rw [upd_ne (other q)]
        exact q
      tbls := by
        intro b ps hb
        obtain ⟨more, q⟩ := I.base.tbls b ps hb
        exact ⟨more, by rw [upd_ne (other q)]; exact q⟩ }
  exact
    { ok := I.ok, os := I.os, bare := I.bare, base := base', loc := I.loc, cell := I.cell, len := I.len
      free := by
        rw [upd_ne nL]
        exact I.free
      freeC := by
        intro x c hc
        rw [upd_ne (cne x c hc)]
        exact I.freeC x c hc
      pin := by
        intro p hp
        obtain ⟨p1, p2, p3⟩ := I.pin p hp
        exact ⟨p1, by rw [upd_ne (np p hp)]; exact p2, p3⟩
      hok := by
        intro b o hb
        by_cases hba : b = a
        · subst hba
          rw [upd_same] at hb
          cases hb
          exact caught_ok e z d
        · rw [upd_ne hba] at hb
          exact (I.hok b o hb).stay (fun _ _ _ q => q) (fun c q => by rw [upd_ne (other q)]; exact q) (fun c xs q => by rw [upd_ne (other q)]; exact q) }
end
/-- the wish of 'except c as n', where the class always matches and what is caught stays known behind the suite -/
def wHold (K : PySem.W.Frag) (c : Value) (i : Nat) (ts : Addr → Value → TS) (D : Ends) : WX := fun cls d σ H =>
  PySem.W.exmOne K cls c = some true ∧ d = none ∧ ∀ a, H a = none →
    ts a cls { nx := fun σ' H' => D.nx (σ'.set i none) (upd H' a (Caught cls a)), rt := fun _ _ => False, bk := fun _ _ => False, ct := fun _ _ => False } (σ.set i (some (.ref a))) H
section
variable {X : Cx} {x n : Str} {c : Value} {i : Nat} {body rest : List Stmt} {b₀ : Stmt} {np pos pos' : Pos} {tb : WX → TS} {ts : Addr → Value → TS}
theorem ps_try_hold (hs : X.stack = X.env :: X.outer) (hf : X.env.frame = some X.env.locals) (hx : X.ex = []) (hN : X.N.Nodup) (hi : X.N[i]? = some n) (hln : X.env.kindOf n = some .local) (hc : Names X x c)
    (hb : ∀ (W : WX) (pn : List (Addr × Obj)) (xe : Value → Shared → Prop), Takes (X.tr pn xe) W → PSs (X.tr pn xe) body (tb W))
    (hsu : ∀ (a : Addr) (cls : Value) (oe : Obj) (pn : List (Addr × Obj)), PSs (X.suite a ((a, oe) :: pn)) (b₀ :: rest) (ts a cls)) :
    PS X (.Try body [.ExceptHandler (some (.Name x np)) (some n) (b₀ :: rest) pos'] [] [] pos) (fun D σ H => tb (wHold X.K c i ts D) D σ H) := by
  constructor
  intro pins s σ H D I h
  have ok := I.ok
  have hfr : X.A.frames = some (X.env :: X.outer) := by
    rw [ok.frames]
    rw [hs]
  apply wpAny_Try_except
  have run := (hb (wHold X.K c i ts D) (X.pn ++ pins) (fun e s₁ => wpAny (model X.prog X.w) X.A (noteFrame e X.env) (fun _ s₂ => wpAny (model X.prog X.w) X.A (setFlight e none)
    (fun _ s₃ => wpAny (model X.prog X.w) X.A (handleBy e X.env [.ExceptHandler (some (.Name x np)) (some n) (b₀ :: rest) pos']) (SP X pins D) X.xe s₃) X.xe s₂) X.xe s₁) ?takes).run [] s σ H D (I.toTry _) h
  case takes =>
    rintro u s' ⟨a, B, sI, pins', σ', H', cls, d, rfl, It, nb, up, sky, na, os, ag, hm, hd0, ht⟩
    subst hd0
    have Ia : Inv X pins σ' H' sI := It.ofTry ok
    rw [show (X.tr (X.pn ++ pins) _).stack = X.stack from rfl, hs] at sky
    refine Sky.land (A := X.A) Zc.steady hfr hf sky ?_
    intro hpz flz upz
    have Iz : Inv X pins σ' H' { s' with heap := hpz } := Ia.landed nb flz.1 (up.trans upz) os ag
    obtain ⟨oz, fz, gz, kz, dz⟩ := flz.there
    have nB : B.get? a = none := flz.2.1
    have nS : a ∉ frs (X.env :: X.outer) := by
      intro hin
      obtain ⟨_, o', e', no⟩ := flz.2.2.1.mem hin
      rw [gz] at e'
      cases e'
      exact no _ dz
    have nI : sI.heap.get? a = none := by
      cases hq : sI.heap.get? a with
      | none => rfl
      | some o =>
        have q := nb a o hq (by show a ∉ frs X.stack; rw [hs]; exact nS)
        rw [nB] at q
        cases q
    have new0 : X.s_0.heap.get? a = none := by
      cases hq : X.s_0.heap.get? a with
      | none => rfl
      | some o =>
        obtain ⟨o', q⟩ := Ia.base.there a o hq (by rw [hx]; exact List.not_mem_nil)
        rw [nI] at q
        cases q
    have nL : X.env.locals ≠ a := by
      intro z
      exact nS (List.mem_filterMap.mpr ⟨X.env, List.mem_cons_self, hf.trans (congrArg some z)⟩)
    have nF : a ∉ X.fs := by
      intro hin
      obtain ⟨en, h1, h2⟩ := List.mem_filterMap.mp hin
      exact nS (List.mem_filterMap.mpr ⟨en, List.mem_cons_of_mem _ h1, h2⟩)
    have nP : ∀ p ∈ X.pn ++ pins, p.1 ≠ a := by
      intro p hp z
      have q := (Ia.pin p hp).1
      rw [z, nI] at q
      cases q
    have Sz := Iz.suite gz dz na (fun z => nL z.symm) nF
    refine wpAny_handleBy_cons (codeAny_handlers_test ?hdl) (fun q => by cases q)
    have LT : PySem.W.Looks (model X.prog X.w) hpz (typeOf (.ref a)) cls := by
      intro A1 Q1 E1 s1 k1 q1
      exact wpAny_typeOf_ref (k1 _ _ gz) (kz.1.symm ▸ q1)
    have hit := PySem.W.exm_one (M := model X.prog X.w) Iz.kIn LT hm
    have goOn : ∀ {Q1 : Value → Shared → Prop} {E1 : Value → Shared → Prop}, Q1 c { s' with heap := hpz } → wpAny (model X.prog X.w) (X.A.mark (some (.ref a))) (eval (.Name x np) X.env) Q1 E1 { s' with heap := hpz } := by
      intro Q1 E1 q1
      rcases hc with ⟨c1, c2, c3 | ⟨c3, c4, c5⟩⟩
      · exact ld_glob (X := X.suite a ((a, oz) :: (X.pn ++ pins))) Sz c1 c3 q1 c2
      · exact ld_blt (X := X.suite a ((a, oz) :: (X.pn ++ pins))) Sz c1 c3 c4 q1 c5 c2
    apply goOn
    apply hit.here
    apply codeAny_handlers_suite_as
    apply HandSPX.lands_againZ flz
    intro hpw flw upw
    have Iw : Inv X pins σ' H' { s' with heap := hpw } := Ia.landed nb flw.1 ((up.trans upz).trans upw) os ag
    obtain ⟨ow, fw, gw, kw, dw⟩ := flw.there
    have Sw := Iw.suite gw dw na (fun z => nL z.symm) nF
    refine store_ok (X := X.suite a ((a, ow) :: (X.pn ++ pins))) (v := .ref a) Sw hN hi (.inl hln) rfl ?_ (.inr hln)
    intro s5 S5
    have fin := (hsu a cls ow (X.pn ++ pins)).run [] s5 _ H' _ S5 (ht a na)
    refine wpAny_mono fin ?_ (fun _ _ z => z.elim)
    intro f sv hsp
    cases f with
    | next =>
      obtain ⟨σv, Hv, Sv, qv⟩ := hsp
      refine gone_ok (X := X.suite a ((a, ow) :: (X.pn ++ pins))) Sv hN hi hln ?_
      intro s7 S7
      obtain ⟨e7, n7, _⟩ := S7.pin (a, ow) (List.mem_append_left _ List.mem_cons_self)
      exact ⟨_, _, inv_track (S7.unsuite ok) new0 n7 nL nP e7 kw ⟨fw, dw⟩, qv⟩
    | brk =>
      obtain ⟨_, _, _, z⟩ := hsp
      exact z.elim
    | cont =>
      obtain ⟨_, _, _, z⟩ := hsp
      exact z.elim
    | ret u =>
      obtain ⟨_, _, _, _, _, z⟩ := hsp
      exact z.elim
  refine wpAny_mono run ?_ (fun _ _ z => z)
  intro f s1 hsp
  cases f with
  | next =>
    obtain ⟨σ1, H1, I1, q1⟩ := hsp
    exact wpAny_execs_nil ⟨σ1, H1, I1.ofTry ok, q1⟩
  | brk =>
    obtain ⟨σ1, H1, I1, q1⟩ := hsp
    exact ⟨σ1, H1, I1.ofTry ok, q1⟩
  | cont =>
    obtain ⟨σ1, H1, I1, q1⟩ := hsp
    exact ⟨σ1, H1, I1.ofTry ok, q1⟩
  | ret u =>
    obtain ⟨v1, σ1, H1, I1, r1, q1⟩ := hsp
    exact ⟨v1, σ1, H1, I1.ofTry ok, r1, q1⟩
end
/-- isinstance(e, c), e kept from a catch -/
def rIsC (K : PySem.W.Frag) : List V → Hp → VK → Prop := fun xs H Q => ∃ (a D : Addr) (c : V) (cv : Value) (b : Bool), xs = [.ref a, c] ∧ H a = some (Caught (.ref D) a) ∧ ExcC K D ∧ (∀ u, RelV c u → u = cv) ∧ PySem.W.kitOne K (.ref D) cv = some b ∧ Q (.bl b) H
theorem call_isC {X : Cx} : CallR X (.builtin "isinstance") (rIsC X.K) := by
  intro pins s σ H args us Q I r h
  obtain ⟨a, D, c, cv, b, rfl, ha, C, hcv, e, q⟩ := h
  cases r with
  | cons rx rr =>
    cases rr with
    | cons rt rr =>
      cases rr
      cases rx
      obtain rfl := hcv _ rt
      obtain ⟨⟨oe, he, hz, vs, hv⟩, _, _⟩ := I.hok a _ ha
      have Ia : PySem.W.InstAt s.heap a oe D none := by
        rcases oe with ⟨oc, od, oda, osl⟩
        obtain ⟨z1, z2⟩ := hz
        simp only at z1 z2 hv
        subst z1
        subst z2
        subst hv
        exact ⟨he, rfl, rfl, trivial⟩
      refine PySem.W.kia_one (PySem.W.handS_kitx_exc C.hg C.hk C.hs C.hd C.ha C.hn C.ht C.hm) I.kIn Ia e (by intro z; cases z) ?_
      intro tk
      exact ⟨.bl b, H, I.kept (t' := tk) (fun _ _ z => z), rfl, q⟩
end HkE

set_option Elab.async false
set_option linter.all false
set_option maxRecDepth 100000
set_option maxHeartbeats 4000000
namespace HK
open PySem PySem.Spec PyProof.Rows L2 GAl GxR HkE
abbrev sEKind : Stmt := topS 36
abbrev N_scEKind : List Str := ["caught", "kinds", "names"]
theorem scEKind : FnScope N_scEKind ["caught"] (defScope sEKind) := ⟨rfl, rfl, rfl, by decide +kernel, rfl, by decide +kernel, by decide +kernel⟩
/-- the words for the eleven refusals, in the law's order -/
def eNames : List Str := ["deed", "events", "kept", "name", "net", "place", "row", "text", "tree", "ways", "many"]
/-- the class D is the j-th of the eleven -/
structure KindE (K : PySem.W.Frag) (D : Addr) (Cs : List Addr) (j : Nat) : Prop where
  ec : ExcC K D
  lt : j < 11
  ki : ∀ (i : Nat) (C : Addr), Cs[i]? = some C → PySem.W.kitOne K (.ref D) (.ref C) = some (decide (i = j))
  ve : PySem.W.kitOne K (.ref D) (.type "ValueError") = some true
theorem few_sizeE {xs : List V} (h : xs.length ≤ 1000) : xs.length ≤ sizeLine := by
  rw [sizeLine_eq]
  omega
section
variable {P : Program} {w : World} {K : PySem.W.Frag} {mg : Str → Option Value} {base : Heap}
def spEKind (K : PySem.W.Frag) (Cs : List Addr) : Sp := fun vs H Q _ => ∃ (a D : Addr) (j : Nat), vs = [.ref a] ∧ H a = some (Caught (.ref D) a) ∧ KindE K D Cs j ∧ ∀ H', K0 H H' → Q (.str (eNames.getD j "")) H'
set_option maxHeartbeats 16000000 in
theorem ok_ekind {f C1 C2 C3 C4 C5 C6 C7 C8 C9 C10 C11 : Addr} {fd : FuncData} (F : Fun K "_law_e_kind" "_law_e_kind" sEKind f fd)
    (c1 : mg "NoDeed" = some (.ref C1)) (c2 : mg "NoEvents" = some (.ref C2)) (c3 : mg "NoKept" = some (.ref C3)) (c4 : mg "NoName" = some (.ref C4)) (c5 : mg "NoNet" = some (.ref C5)) (c6 : mg "NoPlace" = some (.ref C6)) (c7 : mg "NoRow" = some (.ref C7)) (c8 : mg "NoText" = some (.ref C8)) (c9 : mg "NoTree" = some (.ref C9)) (c10 : mg "NoWays" = some (.ref C10)) (c11 : mg "TooMany" = some (.ref C11))
    (m_isinstance : mg "isinstance" = none) (m_ValueError : mg "ValueError" = none) :
    FnOk P w K mg base CX0 1 f fd ["caught"] (spEKind K [C1, C2, C3, C4, C5, C6, C7, C8, C9, C10, C11]) := by
  refine F.ok scEKind (fun vs H Q E h => ?_) (fun cdv A outer s H vs Q E hr h => ?_)
  · obtain ⟨a, D, j, rfl, _⟩ := h
    rfl
  · obtain ⟨a, D, j, rfl, ha, hk, q⟩ := h
    have hu := hu_of hr
    refine ⟨_, (pss_cons (ps_set (i := 1) scEKind.nd rfl (.inl rfl) (pe_lst (pa_cons (pe_callB HkE.call_isC (by rfl) m_isinstance boot_isinstance (pa_cons (pv 0) (pa_cons (pe_glob (v := .ref C1) (by rfl) c1 rfl) pa_nil))) (pa_cons (pe_callB HkE.call_isC (by rfl) m_isinstance boot_isinstance (pa_cons (pv 0) (pa_cons (pe_glob (v := .ref C2) (by rfl) c2 rfl) pa_nil))) (pa_cons (pe_callB HkE.call_isC (by rfl) m_isinstance boot_isinstance (pa_cons (pv 0) (pa_cons (pe_glob (v := .ref C3) (by rfl) c3 rfl) pa_nil))) pa_nil)))))
      (pss_cons (ps_set (i := 1) scEKind.nd rfl (.inl rfl) (pe_op op_cat (pv 1) (pe_lst (pa_cons (pe_callB HkE.call_isC (by rfl) m_isinstance boot_isinstance (pa_cons (pv 0) (pa_cons (pe_glob (v := .ref C4) (by rfl) c4 rfl) pa_nil))) (pa_cons (pe_callB HkE.call_isC (by rfl) m_isinstance boot_isinstance (pa_cons (pv 0) (pa_cons (pe_glob (v := .ref C5) (by rfl) c5 rfl) pa_nil))) (pa_cons (pe_callB HkE.call_isC (by rfl) m_isinstance boot_isinstance (pa_cons (pv 0) (pa_cons (pe_glob (v := .ref C6) (by rfl) c6 rfl) pa_nil))) pa_nil))))))
      (pss_cons (ps_set (i := 1) scEKind.nd rfl (.inl rfl) (pe_op op_cat (pv 1) (pe_lst (pa_cons (pe_callB HkE.call_isC (by rfl) m_isinstance boot_isinstance (pa_cons (pv 0) (pa_cons (pe_glob (v := .ref C7) (by rfl) c7 rfl) pa_nil))) (pa_cons (pe_callB HkE.call_isC (by rfl) m_isinstance boot_isinstance (pa_cons (pv 0) (pa_cons (pe_glob (v := .ref C8) (by rfl) c8 rfl) pa_nil))) (pa_cons (pe_callB HkE.call_isC (by rfl) m_isinstance boot_isinstance (pa_cons (pv 0) (pa_cons (pe_glob (v := .ref C9) (by rfl) c9 rfl) pa_nil))) pa_nil))))))
      (pss_cons (ps_set (i := 1) scEKind.nd rfl (.inl rfl) (pe_op op_cat (pv 1) (pe_lst (pa_cons (pe_callB HkE.call_isC (by rfl) m_isinstance boot_isinstance (pa_cons (pv 0) (pa_cons (pe_glob (v := .ref C10) (by rfl) c10 rfl) pa_nil))) (pa_cons (pe_callB HkE.call_isC (by rfl) m_isinstance boot_isinstance (pa_cons (pv 0) (pa_cons (pe_glob (v := .ref C11) (by rfl) c11 rfl) pa_nil))) pa_nil)))))
      (pss_cons (ps_if (PW.pt (pw_or (pt_cmpR op_ne (pe_bm PySem.F.plainAttrs_list PySem.F.slot_list_count PySem.F.type_list_count HkE.mt_countB (pv 1) (pa_cons pe_bl pa_nil)) pe_int (nomark _)) (pw_or1 (pt_not (pt_val (pe_callB HkE.call_isC (by rfl) m_isinstance boot_isinstance (pa_cons (pv 0) (pa_cons (pe_bltn (v := .ty "ValueError") (by rfl) m_ValueError (by decide +kernel) rfl) pa_nil)))))))) (pss_one (ps_ret pe_str)) pss_nil)
      (pss_cons (ps_set (i := 2) scEKind.nd rfl (.inl rfl) (pe_lst (pa_cons pe_str (pa_cons pe_str (pa_cons pe_str (pa_cons pe_str (pa_cons pe_str (pa_cons pe_str (pa_cons pe_str (pa_cons pe_str (pa_cons pe_str (pa_cons pe_str (pa_cons pe_str pa_nil)))))))))))))
      (pss_one (ps_ret (pe_ix ix_list (pv 2) (pe_bm PySem.F.plainAttrs_list PySem.F.slot_list_index PySem.F.type_list_index mt_index (pv 1) (pa_cons pe_bl pa_nil)) (fun _ _ => rfl)))))))))), ?_⟩
    have e : ∀ {H1 H2 : Hp}, K0 H1 H2 → H1 a = some (Caught (.ref D) a) → H2 a = some (Caught (.ref D) a) := fun k h => k.oth a _ h (fun _ z => by cases z)
    refine ⟨_, rfl, a, D, .ref C1, .ref C1, decide (0 = j), rfl, ha, hk.ec, fun _ z => z, hk.ki 0 C1 rfl, ?_⟩
    refine ⟨_, rfl, a, D, .ref C2, .ref C2, decide (1 = j), rfl, ha, hk.ec, fun _ z => z, hk.ki 1 C2 rfl, ?_⟩
    refine ⟨_, rfl, a, D, .ref C3, .ref C3, decide (2 = j), rfl, ha, hk.ec, fun _ z => z, hk.ki 2 C3 rfl, ?_⟩
    refine ⟨few_sizeE (by simp), fun p1 np1 => ?_⟩
    have k1 := K0.new np1 (o := .lst [.bl (decide (0 = j)), .bl (decide (1 = j)), .bl (decide (2 = j))])
    have h1 : (upd H p1 (.lst [.bl (decide (0 = j)), .bl (decide (1 = j)), .bl (decide (2 = j))])) p1 = some (.lst [.bl (decide (0 = j)), .bl (decide (1 = j)), .bl (decide (2 = j))]) := upd_same
    generalize upd H p1 (.lst [.bl (decide (0 = j)), .bl (decide (1 = j)), .bl (decide (2 = j))]) = G1 at k1 h1 ⊢
    have a1 := e k1 ha
    refine ⟨_, rfl, ?_⟩
    refine ⟨_, rfl, a, D, .ref C4, .ref C4, decide (3 = j), rfl, a1, hk.ec, fun _ z => z, hk.ki 3 C4 rfl, ?_⟩
    refine ⟨_, rfl, a, D, .ref C5, .ref C5, decide (4 = j), rfl, a1, hk.ec, fun _ z => z, hk.ki 4 C5 rfl, ?_⟩
    refine ⟨_, rfl, a, D, .ref C6, .ref C6, decide (5 = j), rfl, a1, hk.ec, fun _ z => z, hk.ki 5 C6 rfl, ?_⟩
    refine ⟨few_sizeE (by simp), fun q1 nq1 => ?_⟩
    have kq1 := K0.new nq1 (o := .lst [.bl (decide (3 = j)), .bl (decide (4 = j)), .bl (decide (5 = j))])
    have hq1 : (upd G1 q1 (.lst [.bl (decide (3 = j)), .bl (decide (4 = j)), .bl (decide (5 = j))])) q1 = some (.lst [.bl (decide (3 = j)), .bl (decide (4 = j)), .bl (decide (5 = j))]) := upd_same
    generalize upd G1 q1 (.lst [.bl (decide (3 = j)), .bl (decide (4 = j)), .bl (decide (5 = j))]) = L1 at kq1 hq1 ⊢
    have hp1 := kq1.oth p1 _ h1 (fun _ z => by cases z)
    refine ⟨p1, q1, _, _, rfl, rfl, hp1, hq1, (by rw [sizeLine_eq]; simp), fun p2 np2 => ?_⟩
    have kc2 := K0.new np2 (o := .lst [.bl (decide (0 = j)), .bl (decide (1 = j)), .bl (decide (2 = j)), .bl (decide (3 = j)), .bl (decide (4 = j)), .bl (decide (5 = j))])
    have h2 : (upd L1 p2 (.lst [.bl (decide (0 = j)), .bl (decide (1 = j)), .bl (decide (2 = j)), .bl (decide (3 = j)), .bl (decide (4 = j)), .bl (decide (5 = j))])) p2 = some (.lst [.bl (decide (0 = j)), .bl (decide (1 = j)), .bl (decide (2 = j)), .bl (decide (3 = j)), .bl (decide (4 = j)), .bl (decide (5 = j))]) := upd_same
    change _ at h2
    have k2 := (k1.trans kq1).trans kc2
    have a2 := e k2 ha
    skip
    simp only [List.cons_append, List.nil_append]
    generalize upd L1 p2 (.lst [.bl (decide (0 = j)), .bl (decide (1 = j)), .bl (decide (2 = j)), .bl (decide (3 = j)), .bl (decide (4 = j)), .bl (decide (5 = j))]) = G2 at k2 h2 a2 kc2 ⊢
    refine ⟨_, rfl, ?_⟩
    refine ⟨_, rfl, a, D, .ref C7, .ref C7, decide (6 = j), rfl, a2, hk.ec, fun _ z => z, hk.ki 6 C7 rfl, ?_⟩
    refine ⟨_, rfl, a, D, .ref C8, .ref C8, decide (7 = j), rfl, a2, hk.ec, fun _ z => z, hk.ki 7 C8 rfl, ?_⟩
    refine ⟨_, rfl, a, D, .ref C9, .ref C9, decide (8 = j), rfl, a2, hk.ec, fun _ z => z, hk.ki 8 C9 rfl, ?_⟩
    refine ⟨few_sizeE (by simp), fun q2 nq2 => ?_⟩
    have kq2 := K0.new nq2 (o := .lst [.bl (decide (6 = j)), .bl (decide (7 = j)), .bl (decide (8 = j))])
    have hq2 : (upd G2 q2 (.lst [.bl (decide (6 = j)), .bl (decide (7 = j)), .bl (decide (8 = j))])) q2 = some (.lst [.bl (decide (6 = j)), .bl (decide (7 = j)), .bl (decide (8 = j))]) := upd_same
    generalize upd G2 q2 (.lst [.bl (decide (6 = j)), .bl (decide (7 = j)), .bl (decide (8 = j))]) = L2 at kq2 hq2 ⊢
    have hp2 := kq2.oth p2 _ h2 (fun _ z => by cases z)
    refine ⟨p2, q2, _, _, rfl, rfl, hp2, hq2, (by rw [sizeLine_eq]; simp), fun p3 np3 => ?_⟩
    have kc3 := K0.new np3 (o := .lst [.bl (decide (0 = j)), .bl (decide (1 = j)), .bl (decide (2 = j)), .bl (decide (3 = j)), .bl (decide (4 = j)), .bl (decide (5 = j)), .bl (decide (6 = j)), .bl (decide (7 = j)), .bl (decide (8 = j))])
    have h3 : (upd L2 p3 (.lst [.bl (decide (0 = j)), .bl (decide (1 = j)), .bl (decide (2 = j)), .bl (decide (3 = j)), .bl (decide (4 = j)), .bl (decide (5 = j)), .bl (decide (6 = j)), .bl (decide (7 = j)), .bl (decide (8 = j))])) p3 = some (.lst [.bl (decide (0 = j)), .bl (decide (1 = j)), .bl (decide (2 = j)), .bl (decide (3 = j)), .bl (decide (4 = j)), .bl (decide (5 = j)), .bl (decide (6 = j)), .bl (decide (7 = j)), .bl (decide (8 = j))]) := upd_same
    change _ at h3
    have k3 := (k2.trans kq2).trans kc3
    have a3 := e k3 ha
    skip
    simp only [List.cons_append, List.nil_append]
    generalize upd L2 p3 (.lst [.bl (decide (0 = j)), .bl (decide (1 = j)), .bl (decide (2 = j)), .bl (decide (3 = j)), .bl (decide (4 = j)), .bl (decide (5 = j)), .bl (decide (6 = j)), .bl (decide (7 = j)), .bl (decide (8 = j))]) = G3 at k3 h3 a3 kc3 ⊢
    refine ⟨_, rfl, ?_⟩
    refine ⟨_, rfl, a, D, .ref C10, .ref C10, decide (9 = j), rfl, a3, hk.ec, fun _ z => z, hk.ki 9 C10 rfl, ?_⟩
    refine ⟨_, rfl, a, D, .ref C11, .ref C11, decide (10 = j), rfl, a3, hk.ec, fun _ z => z, hk.ki 10 C11 rfl, ?_⟩
    refine ⟨few_sizeE (by simp), fun q3 nq3 => ?_⟩
    have kq3 := K0.new nq3 (o := .lst [.bl (decide (9 = j)), .bl (decide (10 = j))])
    have hq3 : (upd G3 q3 (.lst [.bl (decide (9 = j)), .bl (decide (10 = j))])) q3 = some (.lst [.bl (decide (9 = j)), .bl (decide (10 = j))]) := upd_same
    generalize upd G3 q3 (.lst [.bl (decide (9 = j)), .bl (decide (10 = j))]) = L3 at kq3 hq3 ⊢
    have hp3 := kq3.oth p3 _ h3 (fun _ z => by cases z)
    refine ⟨p3, q3, _, _, rfl, rfl, hp3, hq3, (by rw [sizeLine_eq]; simp), fun p4 np4 => ?_⟩
    have kc4 := K0.new np4 (o := .lst [.bl (decide (0 = j)), .bl (decide (1 = j)), .bl (decide (2 = j)), .bl (decide (3 = j)), .bl (decide (4 = j)), .bl (decide (5 = j)), .bl (decide (6 = j)), .bl (decide (7 = j)), .bl (decide (8 = j)), .bl (decide (9 = j)), .bl (decide (10 = j))])
    have h4 : (upd L3 p4 (.lst [.bl (decide (0 = j)), .bl (decide (1 = j)), .bl (decide (2 = j)), .bl (decide (3 = j)), .bl (decide (4 = j)), .bl (decide (5 = j)), .bl (decide (6 = j)), .bl (decide (7 = j)), .bl (decide (8 = j)), .bl (decide (9 = j)), .bl (decide (10 = j))])) p4 = some (.lst [.bl (decide (0 = j)), .bl (decide (1 = j)), .bl (decide (2 = j)), .bl (decide (3 = j)), .bl (decide (4 = j)), .bl (decide (5 = j)), .bl (decide (6 = j)), .bl (decide (7 = j)), .bl (decide (8 = j)), .bl (decide (9 = j)), .bl (decide (10 = j))]) := upd_same
    change _ at h4
    have k4 := (k3.trans kq3).trans kc4
    have a4 := e k4 ha
    skip
    simp only [List.cons_append, List.nil_append]
    generalize upd L3 p4 (.lst [.bl (decide (0 = j)), .bl (decide (1 = j)), .bl (decide (2 = j)), .bl (decide (3 = j)), .bl (decide (4 = j)), .bl (decide (5 = j)), .bl (decide (6 = j)), .bl (decide (7 = j)), .bl (decide (8 = j)), .bl (decide (9 = j)), .bl (decide (10 = j))]) = G4 at k4 h4 a4 kc4 ⊢
    have hj := hk.lt
    refine ⟨_, rfl, .inl ⟨rfl, _, .inl (.inl h4)⟩, p4, [decide (0 = j), decide (1 = j), decide (2 = j), decide (3 = j), decide (4 = j), decide (5 = j), decide (6 = j), decide (7 = j), decide (8 = j), decide (9 = j), decide (10 = j)], true, rfl, rfl, .inl (.inl h4), rfl, _, rfl, ?_⟩
    have hc : j = 0 ∨ j = 1 ∨ j = 2 ∨ j = 3 ∨ j = 4 ∨ j = 5 ∨ j = 6 ∨ j = 7 ∨ j = 8 ∨ j = 9 ∨ j = 10 := by omega
    rcases hc with rfl | rfl | rfl | rfl | rfl | rfl | rfl | rfl | rfl | rfl | rfl
    · refine iteF ⟨_, rfl, a, D, .ty "ValueError", .type "ValueError", true, rfl, a4, hk.ec, fun _ z => z, hk.ve, _, rfl, iteF ⟨few_sizeE (by decide), fun p5 np5 => ?_⟩⟩
      have hp5 := (K0.new np5 (o := .lst (eNames.map V.str))).oth p4 _ h4 (fun _ z => by cases z)
      refine ⟨_, rfl, _, rfl, .inl ⟨rfl, _, .inl (.inl hp5)⟩, p4, _, .bl true, 0, .bl true, rfl, rfl, .inl (.inl hp5), rfl, rfl, rfl, rfl, fun m z' hm e => ?_, p5, _, 0, _, rfl, rfl, .inl (.inl upd_same), rfl, ?_⟩
      · omega
      · exact q _ (k4.trans (K0.new np5))
    · refine iteF ⟨_, rfl, a, D, .ty "ValueError", .type "ValueError", true, rfl, a4, hk.ec, fun _ z => z, hk.ve, _, rfl, iteF ⟨few_sizeE (by decide), fun p5 np5 => ?_⟩⟩
      have hp5 := (K0.new np5 (o := .lst (eNames.map V.str))).oth p4 _ h4 (fun _ z => by cases z)
      refine ⟨_, rfl, _, rfl, .inl ⟨rfl, _, .inl (.inl hp5)⟩, p4, _, .bl true, 1, .bl true, rfl, rfl, .inl (.inl hp5), rfl, rfl, rfl, rfl, fun m z' hm e => ?_, p5, _, 1, _, rfl, rfl, .inl (.inl upd_same), rfl, ?_⟩
      · obtain rfl : m = 0 := by omega
        cases e
        rfl
      · exact q _ (k4.trans (K0.new np5))
    · refine iteF ⟨_, rfl, a, D, .ty "ValueError", .type "ValueError", true, rfl, a4, hk.ec, fun _ z => z, hk.ve, _, rfl, iteF ⟨few_sizeE (by decide), fun p5 np5 => ?_⟩⟩
      have hp5 := (K0.new np5 (o := .lst (eNames.map V.str))).oth p4 _ h4 (fun _ z => by cases z)
      refine ⟨_, rfl, _, rfl, .inl ⟨rfl, _, .inl (.inl hp5)⟩, p4, _, .bl true, 2, .bl true, rfl, rfl, .inl (.inl hp5), rfl, rfl, rfl, rfl, fun m z' hm e => ?_, p5, _, 2, _, rfl, rfl, .inl (.inl upd_same), rfl, ?_⟩
      · have hm2 : m = 0 ∨ m = 1 := by omega
        rcases hm2 with rfl | rfl <;> (cases e; rfl)
      · exact q _ (k4.trans (K0.new np5))
    · refine iteF ⟨_, rfl, a, D, .ty "ValueError", .type "ValueError", true, rfl, a4, hk.ec, fun _ z => z, hk.ve, _, rfl, iteF ⟨few_sizeE (by decide), fun p5 np5 => ?_⟩⟩
      have hp5 := (K0.new np5 (o := .lst (eNames.map V.str))).oth p4 _ h4 (fun _ z => by cases z)
      refine ⟨_, rfl, _, rfl, .inl ⟨rfl, _, .inl (.inl hp5)⟩, p4, _, .bl true, 3, .bl true, rfl, rfl, .inl (.inl hp5), rfl, rfl, rfl, rfl, fun m z' hm e => ?_, p5, _, 3, _, rfl, rfl, .inl (.inl upd_same), rfl, ?_⟩
      · have hm2 : m = 0 ∨ m = 1 ∨ m = 2 := by omega
        rcases hm2 with rfl | rfl | rfl <;> (cases e; rfl)
      · exact q _ (k4.trans (K0.new np5))
    · refine iteF ⟨_, rfl, a, D, .ty "ValueError", .type "ValueError", true, rfl, a4, hk.ec, fun _ z => z, hk.ve, _, rfl, iteF ⟨few_sizeE (by decide), fun p5 np5 => ?_⟩⟩
      have hp5 := (K0.new np5 (o := .lst (eNames.map V.str))).oth p4 _ h4 (fun _ z => by cases z)
      refine ⟨_, rfl, _, rfl, .inl ⟨rfl, _, .inl (.inl hp5)⟩, p4, _, .bl true, 4, .bl true, rfl, rfl, .inl (.inl hp5), rfl, rfl, rfl, rfl, fun m z' hm e => ?_, p5, _, 4, _, rfl, rfl, .inl (.inl upd_same), rfl, ?_⟩
      · have hm2 : m = 0 ∨ m = 1 ∨ m = 2 ∨ m = 3 := by omega
        rcases hm2 with rfl | rfl | rfl | rfl <;> (cases e; rfl)
      · exact q _ (k4.trans (K0.new np5))
    · refine iteF ⟨_, rfl, a, D, .ty "ValueError", .type "ValueError", true, rfl, a4, hk.ec, fun _ z => z, hk.ve, _, rfl, iteF ⟨few_sizeE (by decide), fun p5 np5 => ?_⟩⟩
      have hp5 := (K0.new np5 (o := .lst (eNames.map V.str))).oth p4 _ h4 (fun _ z => by cases z)
      refine ⟨_, rfl, _, rfl, .inl ⟨rfl, _, .inl (.inl hp5)⟩, p4, _, .bl true, 5, .bl true, rfl, rfl, .inl (.inl hp5), rfl, rfl, rfl, rfl, fun m z' hm e => ?_, p5, _, 5, _, rfl, rfl, .inl (.inl upd_same), rfl, ?_⟩
      · have hm2 : m = 0 ∨ m = 1 ∨ m = 2 ∨ m = 3 ∨ m = 4 := by omega
        rcases hm2 with rfl | rfl | rfl | rfl | rfl <;> (cases e; rfl)
      · exact q _ (k4.trans (K0.new np5))
    · refine iteF ⟨_, rfl, a, D, .ty "ValueError", .type "ValueError", true, rfl, a4, hk.ec, fun _ z => z, hk.ve, _, rfl, iteF ⟨few_sizeE (by decide), fun p5 np5 => ?_⟩⟩
      have hp5 := (K0.new np5 (o := .lst (eNames.map V.str))).oth p4 _ h4 (fun _ z => by cases z)
      refine ⟨_, rfl, _, rfl, .inl ⟨rfl, _, .inl (.inl hp5)⟩, p4, _, .bl true, 6, .bl true, rfl, rfl, .inl (.inl hp5), rfl, rfl, rfl, rfl, fun m z' hm e => ?_, p5, _, 6, _, rfl, rfl, .inl (.inl upd_same), rfl, ?_⟩
      · have hm2 : m = 0 ∨ m = 1 ∨ m = 2 ∨ m = 3 ∨ m = 4 ∨ m = 5 := by omega
        rcases hm2 with rfl | rfl | rfl | rfl | rfl | rfl <;> (cases e; rfl)
      · exact q _ (k4.trans (K0.new np5))
    · refine iteF ⟨_, rfl, a, D, .ty "ValueError", .type "ValueError", true, rfl, a4, hk.ec, fun _ z => z, hk.ve, _, rfl, iteF ⟨few_sizeE (by decide), fun p5 np5 => ?_⟩⟩
      have hp5 := (K0.new np5 (o := .lst (eNames.map V.str))).oth p4 _ h4 (fun _ z => by cases z)
      refine ⟨_, rfl, _, rfl, .inl ⟨rfl, _, .inl (.inl hp5)⟩, p4, _, .bl true, 7, .bl true, rfl, rfl, .inl (.inl hp5), rfl, rfl, rfl, rfl, fun m z' hm e => ?_, p5, _, 7, _, rfl, rfl, .inl (.inl upd_same), rfl, ?_⟩
      · have hm2 : m = 0 ∨ m = 1 ∨ m = 2 ∨ m = 3 ∨ m = 4 ∨ m = 5 ∨ m = 6 := by omega
        rcases hm2 with rfl | rfl | rfl | rfl | rfl | rfl | rfl <;> (cases e; rfl)
      · exact q _ (k4.trans (K0.new np5))
    · refine iteF ⟨_, rfl, a, D, .ty "ValueError", .type "ValueError", true, rfl, a4, hk.ec, fun _ z => z, hk.ve, _, rfl, iteF ⟨few_sizeE (by decide), fun p5 np5 => ?_⟩⟩
      have hp5 := (K0.new np5 (o := .lst (eNames.map V.str))).oth p4 _ h4 (fun _ z => by cases z)
      refine ⟨_, rfl, _, rfl, .inl ⟨rfl, _, .inl (.inl hp5)⟩, p4, _, .bl true, 8, .bl true, rfl, rfl, .inl (.inl hp5), rfl, rfl, rfl, rfl, fun m z' hm e => ?_, p5, _, 8, _, rfl, rfl, .inl (.inl upd_same), rfl, ?_⟩
      · have hm2 : m = 0 ∨ m = 1 ∨ m = 2 ∨ m = 3 ∨ m = 4 ∨ m = 5 ∨ m = 6 ∨ m = 7 := by omega
        rcases hm2 with rfl | rfl | rfl | rfl | rfl | rfl | rfl | rfl <;> (cases e; rfl)
      · exact q _ (k4.trans (K0.new np5))
    · refine iteF ⟨_, rfl, a, D, .ty "ValueError", .type "ValueError", true, rfl, a4, hk.ec, fun _ z => z, hk.ve, _, rfl, iteF ⟨few_sizeE (by decide), fun p5 np5 => ?_⟩⟩
      have hp5 := (K0.new np5 (o := .lst (eNames.map V.str))).oth p4 _ h4 (fun _ z => by cases z)
      refine ⟨_, rfl, _, rfl, .inl ⟨rfl, _, .inl (.inl hp5)⟩, p4, _, .bl true, 9, .bl true, rfl, rfl, .inl (.inl hp5), rfl, rfl, rfl, rfl, fun m z' hm e => ?_, p5, _, 9, _, rfl, rfl, .inl (.inl upd_same), rfl, ?_⟩
      · have hm2 : m = 0 ∨ m = 1 ∨ m = 2 ∨ m = 3 ∨ m = 4 ∨ m = 5 ∨ m = 6 ∨ m = 7 ∨ m = 8 := by omega
        rcases hm2 with rfl | rfl | rfl | rfl | rfl | rfl | rfl | rfl | rfl <;> (cases e; rfl)
      · exact q _ (k4.trans (K0.new np5))
    · refine iteF ⟨_, rfl, a, D, .ty "ValueError", .type "ValueError", true, rfl, a4, hk.ec, fun _ z => z, hk.ve, _, rfl, iteF ⟨few_sizeE (by decide), fun p5 np5 => ?_⟩⟩
      have hp5 := (K0.new np5 (o := .lst (eNames.map V.str))).oth p4 _ h4 (fun _ z => by cases z)
      refine ⟨_, rfl, _, rfl, .inl ⟨rfl, _, .inl (.inl hp5)⟩, p4, _, .bl true, 10, .bl true, rfl, rfl, .inl (.inl hp5), rfl, rfl, rfl, rfl, fun m z' hm e => ?_, p5, _, 10, _, rfl, rfl, .inl (.inl upd_same), rfl, ?_⟩
      · have hm2 : m = 0 ∨ m = 1 ∨ m = 2 ∨ m = 3 ∨ m = 4 ∨ m = 5 ∨ m = 6 ∨ m = 7 ∨ m = 8 ∨ m = 9 := by omega
        rcases hm2 with rfl | rfl | rfl | rfl | rfl | rfl | rfl | rfl | rfl | rfl <;> (cases e; rfl)
      · exact q _ (k4.trans (K0.new np5))
end
end HK

set_option Elab.async false
set_option linter.all false
set_option maxRecDepth 100000
set_option maxHeartbeats 2000000
namespace HK
open PySem PySem.Spec PyProof.Rows L2 GAl GxR
open Evl (pss_cut)
abbrev sENet : Stmt := topS 34
abbrev N_scENet : List Str := ["tray", "n", "often", "roads", "i", "j", "some", "cost_here", "late"]
theorem scENet : FnScope N_scENet ["tray"] (defScope sENet) := ⟨rfl, rfl, rfl, by decide +kernel, rfl, by decide +kernel, by decide +kernel⟩
theorem pickI (P : Int → Prop) : ∀ {xs : List Int} {d : Int}, (∀ x ∈ xs, P x) → 0 ≤ d → d < xs.length → ∃ y : Int, atI (xs.map V.int) d = some (.int y) ∧ P y := by
  intro xs d h h0 h1
  obtain ⟨k, rfl⟩ := Int.eq_ofNat_of_zero_le h0
  have hk : k < xs.length := by omega
  exact ⟨xs[k], atI_nat (by rw [List.getElem?_map, List.getElem?_eq_getElem hk]; rfl), h _ (List.getElem_mem hk)⟩
section
variable {P : Program} {w : World} {K : PySem.W.Frag} {mg : Str → Option Value} {base : Heap}
def spENet (K : PySem.W.Frag) : Sp := fun vs H Q _ => ∃ (t sc : Addr) (ns : List Int) (b : Int), vs = [.ref t] ∧ Tray K H t sc ns b ∧ b ≤ 500000 ∧
  ∀ (a : Addr) (n : Int) (rs : List R4) (H' : Hp), Kt t H H' → Tray K H' t sc ns (b + 1200) → NetAt K H' a n rs → Good n rs → rs.length ≤ 156 → Q (.ref a) H'
/-- between the turns -/
structure NIe (K : PySem.W.Frag) (H : Hp) (t sc ra : Addr) (ns : List Int) (n : Int) (i j : Nat) (c : Int) (H3 : Hp) : Prop where
  kt : Kt t H H3
  tp : Tray K H3 t sc ns c
  ex : ∃ xs rs, H3 ra = some (.lst xs) ∧ Roads K H3 xs rs ∧ Good n rs ∧ (∀ r ∈ rs, r.s < i ∨ (r.s = i ∧ r.e < j)) ∧ rs.length ≤ 12 * i + j
theorem ok_e_net {f : Addr} {fd : FuncData} {f_draw : Addr} {fd_draw : FuncData} (F : Fun K "_law_e_net" "_law_e_net" sENet f fd) (k_draw : PySem.W.keepIn K (.ref f_draw) = true) (b_draw : Binds K fd_draw ["tray", "many"] []) (g_draw : mg "_law_e_draw" = some (.ref f_draw)) (G_draw : FnOk P w K mg base CX0 2 f_draw fd_draw ["tray", "many"] (spDraw K)) (m_range : mg "range" = none) (m_tuple : mg "tuple" = none) : FnOk P w K mg base CX0 3 f fd ["tray"] (spENet K) := by
  refine F.ok scENet (fun vs H Q E h => ?_) (fun cdv A outer s H vs Q E hr h => ?_)
  · obtain ⟨a, c, ns, b, rfl, _⟩ := h
    rfl
  · obtain ⟨t, sc, ns, b, rfl, htp, hb, q⟩ := h
    refine ⟨_, (pss_cons (ps_set (i := 1) scENet.nd rfl (.inl rfl) (pe_op op_add pe_int (pe_call G_draw (hr.mono (by decide)) (by rfl) g_draw k_draw b_draw .nil pass0 (pa_cons (pv 0) (pa_cons (pe_ix ix_list (pe_lst (pa_cons pe_int (pa_cons pe_int (pa_cons pe_int pa_nil)))) (pe_call G_draw (hr.mono (by decide)) (by rfl) g_draw k_draw b_draw .nil pass0 (pa_cons (pv 0) (pa_cons pe_int pa_nil))) (fun _ _ => rfl)) pa_nil)))))
      (pss_cons (ps_set (i := 2) scENet.nd rfl (.inl rfl) (pe_op op_add pe_int (pe_call G_draw (hr.mono (by decide)) (by rfl) g_draw k_draw b_draw .nil pass0 (pa_cons (pv 0) (pa_cons pe_int pa_nil)))))
      (pss_cons (ps_set (i := 3) scENet.nd rfl (.inl rfl) (pe_lst pa_nil))
      (pss_cons (ps_for PassesOwn.never rfl (pi_range1 (by rfl) m_range (pa_cons (pv 1) pa_nil)) (pg_name (i := 4) scENet.nd rfl (.inl rfl))
      (pss_one (ps_for PassesOwn.never rfl (pi_range1 (by rfl) m_range (pa_cons (pv 1) pa_nil)) (pg_name (i := 5) scENet.nd rfl (.inl rfl))
      (pss_one (ps_if (PW.pt (pw_and (pt_cmpR op_ne (pv 4) (pv 5) (nomark _)) (pw_and1 (pt_cmpR op_lt (pe_call G_draw (hr.mono (by decide)) (by rfl) g_draw k_draw b_draw .nil pass0 (pa_cons (pv 0) (pa_cons pe_int pa_nil))) (pv 2) (nomark _))))) (pss_cons (ps_set (i := 6) scENet.nd rfl (.inl rfl) (pe_lst (pa_cons (pe_call G_draw (hr.mono (by decide)) (by rfl) g_draw k_draw b_draw .nil pass0 (pa_cons (pv 0) (pa_cons pe_int pa_nil))) (pa_cons (pe_call G_draw (hr.mono (by decide)) (by rfl) g_draw k_draw b_draw .nil pass0 (pa_cons (pv 0) (pa_cons pe_int pa_nil))) (pa_cons (pe_call G_draw (hr.mono (by decide)) (by rfl) g_draw k_draw b_draw .nil pass0 (pa_cons (pv 0) (pa_cons pe_int pa_nil))) pa_nil)))))
      (pss_cons (ps_set (i := 7) scENet.nd rfl (.inl rfl) (pe_ix ix_list (pv 6) (pe_call G_draw (hr.mono (by decide)) (by rfl) g_draw k_draw b_draw .nil pass0 (pa_cons (pv 0) (pa_cons pe_int pa_nil))) (fun _ _ => rfl)))
      (pss_cons (ps_set (i := 8) scENet.nd rfl (.inl rfl) (pe_ix ix_list (pe_lst (pa_cons (pe_op op_add pe_int (pe_call G_draw (hr.mono (by decide)) (by rfl) g_draw k_draw b_draw .nil pass0 (pa_cons (pv 0) (pa_cons pe_int pa_nil)))) (pa_cons (pe_op op_add pe_int (pe_call G_draw (hr.mono (by decide)) (by rfl) g_draw k_draw b_draw .nil pass0 (pa_cons (pv 0) (pa_cons pe_int pa_nil)))) pa_nil))) (pe_call G_draw (hr.mono (by decide)) (by rfl) g_draw k_draw b_draw .nil pass0 (pa_cons (pv 0) (pa_cons pe_int pa_nil))) (fun _ _ => rfl)))
      (pss_one (ps_expr (pe_bm PySem.F.plainAttrs_list PySem.F.slot_list_append PySem.F.type_list_append mt_append (pv 3) (pa_cons (pe_tup (pa_cons (pv 4) (pa_cons (pv 5) (pa_cons (pv 7) (pa_cons (pv 8) pa_nil))))) pa_nil))))))) pss_nil)))))
      (pss_one (ps_ret (pe_tup (pa_cons (pv 1) (pa_cons (pe_callTy call_tuple_fz (by rfl) m_tuple (by decide +kernel) (pa_cons (pv 3) pa_nil)) pa_nil))))))))), ?_⟩
    -- n
    refine ⟨.ref t, rfl, by show 3 ≤ sizeLine; decide, fun pn npn => ?_⟩
    have tp0 := htp.k0 (K0.new (o := .lst [.int 4, .int 6, .int 12]) npn)
    have k0 : Kt t H (upd H pn (.lst [.int 4, .int 6, .int 12])) := (K0.new npn).kt
    refine ⟨.ref t, rfl, t, sc, 3, ns, b, rfl, tp0, by omega, by omega, by omega, fun d0 H0 hd0 hd0' k1 tp1 => ?_⟩
    obtain ⟨most, hmost, hmo⟩ := pickI (fun x => 4 ≤ x ∧ x ≤ 12) (xs := [4, 6, 12]) (d := d0) (by intro x hx; simp only [List.mem_cons, List.not_mem_nil, or_false] at hx; omega) hd0 hd0'
    refine ⟨pn, _, d0, .int most, rfl, rfl, .inl (.inl (k1.oth pn _ upd_same (htp.ne npn) (fun _ z => by cases z))), hmost, ?_⟩
    refine ⟨t, sc, most, ns, b + 1, rfl, tp1, by omega, by omega, by omega, fun d1 H1 hd1 hd1' k2 tp2 => ⟨1, d1, rfl, rfl, ?_⟩⟩
    -- often
    refine ⟨.ref t, rfl, t, sc, 5, ns, _, rfl, tp2, by omega, by omega, by omega, fun d2 H2 hd2 hd2' k3 tp3 => ⟨1, d2, rfl, rfl, ?_⟩⟩
    -- roads = []
    refine ⟨Nat.zero_le _, fun ra nra => ?_⟩
    have k12 : Kt t H H2 := ((k0.trans k1).trans k2).trans k3
    have nHra : H ra = none := k12.dom _ nra
    have hn1 : 1 ≤ 1 + d1 := by omega
    have hn2 : 1 + d1 ≤ 12 := by omega
    have hra : ra ≠ t := tp3.ne nra
    have stepI : ∀ {H3 H4 : Hp} {i j : Nat} {c c' : Int}, NIe K H t sc ra ns (1 + d1) i j c H3 → Kt t H3 H4 → Tray K H4 t sc ns c' → NIe K H t sc ra ns (1 + d1) i j c' H4 := fun {H3 H4 i j c c'} h k tp => by
      obtain ⟨xs, rs, e1, e2, e3⟩ := h.ex
      exact ⟨h.kt.trans k, tp, xs, rs, k.oth ra _ e1 hra (fun _ z => by cases z), k.roads e2, e3⟩
    have step0 : ∀ {H3 H4 : Hp} {i j : Nat} {c : Int}, NIe K H t sc ra ns (1 + d1) i j c H3 → K0 H3 H4 → NIe K H t sc ra ns (1 + d1) i j c H4 := fun {H3 H4 i j c} h k => stepI h k.kt (h.tp.k0 k)
    refine ⟨.int (1 + d1), rfl, 1 + d1, rfl, by omega, by omega, for_range (lo := 0) (n := (1 + d1).toNat) (fun i σ' H' => ∃ y4 y5 y6 y7 y8, σ' = [some (.ref t), some (.int (1 + d1)), some (.int (1 + d2)), some (.ref ra), y4, y5, y6, y7, y8] ∧ NIe K H t sc ra ns (1 + d1) i 0 (b + 3 + 96 * i) H')
      ⟨none, none, none, none, none, rfl, ?_⟩ (fun i σ' H' hi h => ?_) (fun σ' H' h => ?_)⟩
    · exact ⟨k12.mut nHra, (tp3.k0 (K0.new nra)).le (by omega), [], [], upd_same, .nil, ⟨hn1, hn2, fun r hr => (by cases hr), .nil⟩, fun r hr => (by cases hr), by simp⟩
    · obtain ⟨y4, y5, y6, y7, y8, rfl, hI⟩ := h
      refine ⟨.int (1 + d1), rfl, 1 + d1, rfl, by omega, by omega, for_range (lo := 0) (n := (1 + d1).toNat) (fun j σ' H' => ∃ y5 y6 y7 y8, σ' = [some (.ref t), some (.int (1 + d1)), some (.int (1 + d2)), some (.ref ra), some (.int (0 + (i : Int))), y5, y6, y7, y8] ∧ NIe K H t sc ra ns (1 + d1) i j (b + 3 + 96 * i + 8 * j) H')
        ⟨y5, y6, y7, y8, rfl, ⟨hI.kt, hI.tp.le (by omega), hI.ex⟩⟩ (fun j σ' H' hj h => ?_) (fun σ' H' h => ?_)⟩
      · obtain ⟨y5, y6, y7, y8, rfl, hI⟩ := h
        have hc : b + 3 + 96 * (i : Int) + 8 * (j : Int) ≤ b + 1190 := by omega
        have next : ∀ {H4 : Hp} {c : Int}, NIe K H t sc ra ns (1 + d1) i j c H4 → c ≤ b + 3 + 96 * (i : Int) + 8 * ((j + 1 : Nat) : Int) → NIe K H t sc ra ns (1 + d1) i (j + 1) (b + 3 + 96 * (i : Int) + 8 * ((j + 1 : Nat) : Int)) H4 := fun {H4 c} h l => by
          obtain ⟨xs, rs, e1, e2, e3, e4, e5⟩ := h.ex
          exact ⟨h.kt, h.tp.le l, xs, rs, e1, e2, e3, fun r hr => by
            rcases e4 r hr with z | ⟨z, z2⟩
            · exact .inl z
            · exact .inr ⟨z, by omega⟩, by omega⟩
        refine ⟨_, rfl, _, rfl, rfl, _, rfl, ite2 (fun e => ?_) (fun e => iteF ⟨_, y6, y7, y8, rfl, next hI (by omega)⟩)⟩
        have hij : (i : Int) ≠ j := by
          have e : (!decide (V.int (0 + (i : Int)) = V.int (0 + (j : Int)))) = true := e
          simp only [Bool.not_eq_true', decide_eq_false_iff_not] at e
          intro z
          exact e (by rw [z])
        refine ⟨.ref t, rfl, t, sc, 8, ns, _, rfl, hI.tp, by omega, by omega, by omega, fun d3 H3 hd3 hd3' k3 tp3 => ⟨_, rfl, d3, _, rfl, rfl, _, rfl, ite2 (fun e2 => ?_) (fun e2 => ⟨_, y6, y7, y8, rfl, next (stepI hI k3 tp3) (by omega)⟩)⟩⟩
        have I3 := stepI hI k3 tp3
        -- some
        refine ⟨.ref t, rfl, t, sc, 4, ns, _, rfl, tp3, by omega, by omega, by omega, fun d4 H4 hd4 hd4' k4 tp4 => ?_⟩
        refine ⟨.ref t, rfl, t, sc, 30, ns, _, rfl, tp4, by omega, by omega, by omega, fun d5 H5 hd5 hd5' k5 tp5 => ?_⟩
        refine ⟨.ref t, rfl, t, sc, 1001, ns, _, rfl, tp5, by omega, by omega, by omega, fun d6 H6 hd6 hd6' k6 tp6 => ⟨by show 3 ≤ sizeLine; decide, fun pl npl => ?_⟩⟩
        have I6 := step0 (stepI (stepI (stepI I3 k4 tp4) k5 tp5) k6 tp6) (K0.new (o := .lst [.int d4, .int d5, .int d6]) npl)
        have npt := tp6.ne npl
        -- cost_here
        refine ⟨.ref pl, rfl, .ref t, rfl, t, sc, 3, ns, _, rfl, I6.tp, by omega, by omega, by omega, fun d7 H7 hd7 hd7' k7 tp7 => ?_⟩
        have I7 := stepI I6 k7 tp7
        obtain ⟨pay, hpay, p0, p1⟩ := pickI (fun x => 0 ≤ x ∧ x ≤ 1000) (xs := [d4, d5, d6]) (d := d7) (by intro x hx; simp only [List.mem_cons, List.not_mem_nil, or_false] at hx; omega) hd7 hd7'
        refine ⟨pl, _, d7, .int pay, rfl, rfl, .inl (.inl (k7.oth pl _ upd_same npt (fun _ z => by cases z))), hpay, ?_⟩
        -- late
        refine ⟨.ref t, rfl, t, sc, 3, ns, _, rfl, tp7, by omega, by omega, by omega, fun d8 H8 hd8 hd8' k8 tp8 => ⟨1, d8, rfl, rfl, ?_⟩⟩
        refine ⟨.ref t, rfl, t, sc, 1000, ns, _, rfl, tp8, by omega, by omega, by omega, fun d9 H9 hd9 hd9' k9 tp9 => ⟨1, d9, rfl, rfl, by show 2 ≤ sizeLine; decide, fun ql nql => ?_⟩⟩
        have I9 := step0 (stepI (stepI I7 k8 tp8) k9 tp9) (K0.new (o := .lst [.int (1 + d8), .int (1 + d9)]) nql)
        have nqt := tp9.ne nql
        refine ⟨.ref t, rfl, t, sc, 2, ns, _, rfl, I9.tp, by omega, by omega, by omega, fun dA HA hdA hdA' kA tpA => ?_⟩
        have IA := stepI I9 kA tpA
        obtain ⟨late, hlate, l0, l1⟩ := pickI (fun x => 1 ≤ x ∧ x ≤ 1000) (xs := [1 + d8, 1 + d9]) (d := dA) (by intro x hx; simp only [List.mem_cons, List.not_mem_nil, or_false] at hx; omega) hdA hdA'
        refine ⟨ql, _, dA, .int late, rfl, rfl, .inl (.inl (kA.oth ql _ upd_same nqt (fun _ z => by cases z))), hlate, ?_⟩
        -- roads.append((i, j, pay, late))
        obtain ⟨xs, rs, e1, e2', e3, e4, e5⟩ := IA.ex
        refine ⟨.ref ra, rfl, .inl ⟨rfl, _, .inl (.inl e1)⟩, _, rfl, _, rfl, _, rfl, _, rfl, by show 4 ≤ sizeLine; decide, fun tp ntp => ?_⟩
        have kT : K0 HA (upd HA tp (.tup [.int (0 + (i : Int)), .int (0 + (j : Int)), .int pay, .int late])) := K0.new ntp
        have e1' := kT.oth ra _ e1 (fun _ z => by cases z)
        have hlen : xs.length ≤ 200 := by
          rw [e2'.len]
          omega
        refine ⟨ra, _, _, rfl, rfl, e1', Nat.lt_of_le_of_lt hlen (by decide), _, _, _, _, rfl, ?_⟩
        have kB := (IA.kt.trans kT.kt).mut (o := .lst (xs ++ [.ref tp])) nHra
        refine ⟨kB, ((IA.tp.k0 kT).mut htp (IA.kt.trans kT.kt) nHra).le (by omega), xs ++ [.ref tp], rs ++ [⟨0 + (i : Int), 0 + (j : Int), pay, late⟩], upd_same, ?_, ⟨hn1, hn2, fun r hr => ?_, ?_⟩, fun r hr => ?_, ?_⟩
        · exact Roads.snoc (r := ⟨0 + (i : Int), 0 + (j : Int), pay, late⟩) ((Kt.set e1').roads (kT.kt (t := t) |>.roads e2')) ((Kt.set e1').sqT (.inl (.inl upd_same)))
        · rcases List.mem_append.mp hr with z | z
          · exact e3.ok r z
          · have z := List.mem_singleton.mp z
            subst z
            exact ⟨by show 0 ≤ 0 + (i : Int); omega, by show 0 + (i : Int) < 1 + d1; omega, by show 0 ≤ 0 + (j : Int); omega, by show 0 + (j : Int) < 1 + d1; omega, by show 0 + (i : Int) ≠ 0 + (j : Int); omega, p0, p1, l0, l1⟩
        · rw [List.pairwise_append]
          refine ⟨e3.up, List.pairwise_singleton _ _, fun a ha b hb => ?_⟩
          have z := List.mem_singleton.mp hb
          subst z
          rcases e4 a ha with z | ⟨z, z2⟩
          · exact .inl (by show a.s < 0 + (i : Int); omega)
          · exact .inr ⟨by show a.s = 0 + (i : Int); omega, by show a.e < 0 + (j : Int); omega⟩
        · rcases List.mem_append.mp hr with z | z
          · rcases e4 r z with z | ⟨z, z2⟩
            · exact .inl z
            · exact .inr ⟨z, by omega⟩
          · have z := List.mem_singleton.mp z
            subst z
            exact .inr ⟨by show 0 + (i : Int) = i; omega, by show 0 + (j : Int) < _; omega⟩
        · rw [List.length_append, List.length_singleton]; omega
      · obtain ⟨y5, y6, y7, y8, rfl, hI⟩ := h
        obtain ⟨xs, rs, e1, e2, e3, e4, e5⟩ := hI.ex
        refine ⟨_, _, _, _, _, rfl, hI.kt, hI.tp.le (by omega), xs, rs, e1, e2, e3, fun r hr => ?_, by omega⟩
        have hro := e3.ok r hr
        rcases e4 r hr with z | ⟨z, z2⟩
        · exact .inl (by omega)
        · exact .inl (by omega)
    · obtain ⟨y4, y5, y6, y7, y8, rfl, hI⟩ := h
      obtain ⟨xs, rs, e1, e2, e3, e4, e5⟩ := hI.ex
      refine ⟨_, rfl, .ref ra, rfl, ra, xs, rfl, .inl (.inl e1), fun tl ob ntl hoc hod => ?_⟩
      have kT : K0 H' (upd H' tl (.frz ob (.tup xs))) := K0.new ntl
      refine ⟨by show 2 ≤ sizeLine; decide, fun tn ntn => ?_⟩
      have kN : K0 (upd H' tl (.frz ob (.tup xs))) (upd (upd H' tl (.frz ob (.tup xs))) tn (.tup [.int (1 + d1), .ref tl])) := K0.new ntn
      have kk := kT.trans kN
      refine q tn (1 + d1) rs _ (hI.kt.trans kk.kt) ((hI.tp.k0 kk).le (by omega)) ⟨tl, xs, (), .inl (.inl upd_same), kN.sqT (.inl (.inr ⟨ob, upd_same⟩)), trivial, trivial, kk.kt (t := t) |>.roads e2⟩ e3 (by omega)
end
end HK

set_option Elab.async false
set_option linter.all false
set_option maxRecDepth 100000
set_option maxHeartbeats 2000000
namespace HK
open PySem PySem.Spec PyProof.Rows L2 GAl GxR
open Evl (pss_cut)
open TL (tl numL len_tl tl_num numL_len tl_append tl_join join_eq joinL ext_tl)
abbrev sEText : Stmt := topS 35
abbrev N_scEText : List Str := ["net", "lines", "road", "number"]
theorem scEText : FnScope N_scEText ["net"] (defScope sEText) := ⟨rfl, rfl, rfl, by decide +kernel, rfl, by decide +kernel, by decide +kernel⟩
abbrev sShow : Stmt := topS 28
abbrev N_scShow : List Str := ["net", "many", "roads", "lines", "start", "end", "cost", "late"]
theorem scShow : FnScope N_scShow ["net"] (defScope sShow) := ⟨rfl, rfl, rfl, by decide +kernel, rfl, by decide +kernel, by decide +kernel⟩
/-- a number's text -/
def sOf (i : Int) : Str := Str.ofString (toString i)
def R4.is (r : R4) : List Int := [r.s, r.e, r.c, r.l]
theorem R4.vs_is (r : R4) : r.vs = r.is.map V.int := rfl
def rowS (r : R4) : Str := Txt.join (Str.ofString " ") (r.is.map sOf)
def headS (n : Int) : Str := Str.ofString "PLACES " ++ sOf n
def netS (n : Int) (rs : List R4) : Str := Txt.join (Str.ofString "\n") (headS n :: rs.map rowS)
def Sm (i : Int) : Prop := 0 ≤ i ∧ i ≤ 1000
theorem Sm.log {i : Int} (h : Sm i) : i.natAbs.log2 < 1920 := by
  have h1 := Nat.log2_le_self i.natAbs
  obtain ⟨h2, h3⟩ := h
  omega
theorem sOf_tl {i : Int} (h : 0 ≤ i) : tl (sOf i) = numL i.toNat := by
  obtain ⟨n, rfl⟩ := Int.eq_ofNat_of_zero_le h
  exact tl_num n
theorem sOf_len {i : Int} (h : Sm i) : (sOf i).length ≤ 4 := by
  rw [len_tl, sOf_tl h.1]
  refine numL_len (by decide) ?_
  obtain ⟨h2, h3⟩ := h
  have : (10 : Nat) ^ 4 = 10000 := by decide
  omega
theorem RoadOk.sm {n : Int} {r : R4} (h : RoadOk n r) (hn : n ≤ 12) : ∀ i ∈ r.is, Sm i := by
  intro i hi
  have := h.s0; have := h.s1; have := h.e0; have := h.e1; have := h.c0; have := h.c1; have := h.l0; have := h.l1
  simp only [R4.is, List.mem_cons, List.not_mem_nil, or_false] at hi
  rcases hi with rfl | rfl | rfl | rfl <;> exact ⟨by omega, by omega⟩
theorem tl_rowS (r : R4) : tl (rowS r) = tl (sOf r.s) ++ (tl (Str.ofString " ") ++ (tl (sOf r.e) ++ (tl (Str.ofString " ") ++ (tl (sOf r.c) ++ (tl (Str.ofString " ") ++ tl (sOf r.l)))))) := by
  unfold rowS
  rw [join_eq, tl_join]
  rfl
theorem rowS_f (r : R4) : Str.empty ++ sOf r.s ++ Str.ofString " " ++ sOf r.e ++ Str.ofString " " ++ sOf r.c ++ Str.ofString " " ++ sOf r.l = rowS r := by
  refine ext_tl ?_
  rw [tl_rowS]
  simp only [tl_append, List.append_assoc]
  rfl
theorem sp_len : (Str.ofString " ").length = 1 := by decide
theorem lf_len : (Str.ofString "\n").length = 1 := by decide
theorem pl_len : (Str.ofString "PLACES ").length = 7 := by decide
theorem app_len (x y : Str) : (x ++ y).length = x.length + y.length := by
  rw [len_tl, len_tl, len_tl, tl_append, List.length_append]
theorem rowS_len {n : Int} {r : R4} (h : RoadOk n r) (hn : n ≤ 12) : (rowS r).length ≤ 19 := by
  have z := h.sm hn
  have a := sOf_len (z r.s (by simp [R4.is]))
  have b := sOf_len (z r.e (by simp [R4.is]))
  have c := sOf_len (z r.c (by simp [R4.is]))
  have d := sOf_len (z r.l (by simp [R4.is]))
  rw [← rowS_f]
  simp only [app_len, sp_len]
  have : Str.empty.length = 0 := by decide
  omega
theorem headS_len {n : Int} (h : Sm n) : (headS n).length ≤ 11 := by
  have a := sOf_len h
  unfold headS
  rw [app_len, pl_len]
  omega
theorem sum_le {c : Nat} : ∀ {ys : List Str}, (∀ y ∈ ys, y.length ≤ c) → (ys.map (·.length)).sum ≤ c * ys.length
  | [], _ => Nat.zero_le _
  | y :: ys, h => by
    have := h y (List.mem_cons_self ..)
    have := sum_le (ys := ys) fun z hz => h z (List.mem_cons_of_mem _ hz)
    simp only [List.map_cons, List.sum_cons, List.length_cons, Nat.mul_add]
    omega
theorem net_fits {n : Int} {rs : List R4} (G : Good n rs) (hl : rs.length ≤ 156) : ((headS n :: rs.map rowS).map (·.length)).sum + (headS n :: rs.map rowS).length * (Str.ofString "\n").length ≤ 16777216 := by
  have n1 := G.n1
  have n2 := G.n2
  have h := sum_le (c := 19) (ys := headS n :: rs.map rowS) fun y hy => by
    rcases List.mem_cons.mp hy with rfl | hy
    · exact Nat.le_trans (headS_len ⟨by omega, by omega⟩) (by decide)
    · obtain ⟨r, hr, rfl⟩ := List.mem_map.mp hy
      exact rowS_len (G.ok r hr) n2
  rw [lf_len]
  simp only [List.length_cons, List.length_map] at h ⊢
  omega
section
variable {P : Program} {w : World} {K : PySem.W.Frag} {mg : Str → Option Value} {base : Heap}
def spText (K : PySem.W.Frag) : Sp := fun vs H Q _ => ∃ (a : Addr) (n : Int) (rs : List R4), vs = [.ref a] ∧ NetAt K H a n rs ∧ Good n rs ∧ rs.length ≤ 156 ∧ ∀ H', K0 H H' → Q (.str (netS n rs)) H'
theorem ok_e_text {f : Addr} {fd : FuncData} (F : Fun K "_law_e_text" "_law_e_text" sEText f fd) (m_str : mg "str" = none) : FnOk P w K mg base CX0 1 f fd ["net"] (spText K) := by
  refine F.ok scEText (fun vs H Q E h => ?_) (fun cdv A outer s H vs Q E hr h => ?_)
  · obtain ⟨a, n, rs, rfl, _⟩ := h
    rfl
  · obtain ⟨a, n, rs, rfl, hN, G, hl, q⟩ := h
    have hu := hu_of hr
    refine ⟨_, (pss_cons (ps_set (i := 1) scEText.nd rfl (.inl rfl) (pe_lst (pa_cons (pe_op op_add_str pe_str (pe_callTy call_str_int (by rfl) m_str (by decide +kernel) (pa_cons (pe_ix ix_tup (pv 0) pe_int (fun _ _ => rfl)) pa_nil))) pa_nil)))
      (pss_cons (ps_for PassesOwn.never rfl (pi_tup (pe_ix ix_tup (pv 0) pe_int (fun _ _ => rfl))) (pg_name (i := 2) scEText.nd rfl (.inl rfl))
      (pss_one (ps_expr (pe_bm PySem.F.plainAttrs_list PySem.F.slot_list_append PySem.F.type_list_append mt_append (pv 1) (pa_cons (pe_join pe_str (pe_lc (own := [("number", 3)]) (g := (gName 3)) (tt := tYes) rfl scEText.nd (pi_tup (pv 2)) (blkOk_by (N := N_scEText) (sc := defScope sEText) (by decide +kernel)) (fun _ _ _ _ _ => (pg_name (i := 3) scEText.nd rfl (.inl rfl))) (fun _ _ _ _ _ => pts_nil) (fun _ _ _ _ _ => (pe_callTy call_str_int (by rfl) m_str (by decide +kernel) (pa_cons (pv 3) pa_nil))))) pa_nil)))))
      (pss_one (ps_ret (pe_join pe_str (pv 1)))))), ?_⟩
    obtain ⟨r, xs, o, h1, h2, hc, hd, h3⟩ := hN
    have n1 := G.n1
    have n2 := G.n2
    have hrl : xs.length = rs.length := h3.len
    have hnet : ∀ {H' : Hp}, K0 H H' → SqT K H' a [.int n, .ref r] := fun k => k.sqT h1
    refine ⟨_, rfl, a, _, 0, _, rfl, rfl, h1, atI_nat (j := 0) rfl, n, rfl, Sm.log ⟨by omega, by omega⟩, _, _, rfl, rfl, Nat.le_trans (m := 11) (by have := headS_len (n := n) ⟨by omega, by omega⟩; unfold headS at this; rw [app_len] at this; exact this) (by decide), by show 1 ≤ sizeLine; decide, fun p np => ?_⟩
    refine ⟨_, rfl, a, _, 1, .ref r, rfl, rfl, hnet (K0.new np), atI_nat (j := 1) rfl, r, rfl, ⟨xs, (K0.new np).sqT h2⟩, ?_⟩
    refine for_tup (xs := xs) (fun i σ' H' => ∃ y2, σ' = [some (.ref a), some (.ref p), y2, none] ∧ K0 H H' ∧ H' p = some (.lst ((headS n :: (rs.take i).map rowS).map V.str)))
      ⟨none, rfl, K0.new np, upd_same⟩ (fun i σ' H' hi h => ?_) (fun i x σ' H' hx h => ?_) (fun σ' H' h => ?_)
    · obtain ⟨_, _, k, _⟩ := h
      exact k.sqT h2
    · obtain ⟨y2, rfl, k, hp⟩ := h
      obtain ⟨t, q1, hrd, rfl, hs⟩ := road_at h3 hx
      have hil : i < rs.length := (List.getElem?_eq_some_iff.mp hrd).1
      have tm : t ∈ rs := List.mem_of_getElem? hrd
      have sm := (G.ok t tm).sm n2
      have hsk := k.sqT hs
      refine ⟨_, rfl, .inl ⟨rfl, _, .inl (.inl hp)⟩, ?_⟩
      refine ⟨⟨_, rfl⟩, _, rfl, q1, rfl, ⟨_, hsk⟩, fun D nD => ?_⟩
      refine lc_tup (xs := t.vs) (fun j H2 => K0 H' H2 ∧ H2 D = some (.lst (((t.is.take j).map sOf).map V.str))) ⟨K0.new nD, upd_same⟩ (fun j H2 hj h => h.1.sqT hsk) (fun j x H2 hx h => ?_) (fun H2 h => ?_)
      · obtain ⟨k2, hD⟩ := h
        rw [R4.vs_is, List.getElem?_map] at hx
        obtain ⟨m, hm, rfl⟩ := Option.map_eq_some_iff.mp hx
        refine ⟨rfl, tyes ⟨.int m, rfl, m, rfl, (sm m (List.mem_of_getElem? hm)).log, _, hD, ?_, k2.mut nD, ?_⟩⟩
        · refine Nat.lt_of_le_of_lt (m := 4) ?_ (by decide)
          rw [List.length_map, List.length_map]
          exact Nat.le_trans (List.length_take_le' _ _) (Nat.le_refl 4)
        · rw [upd_same, List.take_add_one, hm, List.map_append, List.map_append]
          rfl
      · obtain ⟨k2, hD⟩ := h
        have hD : H2 D = some (.lst ((t.is.map sOf).map V.str)) := hD
        have hp2 : H2 p = some (.lst ((headS n :: (rs.take i).map rowS).map V.str)) := k2.oth p _ hp (fun _ z => by cases z)
        refine ⟨_, _, _, rfl, rfl, .inl (.inl (.inl hD)), ?_, ?_⟩
        · have h := sum_le (c := 4) (ys := t.is.map sOf) fun y hy => by
            obtain ⟨m, hm, rfl⟩ := List.mem_map.mp hy
            exact sOf_len (sm m hm)
          have e : (t.is.map sOf).length = 4 := rfl
          rw [e] at h ⊢
          have := sp_len
          show _ + 4 * (Str.ofString " ").length ≤ _
          omega
        · refine ⟨p, _, _, rfl, rfl, hp2, ?_, _, rfl, (k.trans k2).mut np, ?_⟩
          · refine Nat.lt_of_le_of_lt (m := 200) ?_ (by decide)
            have := List.length_take_le i rs
            simp only [List.length_map, List.length_cons]
            omega
          · rw [upd_same, List.take_add_one, hrd, List.map_append, List.map_cons, List.map_cons, List.map_append, List.cons_append]
            rfl
    · obtain ⟨y2, rfl, k, hp⟩ := h
      rw [List.take_of_length_le (by omega)] at hp
      refine ⟨⟨_, rfl⟩, _, rfl, _, _, _, rfl, rfl, .inl (.inl (.inl hp)), net_fits G hl, ?_⟩
      exact q _ k
def spShow (K : PySem.W.Frag) (Pn Pr : Addr) : Sp := fun vs H Q _ => ∃ (a : Addr) (n : Int) (rs : List R4), vs = [.ref a] ∧ NetAt K H a n rs ∧ Good n rs ∧ rs.length ≤ 156 ∧ TabG H Pn ∧ TabG H Pr ∧ ∀ H', K0 H H' → Q (.str (netS n rs)) H'
theorem fit_app {acc y : Str} {c : Nat} (h : acc.length + y.length ≤ c) (hc : c ≤ sizeLine) : (acc ++ y).length ≤ sizeLine := by
  rw [app_len]; omega
theorem ok_show {Pn Pr : Addr} {f : Addr} {fd : FuncData} {f_neednet : Addr} {fd_neednet : FuncData} (F : Fun K "show_net" "show_net" sShow f fd) (k_neednet : PySem.W.keepIn K (.ref f_neednet) = true) (b_neednet : Binds K fd_neednet ["net"] []) (g_neednet : mg "need_net" = some (.ref f_neednet)) (G_neednet : FnOk P w K mg base CX0 6 f_neednet fd_neednet ["net"] (spNeedNet K Pn Pr)) : FnOk P w K mg base CX0 7 f fd ["net"] (spShow K Pn Pr) := by
  refine F.ok scShow (fun vs H Q E h => ?_) (fun cdv A outer s H vs Q E hr h => ?_)
  · obtain ⟨a, n, rs, rfl, _⟩ := h
    rfl
  · obtain ⟨a, n, rs, rfl, hN, G, hl, tn, tr, q⟩ := h
    have hu := hu_of hr
    refine ⟨_, (pss_cons (ps_expr (pe_call G_neednet (hr.mono (by decide)) (by rfl) g_neednet k_neednet b_neednet .nil pass0 (pa_cons (pv 0) pa_nil)))
      (pss_cons (ps_asg (pv 0) (pg_tup rfl (pgs_cons (pg_name (i := 1) scShow.nd rfl (.inl rfl)) (pgs_cons (pg_name (i := 2) scShow.nd rfl (.inl rfl)) pgs_nil))))
      (pss_cons (ps_set (i := 3) scShow.nd rfl (.inl rfl) (pe_lst (pa_cons (pe_joined (.cons pe_str (.cons (pe_fmt (pv 1)) .nil))) pa_nil)))
      (pss_cons (ps_for PassesOwn.never rfl (pi_tup (pv 2)) (pg_tup rfl (pgs_cons (pg_name (i := 4) scShow.nd rfl (.inl rfl)) (pgs_cons (pg_name (i := 5) scShow.nd rfl (.inl rfl)) (pgs_cons (pg_name (i := 6) scShow.nd rfl (.inl rfl)) (pgs_cons (pg_name (i := 7) scShow.nd rfl (.inl rfl)) pgs_nil)))))
      (pss_one (ps_expr (pe_bm PySem.F.plainAttrs_list PySem.F.slot_list_append PySem.F.type_list_append mt_append (pv 3) (pa_cons (pe_joined (.cons (pe_fmt (pv 4)) (.cons pe_str (.cons (pe_fmt (pv 5)) (.cons pe_str (.cons (pe_fmt (pv 6)) (.cons pe_str (.cons (pe_fmt (pv 7)) .nil)))))))) pa_nil)))))
      (pss_one (ps_ret (pe_join pe_str (pv 3)))))))), ?_⟩
    refine ⟨_, rfl, a, n, rs, rfl, hN, G, hl, tn, tr, fun H1 k1 => ?_⟩
    obtain ⟨r, xs, o, h1, h2, hc, hd, h3⟩ := hN.k0 k1
    have n1 := G.n1
    have n2 := G.n2
    have hrl : xs.length = rs.length := h3.len
    have hn : Sm n := ⟨by omega, by omega⟩
    have hnl := sOf_len hn
    refine ⟨_, rfl, a, _, rfl, h1, rfl, _, _, rfl, _, _, rfl, rfl, ?_⟩
    refine ⟨Str.ofString "PLACES ", rfl, by decide, _, rfl, .inr ⟨n, rfl, hn.log, sOf n, rfl, ?_, by show 1 ≤ sizeLine; decide, fun p np => ?_⟩⟩
    · refine fit_app (c := 11) ?_ (by decide)
      have : (Str.empty ++ Str.ofString "PLACES ").length = 7 := by decide
      omega
    have nHp := k1.dom p np
    refine ⟨_, rfl, r, rfl, ⟨xs, (K0.new np).sqT h2⟩, ?_⟩
    refine for_tup (xs := xs) (fun i σ' H' => ∃ y4 y5 y6 y7, σ' = [some (.ref a), some (.int n), some (.ref r), some (.ref p), y4, y5, y6, y7] ∧ K0 H1 H' ∧ H' p = some (.lst ((headS n :: (rs.take i).map rowS).map V.str)))
      ⟨none, none, none, none, rfl, K0.new np, by rw [upd_same]; rfl⟩ (fun i σ' H' hi h => ?_) (fun i x σ' H' hx h => ?_) (fun σ' H' h => ?_)
    · obtain ⟨_, _, _, _, _, k, _⟩ := h
      exact k.sqT h2
    · obtain ⟨y4, y5, y6, y7, rfl, k, hp⟩ := h
      obtain ⟨t, q1, hrd, rfl, hs⟩ := road_at h3 hx
      have hil : i < rs.length := (List.getElem?_eq_some_iff.mp hrd).1
      have tm : t ∈ rs := List.mem_of_getElem? hrd
      have sm := (G.ok t tm).sm n2
      have la := sOf_len (sm t.s (by simp [R4.is]))
      have lb := sOf_len (sm t.e (by simp [R4.is]))
      have lc := sOf_len (sm t.c (by simp [R4.is]))
      have ld := sOf_len (sm t.l (by simp [R4.is]))
      have e0 : Str.empty.length = 0 := by decide
      have e1 := sp_len
      refine ⟨q1, _, rfl, k.sqT hs, rfl, _, _, rfl, _, _, rfl, _, _, rfl, _, _, rfl, rfl, ?_⟩
      refine ⟨_, rfl, .inl ⟨rfl, _, .inl (.inl hp)⟩, _, rfl, .inr ⟨t.s, rfl, (sm t.s (by simp [R4.is])).log, sOf t.s, rfl, fit_app (c := 100) (by first | omega | (simp only [app_len]; omega)) (by decide), Str.ofString " ", rfl, fit_app (c := 100) (by first | omega | (simp only [app_len]; omega)) (by decide),
        _, rfl, .inr ⟨t.e, rfl, (sm t.e (by simp [R4.is])).log, sOf t.e, rfl, fit_app (c := 100) (by first | omega | (simp only [app_len]; omega)) (by decide), Str.ofString " ", rfl, fit_app (c := 100) (by first | omega | (simp only [app_len]; omega)) (by decide),
        _, rfl, .inr ⟨t.c, rfl, (sm t.c (by simp [R4.is])).log, sOf t.c, rfl, fit_app (c := 100) (by first | omega | (simp only [app_len]; omega)) (by decide), Str.ofString " ", rfl, fit_app (c := 100) (by first | omega | (simp only [app_len]; omega)) (by decide),
        _, rfl, .inr ⟨t.l, rfl, (sm t.l (by simp [R4.is])).log, sOf t.l, rfl, fit_app (c := 100) (by first | omega | (simp only [app_len]; omega)) (by decide), ?_⟩⟩⟩⟩⟩
      rw [rowS_f]
      refine ⟨p, _, _, rfl, rfl, hp, ?_, _, _, _, _, rfl, k.mut np, ?_⟩
      · refine Nat.lt_of_le_of_lt (m := 200) ?_ (by decide)
        have := List.length_take_le i rs
        simp only [List.length_map, List.length_cons]
        omega
      · rw [upd_same, List.take_add_one, hrd, List.map_append, List.map_cons, List.map_cons, List.map_append, List.cons_append]
        rfl
    · obtain ⟨y4, y5, y6, y7, rfl, k, hp⟩ := h
      rw [List.take_of_length_le (by omega)] at hp
      refine ⟨⟨_, rfl⟩, _, rfl, _, _, _, rfl, rfl, .inl (.inl (.inl hp)), net_fits G hl, ?_⟩
      exact q _ (k1.trans k)
end
end HK

set_option Elab.async false
set_option linter.all false
set_option maxRecDepth 100000
set_option maxHeartbeats 2000000
namespace HK
open PySem PySem.Spec PyProof.Rows L2 GAl GxR
open Evl (pss_cut)
open TL (tl numL len_tl tl_num numL_len tl_append tl_join join_eq joinL ext_tl)
abbrev sIsNum : Stmt := topS 30
abbrev N_scIsNum : List Str := ["word", "figure"]
theorem scIsNum : FnScope N_scIsNum ["word"] (defScope sIsNum) := ⟨rfl, rfl, rfl, by decide +kernel, rfl, by decide +kernel, by decide +kernel⟩
def figsS : Str := Str.ofString "0123456789"
def isNum (z : Str) : Bool := (decide (1 ≤ z.length) && decide (z.length ≤ 6)) && ((tl z).all (fun c => decide (c ∈ figsS.cps.toList))) && (decide (z = Str.ofString "0") || !decide ((tl z).head? = some 48))
section
variable {P : Program} {w : World} {K : PySem.W.Frag} {mg : Str → Option Value} {base : Heap}
def spIsNum (K : PySem.W.Frag) (Pw : Addr) : Sp := fun vs H Q _ => ∃ z : Str, vs = [.str z] ∧ z.length ≤ sizeLine ∧ TabG H Pw ∧ ∀ H', K0 H H' → Q (.bl (isNum z)) H'
theorem ok_isnum {f c Pw : Addr} {fd : FuncData} {t6 tF : Tok} (F : FunC K "is_number" "is_number" sIsNum f fd c) (TB : TabB base mg c Pw) (m_len : mg "len" = none) (m_all : mg "all" = none)
    (c_MOST_FIGURES : mg "MOST_FIGURES" = some (.int 6 t6)) (c_FIGURES : mg "FIGURES" = some (.str (Str.ofString "0123456789") tF)) : FnOk P w K mg base CX0 3 f fd ["word"] (spIsNum K Pw) := by
  refine F.ok scIsNum (fun vs H Q E h => ?_) (fun A outer s H vs Q E hr h => ?_)
  · obtain ⟨a, rfl, _⟩ := h
    rfl
  · obtain ⟨z, rfl, hz, tw, q⟩ := h
    have hu := hu_of hr
    refine ⟨_, (pss_cons (ps_if (pt_not (PW.pt (pw_and (pt_chain op_le op_le pe_int (pe_callB call_len_str (by rfl) m_len PySem.boot_len (pa_cons (pv 0) pa_nil)) (pe_glob (v := .int 6) (by rfl) c_MOST_FIGURES ⟨_, rfl⟩)) (pw_and1 (pt_val (pe_allG (own := [("figure", 1)]) (k := 1) (g := (gName 1)) (tt := tYes) (te := (tOp rInS (tVar 1) (tC (.str (Str.ofString "0123456789"))))) (hr.mono (by decide)) (by rfl) m_all rfl scIsNum.nd TB rfl (gsc_by (N := N_scIsNum) (sc := defScope sIsNum) (by decide +kernel)) (pi_str (pv 0)) (fun A' hr' _ _ _ _ _ _ => (pg_name (i := 1) scIsNum.nd rfl (.inl rfl))) (fun A' hr' _ _ _ _ _ _ => pts_nil) (fun A' hr' _ _ _ _ _ _ => (pe_cmpR op_inS (pv 1) (pe_glob (v := .str (Str.ofString "0123456789")) (by rfl) c_FIGURES ⟨_, rfl⟩) rfl)))))))) (pss_one (ps_ret pe_bl)) pss_nil)
      (pss_one (ps_ret (pe_or (pe_cmpR op_eq (pv 0) pe_str (nomark _)) (pe_one (pe_cmpR op_ne (pe_ix ix_str (pv 0) pe_int (fun _ _ => rfl)) pe_str (nomark _))))))), ?_⟩
    have q' : ∀ {b : Bool} {H' : Hp}, isNum z = b → K0 H H' → Q (.bl b) H' := fun {b H'} e k => by rw [← e]; exact q H' k
    refine ⟨_, rfl, z, rfl, hz, 1, _, rfl, rfl, _, rfl, ite2 (fun e1 => ⟨_, 6, rfl, rfl, _, rfl, ite2 (fun e2 => ?_) (fun e2 => ?_)⟩) (fun e1 => ?_)⟩
    · refine ⟨_, rfl, z, rfl, tw, fun H2 hT2 => ?_⟩
      have k2 : K0 H H2 := K0.tbd tw hT2
      refine ⟨fun i m H3 => i + m = z.cps.size ∧ K0 H H3 ∧ ∀ c ∈ (tl z).take i, c ∈ figsS.cps.toList, ⟨z.cps.size, by omega, k2, fun c hc => by rw [List.take_zero] at hc; cases hc⟩, fun i m H3 hWi => ?_⟩
      obtain ⟨em, k3, hall⟩ := hWi
      by_cases hi : i < z.cps.size
      · refine .inr ⟨hi, fun H' => K0 H H' ∧ ∀ c ∈ (tl z).take (i + 1), c ∈ figsS.cps.toList, fun H' hN => ⟨m - 1, by omega, by omega, hN⟩, fun x H' hy => ?_⟩
        obtain ⟨rfl, c, hc, rfl⟩ := hy
        have hct : (tl z)[i]? = some c := by
          show z.cps.toList[i]? = some c
          rw [Array.getElem?_toList]; exact hc
        refine ⟨rfl, tyes ⟨_, rfl, c, figsS, rfl, rfl, _, rfl, ite2 (fun e => ?_) (fun e => ?_)⟩⟩
        · refine ⟨k3, fun d hd => ?_⟩
          rw [List.take_add_one, hct] at hd
          rcases List.mem_append.mp hd with h | h
          · exact hall d h
          · cases List.mem_singleton.mp h
            exact of_decide_eq_true e
        · refine ⟨_, rfl, iteT (q' ?_ k3)⟩
          have e' : ((tl z).all (fun c => decide (c ∈ figsS.cps.toList))) = false := by
            rw [List.all_eq_false]
            exact ⟨c, List.mem_of_getElem? hct, e⟩
          unfold isNum
          rw [e', Bool.and_false, Bool.false_and]
      · have hsz : (tl z).length = z.cps.size := by show z.cps.toList.length = _; simp
        rw [List.take_of_length_le (by omega)] at hall
        have e' : ((tl z).all (fun c => decide (c ∈ figsS.cps.toList))) = true := List.all_eq_true.mpr fun c hc => decide_eq_true (hall c hc)
        have hlen : 1 ≤ z.length ∧ z.length ≤ 6 := by
          have := of_decide_eq_true e1
          have := of_decide_eq_true e2
          omega
        refine .inl ⟨Nat.le_of_not_lt hi, _, rfl, iteF ?_⟩
        have eN : isNum z = (decide (z = Str.ofString "0") || !decide ((tl z).head? = some 48)) := by
          unfold isNum
          rw [e', decide_eq_true hlen.1, decide_eq_true hlen.2]
          rfl
        have hz0 : ∃ c l, tl z = c :: l := by
          cases hh : tl z with
          | nil => rw [len_tl, hh] at hlen; exact absurd hlen.1 (by decide)
          | cons c l => exact ⟨c, l, rfl⟩
        obtain ⟨c, l, hcl⟩ := hz0
        refine ⟨_, rfl, rfl, _, rfl, ite2 (fun e => q' ?_ k3) (fun e => ⟨_, rfl, z, 0, c, rfl, rfl, hz, atI_nat (j := 0) (by show (tl z)[0]? = some c; rw [hcl]; rfl), rfl, ?_⟩)⟩
        · have ez : z = Str.ofString "0" := V.str.inj (of_decide_eq_true e)
          rw [eN, decide_eq_true ez, Bool.true_or]
        · refine q' ?_ k3
          have ez : ¬ z = Str.ofString "0" := fun h => e (decide_eq_true (by rw [h]))
          rw [eN, decide_eq_false ez, Bool.false_or]
          congr 1
          rw [hcl]
          by_cases hc : c = 48
          · subst hc
            rw [decide_eq_true (show V.str ⟨#[48]⟩ = V.str (Str.ofString "0") from rfl)]
            rfl
          · rw [decide_eq_false (show ¬ V.str ⟨#[c]⟩ = V.str (Str.ofString "0") from fun h => hc (by
              have h1 : tl ⟨#[c]⟩ = tl (Str.ofString "0") := congrArg tl (V.str.inj h)
              have h2 : [c] = [48] := h1
              exact (List.cons.inj h2).1))]
            exact decide_eq_false (fun h => hc (Option.some.inj h))
    · exact iteT (q' (by
        have : ¬ z.length ≤ 6 := fun h => e2 (decide_eq_true (by omega))
        unfold isNum
        rw [decide_eq_false this, Bool.and_false, Bool.false_and, Bool.false_and]) (K0.refl _))
    · exact ⟨_, rfl, iteF (iteT (q' (by
        have : ¬ 1 ≤ z.length := fun h => e1 (decide_eq_true (by omega))
        unfold isNum
        rw [decide_eq_false this, Bool.false_and, Bool.false_and, Bool.false_and]) (K0.refl _)))⟩
end
end HK

set_option Elab.async false
set_option linter.all false
set_option maxRecDepth 100000
set_option maxHeartbeats 4000000
namespace HK
open PySem PySem.Spec PyProof.Rows L2 GAl GxR
theorem sub_len {l ks : List Int} (nl : l.Nodup) (nk : ks.Nodup) (h : ∀ x ∈ l, x ∈ ks) : l.length ≤ ks.length := by
  have pm : (ks.filter fun x => decide (x ∈ l)).Perm l := (List.perm_ext_iff_of_nodup (List.Nodup.sublist List.filter_sublist nk) nl).mpr fun x => by
    rw [List.mem_filter]
    exact ⟨fun z => of_decide_eq_true z.2, fun z => ⟨h x z, decide_eq_true z⟩⟩
  rw [← pm.length_eq]
  exact List.length_filter_le _ _
/-- the tables of generator expressions -/
def TbL (H : Hp) (l : List Addr) : Prop := ∀ P ∈ l, TabG H P
theorem TbL.kt {t : Addr} {H H' : Hp} {l : List Addr} (h : TbL H l) (k : Kt t H H') : TbL H' l := fun P hP => k.tab P (h P hP)
theorem TbL.k0 {H H' : Hp} {l : List Addr} (h : TbL H l) (k : K0 H H') : TbL H' l := fun P hP => k.tab P (h P hP)
end HK

set_option Elab.async false
set_option linter.all false
set_option maxRecDepth 100000
set_option maxHeartbeats 4000000
namespace HK
open PySem PySem.Spec PyProof.Rows L2 GAl GxR
/-! ### trees as partial functions -/
def stp (g : IF) (v : Int) : Int := (g v).getD v
def clm (g : IF) : Nat → Int → Int
  | 0, v => v
  | n + 1, v => stp g (clm g n v)
theorem stp_none {g : IF} {v : Int} (h : g v = none) : stp g v = v := by unfold stp; rw [h]; rfl
theorem stp_some {g : IF} {v x : Int} (h : g v = some x) : stp g v = x := by unfold stp; rw [h]; rfl
theorem clm_fix {g : IF} {v : Int} {i : Nat} (h : g (clm g i v) = none) : ∀ k, clm g (i + k) v = clm g i v
  | 0 => rfl
  | k + 1 => by
    show stp g (clm g (i + k) v) = _
    rw [clm_fix h k, stp_none h]
theorem clm_root {g : IF} {v root : Int} {i : Nat} (hr : g root = none) (h : clm g i v = root) (k : Nat) : clm g (i + k) v = root := by
  rw [clm_fix (by rw [h]; exact hr), h]
theorem DI.keys {kvs : List (Key × V)} {f : IF} (h : DI kvs f) : ∃ ks : List Int, ks.Nodup ∧ ks.length = kvs.length ∧ (∀ i, i ∈ ks ↔ (f i).isSome = true) ∧ kvs.map (·.1) = ks.map Sum.inl := by
  have aux : ∀ {l : List (Key × V)}, (∀ p ∈ l, ∃ i x : Int, p = (Sum.inl i, V.int x)) → ∃ ks : List Int, l.map (·.1) = ks.map Sum.inl := fun {l} => by
    induction l with
    | nil => exact fun _ => ⟨[], rfl⟩
    | cons p r ih =>
      intro hl
      obtain ⟨ks, e⟩ := ih fun q hq => hl q (List.mem_cons_of_mem _ hq)
      obtain ⟨i, x, rfl⟩ := hl p (List.mem_cons_self ..)
      exact ⟨i :: ks, by rw [List.map_cons, List.map_cons, e]⟩
  obtain ⟨ks, e⟩ := aux h.ks
  have nd := h.nd
  rw [e] at nd
  refine ⟨ks, (List.pairwise_map.mp nd).imp fun hne z => hne (by rw [z]), ?_, fun i => ?_, e⟩
  · have := congrArg List.length e
    rw [List.length_map, List.length_map] at this
    exact this.symm
  · rw [← h.mem i, e, List.mem_map]
    exact ⟨fun z => ⟨i, z, rfl⟩, fun ⟨j, hj, ej⟩ => by cases ej; exact hj⟩
/-- a way to the root takes no more steps than there are keys -/
theorem clm_len {kvs : List (Key × V)} {g : IF} {root v : Int} {m : Nat} (hD : DI kvs g) (hr : g root = none) (h : clm g m v = root) : clm g kvs.length v = root := by
  obtain ⟨ks, nk, lk, mk, _⟩ := hD.keys
  refine Decidable.byContradiction fun hn => ?_
  have absb : ∀ i, i ≤ kvs.length → clm g i v ≠ root := fun i hi z => hn (by
    have := clm_root hr z (kvs.length - i)
    rwa [show i + (kvs.length - i) = kvs.length by omega] at this)
  have lt : kvs.length < m := by
    refine Nat.lt_of_not_le fun z => absb m z h
  have dom : ∀ i, i ≤ kvs.length → (g (clm g i v)).isSome = true := fun i hi => by
    cases e : g (clm g i v) with
    | some x => rfl
    | none =>
      have := clm_fix e (m - i)
      rw [show i + (m - i) = m by omega, h] at this
      exact absurd this.symm (absb i hi)
  by_cases hd : ∀ i j, i < j → j ≤ kvs.length → clm g i v ≠ clm g j v
  · have nl : ((List.range (kvs.length + 1)).map fun i => clm g i v).Nodup := List.pairwise_map.mpr
      (List.Pairwise.imp_of_mem (fun {a b} _ hb lt => hd a b lt (by have := List.mem_range.mp hb; omega)) List.pairwise_lt_range)
    have := sub_len nl nk fun x hx => by
      obtain ⟨i, hi, rfl⟩ := List.mem_map.mp hx
      exact (mk _).mpr (dom i (by have := List.mem_range.mp hi; omega))
    rw [List.length_map, List.length_range] at this
    omega
  · obtain ⟨i, z⟩ := Classical.not_forall.mp hd
    obtain ⟨j, z⟩ := Classical.not_forall.mp z
    obtain ⟨hij, z⟩ := Classical.not_imp.mp z
    obtain ⟨hj, z⟩ := Classical.not_imp.mp z
    have e := Decidable.not_not.mp z
    have per : ∀ t, ∃ s, s ≤ kvs.length ∧ i ≤ s ∧ s < j ∧ clm g (i + t) v = clm g s v := fun t => by
      induction t with
      | zero => exact ⟨i, by omega, Nat.le_refl _, hij, rfl⟩
      | succ t ih =>
        obtain ⟨s, h1, h2, h3, h4⟩ := ih
        have e5 : clm g (i + (t + 1)) v = clm g (s + 1) v := by
          show stp g (clm g (i + t) v) = stp g (clm g s v)
          rw [h4]
        by_cases hs : s + 1 < j
        · exact ⟨s + 1, by omega, by omega, hs, e5⟩
        · exact ⟨i, by omega, Nat.le_refl _, hij, by rw [e5, show s + 1 = j by omega, e]⟩
    obtain ⟨s, h1, _, _, h4⟩ := per (m - i)
    rw [show i + (m - i) = m by omega, h] at h4
    exact absb s h1 h4.symm
/-- going ahead one stays in the tree -/
theorem clm_in {g : IF} {root v : Int} {m : Nat} (hr : g root = none) (h : clm g m v = root) (k : Nat) : clm g k v = root ∨ ∃ x, g (clm g k v) = some x := by
  by_cases hk : clm g k v = root
  · exact .inl hk
  · refine .inr ?_
    cases e : g (clm g k v) with
    | some x => exact ⟨x, rfl⟩
    | none =>
      refine absurd ?_ hk
      by_cases hm : m ≤ k
      · have := clm_root hr h (k - m)
        rwa [show m + (k - m) = k by omega] at this
      · have := clm_fix e (m - k)
        rw [show k + (m - k) = m by omega, h] at this
        exact this.symm
/-! ### the road of a pair -/
def road (rs : List R4) (a b : Int) : Option R4 := rs.find? fun r => decide (r.s = a ∧ r.e = b)
theorem road_some {rs : List R4} {a b : Int} {r : R4} (h : road rs a b = some r) : r ∈ rs ∧ r.s = a ∧ r.e = b := by
  have h2 := List.find?_some h
  exact ⟨List.mem_of_find?_eq_some h, of_decide_eq_true h2⟩
theorem road_none {rs : List R4} {a b : Int} (h : road rs a b = none) : ∀ r ∈ rs, ¬ (r.s = a ∧ r.e = b) := fun r hr z => by
  have := List.find?_eq_none.mp h r hr
  exact this (decide_eq_true z)
theorem lt_uniq {rs : List R4} (up : rs.Pairwise R4.lt) {i j : Nat} {r t : R4} (hi : rs[i]? = some r) (hj : rs[j]? = some t) (e : r.s = t.s ∧ r.e = t.e) : i = j := by
  obtain ⟨li, rfl⟩ := List.getElem?_eq_some_iff.mp hi
  obtain ⟨lj, rfl⟩ := List.getElem?_eq_some_iff.mp hj
  refine Decidable.byContradiction fun ne => ?_
  rcases Nat.lt_or_gt_of_ne ne with l | l
  · have : rs[i].s < rs[j].s ∨ (rs[i].s = rs[j].s ∧ rs[i].e < rs[j].e) := List.pairwise_iff_getElem.mp up i j li lj l
    omega
  · have : rs[j].s < rs[i].s ∨ (rs[j].s = rs[i].s ∧ rs[j].e < rs[i].e) := List.pairwise_iff_getElem.mp up j i lj li l
    omega
theorem road_of {rs : List R4} (up : rs.Pairwise R4.lt) {r : R4} (h : r ∈ rs) : road rs r.s r.e = some r := by
  cases e : road rs r.s r.e with
  | none => exact absurd ⟨rfl, rfl⟩ (road_none e r h)
  | some t =>
    obtain ⟨ht, hs⟩ := road_some e
    obtain ⟨i, hi⟩ := List.getElem?_of_mem ht
    obtain ⟨j, hj⟩ := List.getElem?_of_mem h
    have := lt_uniq up hi hj hs
    subst this
    rw [hi] at hj
    exact hj
theorem road_snoc {rs : List R4} {t : R4} (a b : Int) : road (rs ++ [t]) a b = (road rs a b).or (if t.s = a ∧ t.e = b then some t else none) := by
  unfold road
  rw [List.find?_append]
  congr 1
  by_cases h : t.s = a ∧ t.e = b
  · rw [if_pos h]
    simp [h]
  · rw [if_neg h]
    simp only [List.find?_cons, decide_eq_false h, List.find?_nil]
/-- what a dict makes a tree -/
def TreeP (rs : List R4) (root : Int) (g : IF) (m : Nat) : Prop := g root = none ∧ (∀ v x, g v = some x → (road rs x v).isSome = true) ∧ ∀ v x, g v = some x → clm g m v = root
/-- a dict from pairs to what a road has -/
def TabP (sel : R4 → Int) (rs : List R4) (kvs : List (List Key × V)) : Prop := kvs.length ≤ rs.length ∧ ∀ a b : Int, valV kvs [Sum.inl a, Sum.inl b] = (road rs a b).map fun r => V.int (sel r)
theorem TabP.put {sel : R4 → Int} {rs : List R4} {t : R4} {kvs : List (List Key × V)} (up : (rs ++ [t]).Pairwise R4.lt) (h : TabP sel rs kvs) : TabP sel (rs ++ [t]) (putK kvs [Sum.inl t.s, Sum.inl t.e] (.int (sel t))) := by
  refine ⟨?_, fun a b => ?_⟩
  · have := length_putK kvs [Sum.inl t.s, Sum.inl t.e] (V.int (sel t))
    have := h.1
    rw [List.length_append, List.length_singleton]
    omega
  · rw [valV_put, road_snoc]
    by_cases e : t.s = a ∧ t.e = b
    · obtain ⟨rfl, rfl⟩ := e
      have hno : road rs t.s t.e = none := by
        cases e : road rs t.s t.e with
        | none => rfl
        | some r =>
          obtain ⟨hr, hs⟩ := road_some e
          obtain ⟨i, hi⟩ := List.getElem?_of_mem hr
          have hlt : i < rs.length := (List.getElem?_eq_some_iff.mp hi).1
          have := lt_uniq up (i := i) (j := rs.length) (by rw [List.getElem?_append_left hlt]; exact hi) (by rw [List.getElem?_append_right (Nat.le_refl _)]; simp) hs
          omega
      rw [if_pos rfl, hno, if_pos ⟨rfl, rfl⟩]
      rfl
    · rw [if_neg (fun z => e (by simp at z; exact ⟨z.1.symm, z.2.symm⟩)), if_neg e, h.2]
      cases road rs a b <;> rfl
end HK

set_option Elab.async false
set_option linter.all false
set_option maxRecDepth 100000
set_option maxHeartbeats 4000000
namespace HK
open PySem PySem.Spec PyProof.Rows L2 GAl GxR
section
variable {P : Program} {w : World} {K : PySem.W.Frag} {mg : Str → Option Value} {base : Heap}
def spPairs (K : PySem.W.Frag) (Pp : Addr) : Sp := fun vs H Q _ => ∃ (p : Addr) (kvs : List (Key × V)) (g : IF), vs = [.ref p] ∧ H p = some (.dK kvs) ∧ DI kvs g ∧ TabG H Pp ∧ ∀ H', K0 H H' → Q (.bl true) H'
end
end HK

set_option Elab.async false
set_option linter.all false
set_option maxRecDepth 100000
set_option maxHeartbeats 2000000
/-! A comprehension that makes a dict, keys of either kind: what is put is told by DPut. The rule for ints and texts as keys is the library's pe_dc; its loop (compLoop_anyD) and its block (block_start) serve here too. -/
namespace DTu
open PySem PySem.Spec PyProof.Rows L2
section
variable {X : Cx} {pins : List (Addr × Obj)} {σ : L2.St} {H H' : Hp} {s : Shared} {a : Addr} {y v : V} {u r : Value} {E : Value → Shared → Prop} {Q : Unit → Shared → Prop}
/-- one pair is put -/
theorem dset (hu : X.A.units < cLine) (I : Inv X pins σ H s) (g : DPut H a y v H') (ry : RelV y u) (rv : RelV v r) (h : ∀ s', Inv X pins σ H' s' → Q () s') : wpAny (model X.prog X.w) X.A (dictSet a u r) Q E s := by
  rcases g with ⟨kvs, k, e, rfl, l, rfl⟩ | ⟨kvs, k, b, e, rfl, eb, l, rfl⟩
  · exact d_dictSet I e l ry rv h
  · have := length_putK kvs k v
    cases (show u = Value.ref b from ry)
    obtain ⟨z, nm, xs, rel, dd⟩ := dt_of I.hok e
    refine wpAny_dictSet_heap (hsz := (by rw [← Paired.length rel]; exact z)) (knd := tupleKind (mixKind X.prog X.w)) hu (key_of I.hok eb) dd fun h2 ⟨q, es, ep, c1, c2, c3, c4, _, c5⟩ sb => h _ ?_
    exact d_write I (by rw [e]; trivial) sb ⟨q, c1⟩ ⟨by omega, nm, _, (rel.put k eb rv).keeps fun c ys ec => (upd_ne (ne_of ec e (fun z => nomatch z))).trans ec, q, es, ep, c1, c2, c3, c4, c5⟩
end
section
variable {X : Cx}
/-- {k: v for target in iter if ..} with tuples as keys -/
def tDcT (wi : TI) (g : TG) (tt : TT) (tk tv : TE) (vs : List Nat) : TE := fun σ H Q => wi σ H fun J H1 => ∀ D, H1 D = none → ∃ W : Nat → Nat → Hp → Prop, (∃ m, W 0 m (upd H1 D (.dT []))) ∧ ∀ i m H, W i m H →
  (J.stop i H ∧ Q (.ref D) H) ∨ (J.go i H ∧ ∃ Nx : Hp → Prop, (∀ H', Nx H' → ∃ m', m' < m ∧ W (i + 1) m' H') ∧ ∀ x H', J.yld i H x H' → g x (wipe σ vs) H' fun σ2 H2 => wipe σ2 vs = wipe σ vs ∧ tt σ2 H2 fun b H3 =>
    if b = true then tk σ2 H3 fun y H4 => tv σ2 H4 fun z H5 => ∃ H6, DPut H5 D y z H6 ∧ Nx H6 else Nx H3)
theorem pe_dcT {kx vx tg iter : Expr} {ifs : List Expr} {scope : Scope} {own : List (Str × Nat)} {pos : Pos} {wi : TI} {g : TG} {tt : TT} {tk tv : TE} (hu : X.A.units < cLine) (calm : X.calm = true) (nd : X.N.Nodup) (hi : PI X tg iter wi) (ok : BlkOk X.N X.env.scope scope own)
    (hg : ∀ s H C cl fp, PG (X.blk s H scope (compEnvC scope cl C X.env) fp) tg g) (ht : ∀ s H C cl fp, PTs (X.blk s H scope (compEnvC scope cl C X.env) fp) ifs tt)
    (hk : ∀ s H C cl fp, PE (X.blk s H scope (compEnvC scope cl C X.env) fp) kx tk) (he : ∀ s H C cl fp, PE (X.blk s H scope (compEnvC scope cl C X.env) fp) vx tv)
    (hf : ∀ x, foldedSetIterable iter X.env x = pure x := by intro _; rfl) : PE X (.DictComp kx vx [⟨tg, iter, ifs, 0⟩] scope pos) (tDcT wi g tt tk tv (own.map (·.2))) := by
  refine ⟨fun pins s σ H Q I h => ?_⟩
  rw [arm_eval_DictComp]
  refine wpAny_comprehension_free rfl hf (closure_ok fun y hy e => (ok.free y hy e).elim (fun k => I.ok.has _ (.inl k)) (fun k => I.ok.has _ (.inr k))) ok.kind (fun y hy e => by rw [ok.uniq y hy, e]) ?_
  refine thn (hi.run pins s σ H _ I h) fun _ _ hx => thn hx fun _ s2 ⟨it, fp, tn, J, H2, e, I2, T, st2, f2, q⟩ => ?_
  subst e
  refine wpAny_newObj_type (newEnv_comp ?_)
  -- the new dict stands at D
  generalize hD : s2.heap.objs.size = D
  obtain ⟨W, ⟨m0, w0⟩, turn⟩ := q D (I2.hok.fresh (Nat.le_of_eq hD))
  obtain ⟨s3, hs3⟩ : ∃ s3 : Shared, s3 = { s2 with heap := s2.heap.push { cls := .type "dict", data := .dict #[] } } := ⟨_, rfl⟩
  have up : ∀ b o, s2.heap.get? b = some o → s3.heap.get? b = some o := fun b o e => by rw [hs3]; exact Heap.get?_push_of_some _ e
  have I3 : Inv X pins σ (upd H2 D (.dT [])) s3 := by
    subst hs3 hD
    exact I2.laid (t' := s2.toks) (fun _ _ e => Heap.get?_push_of_some _ e) (Nat.le_refl _) (dt_empty s2.heap I2.big)
  have f3 : ∀ b ∈ fp, FpOk X pins (upd H2 D (.dT [])) b ∧ b < s3.heap.objs.size := fun b hb => by
    obtain ⟨o, eo, _⟩ := T.obj _ _ st2 b hb
    have lt := Heap.lt_size eo
    exact ⟨⟨(upd_ne (by rw [← hD]; exact Nat.ne_of_lt lt)).trans (f2 b hb).1, (f2 b hb).2⟩, Heap.lt_size (up b o eo)⟩
  have I4 := block_start I3 ok nd f3
  rw [← hs3]
  -- the block's letters
  generalize hC : s3.heap.objs.size = C at I4 ⊢
  generalize hcl : cellsFrom (C + 1) scope.names (cloFrom X.env.cells scope.names []) = cl at I4 ⊢
  generalize hH3 : upd H2 D (.dT []) = H3 at I3 I4 f3 w0
  have G := hg s3 H3 C cl fp
  have Te := ht s3 H3 C cl fp
  have Ke := hk s3 H3 C cl fp
  have Ve := he s3 H3 C cl fp
  show codeAny _ _ (.compStart (.DictComp kx vx [⟨tg, iter, ifs, 0⟩] scope pos) 0 (.ref it) (.ref D) (compEnvC scope cl C X.env)) _ _
  obtain ⟨s4, hs4⟩ : ∃ s4 : Shared, s4 = { s3 with heap := pushCells (s3.heap.push { cls := .type "dict", data := .dict #[] }) scope.names } := ⟨_, rfl⟩
  rw [← hs4] at I4
  have st4 : tn 0 s4.heap := T.keep _ _ _ st2 fun b _ o e => by rw [hs4]; exact pushCells_keeps _ _ _ _ (Heap.get?_push_of_some _ (up b o e))
  have fpB : ∀ {σ' : L2.St} {H' : Hp} {s' : Shared}, Inv (X.blk s3 H3 scope (compEnvC scope cl C X.env) fp) [] σ' H' s' → (∀ b ∈ fp, H' b = none) → ∀ b ∈ fp, FpOk (X.blk s3 H3 scope (compEnvC scope cl C X.env) fp) [] H' b :=
    fun I' n b hb => ⟨n b hb, (I'.ok.exf b hb).1, I'.ok.exfs b hb, .inl hb, (I'.ok.exf b hb).2, fun p hp => by cases (show p ∈ ([] : List (Addr × Obj)) from hp)⟩
  have loop : codeAny (model X.prog X.w) X.A (.compLoop (.DictComp kx vx [⟨tg, iter, ifs, 0⟩] scope pos) 0 (.ref it) (.ref D) (compEnvC scope cl C X.env)) (compPost (model X.prog X.w) X.A X.xe none (fun u s' => ∃ y H', Inv X pins σ H' s' ∧ RelV y u ∧ Q y H') (.ref D) C) s4 := by
    refine compLoop_anyD (fun n s' => ∃ i H', Inv (X.blk s3 H3 scope (compEnvC scope cl C X.env) fp) [] (wipe σ (own.map (·.2))) H' s' ∧ tn i s'.heap ∧ (∀ b ∈ fp, H' b = none) ∧ W i n H') ?_ m0 ⟨0, H3, I4, st4, fun b hb => (f3 b hb).1.1, w0⟩
    rintro n s5 ⟨i, H5, I5, st5, n5, w5⟩
    rcases turn i n H5 w5 with ⟨stop, qq⟩ | ⟨go, Nx, hNx, step⟩
    · refine thnF (T.done (X.blk s3 H3 scope (compEnvC scope cl C X.env) fp) rfl rfl rfl calm i [] s5 _ H5 (fun _ _ => False) I5 (fpB I5 n5) st5 stop) fun r s6 ⟨hr, I6⟩ => ?_
      subst hr
      have I7 : Inv X pins σ H5 s6 := I3.call' (ch := fp) I6.os I6.base I6.hok I6.bare fun b hb => ⟨(f3 b hb).1.2.2.2.1, (f3 b hb).1.2.1, (f3 b hb).1.2.2.2.2.1, (f3 b hb).1.2.2.2.2.2⟩
      obtain ⟨m, hn, _⟩ := I6.loc
      have hfree : H5 C = none := I6.free
      have F := I3.fpOk (Nat.le_of_eq hC) hfree
      exact ⟨m, hn, fun h2 sb => ⟨.ref D, H5, I7.turned (t' := s6.toks) (fun b o hb e => (sb.2 b hb).trans e) F.1 F.2.1 F.2.2.2.1 F.2.2.2.2.1 F.2.2.2.2.2, rfl, qq⟩⟩
    · refine thnF (T.item (X.blk s3 H3 scope (compEnvC scope cl C X.env) fp) rfl rfl rfl calm i [] s5 _ H5 (fun _ _ => False) I5 (fpB I5 n5) st5 go) fun r s6 ⟨uv, hr, h6⟩ => ?_
      subst hr
      refine thnF h6 fun _ s7 ⟨x, H7, I7, r7, y7, st7, n7⟩ => ?_
      refine thnF (G.run _ s7 _ H7 x uv _ (I7.pinned (fpB I7 n7) (T.obj _ _ st7)) r7 (step x H7 y7)) fun _ s8 ⟨σ8, H8, I8, w8, q8⟩ => ?_
      refine thnF (Te.run _ s8 σ8 H8 _ I8 q8) fun b s9 ⟨H9, I9, q9⟩ => ?_
      have fin : ∀ {s' : Shared} {H' : Hp}, Inv (X.blk s3 H3 scope (compEnvC scope cl C X.env) fp) ([] ++ pinsAt fp s7.heap) σ8 H' s' → Nx H' → ∃ m, m < n ∧ ∃ i H', Inv (X.blk s3 H3 scope (compEnvC scope cl C X.env) fp) [] (wipe σ (own.map (·.2))) H' s' ∧ tn i s'.heap ∧ (∀ b ∈ fp, H' b = none) ∧ W i m H' := fun {s' H'} I' nx => by
        obtain ⟨m', lt, w'⟩ := hNx H' nx
        have pn : ∀ b ∈ fp, ∀ o, s7.heap.get? b = some o → s'.heap.get? b = some o ∧ H' b = none := fun b hb o e => by
          have z := I'.pin (b, o) (List.mem_append_right _ (List.mem_append_right _ (mem_pinsAt hb e)))
          exact ⟨z.1, z.2.1⟩
        refine ⟨m', lt, i + 1, H', (I'.unpinned (pins := [])).weak (by rw [← w8, wipe_length]) (fun j v e => (wipe_some (by rw [w8]; exact e)).1), T.keep _ _ _ st7 fun b hb o e => (pn b hb o e).1, fun b hb => ?_, w'⟩
        obtain ⟨o, e, _⟩ := T.obj _ _ st7 b hb
        exact (pn b hb o e).2
      cases b with
      | false => exact fin I9 q9
      | true =>
        refine thnF (Ke.run _ s9 σ8 H9 _ I9 q9) fun kv s10 ⟨yk, H10, I10, r10, q10⟩ => ?_
        refine thnF (Ve.run _ s10 σ8 H10 _ I10 q10) fun vv s11 ⟨yv, H11, I11, r11, H12, put, nx⟩ => ?_
        exact dset (X := X.blk s3 H3 scope (compEnvC scope cl C X.env) fp) hu I11 put r10 r11 fun s12 I12 => fin I12 nx
  rw [hs4] at st4 loop
  exact codeAny_compStart_dict loop (T.self X.A 0 _ _ _ st4 loop)
end
end DTu

set_option Elab.async false
set_option linter.all false
set_option maxRecDepth 100000
set_option maxHeartbeats 4000000
namespace HK
open PySem PySem.Spec PyProof.Rows L2 GAl GxR DTu
open Evl (pss_cut)
theorem call_lenR {X : Cx} : CallR X (.builtin "len") (fun xs H Q => ∃ a kvs, xs = [V.ref a] ∧ Rd H a (.dK kvs) ∧ Q (.int kvs.length) H) := by
  intro pins s σ H xs us Q I r ⟨a, kvs, e, ha, q⟩
  subst e
  obtain ⟨u, rfl, ru⟩ := vals1 r
  cases ru
  exact d_len I ha fun t s' I' => ⟨.int kvs.length, H, I', ⟨t, rfl⟩, q⟩
section
variable {P : Program} {w : World} {K : PySem.W.Frag} {mg : Str → Option Value} {base : Heap}
theorem NetAt.mut {H H' : Hp} {a p : Addr} {n : Int} {rs : List R4} {o : HO} (h : NetAt K H a n rs) (k : K0 H H') (np : H p = none) : NetAt K (upd H' p o) a n rs := h.k0 (k.mut np)
/-- the tables of roads -/
def spTab (sel : R4 → Int) (K : PySem.W.Frag) : Sp := fun vs H Q _ => ∃ (a : Addr) (n : Int) (rs : List R4), vs = [.ref a] ∧ NetAt K H a n rs ∧ Good n rs ∧ rs.length ≤ 156 ∧
  ∀ (D : Addr) (kvs : List (List Key × V)) (H' : Hp), K0 H H' → H D = none → H' D = some (.dT kvs) → TabP sel rs kvs → Q (.ref D) H'
/-- does a way lead to the root? -/
def spLeads (K : PySem.W.Frag) : Sp := fun vs H Q _ => ∃ (root : Int) (p : Addr) (kvs : List (Key × V)) (g : IF) (v : Int), vs = [.int root, .ref p, .int v] ∧ Rd H p (.dK kvs) ∧ DI kvs g ∧ kvs.length ≤ 5000 ∧ Q (.bl (decide (clm g kvs.length v = root))) H
end
end HK

set_option Elab.async false
set_option linter.all false
set_option maxRecDepth 100000
set_option maxHeartbeats 4000000
namespace HK
open PySem PySem.Spec PyProof.Rows L2 GAl GxR DTu
open Evl (pss_cut)
section
variable {P : Program} {w : World} {K : PySem.W.Frag} {mg : Str → Option Value} {base : Heap}
def spGrows (K : PySem.W.Frag) (Pp Pg : Addr) : Sp := fun vs H Q _ => ∃ (a : Addr) (n : Int) (rs : List R4) (root : Int) (p : Addr) (kvs : List (Key × V)) (g : IF), vs = [.ref a, .int root, .ref p] ∧ NetAt K H a n rs ∧ Good n rs ∧ rs.length ≤ 156 ∧
  H p = some (.dK kvs) ∧ DI kvs g ∧ kvs.length ≤ 5000 ∧ TabG H Pp ∧ TabG H Pg ∧ ∀ (H' : Hp) (b : Bool), K0 H H' → (b = true ↔ TreeP rs root g kvs.length) → Q (.bl b) H'
end
end HK


set_option Elab.async false
set_option linter.all false
set_option maxRecDepth 100000
set_option maxHeartbeats 2000000
namespace GAl
open PySem PySem.Spec PyProof.Rows L2 GxR
open Sem (wp)
/-! ### generator expressions whose consumer keeps a record S of its own -/

theorem Inv.kallS {X : Cx} {ps : List (Addr × Obj)} {S : Addr} {oS oS' : Obj} {σ : L2.St} {H : Hp} {s s'' : Shared} (I : Inv X (ps ++ [(S, oS)]) σ H s) (hy : S ∈ X.ex ∨ X.s_0.heap.objs.size ≤ S) (hps : ∀ p ∈ X.pn ++ ps, p.1 ≠ S)
    (ho : s''.os = s.os) (hb : AllBare s''.gens) (k : ∀ b o, b ≠ S → s.heap.get? b = some o → s''.heap.get? b = some o) (hS : s''.heap.get? S = some oS') (hd : ∀ v, oS'.data ≠ .cell v) : Inv X (ps ++ [(S, oS')]) σ H s'' := by
  obtain ⟨h1, h2, h3, h4, h5⟩ := I.pin (S, oS) (List.mem_append_right _ (List.mem_append_right _ (List.mem_singleton.mpr rfl)))
  have hcell : ∀ x c, X.env.cells.lookup x = some c → c ≠ S := fun x c e z => by
    obtain ⟨v, o, q, d⟩ := I.cell x c e
    have h1 : s.heap.get? S = some oS := h1
    rw [z, h1] at q
    cases q
    exact h5 _ d
  have I' : Inv X ps σ H s := I.unpinned
  have I1 := I'.turned (it := S) (h' := s''.heap) (t' := s.toks) k h2 h3 hy hcell hps
  have I2 : Inv X ps σ H s'' := Inv.kall I1 ho hb (fun _ _ e => e)
  refine I2.pins_of fun p hp => ?_
  rcases List.mem_append.mp hp with hp | hp
  · exact I2.pin p (List.mem_append_right _ hp)
  · have := List.mem_singleton.mp hp
    subst this
    exact ⟨hS, h2, h3, h4, hd⟩

section
variable {G : Type}
def REndS (XG : Cx) (a : Addr) (oa : Obj) (S : Addr) (Rep : Obj → G → Prop) (σw : L2.St) (Qd : G → Hp → Prop) : Nat → Shared → Shared → Prop := fun _ s₀ s₁ =>
  ∃ γ oS H4, s₀.heap.get? S = some oS ∧ Rep oS γ ∧ Inv XG ([(a, oa)] ++ [(S, oS)]) σw H4 s₁ ∧ Qd γ H4
def YOutS (XG : Cx) (a : Addr) (oa : Obj) (S : Addr) (Rep : Obj → G → Prop) (stp : G → V → Hp → (G → Prop) → Prop) : Protocol := fun _ s₀ v s kap =>
  ∃ γ oS y H4 σ4, s₀.heap.get? S = some oS ∧ Rep oS γ ∧ Inv XG ([(a, oa)] ++ [(S, oS)]) σ4 H4 s ∧ RelV y v ∧
    stp γ y H4 (fun γ' => ∀ (s'' : Shared) (oS' : Obj), s''.os = s.os → AllBare s''.gens → (∀ b o, b ≠ S → s.heap.get? b = some o → s''.heap.get? b = some o) → s''.heap.get? S = some oS' → Rep oS' γ' → (∀ v, oS'.data ≠ .cell v) → kap (.send .none) s'')
/-- what a turn asks -/
def GTurnS (J : It) (g : TG) (tt : TT) (te : TE) (vs : List Nat) (σw : L2.St) (Qd : Nat → G → Hp → Prop) (stp : G → V → Hp → (G → Prop) → Prop) (W : Nat → Nat → G → Hp → Prop) : Prop :=
  ∀ i m γ H, W i m γ H → (J.stop i H ∧ Qd m γ H) ∨ (J.go i H ∧ ∃ Nx : G → Hp → Prop, (∀ γ' H', Nx γ' H' → ∃ m', m' < m ∧ W (i + 1) m' γ' H') ∧ ∀ x H', J.yld i H x H' → g x σw H' fun σ2 H2 => wipe σ2 vs = σw ∧ tt σ2 H2 fun b H3 =>
    if b = true then te σ2 H3 fun y H4 => stp γ y H4 (fun γ' => Nx γ' H4) else Nx γ H3)
/-- one turn of the last clause -/
@[reducible] def turnOf (tg iter : Expr) (ifs : List Expr) (elt : Expr) (it : Value) (cenv : Env) (c : Code) : Sem Fin := do
  standAt iter.pos
  match ← pyNext it with
  | none => pure (.done .next)
  | some v =>
    letOwnedTupleGo tg it v
    assign tg cenv v
    let mut ok := true
    for c in ifs do
      if ok then ok ← isTrue c cenv (eval c cenv)
    if ok then
      (do let v ← eval elt cenv; standAt elt.pos; let _ ← yieldOut cenv v)
    again c
/-- what the iterator's objects are, whatever stands in the heap -/
def FpSt (X : Cx) (b : Addr) : Prop := b ≠ X.env.locals ∧ b ∉ X.fs ∧ (b ∈ X.ex ∨ X.s_0.heap.objs.size ≤ b) ∧ (∀ x c, X.env.cells.lookup x = some c → c ≠ b)
end

section
variable {G : Type} {X XG XI : Cx} {elt tg iter : Expr} {ifs : List Expr} {it a S : Addr} {oa : Obj} {fp : List Addr} {cenv : Env} {AG : Around} {c : Code} {fs : List Frame} {lv : Value → Sem Unit} {J : It} {tn : Nat → Heap → Prop} {R : GenEnd} {ps : List (Addr × Obj)}
  {g : TG} {tt : TT} {te : TE} {vs : List Nat} {σw : L2.St} {Qd : Nat → G → Hp → Prop} {Rep : Obj → G → Prop} {stp : G → V → Hp → (G → Prop) → Prop} {W : Nat → Nat → G → Hp → Prop}

theorem gen_loopS (hA : XI.A = AG.over c fs) (hP : XI.prog = X.prog) (hw : XI.w = X.w) (hK : XI.K = X.K) (hcalm : XI.calm = true) (henv : XI.env = cenv) (hxe : XI.xe = fun _ _ => False) (hpn : XI.pn = [])
    (hden : (model X.prog X.w).den c = (turnOf tg iter ifs elt (.ref it) cenv c).onRaise lv) (hcq : c.quiet = true) (hfs : splitAtGen fs = none) (hfg : fs.any Frame.guarded = false)
    (hco : cenv.scope.isCoroutine = false) (T : Turn X.prog X.w X.K tg J fp it tn) (hst : ∀ b ∈ fp, FpSt XI b) (hSy : S ∈ XI.ex ∨ XI.s_0.heap.objs.size ≤ S) (hSfp : ∀ b ∈ fp, S ≠ b) (hpsS : ∀ p ∈ ps, p.1 ≠ S) (hpsf : ∀ p ∈ ps, ∀ b ∈ fp, p.1 ≠ b) (haps : (a, oa) ∈ ps)
    (hmono : ∀ γ y H (p q : G → Prop), (∀ γ', p γ' → q γ') → stp γ y H p → stp γ y H q)
    (htr : ∀ ps σ H s, Inv XI ps σ H s → Inv XG ps σ H s)
    (hend : ∀ m n γ oS s₀ s H, m < n → s₀.heap.get? S = some oS → Rep oS γ → Inv XI (ps ++ [(S, oS)]) σw H s → Qd m γ H → Seg (model X.prog X.w) AG R (YOutS XG a oa S Rep stp) n s₀ c (leafOf (.ok .next)) fs s)
    (pg : PG XI tg g) (pt : PTs XI ifs tt) (pe : PE XI elt te) (hW : GTurnS J g tt te vs σw Qd stp W) :
    ∀ (m n i : Nat) (γ : G) (oS : Obj) (s₀ s : Shared) (H : Hp), m < n → W i m γ H → s₀.heap.get? S = some oS → Rep oS γ → Inv XI (ps ++ [(S, oS)]) σw H s → tn i s.heap → (∀ b ∈ fp, H b = none) →
      Seg (model X.prog X.w) AG R (YOutS XG a oa S Rep stp) n s₀ c ((model X.prog X.w).den c) fs s := by
  have stat : ∀ {oS : Obj} {σ' : L2.St} {H' : Hp} {s' : Shared}, Inv XI (ps ++ [(S, oS)]) σ' H' s' → (∀ b ∈ fp, H' b = none) → ∀ b ∈ fp, FpOk XI (ps ++ [(S, oS)]) H' b := fun {oS σ' H' s'} I' hn b hb =>
    ⟨hn b hb, (hst b hb).1, (hst b hb).2.1, (hst b hb).2.2.1, (hst b hb).2.2.2, fun p hp => by
      rw [hpn, List.nil_append] at hp
      rcases List.mem_append.mp hp with hp | hp
      · exact hpsf p hp b hb
      · have := List.mem_singleton.mp hp
        subst this
        exact hSfp b hb⟩
  have hpsS' : ∀ p ∈ XI.pn ++ ps, p.1 ≠ S := by rw [hpn]; exact hpsS
  intro m
  induction m using Nat.strongRecOn with
  | ind m ih =>
    intro n i γ oS s₀ s H hmn w hS0 hRep I st nH
    rw [hden, Sem.onRaise_eq_wrap]
    refine seg_bind_wrap (wpAny_standAt ?_)
    rcases hW i m γ H w with ⟨stop, qq⟩ | ⟨go, Nx, hNx, step⟩
    · have td := T.done XI hP hw hK hcalm i _ s _ H (fun _ _ => False) I (stat I nH) st stop
      rw [hA] at td
      refine seg_bind_wrap (thnF td fun r s1 ⟨hr, I1⟩ => ?_)
      subst hr
      exact hend m n γ oS s₀ s1 H hmn hS0 hRep I1 qq
    · have ti := T.item XI hP hw hK hcalm i _ s _ H (fun _ _ => False) I (stat I nH) st go
      rw [hA] at ti
      refine seg_bind_wrap (thnF ti fun r s1 ⟨u, hr, h1⟩ => ?_)
      subst hr
      refine seg_bind_wrap (thnF h1 fun _ s2 ⟨x, H2, I2, r2, y2, st2, n2⟩ => ?_)
      have I2' := I2.pinned (stat I2 n2) (T.obj _ _ st2)
      have rg := pg.run _ s2 _ H2 x u _ I2' r2 (step x H2 y2)
      rw [hA, hP, hw, henv, hxe] at rg
      refine seg_bind_wrap (thnF rg fun _ s3 ⟨σ3, H3, I3, hw3, q3⟩ => ?_)
      have rt := pt.run _ s3 σ3 H3 _ I3 q3
      rw [hA, hP, hw, henv, hxe] at rt
      refine seg_bind_wrap (thnF rt fun b s5 ⟨H5, I5, q5⟩ => ?_)
      have hl : σw.length = σ3.length := by rw [← hw3, wipe_length]
      have pin' : ∀ {H' : Hp} {s' : Shared} {σ' : L2.St}, Inv XI ((ps ++ [(S, oS)]) ++ pinsAt fp s2.heap) σ' H' s' → ∀ b ∈ fp, ∀ o, s2.heap.get? b = some o → s'.heap.get? b = some o ∧ H' b = none := fun {H' s' σ'} I' b hb o e =>
        let z := I'.pin (b, o) (List.mem_append_right _ (List.mem_append_right _ (mem_pinsAt hb e)))
        ⟨z.1, z.2.1⟩
      cases b with
      | false =>
        simp only [Bool.false_eq_true, if_false] at q5 ⊢
        obtain ⟨m', hm, w'⟩ := hNx γ H5 q5
        refine seg_again hcq (ih m' hm n (i + 1) γ oS s₀ s5 H5 (by omega) w' hS0 hRep ((I5.unpinned (pins := ps ++ [(S, oS)])).weak hl (fun j v e => ?_)) (T.keep _ _ _ st2 fun b hb o e => (pin' I5 b hb o e).1) (fun b hb => ?_))
        · rw [← hw3] at e
          exact (wipe_some e).1
        · obtain ⟨o, e, _⟩ := T.obj _ _ st2 b hb
          exact (pin' I5 b hb o e).2
      | true =>
        simp only [if_true] at q5 ⊢
        have hy : ∀ v, yieldOut cenv v = yieldValue v := fun v => by simp only [yieldOut, hco, Bool.false_eq_true, if_false]
        simp only [hy]
        rw [Sem.bind_eq_wrap', Sem.bind_eq_wrap', Sem.wrap_wrap, Sem.wrap_wrap]
        have re := pe.run _ s5 σ3 H5 _ I5 q5
        rw [hA, hP, hw, henv, hxe] at re
        refine seg_wrap (thnF re fun z s6 ⟨yv, H6, I6, r6, q6⟩ => ?_)
        cases n with
        | zero => exact absurd hmn (Nat.not_lt_zero _)
        | succ n =>
          have I6' : Inv XI (ps ++ [(S, oS)]) σ3 H6 s6 := I6.unpinned
          have I6w : Inv XI (ps ++ [(S, oS)]) σw H6 s6 := I6'.weak hl (fun j v e => by rw [← hw3] at e; exact (wipe_some e).1)
          refine seg_at (seg_yield hfs rfl hfg ⟨γ, oS, yv, H6, σ3, hS0, hRep, htr _ _ _ _ (I6'.pins_of fun p hp => I6'.pin p (List.mem_append_right _ ?_)), r6, hmono _ _ _ _ _ (fun γ' nx s'' oS' e1 e2 e3 e4 e5 e6 => ?_) q6⟩)
          · rcases List.mem_append.mp hp with hp | hp
            · have := List.mem_singleton.mp hp
              subst this
              exact List.mem_append_left _ haps
            · exact List.mem_append_right _ hp
          · obtain ⟨m', hm, w'⟩ := hNx γ' H6 nx
            refine seg_again hcq (ih m' hm n (i + 1) γ' oS' s'' s'' H6 (by omega) w' e4 e5 (Inv.kallS I6w hSy hpsS' e1 e2 e3 e4 e6) (T.keep _ _ _ st2 fun b hb o e => e3 b o (fun z => hSfp b hb z.symm) (pin' I6 b hb o e).1) (fun b hb => ?_))
            obtain ⟨o, e, _⟩ := T.obj _ _ st2 b hb
            exact (pin' I6 b hb o e).2
end
end GAl

set_option Elab.async false
set_option linter.all false
set_option maxRecDepth 100000
set_option maxHeartbeats 2000000
namespace GAl
open PySem PySem.Spec PyProof.Rows L2 GxR
open Sem (wp)
section
variable {G : Type} {X : Cx} {elt tg iter : Expr} {ifs : List Expr} {scope : Scope} {pos : Pos} {it a S : Addr} {oa : Obj} {fp : List Addr} {cenv : Env} {AG : Around} {s4 : Shared} {Hs : Hp} {J : It} {tn : Nat → Heap → Prop}
  {g : TG} {tt : TT} {te : TE} {vs : List Nat} {σw : L2.St} {Qd : G → Hp → Prop} {Rep : Obj → G → Prop} {stp : G → V → Hp → (G → Prop) → Prop} {W : Nat → Nat → G → Hp → Prop}
theorem gen_beginS (hc : X.calm = true) (hco : cenv.scope.isCoroutine = false) (T : Turn X.prog X.w X.K tg J fp it tn) (hafp : ∀ b ∈ fp, a ≠ b) (hSfp : ∀ b ∈ fp, S ≠ b) (haS : a ≠ S) (hSy : s4.heap.objs.size ≤ S)
    (hmono : ∀ γ y H (p q : G → Prop), (∀ γ', p γ' → q γ') → stp γ y H p → stp γ y H q)
    (pg : PG (gcx X (AG.over (.compLoop (.GeneratorExp elt [⟨tg, iter, ifs, 0⟩] scope pos) 0 (.ref it) .none cenv) []) s4 Hs cenv fp) tg g)
    (pt : PTs (gcx X (AG.over (.compLoop (.GeneratorExp elt [⟨tg, iter, ifs, 0⟩] scope pos) 0 (.ref it) .none cenv) []) s4 Hs cenv fp) ifs tt)
    (pe : PE (gcx X (AG.over (.compLoop (.GeneratorExp elt [⟨tg, iter, ifs, 0⟩] scope pos) 0 (.ref it) .none cenv) []) s4 Hs cenv fp) elt te)
    (hW : GTurnS J g tt te vs σw (fun _ => Qd) stp W) (m : Nat) (γ : G) (oS : Obj) (s₀ s : Shared) (H : Hp) (w : W 0 m γ H) (hS0 : s₀.heap.get? S = some oS) (hRep : Rep oS γ)
    (I : Inv (gcx X (AG.over (.compLoop (.GeneratorExp elt [⟨tg, iter, ifs, 0⟩] scope pos) 0 (.ref it) .none cenv) []) s4 Hs cenv fp) ([(a, oa)] ++ [(S, oS)]) σw H s) (st : tn 0 s.heap) (nH : ∀ b ∈ fp, H b = none) :
      Seg (model X.prog X.w) AG (fun n s₀ r s₁ => r = .ok .next ∧ REndS (gcx X (AG.over (.compLoop (.GeneratorExp elt [⟨tg, iter, ifs, 0⟩] scope pos) 0 (.ref it) .none cenv) []) s4 Hs cenv fp) a oa S Rep σw Qd n s₀ s₁)
        (YOutS (gcx X (AG.over (.compLoop (.GeneratorExp elt [⟨tg, iter, ifs, 0⟩] scope pos) 0 (.ref it) .none cenv) []) s4 Hs cenv fp) a oa S Rep stp) (m + 1) s₀
        (.compStart (.GeneratorExp elt [⟨tg, iter, ifs, 0⟩] scope pos) 0 (.ref it) .none cenv)
        ((model X.prog X.w).den (.compStart (.GeneratorExp elt [⟨tg, iter, ifs, 0⟩] scope pos) 0 (.ref it) .none cenv)) [] s := by
  have hst : ∀ b ∈ fp, FpSt (gcx X (AG.over (.compLoop (.GeneratorExp elt [⟨tg, iter, ifs, 0⟩] scope pos) 0 (.ref it) .none cenv) []) s4 Hs cenv fp) b := fun b hb =>
    ⟨(I.ok.exf b hb).1, I.ok.exfs b hb, .inl hb, fun x c e => (I.ok.exf b hb).2 x c e⟩
  have loop := gen_loopS (a := a) (oa := oa) (S := S) (ps := [(a, oa)]) (R := fun n s₀ r s₁ => r = .ok .next ∧ REndS (gcx X (AG.over (.compLoop (.GeneratorExp elt [⟨tg, iter, ifs, 0⟩] scope pos) 0 (.ref it) .none cenv) []) s4 Hs cenv fp) a oa S Rep σw Qd n s₀ s₁) (Rep := Rep) (Qd := fun _ => Qd)
    (c := .compLoop (.GeneratorExp elt [⟨tg, iter, ifs, 0⟩] scope pos) 0 (.ref it) .none cenv) (fs := []) (cenv := cenv) (iter := iter) (lv := leaving cenv) (X := X) (AG := AG)
    (XG := gcx X (AG.over (.compLoop (.GeneratorExp elt [⟨tg, iter, ifs, 0⟩] scope pos) 0 (.ref it) .none cenv) []) s4 Hs cenv fp)
    (XI := gcx X (AG.over (.compLoop (.GeneratorExp elt [⟨tg, iter, ifs, 0⟩] scope pos) 0 (.ref it) .none cenv) []) s4 Hs cenv fp)
    rfl rfl rfl rfl hc rfl rfl rfl rfl rfl rfl rfl hco T hst (.inr hSy) hSfp
    (fun p hp => by have := List.mem_singleton.mp hp; subst this; exact haS) (fun p hp b hb => by have := List.mem_singleton.mp hp; subst this; exact hafp b hb) (List.mem_singleton.mpr rfl)
    hmono (fun _ _ _ _ I => I) (fun m n γ oS s₀ s H _ e1 e2 I q => seg_end (.ok .next) ⟨rfl, γ, oS, H, e1, e2, I, q⟩) pg pt pe hW m (m + 1) 0 γ oS s₀ s H (Nat.lt_succ_self _) w hS0 hRep I st nH
  show Seg _ AG _ _ _ s₀ _ ((compStart (.GeneratorExp elt [⟨tg, iter, ifs, 0⟩] scope pos) 0 (.ref it) .none cenv).onRaise (leaving cenv)) [] s
  unfold compStart
  rw [Sem.onRaise_eq_wrap]
  show Seg _ AG _ _ _ s₀ _ ((ask >>= _).wrap _ _ _ _) [] s
  refine seg_bind_wrap (wpAny_askSetting ?_)
  split
  · exact seg_again rfl loop
  · first
      | exact seg_bind_wrap (wpAny_rule (seg_bind_wrap (wpAny_standAt (seg_bind_wrap (T.self _ 0 s _ _ st (seg_again rfl loop))))))
      | (refine seg_bind_wrap (wpAny_rule ?_); show Seg _ AG _ _ _ s₀ _ ((standAt iter.pos >>= _).wrap _ _ _ _) [] s; exact seg_bind_wrap (wpAny_standAt (seg_bind_wrap (T.self _ 0 s _ _ st (seg_again rfl loop)))))
end

/-- what a consumed generator expression asks: the walked thing, the def's table, the turns -/
def tGenS {G : Type} (P : Addr) (wi : TI) (g : TG) (tt : TT) (te : TE) (vs : List Nat) (stp : G → V → Hp → (G → Prop) → Prop) (γ0 : G) (Qd : G → Hp → Prop) : L2.St → Hp → Prop := fun σ H =>
  wi σ H fun J H1 => TabG H1 P ∧ ∀ H2, Tabbed P H1 H2 → ∃ W : Nat → Nat → G → Hp → Prop, (∃ m, W 0 m γ0 H2) ∧ GTurnS J g tt te vs (wipe σ vs) (fun _ => Qd) stp W

section
variable {G : Type} {X : Cx} {pins : List (Addr × Obj)} {σ : L2.St} {H : Hp} {s : Shared}
theorem gen_makeS {c P : Addr} {elt tg iter : Expr} {ifs : List Expr} {gpos : Pos} {scope : Scope} {own : List (Str × Nat)} {wi : TI} {g : TG} {tt : TT} {te : TE} {k : Nat} {stp : G → V → Hp → (G → Prop) → Prop} {Rep : Obj → G → Prop} {γ0 : G} {Qd : G → Hp → Prop} {Q' : Value → Shared → Prop}
    (hr : Room (k + 1) X.A) (hc : X.calm = true) (hN : X.N.Nodup) (TB : TabB X.base X.mg c P) (hcode : X.env.code = .ref c) (SC : GSc X.N X.env.scope scope own) (hi : PI X tg iter wi)
    (hg : ∀ (A' : Around), Room k A' → ∀ (s : Shared) (H : Hp) (cl : List (Str × Addr)) (C : Addr) (code : Value) (fp : List Addr), PG (gcx X A' s H (genEnv scope cl C code builtinsNs X.env) fp) tg g)
    (ht : ∀ (A' : Around), Room k A' → ∀ (s : Shared) (H : Hp) (cl : List (Str × Addr)) (C : Addr) (code : Value) (fp : List Addr), PTs (gcx X A' s H (genEnv scope cl C code builtinsNs X.env) fp) ifs tt)
    (he : ∀ (A' : Around), Room k A' → ∀ (s : Shared) (H : Hp) (cl : List (Str × Addr)) (C : Addr) (code : Value) (fp : List Addr), PE (gcx X A' s H (genEnv scope cl C code builtinsNs X.env) fp) elt te)
    (hmono : ∀ γ y H (p q : G → Prop), (∀ γ', p γ' → q γ') → stp γ y H p → stp γ y H q)
    (hs : ∀ v, genFold iter X.env v = pure v) (I : Inv X pins σ H s) (h : tGenS P wi g tt te (own.map (·.2)) stp γ0 Qd σ H)
    (hQ : ∀ (XG : Cx) (a : Addr) (oa : Obj) (gn n : Nat) (σw : L2.St) (s5 : Shared) (gs : GenState), XG.prog = X.prog → XG.w = X.w → XG.pn = [] → s5.heap.get? a = some oa → s5.heap.IsGen a gn → s5.gens[gn]? = some gs → s5.heap.NoLimit → AllBare s5.gens →
      (∀ (S : Addr) (s'' : Shared) (oS : Obj), s5.heap.objs.size ≤ S → s''.os = s5.os → AllBare s''.gens → (∀ b o, s5.heap.get? b = some o → s''.heap.get? b = some o) → s''.heap.get? S = some oS → Rep oS γ0 → (∀ v, oS.data ≠ .cell v) →
        gs.Goes (model X.prog X.w) X.A.in1.in1 (fun n s₀ r s₁ => r = .ok .next ∧ REndS XG a oa S Rep σw Qd n s₀ s₁) (YOutS XG a oa S Rep stp) n (.send .none) s'') →
      (∀ S, s5.heap.objs.size ≤ S → XG.s_0.heap.objs.size ≤ S) → (∀ s' ps σ' H', Inv XG ps σ' H' s' → Inv X pins σ H' s') → Q' (.ref a) s5) :
    wpAny (model X.prog X.w) X.A (eval (.GeneratorExp elt [⟨tg, iter, ifs, 0⟩] scope gpos) X.env) Q' X.xe s := by
  have ok := SC.blk
  have hfree : ∀ y ∈ scope.names, y.2 = .free → ∃ c, X.env.cells.lookup y.1 = some c := fun y hy e => by
    rcases ok.free y hy e with k | k
    · exact I.ok.has _ (.inl k)
    · exact I.ok.has _ (.inr k)
  refine wpAny_GeneratorExp_make SC.co (closure_ok hfree) SC.cell SC.dot ok.kind (by have := hr.dp; omega) ?_ hs
  refine thn (hi.run pins s σ H _ I h) fun xv s1 hx => thn hx fun itv s2 h2 => ?_
  obtain ⟨it, fp, tn, J, H2, e, I2, T, st2, f2, ⟨ps, hP, hts⟩, q⟩ := h2
  subst e
  have hPs : s2.heap.get? P = some { cls := .none, data := .fields ps } := I2.hok P _ hP
  have cd : PySem.W.CodeHd s2.heap c P := TB.code.keeps fun b u e => I2.bk b u e
  have nP : ∀ b ∈ fp, b ≠ P := fun b hb z => by
    have := (f2 b hb).1
    rw [z, hP] at this; cases this
  have sz2 : ∀ b ∈ fp, b < s2.heap.objs.size := fun b hb => by
    obtain ⟨o, e, _⟩ := T.obj _ _ st2 b hb
    exact Heap.lt_size e
  have cont : ∀ (code : Value) (h3 : Heap) (tk : Nat) (ps' : Array Value), Heap.ExtBut P s2.heap h3 → s2.heap.objs.size ≤ h3.objs.size → h3.get? P = some { cls := .none, data := .fields ps' } → (∃ more, ps' = ps ++ more) → TriplesOk ps'.toList →
      wpAny (model X.prog X.w) X.A (builtinsFor X.env.globals X.env.builtins) (fun bi s₄ =>
        ∀ h', h'.Ns s₄.heap.objs.size (fun y => if y = ".0" then some (.ref it) else none) → Heap.SameBut s₄.heap.objs.size (s₄.heap.push { cls := .type "frame", data := .dict #[] }) h' →
          Q' (.ref h'.objs.size) { s₄ with
            gens := s₄.gens.push (.fresh (.compStart (.GeneratorExp elt [⟨tg, iter, ifs, 0⟩] scope gpos) 0 (.ref it) .none (genEnv scope (cloFrom X.env.cells scope.names []) s₄.heap.objs.size code bi X.env))),
            toks := s₄.toks + 1 + 1 + 1,
            heap := h'.push { cls := .type "generator", data := .fields #[.int s₄.gens.size 0, .str "<genexpr>" (s₄.toks + 1), .str (X.env.qual ++ "<genexpr>") (s₄.toks + 1 + 1)] } }) X.xe { s2 with heap := h3, toks := tk } := by
    intro code h3 tk ps' hx hsz hP3 hmore ht3
    obtain ⟨bm, ob, e1, e2, e3, e4, e5, e6, e7, e8⟩ := TB.bm
    have keep3 : ∀ b u, b ≠ P → s2.heap.get? b = some u → h3.get? b = some u := fun b u hb e => hx b u hb e
    refine wpAny_builtinsFor (m := X.mg) (by rw [I2.ok.glob]; exact (I2.mod.glob.keeps I2.bk).extBut hx TB.gP) e1 e2 (keep3 _ _ e4 (I2.bk _ _ e5)) e6 e7 e8 ?_
    intro h' hn' hs'
    obtain ⟨more, em⟩ := hmore
    have I3 : Inv X pins σ (upd H2 P (.tbl (ps ++ more))) { s2 with heap := h3, toks := tk } :=
      inv_tab (more := more) (h' := h3) (g' := s2.gens) (d' := s2.drawn) (t' := tk) I2 hP keep3 (by rw [← em]; exact hP3) I2.bare
    obtain ⟨W, ⟨m0, w0⟩, turn⟩ := q (upd H2 P (.tbl (ps ++ more))) ⟨⟨ps ++ more, upd_same, by rw [← em]; exact ht3⟩, fun b hb => upd_ne hb⟩
    generalize hH3 : upd H2 P (.tbl (ps ++ more)) = H3 at I3 w0
    generalize hs4 : ({ s2 with heap := h3, toks := tk } : Shared) = s4 at I3 hn' hs' ⊢
    have hh4 : s4.heap = h3 := by rw [← hs4]
    have st4 : tn 0 s4.heap := T.keep _ _ _ st2 fun b hb o e => by rw [hh4]; exact keep3 b o (nP b hb) e
    have f3 : ∀ b ∈ fp, FpOk X pins H3 b ∧ b < s4.heap.objs.size := fun b hb => by
      refine ⟨⟨?_, (f2 b hb).2⟩, by rw [hh4]; exact Nat.lt_of_lt_of_le (sz2 b hb) hsz⟩
      rw [← hH3, upd_ne (nP b hb)]
      exact (f2 b hb).1
    have hszh : h'.objs.size = s4.heap.objs.size + 1 := by rw [hs'.1, Heap.size_push]
    have keep' : ∀ b o, s4.heap.get? b = some o → h'.get? b = some o := fun b o e => hs'.extBut b o (Nat.ne_of_lt (Heap.lt_size e)) (Heap.get?_push_of_some _ e)
    generalize hoa : ({ cls := .type "generator", data := .fields #[.int s4.gens.size 0, .str "<genexpr>" (s4.toks + 1), .str (X.env.qual ++ "<genexpr>") (s4.toks + 1 + 1)] } : Obj) = oa
    have ga : (h'.push oa).get? h'.objs.size = some oa := Heap.get?_push_size _ (by rw [← hoa]; rfl)
    have isg : (h'.push oa).IsGen h'.objs.size s4.gens.size := by rw [← hoa]; exact ⟨_, _, _, Heap.get?_push_size _ rfl, rfl, rfl, rfl⟩
    generalize hce : genEnv scope (cloFrom X.env.cells scope.names []) s4.heap.objs.size code builtinsNs X.env = cenv
    generalize hA' : X.A.in1.in1.over (.compLoop (.GeneratorExp elt [⟨tg, iter, ifs, 0⟩] scope gpos) 0 (.ref it) .none cenv) [] = A'
    have hfr : A'.frames = some (cenv :: X.stack) := by
      rw [← hA']
      show pushEnvs [cenv] (pushEnvs [] X.A.frames) = _
      rw [I2.ok.frames]
      rfl
    have hdp : A'.depth = X.A.depth + 1 := by rw [← hA']; rfl
    have hun : A'.units = X.A.units + 5 := by rw [← hA']; rfl
    have hhd : A'.handled = none := by rw [← hA']; exact hr.hd
    have hr' : Room k A' := ⟨hhd, by rw [hdp]; have := hr.dp; omega, by rw [hun]; have := hr.un; omega⟩
    have bare5 : AllBare (s4.gens.push (.fresh (.compStart (.GeneratorExp elt [⟨tg, iter, ifs, 0⟩] scope gpos) 0 (.ref it) .none cenv))) := I3.bare.push rfl
    have I5 := gen_start (A' := A') (cenv := cenv) (code := code) (m := fun y => if y = ".0" then some (.ref it) else none) (h5 := h'.push oa) (g' := s4.gens.push (.fresh (.compStart (.GeneratorExp elt [⟨tg, iter, ifs, 0⟩] scope gpos) 0 (.ref it) .none cenv)))
      (t5 := s4.toks + 1 + 1 + 1) (a := h'.objs.size) (oa := oa) I3 ok SC.cell hN f3 hce.symm hfr hhd (hn'.push _) (fun b o e => Heap.get?_push_of_some _ (keep' b o e)) bare5 ga (by omega) (by rw [← hoa]; intro v z; cases z)
    have back : ∀ s' ps' σ' H', Inv (gcx X A' s4 H3 cenv fp) ps' σ' H' s' → Inv X pins σ H' s' := fun s' ps' σ' H' I' =>
      I3.call' (ch := fp) I'.os I'.base I'.hok I'.bare fun b hb => ⟨(f3 b hb).1.2.2.2.1, (f3 b hb).1.2.1, (f3 b hb).1.2.2.2.2.1, (f3 b hb).1.2.2.2.2.2⟩
    have pg : PG (gcx X A' s4 H3 cenv fp) tg g := by rw [← hce]; exact hg A' hr' _ _ _ _ _ _
    have pt : PTs (gcx X A' s4 H3 cenv fp) ifs tt := by rw [← hce]; exact ht A' hr' _ _ _ _ _ _
    have pe : PE (gcx X A' s4 H3 cenv fp) elt te := by rw [← hce]; exact he A' hr' _ _ _ _ _ _
    refine hQ (gcx X A' s4 H3 cenv fp) h'.objs.size oa s4.gens.size (m0 + 1) (wipe σ (own.map (·.2))) _ _ rfl rfl rfl ga isg (Array.getElem?_push_size ..) I5.nolimit bare5 (fun S s'' oS hS e1 e2 e3 e4 e5 e6 => ?_) (fun S hS => Nat.le_trans I5.sz hS) back
    refine ⟨rfl, ?_⟩
    have hS : h'.objs.size + 1 ≤ S := by
      have hS : (h'.push oa).objs.size ≤ S := hS
      rwa [Heap.size_push] at hS
    have fS := I5.fpOk (b := S) (H' := H3) (by show (h'.push oa).objs.size ≤ S; rw [Heap.size_push]; exact hS) (I5.hok.fresh (by show (h'.push oa).objs.size ≤ S; rw [Heap.size_push]; exact hS))
    have I6 : Inv (gcx X A' s4 H3 cenv fp) ([(h'.objs.size, oa)] ++ [(S, oS)]) (wipe σ (own.map (·.2))) H3 s'' := by
      have I6 := Inv.kall I5 e1 e2 e3
      refine I6.pins_of fun p hp => ?_
      rcases List.mem_append.mp hp with hp | hp
      · exact I6.pin p (List.mem_append_right _ hp)
      · have := List.mem_singleton.mp hp
        subst this
        exact ⟨e4, fS.1, fS.2.1, fS.2.2.1, e6⟩
    subst hA'
    refine gen_beginS hc (by rw [← hce]; exact SC.co) T (fun b hb => Nat.ne_of_gt (Nat.lt_trans (f3 b hb).2 (by omega))) (fun b hb => Nat.ne_of_gt (Nat.lt_of_lt_of_le (f3 b hb).2 (by omega))) (Nat.ne_of_lt hS) (by omega) hmono pg pt pe turn m0 γ0 oS _ _ H3 w0 e4 e5 I6 ?_ (fun b hb => (f3 b hb).1.1)
    exact T.keep _ _ _ st4 fun b hb o e => e3 b o (Heap.get?_push_of_some _ (keep' b o e))
  refine ⟨I2.nolimit, ?_⟩
  cases hf : codeAmong gpos ps.toList with
  | none =>
    refine wpAny_genexprCodeX hcode (cd.code hPs hts) (cd.tab hPs) hf fun c' h' tk hx hge hlt hco' _ htab' _ => ?_
    obtain ⟨o1, vs, f1, tf, fl, tg', inF, tx, tt', op, _, _, _, _, _, _, _, _, _, htr, _⟩ := hco'
    exact cont _ h' tk _ hx (Nat.le_trans hge (Nat.le_of_lt hlt)) htab'.2 ⟨_, rfl⟩ htr
  | some cv =>
    refine wpAny_genexprCode_hit hcode (cd.code hPs hts) hf ?_
    exact cont cv s2.heap s2.toks ps (Heap.ExtBut.refl _ _) (Nat.le_refl _) hPs ⟨#[], by simp⟩ hts
end
end GAl

set_option Elab.async false
set_option linter.all false
set_option maxRecDepth 100000
set_option maxHeartbeats 2000000
namespace GAl
open PySem PySem.Spec PyProof.Rows L2 GxR
open Sem (wp)
/-! ### sum of a generator expression of whole numbers -/
abbrev sumObj (T : Int) (t : Tok) (c : Nat) : Obj := { cls := .type "list", dict := none, data := .seq #[.int T t] c, slots := #[] }
def RepSum : Obj → Int → Prop := fun o T => ∃ t c, o = sumObj T t c
def stpSum : Int → V → Hp → (Int → Prop) → Prop := fun T y _ N => ∃ k, y = .int k ∧ N (T + k)
theorem stpSum_mono : ∀ γ y H (p q : Int → Prop), (∀ γ', p γ' → q γ') → stpSum γ y H p → stpSum γ y H q := fun _ _ _ _ _ h ⟨k, e, n⟩ => ⟨k, e, h _ n⟩
theorem repSum_uniq {o : Obj} {T T' : Int} (h : RepSum o T) (h' : RepSum o T') : T = T' := by
  obtain ⟨t, c, rfl⟩ := h
  obtain ⟨t', c', e⟩ := h'
  simp only [sumObj, Obj.mk.injEq, true_and] at e
  have e := e.1
  simp at e
  exact e.1.1
section
variable {X XG : Cx} {A : Around} {a S : Addr} {oa : Obj} {g : Nat} {σw : L2.St} {Qd : Int → Hp → Prop} {R : Result → Shared → Prop}
theorem sum_loop (hh : A.handled = none) (hroom : A.depth < recursionLimit) (hpn : XG.pn = []) (hSy : S ∈ XG.ex ∨ XG.s_0.heap.objs.size ≤ S)
    (hfin : ∀ s' ps σ' H' T t, Inv XG ps σ' H' s' → Qd T H' → R (.ok (.ret (.int T t))) s') :
    ∀ (n : Nat) (s : Shared) (st : Int) (T : Int) (oS : Obj), (st = 0 ∨ st = 2) → s.heap.get? a = some oa → s.heap.get? S = some oS → RepSum oS T → a ≠ S →
      GSt (model X.prog X.w) A.in1.in1 (REndS XG a oa S RepSum σw Qd) (YOutS XG a oa S RepSum stpSum) a g n s → codeAny (model X.prog X.w) A (.builtin "sum.loop" ⟨[.ref a, .ref S, rawInt st, rawInt 0], []⟩) R s := by
  intro n
  induction n with
  | zero =>
    intro s st T oS hst2 hoa hS hRep haS ⟨hg, hl, gs, hgs, hgo⟩
    obtain ⟨tA, c, eS⟩ := hRep
    have hS2 := hS
    rw [eS] at hS2
    refine codeAny_builtin F.entry_sum_loop ?_
    rw [Around.under_plainId F.plain_sum_loop _]
    show wpAny _ A.in1 (seqItems? (.ref S) >>= _) _ _ s
    refine wpAny_bind (wpAny_seqItems hS2 rfl ?_)
    show wpAny _ A.in1 (tryCatch (pyNext (.ref a)) _ >>= _) _ _ s
    refine wpAny_bind (wpAny_tryCatch (next_sz (A := A.in1) hh hl hroom hg hgs hgo (fun v s₁ gs' hsz hb hv => ?_) (fun s₁ hsz hp h' hk => ?_)))
    · obtain ⟨γ, oS', y, H4, σ4, e1, e2, I4, r, k, rfl, nn⟩ := hv
      have e1 : s.heap.get? S = some oS' := e1
      rw [hS] at e1; cases e1
      have eγ : γ = T := repSum_uniq e2 ⟨tA, c, eS⟩
      subst eγ
      obtain ⟨t, rfl⟩ := r
      have hS' : s₁.heap.get? S = some (sumObj γ tA c) := by rw [← eS]; exact (I4.pin (S, oS) (by rw [hpn]; simp)).1
      have ha : s₁.heap.get? a = some oa := (I4.pin (a, oa) (by rw [hpn]; simp)).1
      obtain ⟨x, hx⟩ := gens_some hgs hsz rfl
      have fin : ∀ (h2 : Heap) (tk : Nat) (st' : Int), (st' = 0 ∨ st' = 2) → (∀ b o, b ≠ S → s₁.heap.get? b = some o → h2.get? b = some o) → (∃ t' c', h2.get? S = some (sumObj (γ + k) t' c')) →
          codeAny (model X.prog X.w) A (.builtin "sum.loop" ⟨[.ref a, .ref S, rawInt st', rawInt 0], []⟩) R { s₁.setGen g gs' with heap := h2, toks := tk } := fun h2 tk st' hst' hk ⟨t', c', hS3⟩ => by
        exact False.elim (nn { s₁.setGen g gs' with heap := h2, toks := tk } _ rfl (bare_set I4.bare hb) hk hS3 ⟨t', c', rfl⟩ (fun v z => by cases z))
      rcases hst2 with rfl | rfl
      · show wpAny _ A.in1 (if (_ : Bool) = true then (mkInt (γ + k) >>= _) else _) _ _ _
        split
        · refine wpAny_bind (wpAny_mkInt ?_)
          show wpAny _ A.in1 (updateSeq S (fun _ => #[.int (γ + k) s₁.toks]) >>= _) _ _ _
          refine wpAny_bind (wpAny_updateSeq hS' rfl (wpAny_pure ⟨plainId_quiet F.plain_sum_loop _, fin _ _ 0 (.inl rfl) (fun b o hb e => ?_) ⟨_, _, Heap.get?_update_self _ hS' rfl⟩⟩))
          exact (Heap.get?_update_other _ _ (Ne.symm hb)).trans e
        · refine wpAny_bind (wpAny_rule ?_)
          refine wpAny_bind (wpAny_attempt (wpAny_holding (wpAny_add_int ?_)))
          show wpAny _ A.in1 (updateSeq S (fun _ => #[.int (γ + k) s₁.toks]) >>= _) _ _ _
          refine wpAny_bind (wpAny_updateSeq hS' rfl ?_)
          have hS₂ := Heap.get?_update_self (Obj.mapSeq fun _ => #[Value.int (γ + k) s₁.toks]) hS' rfl
          refine wpAny_bind (wpAny_letGo ?_)
          refine wpAny_bind (wpAny_updateSeq hS₂ rfl (wpAny_pure ⟨plainId_quiet F.plain_sum_loop _, fin _ _ 2 (.inr rfl) (fun b o hb e => ?_) ⟨_, _, Heap.get?_update_self _ hS₂ rfl⟩⟩))
          exact (Heap.get?_update_other _ _ (Ne.symm hb)).trans ((Heap.get?_update_other _ _ (Ne.symm hb)).trans e)
      · show wpAny _ A.in1 ((holding [Value.int k t] (binaryOp .Add (.int γ tA) (.int k t))).attempt >>= _) _ _ _
        refine wpAny_bind (wpAny_attempt (wpAny_holding (wpAny_add_int ?_)))
        show wpAny _ A.in1 (updateSeq S (fun _ => #[.int (γ + k) s₁.toks]) >>= _) _ _ _
        refine wpAny_bind (wpAny_updateSeq hS' rfl ?_)
        have hS₂ := Heap.get?_update_self (Obj.mapSeq fun _ => #[Value.int (γ + k) s₁.toks]) hS' rfl
        refine wpAny_bind (wpAny_letGo ?_)
        refine wpAny_bind (wpAny_updateSeq hS₂ rfl (wpAny_pure ⟨plainId_quiet F.plain_sum_loop _, fin _ _ 2 (.inr rfl) (fun b o hb e => ?_) ⟨_, _, Heap.get?_update_self _ hS₂ rfl⟩⟩))
        exact (Heap.get?_update_other _ _ (Ne.symm hb)).trans ((Heap.get?_update_other _ _ (Ne.symm hb)).trans e)
    · obtain ⟨γ, oS', H4, e1, e2, I4, q⟩ := hp
      have e1 : s.heap.get? S = some oS' := e1
      rw [hS] at e1; cases e1
      have eγ : γ = T := repSum_uniq e2 ⟨tA, c, eS⟩
      subst eγ
      exact wpAny_pure (hfin _ _ σw H4 _ _ (Inv.kall I4 rfl (bare_set I4.bare rfl) hk) q)
  | succ n ih =>
    intro s st T oS hst2 hoa hS hRep haS ⟨hg, hl, gs, hgs, hgo⟩
    obtain ⟨tA, c, eS⟩ := hRep
    have hS2 := hS
    rw [eS] at hS2
    refine codeAny_builtin F.entry_sum_loop ?_
    rw [Around.under_plainId F.plain_sum_loop _]
    show wpAny _ A.in1 (seqItems? (.ref S) >>= _) _ _ s
    refine wpAny_bind (wpAny_seqItems hS2 rfl ?_)
    show wpAny _ A.in1 (tryCatch (pyNext (.ref a)) _ >>= _) _ _ s
    refine wpAny_bind (wpAny_tryCatch (next_sz (A := A.in1) hh hl hroom hg hgs hgo (fun v s₁ gs' hsz hb hv => ?_) (fun s₁ hsz hp h' hk => ?_)))
    · obtain ⟨γ, oS', y, H4, σ4, e1, e2, I4, r, k, rfl, nn⟩ := hv
      have e1 : s.heap.get? S = some oS' := e1
      rw [hS] at e1; cases e1
      have eγ : γ = T := repSum_uniq e2 ⟨tA, c, eS⟩
      subst eγ
      obtain ⟨t, rfl⟩ := r
      have hS' : s₁.heap.get? S = some (sumObj γ tA c) := by rw [← eS]; exact (I4.pin (S, oS) (by rw [hpn]; simp)).1
      have ha : s₁.heap.get? a = some oa := (I4.pin (a, oa) (by rw [hpn]; simp)).1
      obtain ⟨x, hx⟩ := gens_some hgs hsz rfl
      have fin : ∀ (h2 : Heap) (tk : Nat) (st' : Int), (st' = 0 ∨ st' = 2) → (∀ b o, b ≠ S → s₁.heap.get? b = some o → h2.get? b = some o) → (∃ t' c', h2.get? S = some (sumObj (γ + k) t' c')) →
          codeAny (model X.prog X.w) A (.builtin "sum.loop" ⟨[.ref a, .ref S, rawInt st', rawInt 0], []⟩) R { s₁.setGen g gs' with heap := h2, toks := tk } := fun h2 tk st' hst' hk ⟨t', c', hS3⟩ => by
        refine ih _ st' (γ + k) _ hst' (hk a oa haS ha) hS3 ⟨t', c', rfl⟩ haS ⟨isgen_of hg hoa (hk a oa haS ha), ?_, gs', setGen_self hx, ?_⟩
        · exact (Inv.kallS (ps := [(a, oa)]) (s'' := { s₁.setGen g gs' with heap := h2, toks := tk }) I4 hSy (by rw [hpn]; intro p hp; have := List.mem_singleton.mp hp; subst this; exact haS) rfl (bare_set I4.bare hb) hk hS3 (fun v z => by cases z)).nolimit
        · exact nn (Shared.setGen { s₁.setGen g gs' with heap := h2, toks := tk } g .running) _ rfl (bare_set (bare_set I4.bare hb) rfl) hk hS3 ⟨t', c', rfl⟩ (fun v z => by cases z)
      rcases hst2 with rfl | rfl
      · show wpAny _ A.in1 (if (_ : Bool) = true then (mkInt (γ + k) >>= _) else _) _ _ _
        split
        · refine wpAny_bind (wpAny_mkInt ?_)
          show wpAny _ A.in1 (updateSeq S (fun _ => #[.int (γ + k) s₁.toks]) >>= _) _ _ _
          refine wpAny_bind (wpAny_updateSeq hS' rfl (wpAny_pure ⟨plainId_quiet F.plain_sum_loop _, fin _ _ 0 (.inl rfl) (fun b o hb e => ?_) ⟨_, _, Heap.get?_update_self _ hS' rfl⟩⟩))
          exact (Heap.get?_update_other _ _ (Ne.symm hb)).trans e
        · refine wpAny_bind (wpAny_rule ?_)
          refine wpAny_bind (wpAny_attempt (wpAny_holding (wpAny_add_int ?_)))
          show wpAny _ A.in1 (updateSeq S (fun _ => #[.int (γ + k) s₁.toks]) >>= _) _ _ _
          refine wpAny_bind (wpAny_updateSeq hS' rfl ?_)
          have hS₂ := Heap.get?_update_self (Obj.mapSeq fun _ => #[Value.int (γ + k) s₁.toks]) hS' rfl
          refine wpAny_bind (wpAny_letGo ?_)
          refine wpAny_bind (wpAny_updateSeq hS₂ rfl (wpAny_pure ⟨plainId_quiet F.plain_sum_loop _, fin _ _ 2 (.inr rfl) (fun b o hb e => ?_) ⟨_, _, Heap.get?_update_self _ hS₂ rfl⟩⟩))
          exact (Heap.get?_update_other _ _ (Ne.symm hb)).trans ((Heap.get?_update_other _ _ (Ne.symm hb)).trans e)
      · show wpAny _ A.in1 ((holding [Value.int k t] (binaryOp .Add (.int γ tA) (.int k t))).attempt >>= _) _ _ _
        refine wpAny_bind (wpAny_attempt (wpAny_holding (wpAny_add_int ?_)))
        show wpAny _ A.in1 (updateSeq S (fun _ => #[.int (γ + k) s₁.toks]) >>= _) _ _ _
        refine wpAny_bind (wpAny_updateSeq hS' rfl ?_)
        have hS₂ := Heap.get?_update_self (Obj.mapSeq fun _ => #[Value.int (γ + k) s₁.toks]) hS' rfl
        refine wpAny_bind (wpAny_letGo ?_)
        refine wpAny_bind (wpAny_updateSeq hS₂ rfl (wpAny_pure ⟨plainId_quiet F.plain_sum_loop _, fin _ _ 2 (.inr rfl) (fun b o hb e => ?_) ⟨_, _, Heap.get?_update_self _ hS₂ rfl⟩⟩))
        exact (Heap.get?_update_other _ _ (Ne.symm hb)).trans ((Heap.get?_update_other _ _ (Ne.symm hb)).trans e)
    · obtain ⟨γ, oS', H4, e1, e2, I4, q⟩ := hp
      have e1 : s.heap.get? S = some oS' := e1
      rw [hS] at e1; cases e1
      have eγ : γ = T := repSum_uniq e2 ⟨tA, c, eS⟩
      subst eγ
      exact wpAny_pure (hfin _ _ σw H4 _ _ (Inv.kall I4 rfl (bare_set I4.bare rfl) hk) q)

def tSumG (P : Addr) (wi : TI) (g : TG) (tt : TT) (te : TE) (vs : List Nat) : TE := fun σ H Q => tGenS P wi g tt te vs stpSum (0 : Int) (fun T H' => Q (.int T) H') σ H
theorem pe_sumG {c P : Addr} {elt tg iter : Expr} {ifs : List Expr} {p pos gpos : Pos} {scope : Scope} {own : List (Str × Nat)} {wi : TI} {g : TG} {tt : TT} {te : TE} {k : Nat}
    (hr : Room (k + 1) X.A) (hgl : Gl X "sum") (hm : X.mg "sum" = none) (hc : X.calm = true) (hN : X.N.Nodup) (TB : TabB X.base X.mg c P) (hcode : X.env.code = .ref c) (S : GSc X.N X.env.scope scope own) (hi : PI X tg iter wi)
    (hg : ∀ (A' : Around), Room k A' → ∀ (s : Shared) (H : Hp) (cl : List (Str × Addr)) (C : Addr) (code : Value) (fp : List Addr), PG (gcx X A' s H (genEnv scope cl C code builtinsNs X.env) fp) tg g)
    (ht : ∀ (A' : Around), Room k A' → ∀ (s : Shared) (H : Hp) (cl : List (Str × Addr)) (C : Addr) (code : Value) (fp : List Addr), PTs (gcx X A' s H (genEnv scope cl C code builtinsNs X.env) fp) ifs tt)
    (he : ∀ (A' : Around), Room k A' → ∀ (s : Shared) (H : Hp) (cl : List (Str × Addr)) (C : Addr) (code : Value) (fp : List Addr), PE (gcx X A' s H (genEnv scope cl C code builtinsNs X.env) fp) elt te)
    (hs : ∀ v, genFold iter X.env v = pure v := by intro _; rfl)
    (hst : starEach [.GeneratorExp elt [⟨tg, iter, ifs, 0⟩] scope gpos] X.env = (false, eval (.GeneratorExp elt [⟨tg, iter, ifs, 0⟩] scope gpos) X.env) :: starEach [] X.env := by rfl)
    (hb : bootBuiltins "sum" = some (.builtin "sum") := by decide +kernel) :
    PE X (.Call (.Name "sum" p) [.GeneratorExp elt [⟨tg, iter, ifs, 0⟩] scope gpos] [] pos) (tSumG P wi g tt te (own.map (·.2))) := by
  refine ⟨fun pins s σ H Q I h => ?_⟩
  refine wpAny_Call_Name_kw (ld_blt I hgl hm hb ?_)
  refine PyProof.Rows.callWith_builtin1 ?_ hst (by rfl)
  rw [hst]
  show wpAny _ _ (spliced ((false, eval (.GeneratorExp elt [⟨tg, iter, ifs, 0⟩] scope gpos) X.env) :: backTo pos (starEach [] X.env))) _ _ s
  refine Calls.spliced_cons (gen_makeS (Rep := RepSum) hr hc hN TB hcode S hi hg ht he stpSum_mono hs I h fun XG a oa gn n σw s5 gs eP eW epn ha hG hgs hnl hb5 go hy back => ?_)
  refine Calls.spliced_nil ?_
  refine call_function_tree F.kind_sum F.plain_sum F.entry_sum (F.args_sum1 _) ?_
  unfold Builtin.«sum»
  simp only [List.length_cons, List.length_nil]
  rw [if_neg (by decide)]
  refine wpAny_bind (wpAny_of_eq (show Builtin.Builtins.bindParams "sum" ["start"] 0 { } = pure [none] from rfl) ?_)
  refine wpAny_bind (wpAny_pyIter_gen hG ?_)
  refine wpAny_bind (wpAny_mkInt ?_)
  refine wpAny_bind (wpAny_pure ?_)
  simp only [List.forIn_cons, List.forIn_nil]
  refine wpAny_bind (wpAny_bind (wpAny_bind (wpAny_isInstance (T := "int") (b := false) (typeIs_int _ _ _) PySem.sub_int_str ?_)))
  simp only [Bool.false_eq_true, if_false]
  refine wpAny_pure (wpAny_bind (wpAny_bind (wpAny_isInstance (T := "int") (b := false) (typeIs_int _ _ _) PySem.sub_int_bytes ?_)))
  simp only [Bool.false_eq_true, if_false]
  refine wpAny_pure (wpAny_bind (wpAny_bind (wpAny_isInstance (T := "int") (b := false) (typeIs_int _ _ _) PySem.sub_int_bytearray ?_)))
  simp only [Bool.false_eq_true, if_false]
  refine wpAny_pure (wpAny_pure ?_)
  refine wpAny_bind (wpAny_newObj_type ?_)
  have hS : (s5.heap.push (sumObj 0 s5.toks 0)).get? s5.heap.objs.size = some (sumObj 0 s5.toks 0) := Heap.get?_push_size _ rfl
  have keep : ∀ b o, s5.heap.get? b = some o → (s5.heap.push (sumObj 0 s5.toks 0)).get? b = some o := fun b o e => Heap.get?_push_of_some _ e
  refine wpAny_pure ⟨plainId_quiet F.plain_sum_loop _, sum_loop (X := X) (XG := XG) (oa := oa) (g := gn) (σw := σw) (Qd := fun T H' => Q (.int T) H') hr.hd (by have := hr.dp; omega) epn (.inr (hy _ (Nat.le_refl _))) (fun s' ps σ' H' T t I' q => ?_) n _ 0 0 _ (.inl rfl) (keep _ _ ha) hS ⟨_, _, rfl⟩ (Nat.ne_of_lt (Heap.lt_size ha)) ⟨isgen_of hG ha (keep _ _ ha), hnl.keeps keep, gs, hgs, ?_⟩⟩
  · exact ⟨.int T, H', back s' _ σ' H' I', ⟨t, rfl⟩, q⟩
  · exact go _ (Shared.setGen _ gn .running) _ (Nat.le_refl _) rfl (bare_set hb5 rfl) keep hS ⟨_, _, rfl⟩ (fun v z => by cases z)
end
end GAl

set_option Elab.async false
set_option linter.all false
set_option maxRecDepth 100000
set_option maxHeartbeats 4000000
namespace HK
open PySem PySem.Spec PyProof.Rows L2 GAl GxR DTu
section
variable {P : Program} {w : World} {K : PySem.W.Frag} {mg : Str → Option Value} {base : Heap}
def spNeedTree (K : PySem.W.Frag) (Pp Pg : Addr) : Sp := fun vs H Q _ => ∃ (a : Addr) (n : Int) (rs : List R4) (root : Int) (p : Addr) (kvs : List (Key × V)) (g : IF), vs = [.ref a, .int root, .ref p] ∧ NetAt K H a n rs ∧ Good n rs ∧ rs.length ≤ 156 ∧
  H p = some (.dK kvs) ∧ DI kvs g ∧ kvs.length ≤ 5000 ∧ TreeP rs root g kvs.length ∧ TabG H Pp ∧ TabG H Pg ∧ ∀ (H' : Hp), K0 H H' → Q .non H'
end
end HK

set_option Elab.async false
set_option linter.all false
set_option maxRecDepth 100000
set_option maxHeartbeats 2000000
/-! list(d.values()); set(t) of a tuple of whole numbers -/
namespace HkL
open PySem PySem.Spec PyProof.Rows L2
section
variable {X : Cx} {e : Expr} {te : TE} {p apos cpos pos : Pos}
def tListVals (te : TE) : TE := fun σ H Q => te σ H fun x H1 => ∃ (d : Addr) (kvs : List (Key × V)), x = .ref d ∧ Rd H1 d (.dK kvs) ∧ kvs.length ≤ sizeLine ∧ ∀ q, H1 q = none → Q (.ref q) (upd H1 q (.lst (kvs.map (·.2))))
theorem dict_at {pins : List (Addr × Obj)} {σ : L2.St} {H : Hp} {s : Shared} {d : Addr} {kvs : List (Key × V)} (I : Inv X pins σ H s) (h : Rd H d (.dK kvs)) : ∃ vs ep, KV kvs vs ∧ s.heap.DictAt (mixKind X.prog X.w) d vs ep ∧ (d == sysModules) = false := by
  rcases h with h | ⟨o, h⟩
  · obtain ⟨z, lo, vs, rk, hd⟩ := (show ObjOk X.prog X.w H s.heap d (.dK kvs) from I.hok d _ h)
    obtain ⟨ep, hat⟩ := hd.dictAt
    exact ⟨vs, ep, rk, hat, lo⟩
  · obtain ⟨hs, hgd, hx, es, ep, vs, hdt, hsz, kv, hm⟩ := I.frzK h
    exact ⟨vs, ep, kv, hm, hs⟩
theorem pe_listVals (hc : X.calm = true) (he : PE X e te) (hg : Gl X "list") (hm : X.mg "list" = none) (hv : bootBuiltins "list" = some (.type "list")) (hbase : attributeBase e "values" X.env (eval e X.env) = eval e X.env := by rfl) (hline : (apos.endLine == cpos.line) = true := by rfl)
    (hs : starEach [.Call (.Attribute e "values" apos) [] [] cpos] X.env = (false, eval (.Call (.Attribute e "values" apos) [] [] cpos) X.env) :: starEach [] X.env := by rfl) :
    PE X (.Call (.Name "list" p) [.Call (.Attribute e "values" apos) [] [] cpos] [] pos) (tListVals te) := by
  refine ⟨fun pins s σ H Q I hq => ?_⟩
  refine wpAny_Call_Name_kw (ld_blt I hg hm hv ?_)
  refine PyProof.Rows.callWith_type1 ?_ hs rfl
  rw [hs]
  show wpAny _ _ (spliced ((false, eval (.Call (.Attribute e "values" apos) [] [] cpos) X.env) :: backTo pos (starEach [] X.env))) _ _ s
  refine Calls.spliced_cons ?_
  refine wpAny_Call_method (T := "dict") (id := "dict.values") hbase rfl hline F.plainAttrs_dict F.slot_dict_values F.type_dict_values (thn (he.run pins s σ H _ I hq) fun u s1 ⟨x, H1, I1, rx, d, kvs, ex, hd, hz, q⟩ => ?_)
  subst ex
  obtain rfl : u = Value.ref d := rx
  obtain ⟨vs, ep, kv, hat, hs0⟩ := dict_at I1 hd
  have hdo := hat.dictOf
  have lk : kvs.length = vs.length := Paired.length kv
  have I2 : Inv X pins σ H1 { s1 with heap := s1.heap.push { cls := .type "dict_values", data := .fields #[.ref d] } } := I1.kept (t' := s1.toks) fun b ob q => Heap.get?_push_of_some _ q
  refine ⟨hdo.typeIs, hdo.mapOf.noDict, ?_⟩
  show wpAny _ _ (callWith cpos (.builtin "dict.values") [.ref d] [] []) _ X.xe s1
  refine method_meetsIn F.slot_dict_values F.entry_dict_values rfl (PySem.evalArgs_none ⟨rfl, hdo.typeIs, F.args_dict_values_1 _, _, meets_dict_values (mixKind X.prog X.w) d hs0, ⟨vs, hdo⟩, ?_⟩)
  refine Calls.spliced_nil ?_
  refine PySem.W.kdl_call (PySem.W.kdl_values (knd := mixKind X.prog X.w) (kvs := vs) (ep := ep) (r := s1.heap.objs.size) (d := d)) (I1.ok.hd hc) ⟨⟨_, Heap.get?_push_size _ rfl, rfl, rfl⟩, hat.push _⟩ (by rw [← lk]; exact hz) fun h' tk acc' c' hkeep hS hacc => ?_
  refine ⟨.ref _, upd H1 _ (.lst (kvs.map (·.2))), I2.laid hkeep (Nat.le_refl _) (show ObjOk X.prog X.w _ _ _ (.lst (kvs.map (·.2))) from ⟨?_, acc'.toList, c', ?_, ?_⟩), rfl, q _ (I2.hok.fresh (Nat.le_refl _))⟩
  · rw [List.length_map]; exact hz
  · have el : acc'.toList.length = acc'.size := by simp
    refine vals_of_at (by rw [List.length_map, el, hacc.1, lk]) fun j x w h1 h2 => ?_
    obtain ⟨k, hky⟩ := hacc.2 j w (by rw [← Array.getElem?_toList]; exact h2)
    rw [List.getElem?_map] at h1
    cases e2 : kvs[j]? with
    | none => rw [e2] at h1; cases h1
    | some pk =>
      rw [e2] at h1
      cases h1
      obtain ⟨qv, g1, g2, g3⟩ := LiI.paired_get kv e2
      rw [hky] at g1
      cases g1
      exact g3
  · rw [Array.toArray_toList]; exact hS
/-- tuple(l), tuple(t) -/
def rTup (K : PySem.W.Frag) : List V → Hp → VK → Prop := fun xs H Q => ∃ p ys, xs = [.ref p] ∧ ((SqL K H p ys ∧ ∀ l, H l = none → Q (.ref l) (upd H l (.tup ys))) ∨ (SqT K H p ys ∧ Q (.ref p) H))
theorem call_tupR : CallR X (.type "tuple") (rTup X.K) := call_tuple_of
/-- set(t) -/
def rSetT (K : PySem.W.Frag) (w : World) : List V → Hp → VK → Prop := fun vs H Q => ∃ (l : Addr) (ns : List Int), vs = [.ref l] ∧ SqT K H l (ns.map V.int) ∧ ns.length ≤ 1000 ∧ ∀ (p : Addr) (c : Nat), H p = none → c ≤ ns.length → Q (.ref p) (upd H p (SetO w p (fun j => decide (j ∈ ns)) c))
theorem cr_setT (hc : X.calm = true) : CallR X (.type "set") (rSetT X.K X.w) := by
  intro pins s σ H vs us Q I r h
  obtain ⟨l, ns, rfl, hl, hb, q⟩ := h
  cases r with
  | cons r rr =>
    cases rr
    cases r
    obtain ⟨its, rv, pt, hz⟩ := I.tuple hl
    have hi : IntsAre its.toArray.toList ns := ints_of_vals rv
    refine call_set_tupI ns (I.ok.hd hc) (show s.heap.IsTuple l its.toArray from pt) hi (by unfold scanBound; omega) fun h' tk c R1 hcn k => ?_
    exact ⟨.ref _, upd H s.heap.objs.size (SetO X.w s.heap.objs.size (fun j => decide (j ∈ ns)) c), I.laid k (Nat.le_refl _) (setO_new R1), rfl, q _ c (I.hok.fresh (Nat.le_refl _)) hcn⟩
end
end HkL

set_option Elab.async false
set_option linter.all false
set_option maxRecDepth 100000
set_option maxHeartbeats 4000000
namespace HK
open PySem PySem.Spec PyProof.Rows L2 GAl GxR
open Evl (pss_cut)
abbrev N_scRises : List Str := ["row", "low", "high"]
/-! ### rising tuples of places -/
def risI (l : List Int) : Bool := (List.range (l.length - 1)).all fun i => decide (l.getD i 0 < l.getD (i + 1) 0)
theorem risI_yes {l : List Int} (h : ∀ j, j < l.length - 1 → l.getD j 0 < l.getD (j + 1) 0) : risI l = true := by
  unfold risI
  rw [List.all_eq_true]
  exact fun j hj => decide_eq_true (h j (List.mem_range.mp hj))
theorem risI_no {l : List Int} {j : Nat} (hj : j < l.length - 1) (h : ¬ l.getD j 0 < l.getD (j + 1) 0) : risI l = false := by
  unfold risI
  rw [Bool.eq_false_iff]
  intro z
  exact h (of_decide_eq_true (List.all_eq_true.mp z j (List.mem_range.mpr hj)))
theorem risI_iff {l : List Int} : risI l = true ↔ l.Pairwise (· < ·) := by
  constructor
  · intro h
    have step : ∀ j, j < l.length - 1 → l.getD j 0 < l.getD (j + 1) 0 := fun j hj => by
      unfold risI at h
      exact of_decide_eq_true (List.all_eq_true.mp h j (List.mem_range.mpr hj))
    have far : ∀ d i, i + d + 1 < l.length → l.getD i 0 < l.getD (i + d + 1) 0 := fun d => by
      induction d with
      | zero => exact fun i hi => step i (by omega)
      | succ d ih =>
        intro i hi
        have h1 := ih i (by omega)
        have h2 := step (i + d + 1) (by omega)
        rw [show i + (d + 1) + 1 = i + d + 1 + 1 by omega]
        omega
    rw [List.pairwise_iff_getElem]
    intro i j hi hj hij
    have := far (j - i - 1) i (by omega)
    rw [show i + (j - i - 1) + 1 = j by omega] at this
    simpa [List.getD_eq_getElem?_getD, List.getElem?_eq_getElem hi, List.getElem?_eq_getElem hj] using this
  · intro h
    refine risI_yes fun j hj => ?_
    have := List.pairwise_iff_getElem.mp h j (j + 1) (by omega) (by omega) (by omega)
    simpa [List.getD_eq_getElem?_getD, List.getElem?_eq_getElem (show j < l.length by omega), List.getElem?_eq_getElem (show j + 1 < l.length by omega)] using this
def AreP (n : Int) (l : List Int) : Prop := (∀ v ∈ l, 0 ≤ v ∧ v < n) ∧ l.Pairwise (· < ·)
theorem AreP.len {n : Int} {l : List Int} (h : AreP n l) : l.length ≤ n.toNat := by
  have nd : l.Nodup := h.2.imp fun a => Int.ne_of_lt a
  have := sub_len (ks := (List.range n.toNat).map fun (i : Nat) => (i : Int)) nd (List.pairwise_map.mpr (List.pairwise_lt_range.imp fun a z => by omega)) fun x hx => by
    obtain ⟨h0, h1⟩ := h.1 x hx
    exact List.mem_map.mpr ⟨x.toNat, List.mem_range.mpr (by omega), by omega⟩
  simpa using this
theorem cut1' (xs : List V) : cutV xs (some 1) none = xs.drop 1 := cut1 xs
theorem getI {ns : List Int} {i : Nat} {x : V} (h : (ns.map V.int)[i]? = some x) : x = .int (ns.getD i 0) := by
  rw [List.getElem?_map] at h
  cases e : ns[i]? with
  | none => rw [e] at h; cases h
  | some v => rw [e] at h; cases h; rw [List.getD_eq_getElem?_getD, e]; rfl
section
variable {P : Program} {w : World} {K : PySem.W.Frag} {mg : Str → Option Value} {base : Heap}
def spRisesI (K : PySem.W.Frag) (Pr : Addr) : Sp := fun vs H Q _ => ∃ (a : Addr) (ns : List Int), vs = [.ref a] ∧ SqT K H a (ns.map V.int) ∧ TabG H Pr ∧ ∀ H', K0 H H' → Q (.bl (risI ns)) H'
theorem ok_risesI {f c Pr : Addr} {fd : FuncData} (F : FunC K "rises" "rises" sRises f fd c) (TB : TabB base mg c Pr) (m_zip : mg "zip" = none) (m_all : mg "all" = none) : FnOk P w K mg base CX0 2 f fd ["row"] (spRisesI K Pr) := by
  refine F.ok scRises (fun vs H Q E h => ?_) (fun A outer s H vs Q E hr h => ?_)
  · obtain ⟨a, ns, rfl, _⟩ := h
    rfl
  · obtain ⟨a, ns, rfl, hS, hP, q⟩ := h
    refine ⟨_, (pss_one (ps_ret (pe_allG (own := [("low", 1), ("high", 2)]) (k := 0) (g := (gTup K 2 (gCons (gName 1) (gCons (gName 2) gNil)))) (tt := tYes) (te := (tOp (rI0 fun i j => .bl (decide (i < j))) (tVar 1) (tVar 2))) (hr.mono (by decide)) (by rfl) m_all rfl scRises.nd TB rfl (gsc_by (N := N_scRises) (sc := defScope sRises) (by decide +kernel)) (RZ.pi_zipA (by rfl) m_zip (pa_cons (pv 0) (pa_cons (pe_slice sl_tupA (pv 0) (po_some pe_int) po_none) pa_nil))) (fun A' hr' _ _ _ _ _ _ => (pg_tup rfl (pgs_cons (pg_name (i := 1) scRises.nd rfl (.inl rfl)) (pgs_cons (pg_name (i := 2) scRises.nd rfl (.inl rfl)) pgs_nil)))) (fun A' hr' _ _ _ _ _ _ => pts_nil) (fun A' hr' _ _ _ _ _ _ => (pe_cmpR op_lt (pv 1) (pv 2) (nomark _)))))), ?_⟩
    have go : ∀ (c : Addr) (H1 : Hp), K0 H H1 → SqT K H1 c ((ns.map V.int).drop 1) → ∃ xs ys, xs = ns.map V.int ∧ SqT K H1 a xs ∧ SqT K H1 c ys ∧ TabG H1 Pr ∧ ∀ H2, Tabbed Pr H1 H2 → ∃ W : Nat → Nat → Hp → Prop, (∃ m, W 0 m H2) ∧
        GTurn (RZ.ItzT K a c) (gTup K 2 (gCons (gName 1) (gCons (gName 2) gNil))) tYes (tOp (rI0 fun i j => .bl (decide (i < j))) (tVar 1) (tVar 2)) [1, 2] [some (.ref a), none, none] (Q (.bl true)) (stpAll (Q (.bl false))) W := fun c H1 k1 hC1 => by
      refine ⟨_, _, rfl, k1.sqT hS, hC1, k1.tab _ hP, fun H2 hT2 => ?_⟩
      have kt := K0.tbd (k1.tab _ hP) hT2
      have k2 : K0 H H2 := k1.trans kt
      refine ⟨fun i m H3 => i + m = ns.length - 1 ∧ K0 H2 H3 ∧ ∀ j, j < i → ns.getD j 0 < ns.getD (j + 1) 0, ⟨ns.length - 1, by omega, K0.refl _, fun j hj => absurd hj (Nat.not_lt_zero _)⟩, fun i m H3 hW => ?_⟩
      obtain ⟨em, k3, hlt⟩ := hW
      have k13 := k2.trans k3
      have hA : SqT K H3 a (ns.map V.int) := k13.sqT hS
      have hC : SqT K H3 c ((ns.map V.int).drop 1) := (kt.trans k3).sqT hC1
      by_cases hi : i < ns.length - 1
      · have h1 : i < (ns.map V.int).length := by rw [List.length_map]; omega
        have h2 : i + 1 < (ns.map V.int).length := by rw [List.length_map]; omega
        have g1 : (ns.map V.int)[i]? = some (ns.map V.int)[i] := List.getElem?_eq_getElem h1
        have g2 : ((ns.map V.int).drop 1)[i]? = some (ns.map V.int)[i + 1] := by rw [List.getElem?_drop, Nat.add_comm 1 i]; exact List.getElem?_eq_getElem h2
        refine .inr ⟨⟨_, _, _, _, hA, hC, g1, g2⟩, fun H' => K0 H2 H' ∧ ns.getD i 0 < ns.getD (i + 1) 0, fun H' hN => ?_, fun x H' hy => ?_⟩
        · obtain ⟨k', hl'⟩ := hN
          refine ⟨m - 1, by omega, by omega, k', fun j hj => ?_⟩
          by_cases e : j = i
          · rw [e]; exact hl'
          · exact hlt j (by omega)
        · obtain ⟨T, x1, x2, rfl, nT, rfl, f1, f2⟩ := hy
          have ex1 : x1 = .int (ns.getD i 0) := getI (f1 _ hA)
          have ex2 : x2 = .int (ns.getD (i + 1) 0) := getI (by
            have := f2 _ hC
            rwa [List.getElem?_drop, Nat.add_comm 1 i] at this)
          subst ex1 ex2
          have kT : K0 H3 (upd H3 T (.tup [.int (ns.getD i 0), .int (ns.getD (i + 1) 0)])) := K0.new nT
          refine ⟨T, _, rfl, .inl (.inl upd_same), rfl, _, _, rfl, _, _, rfl, rfl, rfl, tyes ?_⟩
          refine ⟨_, rfl, _, rfl, _, _, rfl, rfl, _, rfl, ?_⟩
          by_cases hb : ns.getD i 0 < ns.getD (i + 1) 0
          · rw [decide_eq_true hb]
            exact iteT ⟨k3.trans kT, hb⟩
          · rw [decide_eq_false hb]
            exact iteF (qeq (q _ (k13.trans kT)) (risI_no hi hb))
      · refine .inl ⟨⟨_, _, hA, hC, .inr (by rw [List.length_drop, List.length_map]; omega)⟩, ?_⟩
        exact qeq (q _ k13) (risI_yes fun j hj => hlt j (by omega))
    refine ⟨.ref a, rfl, .ref a, rfl, 1, rfl, a, _, rfl, hS, fun z => ?_, fun _ c nc => ?_⟩
    · have e0 : (ns.map V.int).drop 1 = ns.map V.int := by
        cases ns with
        | nil => rfl
        | cons v r =>
          have := z.1
          rw [show HT.sIx ((v :: r).map V.int).length 0 (some 1) = min 1 ((v :: r).map V.int).length from HT.sIx_nat _ 0 1, List.length_map, List.length_cons] at this
          omega
      obtain ⟨xs, ys, e, h1, h2, h3⟩ := go a H (K0.refl H) (by rw [e0]; exact hS)
      exact ⟨a, a, xs, ys, rfl, .inr ⟨h1, h2, h3⟩⟩
    · obtain ⟨xs, ys, e, h1, h2, h3⟩ := go c _ (K0.new nc) (by rw [← cut1]; exact .inl (.inl upd_same))
      exact ⟨a, c, xs, ys, rfl, .inr ⟨h1, h2, h3⟩⟩
def spAreP (K : PySem.W.Frag) (Pr Pa : Addr) : Sp := fun vs H Q _ => ∃ (a : Addr) (n : Int) (rs : List R4) (p : Addr) (ns : List Int), vs = [.ref a, .ref p] ∧ NetAt K H a n rs ∧ SqT K H p (ns.map V.int) ∧ TabG H Pr ∧ TabG H Pa ∧ ∀ (H' : Hp) (b : Bool), K0 H H' → (b = true ↔ AreP n ns) → Q (.bl b) H'
end
end HK

set_option Elab.async false
set_option linter.all false
set_option maxRecDepth 100000
set_option maxHeartbeats 4000000
namespace HK
open PySem PySem.Spec PyProof.Rows L2 GAl GxR
open Evl (pss_cut)
section
variable {P : Program} {w : World} {K : PySem.W.Frag} {mg : Str → Option Value} {base : Heap}
def spNeedH (K : PySem.W.Frag) (Pr Pa : Addr) : Sp := fun vs H Q _ => ∃ (a : Addr) (n : Int) (rs : List R4) (p : Addr) (ns : List Int), vs = [.ref a, .ref p] ∧ NetAt K H a n rs ∧ SqT K H p (ns.map V.int) ∧ AreP n ns ∧ TabG H Pr ∧ TabG H Pa ∧ ∀ (H' : Hp), K0 H H' → Q .non H'
end
end HK

set_option Elab.async false
set_option linter.all false
set_option maxRecDepth 100000
set_option maxHeartbeats 2000000
namespace HK
open PySem PySem.Spec PyProof.Rows L2 GAl GxR
/-- a class of the program's own that can be raised, made of a text -/
structure XCls (K : PySem.W.Frag) (mg : Str → Option Value) (x : Str) (C : Addr) : Prop where
  ex : ∃ (bmB : List Value) (B newId initId : String), ExcBaseFacts B newId initId bmB ∧ PySem.W.excIn K C bmB newId = true
  gl : mg x = some (.ref C)
  keep : PySem.W.keepIn K (.ref C) = true
  sub : PySem.W.subIn K (.ref C) (.type "BaseException") = some true
  ty : PySem.W.typeIn K (.ref C) = some (.type "type")
section
variable {P : Program} {w : World} {K : PySem.W.Frag} {mg : Str → Option Value} {base : Heap}
theorem ps_raiseC {X : Cx} {W : WX} {x m : Str} {C : Addr} {j : Nat} {p p2 pos pos2 : Pos} (hc : X.calm = true) (hW : Takes X W) (h : XCls X.K X.mg x C) (hg : Gl X x) (hd : (x == Str.ofString "__debug__") = false := by rfl) :
    PS X (.Raise (some ((Expr.Name x p).Call [Expr.Constant (Const.str m) j p2] [] pos)) none pos2) fun _ σ H => W (.ref C) none σ H := by
  obtain ⟨bmB, B, n1, n2, e1, e2⟩ := h.ex
  exact ps_raise hc hW (pmk_own e1 e2 h.gl h.keep (raises_own h.sub h.ty) hg hd)
/-- need_net of anything: None where it is a net, else NoNet -/
def spNeedNetX (K : PySem.W.Frag) (Pn Pr C : Addr) : Sp := fun vs H Q E => ∃ (v : V) (b : Bool), vs = [v] ∧ NetAns K H v b ∧ TabG H Pn ∧ TabG H Pr ∧ ∀ H', K0 H H' → (b = true → Q .non H') ∧ (b = false → E (.ref C) none H')
theorem ok_neednetX {f fN Pn Pr C : Addr} {fd fdN : FuncData} (F : Fun K "need_net" "need_net" sNeedNet f fd) (hC : XCls K mg "NoNet" C)
    (kN : PySem.W.keepIn K (.ref fN) = true) (bN : Binds K fdN ["thing"] []) (gN : mg "is_net" = some (.ref fN)) (GN : FnOk P w K mg base CX0 5 fN fdN ["thing"] (spIsNet K Pn Pr)) :
    FnOk P w K mg base (CX P w) 6 f fd ["net"] (spNeedNetX K Pn Pr C) := by
  refine F.okX scNeedNet (fun vs H Q E h => ?_) (fun cdv A outer s H vs Q E hr h => ?_)
  · obtain ⟨v, b, rfl, _⟩ := h
    rfl
  · obtain ⟨v, b, rfl, hA, tn, tr, q⟩ := h
    refine ⟨_, pss_one (ps_if (pt_not (pt_val (pe_call GN hr (by rfl) gN kN bN .nil pass0 (pa_cons (pv 0) pa_nil)))) (pss_one (ps_raiseC rfl (takes_of rfl rfl rfl rfl) hC (by rfl))) pss_nil), ?_⟩
    refine ⟨_, rfl, v, b, rfl, hA, tn, tr, fun H' k => ⟨_, rfl, ?_⟩⟩
    cases b with
    | true => exact iteF ((q H' k).1 rfl)
    | false => exact iteT ((q H' k).2 rfl)
/-- what never refuses may be called where refusals are watched for -/
theorem fn_lift {k : Nat} {f : Addr} {fd : FuncData} {ps : List Str} {sp : Sp} (h : FnOk P w K mg base CX0 k f fd ps sp) : FnOk P w K mg base (CX P w) k f fd ps sp :=
  ⟨h.len, fun A outer s H args us vs Q E hr he hb hv hs => codeAny_mono (h.run A outer s H args us vs Q E hr he hb hv hs) fun r s' hc => by
    cases r with
    | error e => exact absurd hc (fun z => z)
    | ok a => cases a <;> exact hc⟩
theorem fn_up {CX' : CXT} {j k : Nat} {f : Addr} {fd : FuncData} {ps : List Str} {sp : Sp} (h : FnOk P w K mg base CX' j f fd ps sp) (l : j ≤ k) : FnOk P w K mg base CX' k f fd ps sp :=
  ⟨h.len, fun A outer s H args us vs Q E hr he hb hv hs => h.run A outer s H args us vs Q E (hr.mono l) he hb hv hs⟩
/-- one of two promises -/
theorem fn_alt {CX' : CXT} {k : Nat} {f : Addr} {fd : FuncData} {ps : List Str} {sp sp' : Sp} (h : FnOk P w K mg base CX' k f fd ps sp) (h' : FnOk P w K mg base CX' k f fd ps sp') : FnOk P w K mg base CX' k f fd ps (fun vs H Q E => sp vs H Q E ∨ sp' vs H Q E) :=
  ⟨fun vs H Q E hs => hs.elim (h.len vs H Q E) (h'.len vs H Q E), fun A outer s H args us vs Q E hr he hb hv hs => hs.elim (h.run A outer s H args us vs Q E hr he hb hv) (h'.run A outer s H args us vs Q E hr he hb hv)⟩
/-- need_place of a number -/
def spNeedPlaceX (K : PySem.W.Frag) (C : Addr) : Sp := fun vs H Q E => ∃ (a : Addr) (n : Int) (rs : List R4) (v : Int), vs = [.ref a, .int v] ∧ NetAt K H a n rs ∧ (0 ≤ v ∧ v < n → Q .non H) ∧ (¬ (0 ≤ v ∧ v < n) → E (.ref C) none H)
/-- need_hearers of a tuple of numbers -/
def spNeedHX (K : PySem.W.Frag) (Pr Pa C : Addr) : Sp := fun vs H Q E => ∃ (a : Addr) (n : Int) (rs : List R4) (p : Addr) (ns : List Int), vs = [.ref a, .ref p] ∧ NetAt K H a n rs ∧ SqT K H p (ns.map V.int) ∧ TabG H Pr ∧ TabG H Pa ∧ ∀ (H' : Hp), K0 H H' → (AreP n ns → Q .non H') ∧ (¬ AreP n ns → E (.ref C) none H')
/-- need_tree of a dict of whole numbers -/
def spNeedTreeX (K : PySem.W.Frag) (Pp Pg C : Addr) : Sp := fun vs H Q E => ∃ (a : Addr) (n : Int) (rs : List R4) (root : Int) (p : Addr) (kvs : List (Key × V)) (g : IF), vs = [.ref a, .int root, .ref p] ∧ NetAt K H a n rs ∧ Good n rs ∧ rs.length ≤ 156 ∧
  H p = some (.dK kvs) ∧ DI kvs g ∧ kvs.length ≤ 5000 ∧ TabG H Pp ∧ TabG H Pg ∧ ∀ (H' : Hp), K0 H H' → (TreeP rs root g kvs.length → Q .non H') ∧ (¬ TreeP rs root g kvs.length → E (.ref C) none H')
end
end HK

set_option Elab.async false
set_option linter.all false
set_option maxRecDepth 100000
set_option maxHeartbeats 4000000
namespace HK
open PySem PySem.Spec PyProof.Rows L2 GAl GxR
def undB (f : IF) (s e m : Int) : Bool := match f s with
  | none => false
  | some x => match f e with
    | none => true
    | some b => decide (x + m < b)
section
variable {P : Program} {w : World} {K : PySem.W.Frag} {mg : Str → Option Value} {base : Heap}
def spUnder (K : PySem.W.Frag) : Sp := fun vs H Q _ => ∃ (p : Addr) (kvs : List (Key × V)) (g : IF) (a b c : Int), vs = [.ref p, .int a, .int b, .int c] ∧ Rd H p (.dK kvs) ∧ DI kvs g ∧ Q (.bl (undB g a b c)) H
end
end HK

set_option Elab.async false
set_option linter.all false
set_option maxRecDepth 100000
set_option maxHeartbeats 2000000
namespace HK
open PySem PySem.Spec PyProof.Rows L2 GAl GxR
section
variable {P : Program} {w : World} {K : PySem.W.Frag} {mg : Str → Option Value} {base : Heap}
def spEarly (K : PySem.W.Frag) (Pn Pr : Addr) : Sp := fun vs H Q _ => ∃ (a : Addr) (n : Int) (rs : List R4) (root : Int), vs = [.ref a, .int root] ∧ NetAt K H a n rs ∧ Good n rs ∧ rs.length ≤ 156 ∧ 0 ≤ root ∧ root < n ∧ TabG H Pn ∧ TabG H Pr ∧
  ∀ (p : Addr) (kvs : List (Key × V)) (H' : Hp), K0 H H' → H p = none → H' p = some (.dK kvs) → DI kvs (due n rs root) → kvs.length ≤ 2000 → Q (.ref p) H'
end
end HK

set_option Elab.async false
set_option linter.all false
set_option maxRecDepth 100000
set_option maxHeartbeats 4000000
namespace HK
open PySem PySem.Spec PyProof.Rows L2 GAl GxR
def BadNet (K : PySem.W.Frag) (H : Hp) (C : Addr) (v0 : V) (E : XK) : Prop := NetAns K H v0 false ∧ ∀ H', K0 H H' → E (.ref C) none H'
def BadRoot (K : PySem.W.Frag) (H : Hp) (C : Addr) (v0 v1 : V) (E : XK) : Prop := ∃ (a : Addr) (n : Int) (rs : List R4) (r : Int), v0 = .ref a ∧ v1 = .int r ∧ NetAt K H a n rs ∧ Good n rs ∧ rs.length ≤ 156 ∧ ¬ (0 ≤ r ∧ r < n) ∧ ∀ H', K0 H H' → E (.ref C) none H'
/-- net and root are good; then what R says -/
def GoodRoot (K : PySem.W.Frag) (H : Hp) (v0 v1 : V) (R : Addr → Int → List R4 → Int → Prop) : Prop := ∃ (a : Addr) (n : Int) (rs : List R4) (r : Int), v0 = .ref a ∧ v1 = .int r ∧ NetAt K H a n rs ∧ Good n rs ∧ rs.length ≤ 156 ∧ 0 ≤ r ∧ r < n ∧ R a n rs r
def BadPlace (H : Hp) (C : Addr) (v : V) (E : XK) (n : Int) : Prop := ∃ x : Int, v = .int x ∧ ¬ (0 ≤ x ∧ x < n) ∧ ∀ H', K0 H H' → E (.ref C) none H'
def BadHear (K : PySem.W.Frag) (H : Hp) (Pa C : Addr) (v : V) (E : XK) (n : Int) : Prop := ∃ (p : Addr) (ns : List Int), v = .ref p ∧ SqT K H p (ns.map V.int) ∧ TabG H Pa ∧ ¬ AreP n ns ∧ ∀ H', K0 H H' → E (.ref C) none H'
def BadTree (H : Hp) (Pp Pg C : Addr) (v : V) (E : XK) (rs : List R4) (r : Int) : Prop := ∃ (p : Addr) (kvs : List (Key × V)) (g : IF), v = .ref p ∧ H p = some (.dK kvs) ∧ DI kvs g ∧ kvs.length ≤ 5000 ∧ TabG H Pp ∧ TabG H Pg ∧ ¬ TreeP rs r g kvs.length ∧ ∀ H', K0 H H' → E (.ref C) none H'
section
variable {P : Program} {w : World} {K : PySem.W.Frag} {mg : Str → Option Value} {base : Heap}
theorem FunC.okX {x qual : Str} {st : Stmt} {f : Addr} {fd : FuncData} {c : Addr} {N ps : List Str} {k : Nat} {sp : Sp} (F : FunC K x qual st f fd c) (S : FnScope N ps (defScope st)) (len : ∀ vs H Q E, sp vs H Q E → vs.length = ps.length)
    (hbody : ∀ (A : Around) (outer : List Env) (s : Shared) (H : Hp) (vs : List V) (Q : VK) (E : XK), Room k (A.deeper (envOfC qual (defScope st) s.heap.objs.size f (.ref c))) → sp vs H Q E →
      ∃ t, PSs (cxOf (CX P w) P w K mg base N qual (defScope st) f (.ref c) A outer s H E) (defBody st) t ∧ t { nx := fun _ H' => Q .non H', rt := Q } (start N vs) H) : FnOk P w K mg base (CX P w) (k + 1) f fd ps sp := by
  obtain ⟨oc, od, kV, doc, pm, an, ct, osl, rfl, lk, hcd⟩ := F.ex
  exact fn_of lk hcd S len fun A outer s H vs Q E hr hsp => hbody A outer s H vs Q E hr hsp
def spX_earliest (K : PySem.W.Frag) (Pn Pr CN CP : Addr) : Sp := fun vs H Q E => ∃ v0 v1 : V, vs = [v0, v1] ∧ TabG H Pn ∧ TabG H Pr ∧ (BadNet K H CN v0 E ∨ BadRoot K H CP v0 v1 E)
def spX_are_earliest (K : PySem.W.Frag) (Pn Pr CN CP : Addr) : Sp := fun vs H Q E => ∃ v0 v1 v2 : V, vs = [v0, v1, v2] ∧ TabG H Pn ∧ TabG H Pr ∧ (BadNet K H CN v0 E ∨ BadRoot K H CP v0 v1 E)
def spX_is_closed (K : PySem.W.Frag) (Pn Pr CN CP : Addr) : Sp := fun vs H Q E => ∃ v0 v1 v2 : V, vs = [v0, v1, v2] ∧ TabG H Pn ∧ TabG H Pr ∧ (BadNet K H CN v0 E ∨ BadRoot K H CP v0 v1 E)
def spX_is_tree (K : PySem.W.Frag) (Pn Pr CN CP : Addr) : Sp := fun vs H Q E => ∃ v0 v1 v2 : V, vs = [v0, v1, v2] ∧ TabG H Pn ∧ TabG H Pr ∧ (BadNet K H CN v0 E ∨ BadRoot K H CP v0 v1 E)
def spX_price (K : PySem.W.Frag) (Pn Pr Pp Pg CN CP CT : Addr) : Sp := fun vs H Q E => ∃ v0 v1 v2 : V, vs = [v0, v1, v2] ∧ TabG H Pn ∧ TabG H Pr ∧ (BadNet K H CN v0 E ∨ BadRoot K H CP v0 v1 E ∨ GoodRoot K H v0 v1 (fun _ n rs r => BadTree H Pp Pg CT v2 E rs r))
def spX_lateness (K : PySem.W.Frag) (Pn Pr Pp Pg CN CP CT : Addr) : Sp := fun vs H Q E => ∃ v0 v1 v2 : V, vs = [v0, v1, v2] ∧ TabG H Pn ∧ TabG H Pr ∧ (BadNet K H CN v0 E ∨ BadRoot K H CP v0 v1 E ∨ GoodRoot K H v0 v1 (fun _ n rs r => BadTree H Pp Pg CT v2 E rs r))
def spX_are_prices (K : PySem.W.Frag) (Pn Pr Pp Pg CN CP CT : Addr) : Sp := fun vs H Q E => ∃ v0 v1 v2 v3 : V, vs = [v0, v1, v2, v3] ∧ TabG H Pn ∧ TabG H Pr ∧ (BadNet K H CN v0 E ∨ BadRoot K H CP v0 v1 E ∨ GoodRoot K H v0 v1 (fun _ n rs r => BadTree H Pp Pg CT v2 E rs r))
def spX_graft (K : PySem.W.Frag) (Pn Pr Pp Pg CN CP CT : Addr) : Sp := fun vs H Q E => ∃ v0 v1 v2 v3 : V, vs = [v0, v1, v2, v3] ∧ TabG H Pn ∧ TabG H Pr ∧ (BadNet K H CN v0 E ∨ BadRoot K H CP v0 v1 E ∨ GoodRoot K H v0 v1 (fun _ n _ _ => BadPlace H CP v3 E n) ∨ GoodRoot K H v0 v1 (fun _ n rs r => (∃ x : Int, v3 = .int x ∧ 0 ≤ x ∧ x < n) ∧ BadTree H Pp Pg CT v2 E rs r))
def spX_is_trim (K : PySem.W.Frag) (Pn Pr Pa CN CP : Addr) : Sp := fun vs H Q E => ∃ v0 v1 v2 v3 : V, vs = [v0, v1, v2, v3] ∧ TabG H Pn ∧ TabG H Pr ∧ (BadNet K H CN v0 E ∨ BadRoot K H CP v0 v1 E ∨ GoodRoot K H v0 v1 (fun _ n _ _ => BadHear K H Pa CP v2 E n))
def spX_cut (K : PySem.W.Frag) (Pn Pr Pa Pp Pg CN CP CT : Addr) : Sp := fun vs H Q E => ∃ v0 v1 v2 v3 : V, vs = [v0, v1, v2, v3] ∧ TabG H Pn ∧ TabG H Pr ∧ (BadNet K H CN v0 E ∨ BadRoot K H CP v0 v1 E ∨ GoodRoot K H v0 v1 (fun _ n _ _ => BadHear K H Pa CP v2 E n) ∨ GoodRoot K H v0 v1 (fun _ n rs r => (∃ (p : Addr) (ns : List Int), v2 = .ref p ∧ SqT K H p (ns.map V.int) ∧ TabG H Pa ∧ AreP n ns) ∧ BadTree H Pp Pg CT v3 E rs r))
end
end HK

set_option Elab.async false
set_option linter.all false
set_option maxRecDepth 100000
set_option maxHeartbeats 4000000
namespace HK
open PySem PySem.Spec PyProof.Rows L2 GAl GxR
open Evl (pss_cut)
abbrev sRead : Stmt := topS 29
abbrev N_scRead : List Str := ["text", "rows", "row", "net", "line", "word"]
theorem scRead : FnScope N_scRead ["text"] (defScope sRead) := ⟨rfl, rfl, rfl, by decide +kernel, rfl, by decide +kernel, by decide +kernel⟩
abbrev scRow : Scope := { kind := .function, names := [(Str.ofString ".0", .local), (Str.ofString "row", .local), (Str.ofString "tuple", .globalImplicit)], isGenerator := false, isCoroutine := false }
def rTupFz (K : PySem.W.Frag) : List V → Hp → VK → Prop := fun xs H Q => ∃ p ys, xs = [.ref p] ∧ SqL K H p ys ∧ ∀ l o, H l = none → o.cls = .type "tuple" → o.dict = none → Q (.ref l) (upd H l (.frz o (.tup ys)))
def rIntS : List V → Hp → VK → Prop := fun xs H Q => ∃ a n, xs = [.str a] ∧ PySem.intText? a = some n ∧ a.length ≤ 640 ∧ Q (.int n) H
/-! read_net of any text: the refusals too -/
def valW (w : Str) : Int := (PySem.intText? w).getD 0
theorem isNum_parts {w : Str} (h : isNum w = true) : 1 ≤ w.length ∧ w.length ≤ 6 ∧ NumText.AllDigits (TL.tl w) := by
  unfold isNum at h
  simp only [Bool.and_eq_true, decide_eq_true_eq, List.all_eq_true] at h
  refine ⟨h.1.1.1, h.1.1.2, fun c hc => ?_⟩
  have m := h.1.2 c hc
  have e : figsS.cps.toList = [48, 49, 50, 51, 52, 53, 54, 55, 56, 57] := rfl
  rw [e] at m
  simp only [List.mem_cons, List.not_mem_nil, or_false] at m
  omega
theorem int_isNum {w : Str} (h : isNum w = true) : PySem.intText? w = some (valW w) := by
  obtain ⟨h1, h2, h3⟩ := isNum_parts h
  have e := PySem.intText_digits (x := w) h3 (fun z => by rw [TL.len_tl] at h1; rw [show TL.tl w = [] from z] at h1; exact absurd h1 (by decide)) (by omega)
  unfold valW
  rw [e]; rfl
def rowsT (z : Str) : List (List Str) := (Txt.split z (Str.ofString "\n")).map fun l => Txt.split l (Str.ofString " ")
def headOk (ys : List Str) : Bool := decide (ys.length = 2) && (decide (ys[0]? = some (Str.ofString "PLACES")) && isNum (ys.getD 1 Str.empty))
def rowOk (ys : List Str) : Bool := decide (ys.length = 4) && ys.all isNum
def textOk (y : List Str) (r : List (List Str)) : Bool := headOk y && r.all rowOk
def rowN (ys : List Str) : List Int := ys.map valW
def textD (y : List Str) (r : List (List Str)) : PyData := .tuple [.int (valW (y.getD 1 Str.empty)), .tuple (r.map fun ys => .tuple ((rowN ys).map PyData.int))]
/-- lists of texts -/
def RowsAt (H : Hp) (D : Addr) (xs : List V) (yss : List (List Str)) : Prop := xs.length = yss.length ∧ ∀ (i : Nat) (ys : List Str), yss[i]? = some ys → ∃ q : Addr, xs[i]? = some (.ref q) ∧ q ≠ D ∧ H q = some (.lst (ys.map V.str))
theorem RowsAt.k0 {H H' : Hp} {D : Addr} {xs : List V} {yss : List (List Str)} (h : RowsAt H D xs yss) (k : K0 H H') : RowsAt H' D xs yss := ⟨h.1, fun i ys e => by
  obtain ⟨q, a, b, c⟩ := h.2 i ys e
  exact ⟨q, a, b, k.oth q _ c (fun _ z => by cases z)⟩⟩
theorem RowsAt.snoc {H : Hp} {D q : Addr} {xs : List V} {yss : List (List Str)} {ys : List Str} {o : HO} (h : RowsAt H D xs yss) (nq : H q = none) (hD : H D = some o) (xs' : List V) :
    RowsAt (upd (upd H q (.lst (ys.map V.str))) D (.lst xs')) D (xs ++ [.ref q]) (yss ++ [ys]) := by
  have qD : q ≠ D := fun z => by rw [z, hD] at nq; cases nq
  refine ⟨by rw [List.length_append, List.length_append, h.1]; rfl, fun i zs e => ?_⟩
  by_cases hi : i < yss.length
  · rw [List.getElem?_append_left hi] at e
    obtain ⟨q', a, b, c⟩ := h.2 i zs e
    refine ⟨q', by rw [List.getElem?_append_left (by rw [h.1]; exact hi)]; exact a, b, ?_⟩
    have n : q' ≠ q := fun z => by rw [z, nq] at c; cases c
    rw [upd_ne b, upd_ne n]
    exact c
  · rw [List.getElem?_append_right (by omega)] at e
    have hi0 : i - yss.length = 0 := by
      cases hh : i - yss.length with
      | zero => rfl
      | succ k => rw [hh] at e; cases e
    rw [hi0] at e
    cases e
    refine ⟨q, by rw [List.getElem?_append_right (by rw [h.1]; omega), h.1, hi0]; rfl, qD, ?_⟩
    rw [upd_ne qD, upd_same]
/-- tuples of numbers -/
def RowsI (K : PySem.W.Frag) (H : Hp) (xs : List V) (nss : List (List Int)) : Prop := xs.length = nss.length ∧ ∀ (i : Nat) (ns : List Int), nss[i]? = some ns → ∃ q : Addr, xs[i]? = some (.ref q) ∧ SqT K H q (ns.map V.int)
theorem RowsI.kt {K : PySem.W.Frag} {t : Addr} {H H' : Hp} {xs : List V} {nss : List (List Int)} (h : RowsI K H xs nss) (k : Kt t H H') : RowsI K H' xs nss := ⟨h.1, fun i ns e => by
  obtain ⟨q, a, b⟩ := h.2 i ns e
  exact ⟨q, a, k.sqT b⟩⟩
theorem RowsI.snoc {K : PySem.W.Frag} {H : Hp} {xs : List V} {nss : List (List Int)} {q : Addr} {ns : List Int} (h : RowsI K H xs nss) (s : SqT K H q (ns.map V.int)) : RowsI K H (xs ++ [.ref q]) (nss ++ [ns]) := by
  refine ⟨by rw [List.length_append, List.length_append, h.1]; rfl, fun i zs e => ?_⟩
  by_cases hi : i < nss.length
  · rw [List.getElem?_append_left hi] at e
    obtain ⟨q', a, b⟩ := h.2 i zs e
    exact ⟨q', by rw [List.getElem?_append_left (by rw [h.1]; exact hi)]; exact a, b⟩
  · rw [List.getElem?_append_right (by omega)] at e
    have hi0 : i - nss.length = 0 := by
      cases hh : i - nss.length with
      | zero => rfl
      | succ k => rw [hh] at e; cases e
    rw [hi0] at e
    cases e
    exact ⟨q, by rw [List.getElem?_append_right (by rw [h.1]; omega), h.1, hi0]; rfl, s⟩
theorem dp_ns {K : PySem.W.Frag} {H : Hp} : ∀ ns : List Int, DpAll K H (ns.map V.int) (ns.map PyData.int)
  | [] => .nil
  | _ :: ns => .cons (.int _) (dp_ns ns)
theorem RowsI.dp {K : PySem.W.Frag} {H : Hp} : ∀ {xs : List V} {nss : List (List Int)}, RowsI K H xs nss → DpAll K H xs (nss.map fun ns => .tuple (ns.map PyData.int))
  | [], [], _ => .nil
  | [], _ :: _, h => by cases h.1
  | _ :: _, [], h => by cases h.1
  | x :: xs, ns :: nss, h => by
    obtain ⟨q, a, b⟩ := h.2 0 ns rfl
    cases a
    exact .cons (.tup b (dp_ns ns)) (RowsI.dp ⟨Nat.succ.inj h.1, fun i ms e => h.2 (i + 1) ms e⟩)
section
variable {P : Program} {w : World} {K : PySem.W.Frag} {mg : Str → Option Value} {base : Heap}
def spReadX (K : PySem.W.Frag) (Pi Pm Pn Pr CT CN : Addr) : Sp := fun vs H Q E => ∃ (z : Str) (y : List Str) (r : List (List Str)), vs = [.str z] ∧ rowsT z = y :: r ∧ z.length + 2 ≤ sizeLine ∧ (∀ l ∈ Txt.split z (Str.ofString "\n"), l.length + 2 ≤ sizeLine) ∧ (∀ ys ∈ y :: r, ∀ v ∈ ys, v.length ≤ sizeLine) ∧ r.length ≤ 900 ∧
  TabG H Pi ∧ TabG H Pm ∧ TabG H Pn ∧ TabG H Pr ∧ ∀ (H' : Hp), K0 H H' → (textOk y r = false → E (.ref CT) none H') ∧ (textOk y r = true → isNetD (textD y r) = false → E (.ref CN) none H') ∧ (textOk y r = true → isNetD (textD y r) = true → ∀ a : Addr, Dp K H' (.ref a) (textD y r) → Q (.ref a) H')
theorem ok_readX {f c Pi Pm Pn Pr CT CN f_isnum f_neednet : Addr} {fd fd_isnum fd_neednet : FuncData} (F : FunC K "read_net" "read_net" sRead f fd c) (TB : TabB base mg c Pm) (hT : XCls K mg "NoText" CT)
    (k_isnum : PySem.W.keepIn K (.ref f_isnum) = true) (b_isnum : Binds K fd_isnum ["word"] []) (g_isnum : mg "is_number" = some (.ref f_isnum)) (G_isnum : FnOk P w K mg base CX0 3 f_isnum fd_isnum ["word"] (spIsNum K Pi))
    (k_neednet : PySem.W.keepIn K (.ref f_neednet) = true) (b_neednet : Binds K fd_neednet ["net"] []) (g_neednet : mg "need_net" = some (.ref f_neednet)) (J_neednet : FnOk P w K mg base (CX P w) 6 f_neednet fd_neednet ["net"] (spNeedNetX K Pn Pr CN))
    (m_isinstance : mg "isinstance" = none) (m_str : mg "str" = none) (m_len : mg "len" = none) (m_all : mg "all" = none) (m_int : mg "int" = none) (m_tuple : mg "tuple" = none) : FnOk P w K mg base (CX P w) 7 f fd ["text"] (spReadX K Pi Pm Pn Pr CT CN) := by
  refine F.okX scRead (fun vs H Q E h => ?_) (fun A outer s H vs Q E hr h => ?_)
  · obtain ⟨a, y, r, rfl, _⟩ := h
    rfl
  · obtain ⟨z, y, r, rfl, hrz, hzl, hll, hwl, hrl, ti, tm, tn, tr, q⟩ := h
    have hu := hu_of hr
    refine ⟨_, (pss_cons (ps_if (pt_not (pt_val (pe_callB call_isi (by rfl) m_isinstance boot_isinstance (pa_cons (pv 0) (pa_cons (pe_bltn (v := .ty "str") (by rfl) m_str (by decide +kernel) rfl) pa_nil))))) pss_never pss_nil)
      (pss_cons (ps_setLc (i := 1) (own := [("line", 4)]) (g := (gName 4)) (tt := tYes) rfl scRead.nd rfl rfl (sw_true rfl rfl rfl rfl) (pi_list (pe_split (pv 0) pe_str)) (blkOk_by (N := N_scRead) (sc := defScope sRead) (by decide +kernel)) (fun _ _ _ _ _ => (pg_name (i := 4) scRead.nd rfl (.inl rfl))) (fun _ _ _ _ _ => pts_nil) (fun _ _ _ _ _ => (pe_split (pv 4) pe_str)))
      (pss_cons (ps_if (pt_not (PW.pt (pw_and (pt_cmpR op_eq (pe_callB call_len_seq (by rfl) m_len PySem.boot_len (pa_cons (pe_ix ix_list (pv 1) pe_int (fun _ _ => rfl)) pa_nil)) pe_int (nomark _)) (pw_and (pt_cmpR op_eq (pe_ix ix_list (pe_ix ix_list (pv 1) pe_int (fun _ _ => rfl)) pe_int (fun _ _ => rfl)) pe_str (nomark _)) (pw_and1 (pt_val (pe_call G_isnum (hr.mono (by decide)) (by rfl) g_isnum k_isnum b_isnum .nil pass0 (pa_cons (pe_ix ix_list (pe_ix ix_list (pv 1) pe_int (fun _ _ => rfl)) pe_int (fun _ _ => rfl)) pa_nil)))))))) (pss_one (ps_raiseC rfl (takes_of rfl rfl rfl rfl) hT (by rfl))) pss_nil)
      (pss_cons (ps_for (passes_of rfl) rfl (pi_list (pe_slice sl_list (pv 1) (po_some pe_int) po_none)) (pg_name (i := 2) scRead.nd rfl (.inl rfl))
      (pss_one (ps_if (pt_not (PW.pt (pw_and (pt_cmpR op_eq (pe_callB call_len_seq (by rfl) m_len PySem.boot_len (pa_cons (pv 2) pa_nil)) pe_int (nomark _)) (pw_and1 (pt_val (pe_allG (own := [("word", 5)]) (k := 3) (g := (gName 5)) (tt := tYes) (te := (tCall (spIsNum K Pi) [] E0 (tCons (tVar 5) tNil))) (hr.mono (by decide)) (by rfl) m_all rfl scRead.nd TB rfl (gsc_by (N := N_scRead) (sc := defScope sRead) (by decide +kernel)) (pi_list (pv 2)) (fun A' hr' _ _ _ _ _ _ => (pg_name (i := 5) scRead.nd rfl (.inl rfl))) (fun A' hr' _ _ _ _ _ _ => pts_nil) (fun A' hr' _ _ _ _ _ _ => (pe_call G_isnum (hr'.mono (by decide)) (by rfl) g_isnum k_isnum b_isnum .nil pass0 (pa_cons (pv 5) pa_nil))))))))) (pss_one (ps_raiseC rfl (takes_of rfl rfl rfl rfl) hT (by rfl))) pss_nil)))
      (pss_cons (ps_set (i := 3) scRead.nd rfl (.inl rfl) (pe_tup (pa_cons (pe_callTy call_int_str (by rfl) m_int (by decide +kernel) (pa_cons (pe_ix ix_list (pe_ix ix_list (pv 1) pe_int (fun _ _ => rfl)) pe_int (fun _ _ => rfl)) pa_nil)) (pa_cons (pe_callTy call_tuple_fz (by rfl) m_tuple (by decide +kernel) (pa_cons (pe_lc (own := [("row", 2)]) (g := (gName 2)) (tt := tYes) (te := (tCB (rTupFz K) (tCons (tLc (iList K (tVar 2)) (gName 5) tYes (tCB rIntS (tCons (tVar 5) tNil)) [5]) tNil))) rfl scRead.nd (pi_list (pe_slice sl_list (pv 1) (po_some pe_int) po_none)) (blkOk_by (N := N_scRead) (sc := defScope sRead) (by decide +kernel)) (fun _ _ _ _ _ => (pg_name (i := 2) scRead.nd rfl (.inl rfl))) (fun _ _ _ _ _ => pts_nil) (fun _ _ _ _ _ => (pe_callTy call_tuple_fz (by rfl) m_tuple (by decide +kernel) (pa_cons (pe_lc (own := [("word", 5)]) (g := (gName 5)) (tt := tYes) rfl scRead.nd (pi_list (pv 2)) (blkOk_by (N := N_scRead) (sc := scRow) (by decide +kernel)) (fun _ _ _ _ _ => (pg_name (i := 5) scRead.nd rfl (.inl rfl))) (fun _ _ _ _ _ => pts_nil) (fun _ _ _ _ _ => (pe_callTy call_int_str (by rfl) m_int (by decide +kernel) (pa_cons (pv 5) pa_nil)))) pa_nil)))) pa_nil)) pa_nil))))
      (pss_cons (ps_expr (pe_call J_neednet (hr.mono (by decide)) (by rfl) g_neednet k_neednet b_neednet .nil (passes_call (takes_of rfl rfl rfl rfl) fun _ _ _ _ h => h) (pa_cons (pv 3) pa_nil)))
      (pss_one (ps_ret (pv 3))))))))), ?_⟩
    refine ⟨.str z, rfl, .str z, .ty "str", .type "str", _, true, rfl, .ty "str", .base (.str _), kit_ty rfl, _, rfl, iteF ?_⟩
    -- rows
    refine ⟨_, rfl, ⟨_, rfl⟩, z, _, rfl, rfl, by decide, hzl, fun sp nsp => ⟨sp, rfl, ⟨_, .inl (.inl upd_same)⟩, fun R nR => ?_⟩⟩
    have k0 : K0 H (upd H sp (.lst ((Txt.split z (Str.ofString "\n")).map V.str))) := K0.new nsp
    have hlp : (Txt.split z (Str.ofString "\n")).length = r.length + 1 := by
      have e := congrArg List.length hrz
      unfold rowsT at e
      rw [List.length_map] at e
      exact e
    refine lc_list (K := K) (a := sp) (xs := (Txt.split z (Str.ofString "\n")).map V.str) (fun i H2 => K0 (upd H sp (.lst ((Txt.split z (Str.ofString "\n")).map V.str))) H2 ∧ ∃ xs, H2 R = some (.lst xs) ∧ RowsAt H2 R xs ((y :: r).take i)) ⟨K0.new nR, [], upd_same, rfl, fun i ys e => by rw [List.take_zero] at e; cases e⟩
      (fun i H2 hi h => .inl (.inl (h.1.oth sp _ upd_same (fun _ z => by cases z)))) (fun i x H2 hx h => ?_) (fun H2 h => ?_)
    · obtain ⟨k, xs, hR, hrows⟩ := h
      rw [List.getElem?_map] at hx
      obtain ⟨l, hl, rfl⟩ := Option.map_eq_some_iff.mp hx
      have e1 : (y :: r)[i]? = some (Txt.split l (Str.ofString " ")) := by
        rw [← hrz]
        unfold rowsT
        rw [List.getElem?_map, hl]; rfl
      refine ⟨rfl, tyes ⟨_, rfl, ⟨_, rfl⟩, l, _, rfl, rfl, by decide, hll l (List.mem_of_getElem? hl), fun q1 nq1 => ?_⟩⟩
      have hqR : R ≠ q1 := fun z => by rw [← z, hR] at nq1; cases nq1
      have hi : i < r.length + 1 := by rw [← hlp]; exact (List.getElem?_eq_some_iff.mp hl).1
      have hxl : xs.length ≤ 1000 := by
        rw [hrows.1]
        have := List.length_take_le i (y :: r)
        omega
      refine ⟨xs, by rw [upd_ne hqR]; exact hR, Nat.lt_of_le_of_lt hxl (by decide), (k.trans (K0.new nq1)).mut nR, xs ++ [.ref q1], upd_same, ?_⟩
      rw [List.take_add_one, e1]
      exact hrows.snoc nq1 hR _
    obtain ⟨k, xs, hR, hrows⟩ := h
    rw [List.take_of_length_le (by rw [List.length_map, hlp]; exact Nat.le_refl _)] at hrows
    have kA : K0 H H2 := k0.trans k
    have hxl : xs.length = r.length + 1 := hrows.1
    obtain ⟨q0, hx0, hq0R, hq0⟩ := hrows.2 0 y rfl
    -- the head
    refine ⟨_, rfl, R, _, 0, .ref q0, rfl, rfl, .inl (.inl hR), atI_nat (j := 0) hx0, q0, _, rfl, .inl (.inl (.inl hq0)), rfl, _, rfl, ite2 (fun e => ?_) (fun e => iteT ((q H2 kA).1 ?_))⟩
    rotate_left
    · skip
      have h2 : ¬ y.length = 2 := fun h => e (decide_eq_true (by rw [List.length_map, h]; rfl))
      unfold textOk headOk
      rw [decide_eq_false h2, Bool.false_and, Bool.false_and]
    have hl2 : y.length = 2 := by
      have h1 := of_decide_eq_true e
      rw [List.length_map] at h1
      have h3 : (y.length : Int) = 2 := V.int.inj h1
      omega
    obtain ⟨a, b, rfl⟩ : ∃ a b, y = [a, b] := match y, hl2 with | [a, b], _ => ⟨a, b, rfl⟩
    refine ⟨_, rfl, R, _, 0, .ref q0, rfl, rfl, .inl (.inl hR), atI_nat (j := 0) hx0, q0, _, 0, .str a, rfl, rfl, .inl (.inl hq0), atI_nat (j := 0) rfl, rfl, _, rfl, ite2 (fun e2 => ?_) (fun e2 => iteT ((q H2 kA).1 ?_))⟩
    rotate_left
    · skip
      have h2 : ¬ ([a, b] : List Str)[0]? = some (Str.ofString "PLACES") := fun h => e2 (decide_eq_true (by rw [Option.some.inj h]))
      unfold textOk headOk
      rw [decide_eq_false h2, Bool.false_and, Bool.and_false, Bool.false_and]
    have hpl : a = Str.ofString "PLACES" := V.str.inj (of_decide_eq_true e2)
    refine ⟨_, rfl, R, _, 0, .ref q0, rfl, rfl, .inl (.inl hR), atI_nat (j := 0) hx0, q0, _, 1, .str b, rfl, rfl, .inl (.inl hq0), atI_nat (j := 1) rfl, b, rfl, hwl [a, b] (List.mem_cons_self ..) b (by simp), kA.tab _ ti, fun H3 k3 => ⟨_, rfl, ?_⟩⟩
    have kB := kA.trans k3
    cases eb : isNum b with
    | false =>
      refine iteT ((q H3 kB).1 ?_)
      unfold textOk headOk
      rw [show ([a, b] : List Str).getD 1 Str.empty = b from rfl, eb, Bool.and_false, Bool.and_false, Bool.false_and]
    | true =>
    have hho : headOk [a, b] = true := by
      unfold headOk
      rw [show ([a, b] : List Str).getD 1 Str.empty = b from rfl, eb, decide_eq_true (show ([a, b] : List Str)[0]? = some (Str.ofString "PLACES") by rw [hpl]; rfl)]
      rfl
    refine iteF ?_
    -- each row behind the first
    have hR3 : H3 R = some (.lst xs) := k3.oth R _ hR (fun _ z => by cases z)
    have hrows3 := hrows.k0 k3
    have rowAt : ∀ {Hx : Hp} (_ : K0 H3 Hx) {i : Nat} {x : V}, (cutV xs (some 1) none)[i]? = some x → ∃ (ys : List Str) (q1 : Addr), r[i]? = some ys ∧ x = .ref q1 ∧ Hx q1 = some (.lst (ys.map V.str)) := by
      intro Hx kx i x hx
      rw [cut1, List.getElem?_drop] at hx
      have hi : 1 + i < xs.length := (List.getElem?_eq_some_iff.mp hx).1
      have hir : i < r.length := by omega
      have g : r[i]? = some r[i] := List.getElem?_eq_getElem hir
      obtain ⟨q1, a1, b1, c1⟩ := (hrows3.k0 kx).2 (i + 1) r[i] g
      rw [Nat.add_comm] at hx
      rw [hx] at a1
      cases a1
      exact ⟨r[i], q1, g, rfl, c1⟩
    have hcl : (cutV xs (some 1) none).length = r.length := by rw [cut1, List.length_drop]; omega
    have hbad : ∀ {ys : List Str}, ys ∈ r → rowOk ys = false → textOk [a, b] r = false := fun {ys} hm hb => by
      unfold textOk
      rw [show r.all rowOk = false from List.all_eq_false.mpr ⟨ys, hm, by rw [hb]; exact Bool.false_ne_true⟩, Bool.and_false]
    refine ⟨.ref R, rfl, 1, rfl, R, xs, rfl, .inl (.inl hR3), fun cp ncp => ⟨cp, rfl, ⟨_, .inl (.inl upd_same)⟩, ?_⟩⟩
    refine for_list (xs := cutV xs (some 1) none) (fun i σ' H' => ∃ y2, σ' = [some (.str z), some (.ref R), y2, none, none, none] ∧ K0 (upd H3 cp (.lst (cutV xs (some 1) none))) H' ∧ ∀ ys ∈ r.take i, rowOk ys = true)
      ⟨none, rfl, K0.refl _, fun ys h => by rw [List.take_zero] at h; cases h⟩ (fun i σ' H' hi h => ?_) (fun i x σ' H' hx h => ?_) (fun σ' H' h => ?_)
    · obtain ⟨_, _, k4, _⟩ := h
      exact .inl (.inl (k4.oth cp _ upd_same (fun _ z => by cases z)))
    · obtain ⟨y2, rfl, k4, hro⟩ := h
      have k5 := (K0.new (o := .lst (cutV xs (some 1) none)) ncp).trans k4
      obtain ⟨ys, q1, hr1, rfl, hq1⟩ := rowAt k5 hx
      have hm := List.mem_of_getElem? hr1
      refine ⟨_, rfl, q1, _, rfl, .inl (.inl (.inl hq1)), rfl, _, rfl, ite2 (fun e => ?_) (fun e => iteT ((q H' (kB.trans k5)).1 (hbad hm ?_)))⟩
      rotate_left
      · skip
        have h2 : ¬ ys.length = 4 := fun h => e (decide_eq_true (by rw [List.length_map, h]; rfl))
        unfold rowOk
        rw [decide_eq_false h2, Bool.false_and]
      have hl4 : ys.length = 4 := by
        have h1 := of_decide_eq_true e
        rw [List.length_map] at h1
        have h3 : (ys.length : Int) = 4 := V.int.inj h1
        omega
      refine ⟨_, rfl, q1, rfl, ⟨_, .inl (.inl hq1)⟩, (kB.trans k5).tab _ tm, fun H5 hT5 => ?_⟩
      have k6 : K0 H' H5 := K0.tbd ((kB.trans k5).tab _ tm) hT5
      refine ⟨fun j m H6 => j + m = ys.length ∧ K0 H' H6 ∧ ∀ v ∈ ys.take j, isNum v = true, ⟨ys.length, by omega, k6, fun v h => by rw [List.take_zero] at h; cases h⟩, fun j m H6 hW => ?_⟩
      obtain ⟨em, k7, hnum⟩ := hW
      have hA : SqL K H6 q1 (ys.map V.str) := .inl (.inl (k7.oth q1 _ hq1 (fun _ z => by cases z)))
      by_cases hj : j < ys.length
      · have g0 : ys[j]? = some (ys[j]'hj) := List.getElem?_eq_getElem hj
        refine .inr ⟨⟨_, _, hA, by rw [List.getElem?_map, g0]; rfl⟩, fun H7 => K0 H' H7 ∧ ∀ v ∈ ys.take (j + 1), isNum v = true, fun H7 hN => ⟨m - 1, by omega, by omega, hN⟩, fun x H7 hy => ?_⟩
        obtain ⟨rfl, fx⟩ := hy
        have ex := fx _ hA
        rw [List.getElem?_map, g0] at ex
        cases ex
        refine ⟨rfl, tyes ⟨_, rfl, _, rfl, hwl ys (List.mem_cons_of_mem _ hm) _ (List.getElem_mem hj), ((kB.trans k5).trans k7).tab _ ti, fun H8 k8 => ⟨_, rfl, ?_⟩⟩⟩
        cases ew : isNum (ys[j]'hj) with
        | true =>
          refine iteT ⟨k7.trans k8, fun v hv => ?_⟩
          rw [List.take_add_one, g0] at hv
          rcases List.mem_append.mp hv with h | h
          · exact hnum v h
          · cases List.mem_singleton.mp h
            exact ew
        | false =>
          refine iteF ⟨_, rfl, iteT ((q H8 (((kB.trans k5).trans k7).trans k8)).1 (hbad hm ?_))⟩
          unfold rowOk
          rw [show ys.all isNum = false from List.all_eq_false.mpr ⟨_, List.getElem_mem hj, by rw [ew]; exact Bool.false_ne_true⟩, Bool.and_false]
      · rw [List.take_of_length_le (by omega)] at hnum
        refine .inl ⟨⟨_, hA, by rw [List.length_map]; omega⟩, _, rfl, iteF ⟨_, rfl, (k4.trans k7), fun zs hzs => ?_⟩⟩
        rw [List.take_add_one, hr1] at hzs
        rcases List.mem_append.mp hzs with h | h
        · exact hro zs h
        · cases List.mem_singleton.mp h
          unfold rowOk
          rw [decide_eq_true hl4, Bool.true_and]
          exact List.all_eq_true.mpr hnum
    obtain ⟨y2, rfl, k4, hro⟩ := h
    rw [hcl, List.take_of_length_le (Nat.le_refl _)] at hro
    have hok : textOk [a, b] r = true := by
      unfold textOk
      rw [hho, Bool.true_and]
      exact List.all_eq_true.mpr hro
    have hnum : ∀ ys ∈ r, ys.length = 4 ∧ ∀ v ∈ ys, isNum v = true := fun ys h => by
      have := hro ys h
      unfold rowOk at this
      simp only [Bool.and_eq_true, decide_eq_true_eq, List.all_eq_true] at this
      exact this
    -- the net
    have k5 := (K0.new (o := .lst (cutV xs (some 1) none)) ncp).trans k4
    have kC := kB.trans k5
    have hR5 : H' R = some (.lst xs) := k5.oth R _ hR3 (fun _ z => by cases z)
    have hq05 : H' q0 = some (.lst (([a, b] : List Str).map V.str)) := k5.oth q0 _ (k3.oth q0 _ hq0 (fun _ z => by cases z)) (fun _ z => by cases z)
    refine ⟨_, rfl, R, _, 0, .ref q0, rfl, rfl, .inl (.inl hR5), atI_nat (j := 0) hx0, q0, _, 1, .str b, rfl, rfl, .inl (.inl hq05), atI_nat (j := 1) rfl, b, valW b, rfl, int_isNum eb, Nat.le_trans (isNum_parts eb).2.1 (by decide), ?_⟩
    refine ⟨.ref R, rfl, 1, rfl, R, xs, rfl, .inl (.inl hR5), fun cq ncq => ⟨cq, rfl, ⟨_, .inl (.inl upd_same)⟩, fun D nD => ?_⟩⟩
    have k9 : K0 H' (upd H' cq (.lst (cutV xs (some 1) none))) := K0.new ncq
    refine lc_list (K := K) (a := cq) (xs := cutV xs (some 1) none) (fun i H6 => K0 (upd H' cq (.lst (cutV xs (some 1) none))) H6 ∧ ∃ ts, H6 D = some (.lst ts) ∧ RowsI K H6 ts ((r.take i).map rowN)) ⟨K0.new nD, [], upd_same, rfl, fun i ns e => by rw [List.take_zero] at e; cases e⟩
      (fun i H6 hi h => .inl (.inl (h.1.oth cq _ upd_same (fun _ z => by cases z)))) (fun i x H6 hx h => ?_) (fun H6 h => ?_)
    · obtain ⟨k6, ts, hD, hrd⟩ := h
      obtain ⟨ys, q1, hr1, rfl, hq1⟩ := rowAt ((k5.trans k9).trans k6) hx
      obtain ⟨h4, hn4⟩ := hnum ys (List.mem_of_getElem? hr1)
      refine ⟨rfl, tyes ⟨_, rfl, q1, rfl, ⟨_, .inl (.inl hq1)⟩, fun D3 nD3 => ?_⟩⟩
      refine lc_list (K := K) (a := q1) (xs := ys.map V.str) (fun j H7 => K0 H6 H7 ∧ H7 D3 = some (.lst ((rowN (ys.take j)).map V.int))) ⟨K0.new nD3, upd_same⟩
        (fun j H7 hj h => .inl (.inl (h.1.oth q1 _ hq1 (fun _ z => by cases z)))) (fun j x H7 hx h => ?_) (fun H7 h => ?_)
      · obtain ⟨k7, hD3⟩ := h
        rw [List.getElem?_map] at hx
        obtain ⟨v, hv, rfl⟩ := Option.map_eq_some_iff.mp hx
        have nv := hn4 v (List.mem_of_getElem? hv)
        refine ⟨rfl, tyes ⟨_, rfl, v, valW v, rfl, int_isNum nv, Nat.le_trans (isNum_parts nv).2.1 (by decide), _, hD3, ?_, k7.mut nD3, ?_⟩⟩
        · refine Nat.lt_of_le_of_lt (m := 4) ?_ (by decide)
          unfold rowN
          rw [List.length_map, List.length_map, ← h4]
          exact List.length_take_le' _ _
        · rw [upd_same, List.take_add_one, hv]
          unfold rowN
          rw [List.map_append, List.map_append]
          rfl
      · obtain ⟨k7, hD3⟩ := h
        rw [List.length_map, List.take_of_length_le (Nat.le_refl _)] at hD3
        refine ⟨D3, (rowN ys).map V.int, rfl, .inl (.inl hD3), fun tl ob ntl hoc hod => ?_⟩
        have k8 : K0 H7 (upd H7 tl (.frz ob (.tup ((rowN ys).map V.int)))) := K0.new ntl
        have hD8 := (k7.trans k8).oth D _ hD (fun _ z => by cases z)
        have tsl : ts.length ≤ 1000 := by
          rw [hrd.1, List.length_map]
          have := List.length_take_le i r
          have hi := (List.getElem?_eq_some_iff.mp hr1).1
          omega
        refine ⟨ts, hD8, Nat.lt_of_le_of_lt tsl (by decide), (k6.trans (k7.trans k8)).mut nD, ts ++ [.ref tl], upd_same, ?_⟩
        rw [List.take_add_one, hr1, List.map_append]
        have kM : Kt D (upd H7 tl (.frz ob (.tup ((rowN ys).map V.int)))) (upd (upd H7 tl (.frz ob (.tup ((rowN ys).map V.int)))) D (.lst (ts ++ [.ref tl]))) := Kt.set hD8
        exact RowsI.snoc ((hrd.kt ((k7.trans k8).kt (t := D))).kt kM) (kM.sqT (.inl (.inr ⟨ob, upd_same⟩)))
    · obtain ⟨k6, ts, hD, hrd⟩ := h
      rw [hcl, List.take_of_length_le (Nat.le_refl _)] at hrd
      refine ⟨D, ts, rfl, .inl (.inl hD), fun tl ob ntl hoc hod => ?_⟩
      have kT : K0 H6 (upd H6 tl (.frz ob (.tup ts))) := K0.new ntl
      refine ⟨by show 2 ≤ sizeLine; decide, fun tp ntp => ?_⟩
      have kN : K0 (upd H6 tl (.frz ob (.tup ts))) (upd (upd H6 tl (.frz ob (.tup ts))) tp (.tup [.int (valW b), .ref tl])) := K0.new ntp
      have kk := kT.trans kN
      have kE := kC.trans ((k9.trans k6).trans kk)
      have hDp : Dp K (upd (upd H6 tl (.frz ob (.tup ts))) tp (.tup [.int (valW b), .ref tl])) (.ref tp) (textD [a, b] r) := by
        have h1 := (hrd.kt (kk.kt (t := tp))).dp
        rw [List.map_map] at h1
        exact .tup (.inl (.inl upd_same)) (.cons (.int _) (.cons (.tup (kN.sqT (.inl (.inr ⟨ob, upd_same⟩))) h1) .nil))
      refine ⟨_, rfl, .ref tp, isNetD (textD [a, b] r), rfl, .inl ⟨textD [a, b] r, hDp, fun m rs e => ?_, rfl⟩, kE.tab _ tn, kE.tab _ tr, fun H8 k8 => ⟨fun e => ?_, fun e => (q H8 (kE.trans k8)).2.1 hok e⟩⟩
      · unfold textD at e
        cases e
        rw [List.length_map]
        omega
      · exact ⟨_, rfl, (q H8 (kE.trans k8)).2.2 hok e tp (k8.dp _ _ hDp)⟩
end
end HK

set_option Elab.async false
set_option linter.all false
set_option maxRecDepth 100000
set_option maxHeartbeats 4000000
namespace HK
open PySem PySem.Spec PyProof.Rows L2 GAl GxR
open Evl (pss_cut)
section
variable {P : Program} {w : World} {K : PySem.W.Frag} {mg : Str → Option Value} {base : Heap}
/-- show_net of what is no net -/
def spShowX (K : PySem.W.Frag) (Pn Pr CN : Addr) : Sp := fun vs H Q E => ∃ v : V, vs = [v] ∧ NetAns K H v false ∧ TabG H Pn ∧ TabG H Pr ∧ ∀ H', K0 H H' → E (.ref CN) none H'
theorem ok_showX {f Pn Pr CN f_neednet : Addr} {fd fd_neednet : FuncData} (F : Fun K "show_net" "show_net" sShow f fd)
    (k_neednet : PySem.W.keepIn K (.ref f_neednet) = true) (b_neednet : Binds K fd_neednet ["net"] []) (g_neednet : mg "need_net" = some (.ref f_neednet)) (J_neednet : FnOk P w K mg base (CX P w) 6 f_neednet fd_neednet ["net"] (spNeedNetX K Pn Pr CN)) :
    FnOk P w K mg base (CX P w) 7 f fd ["net"] (spShowX K Pn Pr CN) := by
  refine F.okX scShow (fun vs H Q E h => ?_) (fun cdv A outer s H vs Q E hr h => ?_)
  · obtain ⟨v, rfl, _⟩ := h
    rfl
  · obtain ⟨v, rfl, hA, tn, tr, q⟩ := h
    refine ⟨_, (pss_cons (ps_expr (pe_call J_neednet (hr.mono (by decide)) (by rfl) g_neednet k_neednet b_neednet .nil (passes_call (takes_of rfl rfl rfl rfl) fun _ _ _ _ h => h) (pa_cons (pv 0) pa_nil))) pss_never), ?_⟩
    exact ⟨_, rfl, v, false, rfl, hA, tn, tr, fun H' k => ⟨fun z => (by cases z), fun _ => q H' k⟩⟩
end
end HK

set_option Elab.async false
set_option linter.all false
set_option maxRecDepth 100000
set_option maxHeartbeats 4000000
namespace HK
open PySem PySem.Spec PyProof.Rows L2 GAl GxR HkE
abbrev sEWord : Stmt := topS 37
abbrev N_scEWord : List Str := ["way", "thing", "caught", "e"]
theorem scEWord : FnScope N_scEWord ["way", "thing"] (defScope sEWord) := ⟨rfl, rfl, rfl, by decide +kernel, rfl, by decide +kernel, by decide +kernel⟩
/-- a refusal that the law catches -/
structure HearE (K : PySem.W.Frag) (C CH : Addr) (Cs : List Addr) (j : Nat) : Prop where
  kc : KindE K C Cs j
  ex : PySem.W.exmOne K (.ref C) (.ref CH) = some true
/-- the word of a text or of a thing shown -/
inductive WordP (K : PySem.W.Frag) (H : Hp) : Int → V → Str → Prop
  | read {z : Str} {y : List Str} {r : List (List Str)} (hr : rowsT z = y :: r) (hz : z.length + 2 ≤ sizeLine) (hl : ∀ l ∈ Txt.split z (Str.ofString "\n"), l.length + 2 ≤ sizeLine) (hw : ∀ ys ∈ y :: r, ∀ v ∈ ys, v.length ≤ sizeLine) (hn : r.length ≤ 900) :
      WordP K H 0 (.str z) (if textOk y r = true then (if isNetD (textD y r) = true then "" else "net") else "text")
  | shown {way : Int} {v : V} (h : way ≠ 0) (hv : NetAns K H v false) : WordP K H way v "net"
section
variable {P : Program} {w : World} {K : PySem.W.Frag} {mg : Str → Option Value} {base : Heap}
def spEWord (K : PySem.W.Frag) (Pi Pm Pn Pr : Addr) : Sp := fun vs H Q _ => ∃ (way : Int) (v : V) (t : Str), vs = [.int way, v] ∧ WordP K H way v t ∧ TabG H Pi ∧ TabG H Pm ∧ TabG H Pn ∧ TabG H Pr ∧ ∀ H', K0 H H' → Q (.str t) H'
theorem ok_eword {f fR fS fK CH CT CN Pi Pm Pn Pr : Addr} {fd fdR fdS fdK : FuncData} {Cs : List Addr} (F : Fun K "_law_e_word" "_law_e_word" sEWord f fd)
    (cH : mg "HearError" = some (.ref CH)) (hT : HearE K CT CH Cs 7) (hN : HearE K CN CH Cs 4)
    (kR : PySem.W.keepIn K (.ref fR) = true) (bR : Binds K fdR ["text"] []) (gR : mg "read_net" = some (.ref fR)) (GR : FnOk P w K mg base (CX P w) 7 fR fdR ["text"] (spReadX K Pi Pm Pn Pr CT CN))
    (kS : PySem.W.keepIn K (.ref fS) = true) (bS : Binds K fdS ["net"] []) (gS : mg "show_net" = some (.ref fS)) (GS : FnOk P w K mg base (CX P w) 7 fS fdS ["net"] (spShowX K Pn Pr CN))
    (kK : PySem.W.keepIn K (.ref fK) = true) (bK : Binds K fdK ["caught"] []) (gK : mg "_law_e_kind" = some (.ref fK)) (GK : FnOk P w K mg base CX0 1 fK fdK ["caught"] (spEKind K Cs)) :
    FnOk P w K mg base CX0 8 f fd ["way", "thing"] (spEWord K Pi Pm Pn Pr) := by
  refine F.ok scEWord (fun vs H Q E h => ?_) (fun cdv A outer s H vs Q E hr h => ?_)
  · obtain ⟨way, v, t, rfl, _⟩ := h
    rfl
  · obtain ⟨way, v, t, rfl, h, ti, tm, tn, tr, q⟩ := h
    have hu := hu_of hr
    refine ⟨_, (pss_cons (ps_set (i := 2) scEWord.nd rfl (.inl rfl) pe_non)
      (pss_cons (ps_try_hold (i := 3) (c := .ref CH) rfl rfl rfl scEWord.nd rfl (by rfl) ⟨by rfl, rfl, .inl cH⟩
        (fun W pn xe tk => pss_one (ps_if (pt_cmpR op_eq (pv 0) pe_int (nomark _)) (pss_one (ps_expr (pe_callS GR (hr.mono (by decide)) (by rfl) gR kR bR (fun σ => passAt tk σ) (pa_cons (pv 1) pa_nil))))
          (pss_one (ps_expr (pe_callS GS (hr.mono (by decide)) (by rfl) gS kS bS (fun σ => passAt tk σ) (pa_cons (pv 1) pa_nil))))))
        (fun a cls oe pn => pss_one (ps_set (i := 2) scEWord.nd rfl (.inl rfl) (pv 3))))
      (pss_cons (ps_if (pt_cmp (pc_isN (pv 2))) (pss_one (ps_ret pe_str)) pss_nil)
      (pss_one (ps_ret (pe_call GK (hr.mono (by decide)) (by rfl) gK kK bK .nil pass0 (pa_cons (pv 2) pa_nil))))))), ?_⟩
    cases h with
    | read hrz hz hl hw hn =>
      refine ⟨_, rfl, rfl, _, rfl, iteT ⟨_, rfl, _, _, _, rfl, hrz, hz, hl, hw, hn, ti, tm, tn, tr, fun H' k => ⟨fun e => ?_, fun e e2 => ?_, fun e e2 a hd => ?_⟩⟩⟩
      · rw [if_neg (by rw [e]; exact Bool.false_ne_true)] at q
        refine ⟨hT.ex, rfl, fun a na => ?_⟩
        exact ⟨_, rfl, _, rfl, _, rfl, iteF ⟨_, rfl, a, CT, 7, rfl, upd_same, hT.kc, fun H3 k3 => q H3 (k.trans ((K0.new na).trans k3))⟩⟩
      · rw [if_pos e, if_neg (by rw [e2]; exact Bool.false_ne_true)] at q
        refine ⟨hN.ex, rfl, fun a na => ?_⟩
        exact ⟨_, rfl, _, rfl, _, rfl, iteF ⟨_, rfl, a, CN, 4, rfl, upd_same, hN.kc, fun H3 k3 => q H3 (k.trans ((K0.new na).trans k3))⟩⟩
      · rw [if_pos e, if_pos e2] at q
        exact ⟨_, rfl, _, rfl, iteT (q H' k)⟩
    | shown h hv =>
      refine ⟨_, rfl, rfl, _, rfl, ?_⟩
      rw [decide_eq_false (show ¬ V.int way = V.int 0 from fun e => h (V.int.inj e))]
      refine iteF ⟨_, rfl, v, rfl, hv, tn, tr, fun H' k => ?_⟩
      refine ⟨hN.ex, rfl, fun a na => ?_⟩
      exact ⟨_, rfl, _, rfl, _, rfl, iteF ⟨_, rfl, a, CN, 4, rfl, upd_same, hN.kc, fun H3 k3 => q H3 (k.trans ((K0.new na).trans k3))⟩⟩
end
end HK

set_option Elab.async false
set_option linter.all false
set_option maxRecDepth 100000
set_option maxHeartbeats 2000000
namespace HK
open PySem PySem.Spec PyProof.Rows L2 GAl GxR
/-! ### what a head by facts says of a def, in our words -/
section
variable {K : PySem.W.Frag} {x qual : Str} {st : Stmt} {f : Addr} {fd : FuncData}
theorem fun_of (F : FunD K x qual (defArgs st) (defBody st) (defScope st) [] [] f fd) : Fun K x qual st f fd := by
  obtain ⟨⟨oc, od, dV, kV, doc, pm, an, cdv, ct, osl, e, l, hcd, hD, _⟩, kp⟩ := F
  rcases hD with ⟨_, rfl⟩ | ⟨n, _⟩
  · exact ⟨⟨oc, od, kV, doc, pm, an, cdv, ct, osl, e, l, hcd⟩, kp⟩
  · exact absurd rfl n
theorem funC_of {p : He.Defn} (F : FunD K x qual (defArgs st) (defBody st) (defScope st) [] [] (He.fAd K p) fd) : FunC K x qual st (He.fAd K p) fd (He.cT K p).1 := by
  obtain ⟨⟨oc, od, dV, kV, doc, pm, an, cdv, ct, osl, e, l, hcd, hD, _⟩, kp⟩ := F
  obtain ⟨c, rfl⟩ : ∃ c, cdv = .ref c := by
    cases cdv with
    | ref c => exact ⟨c, rfl⟩
    | _ => cases hcd
  have ec : (He.cT K p).1 = c := He.codeOf_eq l (by rw [e])
  rcases hD with ⟨_, rfl⟩ | ⟨n, _⟩
  · rw [ec]
    exact ⟨⟨oc, od, kV, doc, pm, an, ct, osl, e, l, hcd⟩, kp⟩
  · exact absurd rfl n
end
def dd (x : Str) (st : Stmt) : He.DefD := ⟨(x, none), x, x, defArgs st, defBody st, defScope st, [], []⟩
def dm (c m q : Str) (st : Stmt) : He.DefD := ⟨(c, some m), m, q, defArgs st, defBody st, defScope st, [], []⟩
end HK

set_option Elab.async false
set_option linter.all false
set_option maxRecDepth 100000
set_option maxHeartbeats 2000000
namespace HK
open PySem PySem.Spec PyProof.Rows L2 GAl GxR HkE
/-! the refusals' classes, as facts that a head can be asked for -/
def eClasses : List Str := ["NoDeed", "NoEvents", "NoKept", "NoName", "NoNet", "NoPlace", "NoRow", "NoText", "NoTree", "NoWays", "TooMany"]
def excB (K : PySem.W.Frag) (D : Addr) : Bool :=
  He.eqO (PySem.W.findIn K (.ref D) "__getattribute__") (some (some (.builtin "BaseException.__getattribute__"))) &&
  (He.eqO (PySem.W.findIn K (.ref D) "__getattr__") (some none) &&
  (decide (PySem.W.subIn K (.ref D) (.type "BaseException") = some true) &&
  (PySem.W.hasDictIn K D &&
  (He.eqO (PySem.W.findIn K (.ref D) "__class__") (some (some (.builtin "object.__class__"))) &&
  (He.eqO (PySem.W.specialIn K (.builtin "object.__class__") "__get__") (some (some (.builtin "getset_descriptor.__get__"))) &&
  (decide (PySem.W.takesIn K (.builtin "object.__class__") = some true) &&
  decide (PySem.W.mroIn K D (.type "object") = some true)))))))
theorem excB_ok {K : PySem.W.Frag} {D : Addr} (h : excB K D = true) : ExcC K D := by
  unfold excB at h
  obtain ⟨h1, h⟩ := He.ba h
  obtain ⟨h2, h⟩ := He.ba h
  obtain ⟨h3, h⟩ := He.ba h
  obtain ⟨h4, h⟩ := He.ba h
  obtain ⟨h5, h⟩ := He.ba h
  obtain ⟨h6, h⟩ := He.ba h
  obtain ⟨h7, h8⟩ := He.ba h
  exact ⟨He.eqO_ok h1, He.eqO_ok h2, of_decide_eq_true h3, h4, He.eqO_ok h5, He.eqO_ok h6, of_decide_eq_true h7, of_decide_eq_true h8⟩
def kindB (K : PySem.W.Frag) (x : Str) (j : Nat) : Bool :=
  excB K (He.ga K x) && (decide (PySem.W.kitOne K (.ref (He.ga K x)) (.type "ValueError") = some true) && eClasses.zipIdx.all fun p => decide (PySem.W.kitOne K (.ref (He.ga K x)) (.ref (He.ga K p.1)) = some (decide (p.2 = j))))
theorem kindB_ok {K : PySem.W.Frag} {x : Str} {j : Nat} (h : kindB K x j = true) (hj : j < 11) : KindE K (He.ga K x) (eClasses.map (He.ga K)) j := by
  obtain ⟨h1, h⟩ := He.ba h
  obtain ⟨h2, h3⟩ := He.ba h
  refine ⟨excB_ok h1, hj, fun i C e => ?_, of_decide_eq_true h2⟩
  rw [List.getElem?_map] at e
  obtain ⟨y, hy, rfl⟩ := Option.map_eq_some_iff.mp e
  have hm : (y, i) ∈ eClasses.zipIdx := List.mk_mem_zipIdx_iff_getElem?.mpr hy
  exact of_decide_eq_true (List.all_eq_true.mp h3 _ hm)
theorem hearE_of {K : PySem.W.Frag} {x : Str} {j : Nat} (h : kindB K x j = true) (hj : j < 11) (e : PySem.W.exmOne K (.ref (He.ga K x)) (.ref (He.ga K "HearError")) = some true) : HearE K (He.ga K x) (He.ga K "HearError") (eClasses.map (He.ga K)) j := ⟨kindB_ok h hj, e⟩
theorem xcls_of {K : PySem.W.Frag} {mg : Str → Option Value} {x : Str} (g : mg x = some (.ref (He.ga K x))) (h : PySem.W.excIn K (He.ga K x) He.veBase "ValueError.__new__" = true ∧ PySem.W.keepIn K (.ref (He.ga K x)) = true ∧ PySem.W.subIn K (.ref (He.ga K x)) (.type "BaseException") = some true ∧ PySem.W.typeIn K (.ref (He.ga K x)) = some (.type "type")) : XCls K mg x (He.ga K x) :=
  ⟨⟨He.veBase, _, _, _, PySem.F.excBase_ValueError, h.1⟩, g, h.2.1, h.2.2.1, h.2.2.2⟩
end HK

set_option Elab.async false
set_option linter.all false
set_option maxRecDepth 100000
set_option maxHeartbeats 2000000
namespace HK
open PySem PySem.Spec PyProof.Rows L2 GAl GxR
open TL (tl numL len_tl tl_num numL_len tl_append tl_join join_eq joinL ext_tl numL_free split_join int_num numL_step numL_lt numL_ne numL_digits)
/-! texts of numbers to 999999 are read back -/
theorem numL_head : ∀ n : Nat, 0 < n → (numL n).head? ≠ some 48 := by
  intro n
  induction n using Nat.strongRecOn with
  | _ n ih =>
    intro h
    by_cases h10 : n < 10
    · rw [numL_lt h10]
      intro e
      have e2 : 48 + n = 48 := Option.some.inj e
      omega
    · rw [numL_step (by omega)]
      have e := ih (n / 10) (by omega) (by omega)
      cases hh : numL (n / 10) with
      | nil => exact absurd hh (numL_ne _)
      | cons c l =>
        rw [hh] at e
        exact e
def Md (i : Int) : Prop := 0 ≤ i ∧ i ≤ 999999
theorem Md.len {i : Int} (h : Md i) : (sOf i).length ≤ 6 := by
  rw [len_tl, sOf_tl h.1]
  refine numL_len (by decide) ?_
  obtain ⟨h2, h3⟩ := h
  have : (10 : Nat) ^ 6 = 1000000 := by decide
  omega
theorem isNum_md {i : Int} (h : Md i) : isNum (sOf i) = true := by
  have h2 := sOf_tl h.1
  have hl := h.len
  have h0 : 1 ≤ (sOf i).length := by
    rw [len_tl, h2]
    cases hh : numL i.toNat with
    | nil => exact absurd hh (numL_ne _)
    | cons c l => exact Nat.succ_le_succ (Nat.zero_le _)
  unfold isNum
  simp only [Bool.and_eq_true, Bool.or_eq_true, decide_eq_true_eq, List.all_eq_true]
  refine ⟨⟨⟨h0, hl⟩, fun c hc => ?_⟩, ?_⟩
  · rw [h2] at hc
    have e := numL_digits _ c hc
    have e0 : figsS.cps.toList = [48, 49, 50, 51, 52, 53, 54, 55, 56, 57] := rfl
    rw [e0]
    simp only [List.mem_cons, List.not_mem_nil, or_false]
    omega
  · by_cases hi : i = 0
    · subst hi
      exact .inl (ext_tl rfl)
    · refine .inr ?_
      rw [h2]
      have e := numL_head i.toNat (by obtain ⟨a, b⟩ := h; omega)
      rw [decide_eq_false e]; rfl
theorem valW_md {i : Int} (h : Md i) : valW (sOf i) = i := by
  obtain ⟨h1, h2⟩ := h
  obtain ⟨n, rfl⟩ := Int.eq_ofNat_of_zero_le h1
  have hp : (10 : Nat) ^ 6 = 1000000 := by decide
  have hl : (numL n).length ≤ 4300 := Nat.le_trans (numL_len (k := 6) (by decide) (by omega)) (by decide)
  unfold valW
  rw [show PySem.intText? (sOf (n : Int)) = some (n : Int) from int_num hl]
  rfl
theorem md_free {i : Int} {s : Nat} (h : Md i) (hs : s < 48 ∨ 57 < s) : s ∉ tl (sOf i) := by
  rw [sOf_tl h.1]
  exact numL_free hs
def lineS (ns : List Int) : Str := Txt.join (Str.ofString " ") (ns.map sOf)
def rowsS (m : Int) (nss : List (List Int)) : Str := Txt.join (Str.ofString "\n") (headS m :: nss.map lineS)
def headL (n : Int) : List Str := [Str.ofString "PLACES", sOf n]
theorem headS_join (n : Int) : headS n = Txt.join (Str.ofString " ") (headL n) := by
  refine ext_tl ?_
  rw [join_eq, tl_join]
  unfold headS headL
  rw [tl_append]
  rfl
theorem split_headM {n : Int} (h : Md n) : Txt.split (headS n) (Str.ofString " ") = headL n := by
  rw [headS_join]
  refine split_join (s := 32) (S := []) rfl (by decide +kernel) (by simp [headL]) fun p hp => ?_
  simp only [headL, List.mem_cons, List.not_mem_nil, or_false] at hp
  rcases hp with rfl | rfl
  · decide
  · exact md_free h (by decide)
theorem split_line {ns : List Int} (h : ∀ i ∈ ns, Md i) (hne : ns ≠ []) : Txt.split (lineS ns) (Str.ofString " ") = ns.map sOf := by
  refine split_join (s := 32) (S := []) rfl (by decide +kernel) (by simpa using hne) fun p hp => ?_
  obtain ⟨i, hi, rfl⟩ := List.mem_map.mp hp
  exact md_free (h i hi) (by decide)
theorem line_free {ns : List Int} (h : ∀ i ∈ ns, Md i) : 10 ∉ tl (lineS ns) := by
  unfold lineS
  rw [join_eq, tl_join]
  have key : ∀ l : List (List Nat), (∀ p ∈ l, 10 ∉ p) → 10 ∉ joinL (tl (Str.ofString " ")) l := by
    intro l
    induction l with
    | nil => intro _ z; cases z
    | cons p l ih =>
      intro hp
      cases l with
      | nil => exact hp p (List.mem_cons_self ..)
      | cons p2 l2 =>
        show 10 ∉ p ++ (tl (Str.ofString " ") ++ joinL (tl (Str.ofString " ")) (p2 :: l2))
        intro z
        rcases List.mem_append.mp z with z | z
        · exact hp p (List.mem_cons_self ..) z
        · rcases List.mem_append.mp z with z | z
          · exact absurd z (by decide)
          · exact ih (fun p' h' => hp p' (List.mem_cons_of_mem _ h')) z
  refine key _ fun p hp => ?_
  obtain ⟨s, hs, rfl⟩ := List.mem_map.mp hp
  obtain ⟨i, hi, rfl⟩ := List.mem_map.mp hs
  exact md_free (h i hi) (by decide)
theorem head_free {n : Int} (h : Md n) : 10 ∉ tl (headS n) := by
  unfold headS
  rw [tl_append]
  intro hm
  rcases List.mem_append.mp hm with z | z
  · exact absurd z (by decide)
  · exact md_free (s := 10) h (by decide) z
theorem split_rows {m : Int} {nss : List (List Int)} (hm : Md m) (h : ∀ ns ∈ nss, ∀ i ∈ ns, Md i) : Txt.split (rowsS m nss) (Str.ofString "\n") = headS m :: nss.map lineS := by
  refine split_join (s := 10) (S := []) rfl (by decide +kernel) (by simp) fun p hp => ?_
  rcases List.mem_cons.mp hp with rfl | hp
  · exact head_free hm
  · obtain ⟨ns, hns, rfl⟩ := List.mem_map.mp hp
    exact line_free (h ns hns)
theorem rowsT_rows {m : Int} {nss : List (List Int)} (hm : Md m) (h : ∀ ns ∈ nss, ns ≠ [] ∧ ∀ i ∈ ns, Md i) : rowsT (rowsS m nss) = headL m :: nss.map (·.map sOf) := by
  unfold rowsT
  rw [split_rows hm fun ns hns => (h ns hns).2, List.map_cons, split_headM hm, List.map_map]
  congr 1
  refine List.map_congr_left fun ns hns => ?_
  exact split_line (h ns hns).2 (h ns hns).1
theorem textOk_rows {m : Int} {nss : List (List Int)} (hm : Md m) (h : ∀ ns ∈ nss, ns.length = 4 ∧ ∀ i ∈ ns, Md i) : textOk (headL m) (nss.map (·.map sOf)) = true := by
  unfold textOk
  rw [Bool.and_eq_true]
  refine ⟨?_, List.all_eq_true.mpr fun ys hys => ?_⟩
  · unfold headOk
    rw [show (headL m).getD 1 Str.empty = sOf m from rfl, isNum_md hm, decide_eq_true (show (headL m).length = 2 from rfl), decide_eq_true (show (headL m)[0]? = some (Str.ofString "PLACES") from rfl)]
    rfl
  · obtain ⟨ns, hns, rfl⟩ := List.mem_map.mp hys
    unfold rowOk
    rw [List.length_map, decide_eq_true (h ns hns).1, Bool.true_and]
    refine List.all_eq_true.mpr fun s hs => ?_
    obtain ⟨i, hi, rfl⟩ := List.mem_map.mp hs
    exact isNum_md ((h ns hns).2 i hi)
theorem textD_rows {m : Int} {nss : List (List Int)} (hm : Md m) (h : ∀ ns ∈ nss, ∀ i ∈ ns, Md i) : textD (headL m) (nss.map (·.map sOf)) = .tuple [.int m, .tuple (nss.map fun ns => .tuple (ns.map PyData.int))] := by
  unfold textD
  rw [show (headL m).getD 1 Str.empty = sOf m from rfl, valW_md hm, List.map_map]
  have e : nss.map ((fun ys : List Str => PyData.tuple ((rowN ys).map PyData.int)) ∘ fun ns => ns.map sOf) = nss.map fun ns => .tuple (ns.map PyData.int) := by
    refine List.map_congr_left fun ns hns => ?_
    show PyData.tuple ((rowN (ns.map sOf)).map PyData.int) = _
    have e2 : rowN (ns.map sOf) = ns := by
      unfold rowN
      rw [List.map_map]
      calc ns.map (valW ∘ sOf) = ns.map id := List.map_congr_left fun i hi => valW_md (h ns hns i hi)
        _ = ns := List.map_id ns
    rw [e2]
  rw [e]
end HK

set_option Elab.async false
set_option linter.all false
set_option maxRecDepth 100000
set_option maxHeartbeats 2000000
namespace HK
open PySem PySem.Spec PyProof.Rows L2 GAl GxR
open Evl (pss_cut)
open TL (tl numL len_tl tl_num numL_len tl_append tl_join join_eq joinL ext_tl)
abbrev sETextG : Stmt := topS 35
abbrev N_scETextG : List Str := ["net", "lines", "road", "number"]
theorem scETextG : FnScope N_scETextG ["net"] (defScope sETextG) := ⟨rfl, rfl, rfl, by decide +kernel, rfl, by decide +kernel, by decide +kernel⟩
theorem Md.log {i : Int} (h : Md i) : i.natAbs.log2 < 1920 := by
  have h3 : i.natAbs < 2 ^ 20 := by
    have : (2 : Nat) ^ 20 = 1048576 := by decide
    obtain ⟨a, b⟩ := h
    omega
  by_cases h0 : i.natAbs = 0
  · rw [h0]; decide
  · have := (Nat.log2_lt h0).mpr h3
    omega
/-- a tuple of a number and a tuple of tuples of numbers -/
def NetI (K : PySem.W.Frag) (H : Hp) (a : Addr) (m : Int) (nss : List (List Int)) : Prop := ∃ (r : Addr) (xs : List V), SqT K H a [.int m, .ref r] ∧ SqT K H r xs ∧ RowsI K H xs nss
theorem NetI.kt {K : PySem.W.Frag} {t : Addr} {H H' : Hp} {a : Addr} {m : Int} {nss : List (List Int)} (h : NetI K H a m nss) (k : Kt t H H') : NetI K H' a m nss := by
  obtain ⟨r, xs, h1, h2, h3⟩ := h
  exact ⟨r, xs, k.sqT h1, k.sqT h2, h3.kt k⟩
theorem NetI.dp {K : PySem.W.Frag} {H : Hp} {a : Addr} {m : Int} {nss : List (List Int)} (h : NetI K H a m nss) : Dp K H (.ref a) (.tuple [.int m, .tuple (nss.map fun ns => .tuple (ns.map PyData.int))]) := by
  obtain ⟨r, xs, h1, h2, h3⟩ := h
  exact .tup h1 (.cons (.int _) (.cons (.tup h2 h3.dp) .nil))
theorem NetAt.toI {K : PySem.W.Frag} {H : Hp} {a : Addr} {n : Int} {rs : List R4} (h : NetAt K H a n rs) : NetI K H a n (rs.map R4.is) := by
  obtain ⟨r, xs, _, h1, h2, _, _, h3⟩ := h
  refine ⟨r, xs, h1, h2, by rw [List.length_map]; exact h3.len, fun i ns e => ?_⟩
  rw [List.getElem?_map] at e
  obtain ⟨t, ht, rfl⟩ := Option.map_eq_some_iff.mp e
  have hi : i < xs.length := by rw [h3.len]; exact (List.getElem?_eq_some_iff.mp ht).1
  obtain ⟨t', q1, e1, e2, e3⟩ := road_at h3 (List.getElem?_eq_getElem hi)
  rw [ht] at e1
  cases e1
  exact ⟨q1, by rw [List.getElem?_eq_getElem hi, e2], e3⟩
theorem line_len {ns : List Int} (h : ∀ i ∈ ns, Md i) (h4 : ns.length = 4) : (lineS ns).length ≤ 27 := by
  obtain ⟨a, b, c, d, rfl⟩ : ∃ a b c d, ns = [a, b, c, d] := match ns, h4 with | [a, b, c, d], _ => ⟨a, b, c, d, rfl⟩
  have ha := (h a (by simp)).len
  have hb := (h b (by simp)).len
  have hc := (h c (by simp)).len
  have hd := (h d (by simp)).len
  unfold lineS
  rw [join_eq]
  show (sOf a ++ Str.ofString " " ++ (sOf b ++ Str.ofString " " ++ (sOf c ++ Str.ofString " " ++ sOf d))).length ≤ 27
  simp only [app_len, sp_len]
  omega
theorem headM_len {n : Int} (h : Md n) : (headS n).length ≤ 13 := by
  have a := h.len
  unfold headS
  rw [app_len, pl_len]
  omega
section
variable {P : Program} {w : World} {K : PySem.W.Frag} {mg : Str → Option Value} {base : Heap}
def spTextG (K : PySem.W.Frag) : Sp := fun vs H Q _ => ∃ (a : Addr) (m : Int) (nss : List (List Int)), vs = [.ref a] ∧ NetI K H a m nss ∧ Md m ∧ (∀ ns ∈ nss, ns.length = 4 ∧ ∀ i ∈ ns, Md i) ∧ nss.length ≤ 200 ∧ ∀ H', K0 H H' → Q (.str (rowsS m nss)) H'
theorem ok_e_textG {f : Addr} {fd : FuncData} (F : Fun K "_law_e_text" "_law_e_text" sETextG f fd) (m_str : mg "str" = none) : FnOk P w K mg base CX0 1 f fd ["net"] (spTextG K) := by
  refine F.ok scETextG (fun vs H Q E h => ?_) (fun cdv A outer s H vs Q E hr h => ?_)
  · obtain ⟨a, n, rs, rfl, _⟩ := h
    rfl
  · obtain ⟨a, n, nss, rfl, hN, hm, hns, hl, q⟩ := h
    have hu := hu_of hr
    refine ⟨_, (pss_cons (ps_set (i := 1) scETextG.nd rfl (.inl rfl) (pe_lst (pa_cons (pe_op op_add_str pe_str (pe_callTy call_str_int (by rfl) m_str (by decide +kernel) (pa_cons (pe_ix ix_tup (pv 0) pe_int (fun _ _ => rfl)) pa_nil))) pa_nil)))
      (pss_cons (ps_for PassesOwn.never rfl (pi_tup (pe_ix ix_tup (pv 0) pe_int (fun _ _ => rfl))) (pg_name (i := 2) scETextG.nd rfl (.inl rfl))
      (pss_one (ps_expr (pe_bm PySem.F.plainAttrs_list PySem.F.slot_list_append PySem.F.type_list_append mt_append (pv 1) (pa_cons (pe_join pe_str (pe_lc (own := [("number", 3)]) (g := (gName 3)) (tt := tYes) rfl scETextG.nd (pi_tup (pv 2)) (blkOk_by (N := N_scETextG) (sc := defScope sETextG) (by decide +kernel)) (fun _ _ _ _ _ => (pg_name (i := 3) scETextG.nd rfl (.inl rfl))) (fun _ _ _ _ _ => pts_nil) (fun _ _ _ _ _ => (pe_callTy call_str_int (by rfl) m_str (by decide +kernel) (pa_cons (pv 3) pa_nil))))) pa_nil)))))
      (pss_one (ps_ret (pe_join pe_str (pv 1)))))), ?_⟩
    obtain ⟨r, xs, h1, h2, h3⟩ := hN
    have hrl : xs.length = nss.length := h3.1
    have hnet : ∀ {H' : Hp}, K0 H H' → SqT K H' a [.int n, .ref r] := fun k => k.sqT h1
    refine ⟨_, rfl, a, _, 0, _, rfl, rfl, h1, atI_nat (j := 0) rfl, n, rfl, hm.log, _, _, rfl, rfl, Nat.le_trans (m := 13) (by have := headM_len hm; unfold headS at this; rw [app_len] at this; exact this) (by decide), by show 1 ≤ sizeLine; decide, fun p np => ?_⟩
    refine ⟨_, rfl, a, _, 1, .ref r, rfl, rfl, hnet (K0.new np), atI_nat (j := 1) rfl, r, rfl, ⟨xs, (K0.new np).sqT h2⟩, ?_⟩
    refine for_tup (xs := xs) (fun i σ' H' => ∃ y2, σ' = [some (.ref a), some (.ref p), y2, none] ∧ K0 H H' ∧ H' p = some (.lst ((headS n :: (nss.take i).map lineS).map V.str)))
      ⟨none, rfl, K0.new np, upd_same⟩ (fun i σ' H' hi h => ?_) (fun i x σ' H' hx h => ?_) (fun σ' H' h => ?_)
    · obtain ⟨_, _, k, _⟩ := h
      exact k.sqT h2
    · obtain ⟨y2, rfl, k, hp⟩ := h
      have hi : i < nss.length := by rw [← hrl]; exact (List.getElem?_eq_some_iff.mp hx).1
      have hrd : nss[i]? = some nss[i] := List.getElem?_eq_getElem hi
      obtain ⟨q1, e1, hs⟩ := h3.2 i _ hrd
      rw [hx] at e1
      cases e1
      obtain ⟨h4, sm⟩ := hns _ (List.getElem_mem hi)
      have hsk := k.sqT hs
      refine ⟨_, rfl, .inl ⟨rfl, _, .inl (.inl hp)⟩, ?_⟩
      refine ⟨⟨_, rfl⟩, _, rfl, q1, rfl, ⟨_, hsk⟩, fun D nD => ?_⟩
      refine lc_tup (xs := nss[i].map V.int) (fun j H2 => K0 H' H2 ∧ H2 D = some (.lst (((nss[i].take j).map sOf).map V.str))) ⟨K0.new nD, upd_same⟩ (fun j H2 hj h => h.1.sqT hsk) (fun j x H2 hx h => ?_) (fun H2 h => ?_)
      · obtain ⟨k2, hD⟩ := h
        rw [List.getElem?_map] at hx
        obtain ⟨m, hm, rfl⟩ := Option.map_eq_some_iff.mp hx
        refine ⟨rfl, tyes ⟨.int m, rfl, m, rfl, (sm m (List.mem_of_getElem? hm)).log, _, hD, ?_, k2.mut nD, ?_⟩⟩
        · refine Nat.lt_of_le_of_lt (m := 4) ?_ (by decide)
          rw [List.length_map, List.length_map, ← h4]
          exact List.length_take_le' _ _
        · rw [upd_same, List.take_add_one, hm, List.map_append, List.map_append]
          rfl
      · obtain ⟨k2, hD⟩ := h
        rw [List.length_map, List.take_of_length_le (Nat.le_refl _)] at hD
        have hp2 : H2 p = some (.lst ((headS n :: (nss.take i).map lineS).map V.str)) := k2.oth p _ hp (fun _ z => by cases z)
        refine ⟨_, _, _, rfl, rfl, .inl (.inl (.inl hD)), ?_, ?_⟩
        · have h := sum_le (c := 6) (ys := nss[i].map sOf) fun y hy => by
            obtain ⟨m, hm, rfl⟩ := List.mem_map.mp hy
            exact (sm m hm).len
          rw [List.length_map, h4] at h
          have e := sp_len
          show _ + (nss[i].map sOf).length * (Str.ofString " ").length ≤ _
          rw [List.length_map, h4, e]
          omega
        · refine ⟨p, _, _, rfl, rfl, hp2, ?_, _, rfl, (k.trans k2).mut np, ?_⟩
          · refine Nat.lt_of_le_of_lt (m := 300) ?_ (by decide)
            have := List.length_take_le i nss
            simp only [List.length_map, List.length_cons]
            omega
          · rw [upd_same, List.take_add_one, hrd, List.map_append, List.map_cons, List.map_cons, List.map_append, List.cons_append]
            rfl
    · obtain ⟨y2, rfl, k, hp⟩ := h
      rw [List.take_of_length_le (by omega)] at hp
      refine ⟨⟨_, rfl⟩, _, rfl, _, _, _, rfl, rfl, .inl (.inl (.inl hp)), ?_, ?_⟩
      · have h := sum_le (c := 27) (ys := headS n :: nss.map lineS) fun y hy => by
          rcases List.mem_cons.mp hy with rfl | hy
          · exact Nat.le_trans (headM_len hm) (by decide)
          · obtain ⟨ns, hn, rfl⟩ := List.mem_map.mp hy
            exact line_len (hns ns hn).2 (hns ns hn).1
        have e := lf_len
        show _ + (headS n :: nss.map lineS).length * (Str.ofString "\n").length ≤ _
        rw [e]
        simp only [List.length_cons, List.length_map] at h ⊢
        omega
      · exact q _ k
end
end HK

set_option Elab.async false
set_option linter.all false
set_option maxRecDepth 100000
set_option maxHeartbeats 2000000
namespace HK
open PySem PySem.Spec PyProof.Rows L2 GAl GxR
open TL (tl len_tl ext_tl split_join split_spl spl kind_ok joinL tl_join join_eq tl_append spl_join)
/-! lines that are no rows and no heads -/
def isNumT (l : List Nat) : Bool := (decide (1 ≤ l.length) && decide (l.length ≤ 6)) && (l.all (fun c => decide (c ∈ figsS.cps.toList))) && (decide (l = [48]) || !decide (l.head? = some 48))
theorem isNum_T (z : Str) : isNum z = isNumT (tl z) := by
  unfold isNum isNumT
  rw [len_tl]
  congr 2
  by_cases h : z = Str.ofString "0"
  · rw [decide_eq_true h, h]; rfl
  · rw [decide_eq_false h, decide_eq_false (show ¬ tl z = [48] from fun e => h (ext_tl (by rw [e]; rfl)))]
def headOkL (l : List (List Nat)) : Bool := decide (l.length = 2) && (decide (l[0]? = some (tl (Str.ofString "PLACES"))) && isNumT (l.getD 1 []))
def rowOkL (l : List (List Nat)) : Bool := decide (l.length = 4) && l.all isNumT
theorem headOk_L (ys : List Str) : headOk ys = headOkL (ys.map tl) := by
  unfold headOk headOkL
  rw [List.length_map]
  congr 1
  match ys with
  | [] => rfl
  | [a] =>
    show (decide (some a = some (Str.ofString "PLACES")) && isNum Str.empty) = (decide (some (tl a) = some (tl (Str.ofString "PLACES"))) && isNumT [])
    have e1 : isNum Str.empty = false := by rw [isNum_T]; rfl
    have e2 : isNumT [] = false := rfl
    rw [e1, e2, Bool.and_false, Bool.and_false]
  | a :: b :: r =>
    show (decide (some a = some (Str.ofString "PLACES")) && isNum b) = (decide (some (tl a) = some (tl (Str.ofString "PLACES"))) && isNumT (tl b))
    rw [isNum_T]
    congr 1
    by_cases h : a = Str.ofString "PLACES"
    · rw [h, decide_eq_true rfl, decide_eq_true rfl]
    · rw [decide_eq_false (show ¬ some a = some (Str.ofString "PLACES") from fun e => h (Option.some.inj e)), decide_eq_false (show ¬ some (tl a) = some (tl (Str.ofString "PLACES")) from fun e => h (ext_tl (Option.some.inj e)))]
theorem rowOk_L (ys : List Str) : rowOk ys = rowOkL (ys.map tl) := by
  unfold rowOk rowOkL
  rw [List.length_map, List.all_map]
  congr 2
  funext z
  exact isNum_T z
/-- the words of a line, as signs -/
def lineL (l : Str) : List (List Nat) := spl [32] 0 [] (tl l)
theorem split_L (l : Str) : (Txt.split l (Str.ofString " ")).map tl = lineL l := by
  have e := split_spl l (Str.ofString " ") (by decide) (kind_ok (by decide +kernel))
  rw [e]; rfl
theorem rowsT_join {parts : List Str} (hne : parts ≠ []) (h : ∀ p ∈ parts, 10 ∉ tl p) : rowsT (Txt.join (Str.ofString "\n") parts) = parts.map fun l => Txt.split l (Str.ofString " ") := by
  unfold rowsT
  rw [split_join (s := 10) (S := []) rfl (by decide +kernel) hne h]
/-- a text of lines one of which is no line of its place is refused -/
theorem bad_text {p : Str} {parts : List Str} (h : headOkL (lineL p) = false ∨ ∃ l ∈ parts, rowOkL (lineL l) = false) : textOk (Txt.split p (Str.ofString " ")) (parts.map fun l => Txt.split l (Str.ofString " ")) = false := by
  unfold textOk
  rcases h with h | ⟨l, hl, h⟩
  · rw [headOk_L, split_L, h, Bool.false_and]
  · rw [show (parts.map fun l => Txt.split l (Str.ofString " ")).all rowOk = false from List.all_eq_false.mpr ⟨_, List.mem_map.mpr ⟨l, hl, rfl⟩, by rw [rowOk_L, split_L, h]; exact Bool.false_ne_true⟩, Bool.and_false]
theorem joinL_snoc (S p : List Nat) : ∀ l : List (List Nat), l ≠ [] → joinL S (l ++ [p]) = joinL S l ++ (S ++ p)
  | [], h => absurd rfl h
  | [a], _ => rfl
  | a :: b :: r, _ => by
    show a ++ (S ++ joinL S ((b :: r) ++ [p])) = a ++ (S ++ joinL S (b :: r)) ++ (S ++ p)
    rw [joinL_snoc S p (b :: r) (by simp), List.append_assoc, List.append_assoc]
theorem joinL_cons (S p : List Nat) : ∀ l : List (List Nat), l ≠ [] → joinL S (p :: l) = p ++ (S ++ joinL S l)
  | [], h => absurd rfl h
  | _ :: _, _ => rfl
/-- a line of words, with a blank at its end, ahead, and its blanks doubled behind the first word -/
theorem line_end {ws : List Str} (hne : ws ≠ []) (h : ∀ p ∈ ws, 32 ∉ tl p) : lineL (Txt.join (Str.ofString " ") ws ++ Str.ofString " ") = ws.map tl ++ [[]] := by
  unfold lineL
  rw [tl_append, join_eq, tl_join]
  have e : joinL (tl (Str.ofString " ")) (ws.map tl) ++ tl (Str.ofString " ") = joinL [32] (ws.map tl ++ [[]]) := by
    rw [joinL_snoc [32] [] _ (by simpa using hne), List.append_nil]
    rfl
  rw [e]
  refine spl_join (by simp) fun p hp => ?_
  rcases List.mem_append.mp hp with z | z
  · obtain ⟨w, hw, rfl⟩ := List.mem_map.mp z
    exact h w hw
  · rw [List.mem_singleton.mp z]; intro c; cases c
theorem line_ahead {ws : List Str} (hne : ws ≠ []) (h : ∀ p ∈ ws, 32 ∉ tl p) : lineL (Str.ofString " " ++ Txt.join (Str.ofString " ") ws) = [] :: ws.map tl := by
  unfold lineL
  rw [tl_append, join_eq, tl_join]
  have e : tl (Str.ofString " ") ++ joinL (tl (Str.ofString " ")) (ws.map tl) = joinL [32] ([] :: ws.map tl) := by
    rw [joinL_cons [32] [] _ (by simpa using hne), List.nil_append]
    rfl
  rw [e]
  refine spl_join (by simp) fun p hp => ?_
  rcases List.mem_cons.mp hp with rfl | z
  · intro c; cases c
  · obtain ⟨w, hw, rfl⟩ := List.mem_map.mp z
    exact h w hw
theorem head_len_bad {l : List (List Nat)} (h : l.length ≠ 2) : headOkL l = false := by
  unfold headOkL
  rw [decide_eq_false h, Bool.false_and]
theorem row_len_bad {l : List (List Nat)} (h : l.length ≠ 4) : rowOkL l = false := by
  unfold rowOkL
  rw [decide_eq_false h, Bool.false_and]
theorem empty_bad : headOkL (lineL (Str.ofString "")) = false ∧ rowOkL (lineL (Str.ofString "")) = false := by decide +kernel
/-- the law's worse lines, but for the one of thirty figures -/
def worseS : List Str := ["0 1 1", "0 1 1 1 1", "00 1 1 1", "0 01 1 1", "0 1 +1 1", "0 1 1 -1", "0 1 1.0 1", "0 1 1 1000000", "a", "0 1 1 x", "0,1,1,1", "0 1 1 1_0", "", "0 1  1", "PLACES 1 1", "Places 2", "0 1 1 .", "PLACES 01", "PLACES -1", "PLACES +2", "PLACES 1000000", "PLACES 2 ", "places 2", "PLACES2",
  "0 1 1 999999999999999999999999999999"]
theorem worse_bad : worseS.all (fun l => !headOkL (lineL l) && !rowOkL (lineL l)) = true := by decide +kernel
theorem worse_free : worseS.all (fun l => !decide (10 ∈ tl l)) = true := by decide +kernel
end HK

set_option Elab.async false
set_option linter.all false
set_option maxRecDepth 100000
set_option maxHeartbeats 2000000
namespace HK
open PySem PySem.Spec PyProof.Rows L2 GAl GxR
open TL (tl numL len_tl ext_tl split_join split_spl spl kind_ok joinL tl_join join_eq tl_append spl_join spl_pass spl_nil pre tl_mk)
/-! texts that write no net, line by line -/
theorem spl_le (S : List Nat) : ∀ (l : List Nat) (k : Nat) (acc : List Nat), ∀ p ∈ spl S k acc l, p.length ≤ acc.length + l.length
  | [], k, acc, p, hp => by
    rw [spl_nil] at hp
    rw [List.mem_singleton.mp hp]
    exact Nat.le_add_right _ _
  | c :: r, 0, acc, p, hp => by
    by_cases h : pre S (c :: r) = true
    · rw [TL.spl_hit h] at hp
      rcases List.mem_cons.mp hp with rfl | hp
      · exact Nat.le_add_right _ _
      · have := spl_le S r _ [] p hp
        simp only [List.length_nil, List.length_cons] at this ⊢
        omega
    · rw [TL.spl_miss (by simpa using h)] at hp
      have := spl_le S r 0 _ p hp
      simp only [List.length_append, List.length_cons, List.length_nil] at this ⊢
      omega
  | c :: r, k + 1, acc, p, hp => by
    have := spl_le S r k acc p hp
    simp only [List.length_cons]
    omega
theorem joinL_len (S : List Nat) (c : Nat) : ∀ l : List (List Nat), (∀ p ∈ l, p.length ≤ c) → (joinL S l).length ≤ (c + S.length) * l.length
  | [], _ => Nat.zero_le _
  | [p], h => by
    have := h p (List.mem_cons_self ..)
    show p.length ≤ (c + S.length) * 1
    omega
  | p :: q :: r, h => by
    have h1 := h p (List.mem_cons_self ..)
    have h2 := joinL_len S c (q :: r) fun x hx => h x (List.mem_cons_of_mem _ hx)
    show (p ++ (S ++ joinL S (q :: r))).length ≤ _
    rw [List.length_append, List.length_append, List.length_cons, Nat.mul_add]
    omega
theorem joinL_app (S : List Nat) (B : List (List Nat)) (hB : B ≠ []) : ∀ A : List (List Nat), A ≠ [] → joinL S (A ++ B) = joinL S A ++ (S ++ joinL S B)
  | [], h => absurd rfl h
  | [a], _ => by rw [List.singleton_append, joinL_cons S a B hB]; rfl
  | a :: b :: r, _ => by
    show a ++ (S ++ joinL S ((b :: r) ++ B)) = (a ++ (S ++ joinL S (b :: r))) ++ (S ++ joinL S B)
    rw [joinL_app S B hB (b :: r) (by simp), List.append_assoc, List.append_assoc]
theorem joinL_map (f : List Nat → List Nat) (S S' : List Nat) (hf : ∀ a b, f (a ++ b) = f a ++ f b) (hS : f S = S') (h0 : f [] = []) : ∀ A : List (List Nat), f (joinL S A) = joinL S' (A.map f)
  | [] => h0
  | [a] => rfl
  | a :: b :: r => by
    show f (a ++ (S ++ joinL S (b :: r))) = f a ++ (S' ++ joinL S' ((b :: r).map f))
    rw [hf, hf, hS, joinL_map f S S' hf hS h0 (b :: r)]
/-- what the law wants of a text that is to be refused -/
def BadT (z : Str) : Prop := ∃ (y : List Str) (r : List (List Str)), rowsT z = y :: r ∧ z.length + 2 ≤ sizeLine ∧ (∀ l ∈ Txt.split z (Str.ofString "\n"), l.length + 2 ≤ sizeLine) ∧ (∀ ys ∈ y :: r, ∀ v ∈ ys, v.length ≤ sizeLine) ∧ r.length ≤ 900 ∧ textOk y r = false
/-- a line's own bounds -/
def LineB (p : List Nat) : Prop := 10 ∉ p ∧ p.length ≤ 100
def badB (p : List Nat) : Prop := headOkL (spl [32] 0 [] p) = false ∧ rowOkL (spl [32] 0 [] p) = false
theorem split_len {p v : Str} (h : v ∈ Txt.split p (Str.ofString " ")) : v.length ≤ p.length := by
  have e := split_spl p (Str.ofString " ") (by decide) (kind_ok (by decide +kernel))
  have h2 : tl v ∈ spl (tl (Str.ofString " ")) 0 [] (tl p) := e ▸ List.mem_map.mpr ⟨v, h, rfl⟩
  have := spl_le _ _ _ _ _ h2
  rw [len_tl, len_tl]
  simpa using this
theorem badT_parts {p0 : Str} {rest : List Str} (h : ∀ p ∈ p0 :: rest, LineB (tl p)) (hn : rest.length ≤ 300) (hb : headOkL (lineL p0) = false ∨ ∃ l ∈ rest, rowOkL (lineL l) = false) : BadT (Txt.join (Str.ofString "\n") (p0 :: rest)) := by
  have hs : sizeLine = 16777216 := sizeLine_eq
  have hf : ∀ p ∈ p0 :: rest, 10 ∉ tl p := fun p hp => (h p hp).1
  refine ⟨Txt.split p0 (Str.ofString " "), rest.map fun l => Txt.split l (Str.ofString " "), ?_, ?_, ?_, ?_, ?_, bad_text hb⟩
  · rw [rowsT_join (by simp) hf]
    rfl
  · rw [len_tl, join_eq, tl_join]
    have h1 := joinL_len (tl (Str.ofString "\n")) 100 ((p0 :: rest).map tl) fun p hp => by
      obtain ⟨q, hq, rfl⟩ := List.mem_map.mp hp
      exact (h q hq).2
    have e : (tl (Str.ofString "\n")).length = 1 := rfl
    rw [e, List.length_map, List.length_cons] at h1
    omega
  · intro l hl
    rw [split_join (s := 10) (S := []) rfl (by decide +kernel) (by simp) hf] at hl
    have := (h l hl).2
    rw [← len_tl] at this
    omega
  · intro ys hys v hv
    have hp : ∃ p ∈ p0 :: rest, ys = Txt.split p (Str.ofString " ") := by
      rcases List.mem_cons.mp hys with rfl | hys
      · exact ⟨p0, List.mem_cons_self .., rfl⟩
      · obtain ⟨p, hp, rfl⟩ := List.mem_map.mp hys
        exact ⟨p, List.mem_cons_of_mem _ hp, rfl⟩
    obtain ⟨p, hp, rfl⟩ := hp
    have h1 := split_len hv
    have h2 := (h p hp).2
    rw [← len_tl] at h2
    omega
  · rw [List.length_map]; omega
def BadL (M : List (List Nat)) : Prop := M.length ≤ 300 ∧ (∀ p ∈ M, LineB p) ∧ ((∃ p ∈ M, badB p) ∨ (M ≠ [] ∧ ∃ p ∈ M.tail, rowOkL (spl [32] 0 [] p) = false))
theorem badT_L {z : Str} {M : List (List Nat)} (e : tl z = joinL [10] M) (h : BadL M) : BadT z := by
  obtain ⟨h1, h2, h3⟩ := h
  cases M with
  | nil =>
    rcases h3 with ⟨p, hp, _⟩ | ⟨h, _⟩
    · cases hp
    · exact absurd rfl h
  | cons a r =>
    have mk : ∀ l : List Nat, tl (⟨l.toArray⟩ : Str) = l := fun l => tl_mk l
    have ez : z = Txt.join (Str.ofString "\n") ((⟨a.toArray⟩ : Str) :: r.map fun l => (⟨l.toArray⟩ : Str)) := by
      refine ext_tl ?_
      rw [e, join_eq, tl_join, List.map_cons, List.map_map]
      show joinL [10] (a :: r) = joinL [10] (tl ⟨a.toArray⟩ :: r.map (tl ∘ fun l => (⟨l.toArray⟩ : Str)))
      have em : r.map (tl ∘ fun l => (⟨l.toArray⟩ : Str)) = r := by
        calc r.map (tl ∘ fun l => (⟨l.toArray⟩ : Str)) = r.map id := List.map_congr_left fun l _ => mk l
          _ = r := List.map_id r
      rw [mk, em]
    rw [ez]
    refine badT_parts (fun p hp => ?_) (by rw [List.length_map]; simp only [List.length_cons] at h1; omega) ?_
    · rcases List.mem_cons.mp hp with rfl | hp
      · rw [mk]; exact h2 a (List.mem_cons_self ..)
      · obtain ⟨l, hl, rfl⟩ := List.mem_map.mp hp
        rw [mk]; exact h2 l (List.mem_cons_of_mem _ hl)
    · have row : ∀ l ∈ r, rowOkL (spl [32] 0 [] l) = false → ∃ q ∈ r.map (fun l => (⟨l.toArray⟩ : Str)), rowOkL (lineL q) = false := fun l hl hb => ⟨_, List.mem_map.mpr ⟨l, hl, rfl⟩, by unfold lineL; rw [mk]; exact hb⟩
      rcases h3 with ⟨p, hp, hb1, hb2⟩ | ⟨_, p, hp, hb⟩
      · rcases List.mem_cons.mp hp with rfl | hp
        · refine .inl ?_
          unfold lineL
          rw [mk]; exact hb1
        · exact .inr (row p hp hb2)
      · exact .inr (row p hp hb)
/-- the lines of a net's text -/
structure Lns (L : List Str) : Prop where
  hd : ∃ (n : Int) (rest : List Str), Md n ∧ L = headS n :: rest
  ln : ∀ p ∈ L, 10 ∉ tl p ∧ p.length ≤ 27
  wd : ∀ p ∈ L, ∃ ws : List Str, p = Txt.join (Str.ofString " ") ws ∧ (∀ v ∈ ws, 32 ∉ tl v) ∧ (ws.length = 2 ∨ ws.length = 4)
  len : L.length ≤ 201
  asc : ∀ p ∈ L, ∀ c ∈ tl p, c < 128
theorem joinL_mem {x : Nat} {S : List Nat} : ∀ l : List (List Nat), x ∈ joinL S l → x ∈ S ∨ ∃ p ∈ l, x ∈ p
  | [], h => by cases h
  | [p], h => .inr ⟨p, List.mem_cons_self .., h⟩
  | p :: q :: r, h => by
    have h' : x ∈ p ++ (S ++ joinL S (q :: r)) := h
    rcases List.mem_append.mp h' with h | h
    · exact .inr ⟨p, List.mem_cons_self .., h⟩
    · rcases List.mem_append.mp h with h | h
      · exact .inl h
      · rcases joinL_mem (q :: r) h with h | ⟨p', hp, h⟩
        · exact .inl h
        · exact .inr ⟨p', List.mem_cons_of_mem _ hp, h⟩
theorem sOf_asc {i : Int} (h : Md i) : ∀ c ∈ tl (sOf i), c < 128 := fun c hc => by
  rw [sOf_tl h.1] at hc
  have := TL.numL_digits _ c hc
  omega
theorem lns_rows {m : Int} {nss : List (List Int)} (hm : Md m) (h : ∀ ns ∈ nss, ns.length = 4 ∧ ∀ i ∈ ns, Md i) (hl : nss.length ≤ 200) : Lns (headS m :: nss.map lineS) := by
  refine ⟨⟨m, _, hm, rfl⟩, fun p hp => ?_, fun p hp => ?_, by rw [List.length_cons, List.length_map]; omega, fun p hp => ?_⟩
  · rcases List.mem_cons.mp hp with rfl | hp
    · exact ⟨head_free hm, Nat.le_trans (headM_len hm) (by decide)⟩
    · obtain ⟨ns, hns, rfl⟩ := List.mem_map.mp hp
      exact ⟨line_free (h ns hns).2, line_len (h ns hns).2 (h ns hns).1⟩
  · rcases List.mem_cons.mp hp with rfl | hp
    · refine ⟨headL m, headS_join m, fun v hv => ?_, .inl rfl⟩
      simp only [headL, List.mem_cons, List.not_mem_nil, or_false] at hv
      rcases hv with rfl | rfl
      · decide
      · exact md_free hm (by decide)
    · obtain ⟨ns, hns, rfl⟩ := List.mem_map.mp hp
      refine ⟨ns.map sOf, rfl, fun v hv => ?_, .inr (by rw [List.length_map]; exact (h ns hns).1)⟩
      obtain ⟨i, hi, rfl⟩ := List.mem_map.mp hv
      exact md_free ((h ns hns).2 i hi) (by decide)
  · rcases List.mem_cons.mp hp with rfl | hp
    · intro c hc
      unfold headS at hc
      rw [tl_append] at hc
      rcases List.mem_append.mp hc with z | z
      · have : ∀ c ∈ tl (Str.ofString "PLACES "), c < 128 := by decide +kernel
        exact this c z
      · exact sOf_asc hm c z
    · obtain ⟨ns, hns, rfl⟩ := List.mem_map.mp hp
      intro c hc
      unfold lineS at hc
      rw [join_eq, tl_join] at hc
      rcases joinL_mem _ hc with z | ⟨p, hp, z⟩
      · have : ∀ c ∈ tl (Str.ofString " "), c < 128 := by decide +kernel
        exact this c z
      · obtain ⟨s, hs, rfl⟩ := List.mem_map.mp hp
        obtain ⟨i, hi, rfl⟩ := List.mem_map.mp hs
        exact sOf_asc ((h ns hns).2 i hi) c z
section
variable {L : List Str}
theorem Lns.ne (h : Lns L) : L ≠ [] := by
  obtain ⟨n, r, _, rfl⟩ := h.hd
  simp
theorem Lns.lb (h : Lns L) {p : Str} (hp : p ∈ L) : LineB (tl p) := ⟨(h.ln p hp).1, by have := (h.ln p hp).2; rw [len_tl] at this; omega⟩
theorem Lns.blank_end (h : Lns L) {p : Str} (hp : p ∈ L) : LineB (tl (p ++ Str.ofString " ")) ∧ badB (tl (p ++ Str.ofString " ")) := by
  obtain ⟨ws, e, hw, hl⟩ := h.wd p hp
  have hne : ws ≠ [] := fun z => by rw [z] at hl; rcases hl with c | c <;> cases c
  have e2 := line_end hne hw
  rw [← e] at e2
  have hlen : (ws.map tl ++ [[]]).length = ws.length + 1 := by rw [List.length_append, List.length_map]; rfl
  refine ⟨⟨?_, ?_⟩, ?_, ?_⟩
  · rw [tl_append]
    intro z
    rcases List.mem_append.mp z with z | z
    · exact (h.ln p hp).1 z
    · exact absurd z (by decide)
  · rw [tl_append, List.length_append, ← len_tl]
    have := (h.ln p hp).2
    have e3 : (tl (Str.ofString " ")).length = 1 := rfl
    omega
  · show headOkL (lineL (p ++ Str.ofString " ")) = false
    rw [e2]
    exact head_len_bad (by rw [hlen]; omega)
  · show rowOkL (lineL (p ++ Str.ofString " ")) = false
    rw [e2]
    exact row_len_bad (by rw [hlen]; omega)
theorem Lns.blank_ahead (h : Lns L) {p : Str} (hp : p ∈ L) : LineB (tl (Str.ofString " " ++ p)) ∧ badB (tl (Str.ofString " " ++ p)) := by
  obtain ⟨ws, e, hw, hl⟩ := h.wd p hp
  have hne : ws ≠ [] := fun z => by rw [z] at hl; rcases hl with c | c <;> cases c
  have e2 := line_ahead hne hw
  rw [← e] at e2
  have hlen : ([] :: ws.map tl).length = ws.length + 1 := by rw [List.length_cons, List.length_map]
  refine ⟨⟨?_, ?_⟩, ?_, ?_⟩
  · rw [tl_append]
    intro z
    rcases List.mem_append.mp z with z | z
    · exact absurd z (by decide)
    · exact (h.ln p hp).1 z
  · rw [tl_append, List.length_append, ← len_tl]
    have := (h.ln p hp).2
    have e3 : (tl (Str.ofString " ")).length = 1 := rfl
    rw [len_tl] at *
    omega
  · show headOkL (lineL (Str.ofString " " ++ p)) = false
    rw [e2]
    exact head_len_bad (by rw [hlen]; omega)
  · show rowOkL (lineL (Str.ofString " " ++ p)) = false
    rw [e2]
    exact row_len_bad (by rw [hlen]; omega)
def textL (L : List Str) : Str := Txt.join (Str.ofString "\n") L
theorem tl_text (L : List Str) : tl (textL L) = joinL [10] (L.map tl) := by
  unfold textL
  rw [join_eq, tl_join]
  rfl
theorem Lns.text_len (h : Lns L) : (textL L).length ≤ 6000 := by
  rw [len_tl, tl_text]
  have h1 := joinL_len [10] 27 (L.map tl) fun p hp => by
    obtain ⟨q, hq, rfl⟩ := List.mem_map.mp hp
    rw [← len_tl]
    exact (h.ln q hq).2
  have := h.len
  rw [List.length_map] at h1
  simp only [List.length_cons, List.length_nil] at h1
  omega
theorem Lns.mne (h : Lns L) : L.map tl ≠ [] := by simpa using h.ne
theorem Lns.lbL (h : Lns L) {p : List Nat} (hp : p ∈ L.map tl) : LineB p := by
  obtain ⟨q, hq, rfl⟩ := List.mem_map.mp hp
  exact h.lb hq
theorem nil_bad : LineB [] ∧ badB [] := by
  refine ⟨⟨by decide, by decide⟩, ?_⟩
  exact ⟨empty_bad.1, empty_bad.2⟩
theorem tl_lf : tl (Str.ofString "\n") = [10] := rfl
-- one more line ahead
theorem Lns.t_ahead (h : Lns L) : BadT (Str.ofString "\n" ++ textL L) := by
  refine badT_L (M := [] :: L.map tl) ?_ ⟨?_, fun p hp => ?_, .inl ⟨[], List.mem_cons_self .., nil_bad.2⟩⟩
  · rw [tl_append, tl_text, joinL_cons [10] [] _ h.mne]
    rfl
  · have := h.len
    simp only [List.length_cons, List.length_map]
    omega
  · rcases List.mem_cons.mp hp with rfl | hp
    · exact nil_bad.1
    · exact h.lbL hp
/-- lines behind -/
theorem Lns.t_behind (h : Lns L) {s : Str} (M : List (List Nat)) (hM : M ≠ []) (es : tl s = [10] ++ joinL [10] M) (hl : M.length ≤ 10) (hb : ∀ p ∈ M, LineB p) (hx : ∃ p ∈ M, rowOkL (spl [32] 0 [] p) = false) : BadT (textL L ++ s) := by
  refine badT_L (M := L.map tl ++ M) ?_ ⟨?_, fun p hp => ?_, .inr ⟨?_, ?_⟩⟩
  · rw [tl_append, tl_text, joinL_app [10] M hM _ h.mne, es]
  · have := h.len
    simp only [List.length_append, List.length_map]
    omega
  · rcases List.mem_append.mp hp with hp | hp
    · exact h.lbL hp
    · exact hb p hp
  · simp [hM]
  · obtain ⟨p, hp, e⟩ := hx
    refine ⟨p, ?_, e⟩
    obtain ⟨n, r, _, rfl⟩ := h.hd
    show p ∈ r.map tl ++ M
    exact List.mem_append.mpr (.inr hp)
theorem lineB_of {l : List Nat} (h : (!decide (10 ∈ l) && decide (l.length ≤ 100)) = true) : LineB l := by
  rw [Bool.and_eq_true] at h
  exact ⟨by simpa using h.1, of_decide_eq_true h.2⟩
theorem Lns.t_lf (h : Lns L) : BadT (textL L ++ Str.ofString "\n") :=
  h.t_behind [[]] (by simp) rfl (by decide) (fun p hp => by rw [List.mem_singleton.mp hp]; exact nil_bad.1) ⟨[], by simp, nil_bad.2.2⟩
theorem Lns.t_lf2 (h : Lns L) : BadT (textL L ++ Str.ofString "\n\n0 1 1 1") :=
  h.t_behind [[], tl (Str.ofString "0 1 1 1")] (by simp) rfl (by decide) (fun p hp => by
    simp only [List.mem_cons, List.not_mem_nil, or_false] at hp
    rcases hp with rfl | rfl
    · exact nil_bad.1
    · exact lineB_of (by decide +kernel)) ⟨[], by simp, nil_bad.2.2⟩
theorem Lns.t_two (h : Lns L) : BadT (textL L ++ Str.ofString "\nPLACES 2") :=
  h.t_behind [tl (Str.ofString "PLACES 2")] (by simp) rfl (by decide) (fun p hp => by
    rw [List.mem_singleton.mp hp]
    exact lineB_of (by decide +kernel)) ⟨_, List.mem_singleton.mpr rfl, by decide +kernel⟩
/-- a line put otherwise -/
theorem Lns.t_at (h : Lns L) {i : Nat} (hi : i < L.length) {one : Str} (ho : LineB (tl one)) (hb : badB (tl one)) : BadT (Txt.join (Str.ofString "\n") ((L.take i ++ [one]) ++ L.drop (i + 1))) := by
  refine badT_L (M := ((L.take i ++ [one]) ++ L.drop (i + 1)).map tl) (by rw [join_eq, tl_join]; rfl) ⟨?_, fun p hp => ?_, .inl ⟨tl one, List.mem_map.mpr ⟨one, by simp, rfl⟩, hb⟩⟩
  · have := h.len
    simp only [List.length_append, List.length_map, List.length_cons, List.length_nil, List.length_take, List.length_drop]
    omega
  · obtain ⟨q, hq, rfl⟩ := List.mem_map.mp hp
    rcases List.mem_append.mp hq with hq | hq
    · rcases List.mem_append.mp hq with hq | hq
      · exact h.lb (List.mem_of_mem_take hq)
      · rw [List.mem_singleton.mp hq]; exact ho
    · exact h.lb (List.mem_of_mem_drop hq)
theorem Lns.t_end (h : Lns L) : BadT (textL L ++ Str.ofString " ") := by
  have hne := h.ne
  have e : L = L.dropLast ++ [L.getLast hne] := (List.dropLast_concat_getLast hne).symm
  have hm : L.getLast hne ∈ L := List.getLast_mem hne
  obtain ⟨b1, b2⟩ := h.blank_end hm
  refine badT_L (M := L.dropLast.map tl ++ [tl (L.getLast hne ++ Str.ofString " ")]) ?_ ⟨?_, fun p hp => ?_, .inl ⟨_, List.mem_append.mpr (.inr (List.mem_singleton.mpr rfl)), b2⟩⟩
  · have key : ∀ (A : List (List Nat)) (b s : List Nat), joinL [10] (A ++ [b]) ++ s = joinL [10] (A ++ [b ++ s]) := by
      intro A b s
      cases A with
      | nil => rfl
      | cons a r =>
        rw [joinL_snoc [10] b (a :: r) (by simp), joinL_snoc [10] (b ++ s) (a :: r) (by simp)]
        simp [List.append_assoc]
    rw [tl_append, tl_text, tl_append, ← key]
    congr 1
    conv => lhs; rw [e]
    rw [List.map_append]
    rfl
  · have := h.len
    simp only [List.length_append, List.length_map, List.length_cons, List.length_nil, List.length_dropLast]
    omega
  · rcases List.mem_append.mp hp with hp | hp
    · obtain ⟨q, hq, rfl⟩ := List.mem_map.mp hp
      exact h.lb ((List.dropLast_sublist L).subset hq)
    · rw [List.mem_singleton.mp hp]; exact b1
theorem Lns.t_blank (h : Lns L) : BadT (Str.ofString " " ++ textL L) := by
  obtain ⟨n, r, hn, e⟩ := h.hd
  have hm : headS n ∈ L := by rw [e]; exact List.mem_cons_self ..
  obtain ⟨b1, b2⟩ := h.blank_ahead hm
  refine badT_L (M := tl (Str.ofString " " ++ headS n) :: r.map tl) ?_ ⟨?_, fun p hp => ?_, .inl ⟨_, List.mem_cons_self .., b2⟩⟩
  · rw [tl_append, tl_text, tl_append, e, List.map_cons]
    cases r with
    | nil => rfl
    | cons a r =>
      rw [List.map_cons]
      show _ ++ (tl (headS n) ++ _) = (_ ++ tl (headS n)) ++ _
      rw [List.append_assoc]
  · have := h.len
    rw [e] at this
    simp only [List.length_cons, List.length_map] at this ⊢
    omega
  · rcases List.mem_cons.mp hp with rfl | hp
    · exact b1
    · obtain ⟨q, hq, rfl⟩ := List.mem_map.mp hp
      exact h.lb (by rw [e]; exact List.mem_cons_of_mem _ hq)
theorem dbl_len (c : Nat) : ∀ l : List Nat, (StrLaws.dbl c l).length ≤ 2 * l.length
  | [] => Nat.zero_le _
  | k :: r => by
    have := dbl_len c r
    unfold StrLaws.dbl
    split <;> simp only [List.length_cons] <;> omega
theorem dbl_mem (c : Nat) {x : Nat} : ∀ l : List Nat, x ∈ StrLaws.dbl c l → x ∈ l
  | [], h => h
  | k :: r, h => by
    unfold StrLaws.dbl at h
    split at h
    · rcases List.mem_cons.mp h with rfl | h
      · exact List.mem_cons_self ..
      · rcases List.mem_cons.mp h with rfl | h
        · exact List.mem_cons_self ..
        · exact List.mem_cons_of_mem _ (dbl_mem c r h)
    · rcases List.mem_cons.mp h with rfl | h
      · exact List.mem_cons_self ..
      · exact List.mem_cons_of_mem _ (dbl_mem c r h)
theorem spl_head (w v : List Nat) (h1 : 32 ∉ w) (h2 : 32 ∉ v) : spl [32] 0 [] (w ++ ([32, 32] ++ v)) = [w, [], v] := by
  have := spl_join (s := 32) (S := []) (parts := [w, [], v]) (by simp) fun p hp => by
    simp only [List.mem_cons, List.not_mem_nil, or_false] at hp
    rcases hp with rfl | rfl | rfl
    · exact h1
    · intro c; cases c
    · exact h2
  rw [← this]
  rfl
theorem Lns.t_dbl (h : Lns L) : BadT (Txt.replace (textL L) (Str.ofString " ") (Str.ofString "  ")) := by
  obtain ⟨n, r, hn, e⟩ := h.hd
  have et : tl (Txt.replace (textL L) (Str.ofString " ") (Str.ofString "  ")) = StrLaws.dbl 32 (tl (textL L)) := StrLaws.replace_double (textL L) 32
  have hh : StrLaws.dbl 32 (tl (headS n)) = tl (Str.ofString "PLACES") ++ ([32, 32] ++ tl (sOf n)) := by
    unfold headS
    rw [tl_append, StrLaws.dbl_append, StrLaws.dbl_free 32 (tl (sOf n)) (md_free hn (by decide))]
    rfl
  refine badT_L (M := (L.map tl).map (StrLaws.dbl 32)) ?_ ⟨?_, fun p hp => ?_, .inl ⟨StrLaws.dbl 32 (tl (headS n)), ?_, ?_⟩⟩
  · rw [et, tl_text]
    exact joinL_map (StrLaws.dbl 32) [10] [10] (StrLaws.dbl_append 32) rfl rfl _
  · have := h.len
    simp only [List.length_map]
    omega
  · obtain ⟨q, hq, rfl⟩ := List.mem_map.mp hp
    obtain ⟨s, hs, rfl⟩ := List.mem_map.mp hq
    refine ⟨fun z => (h.ln s hs).1 (dbl_mem 32 _ z), ?_⟩
    have h1 := dbl_len 32 (tl s)
    have h2 := (h.ln s hs).2
    rw [len_tl] at h2
    omega
  · exact List.mem_map.mpr ⟨tl (headS n), List.mem_map.mpr ⟨headS n, by rw [e]; exact List.mem_cons_self .., rfl⟩, rfl⟩
  · unfold badB
    rw [hh, spl_head _ _ (by decide) (md_free hn (by decide))]
    exact ⟨head_len_bad (by simp), row_len_bad (by simp)⟩
theorem mem_lo {c : Nat} {l : List Nat} (h : 10 ∉ l) : 10 ∉ l.map lo1 := fun z => by
  obtain ⟨k, hk, e⟩ := List.mem_map.mp z
  unfold lo1 at e
  split at e
  · omega
  · rw [e] at hk; exact h hk
theorem lo_free {l : List Nat} (h : ∀ c ∈ l, 48 ≤ c ∧ c ≤ 57) : l.map lo1 = l := by
  calc l.map lo1 = l.map id := List.map_congr_left fun c hc => by
        unfold lo1
        have := h c hc
        rw [if_neg (by omega)]; rfl
    _ = l := List.map_id l
theorem Lns.ascT (h : Lns L) : ∀ c ∈ tl (textL L), c < 128 := fun c hc => by
  rw [tl_text] at hc
  rcases joinL_mem _ hc with z | ⟨p, hp, z⟩
  · rw [List.mem_singleton.mp z]; decide
  · obtain ⟨s, hs, rfl⟩ := List.mem_map.mp hp
    exact h.asc s hs c z
theorem Lns.t_low (h : Lns L) : BadT (Txt.lower (textL L)) := by
  obtain ⟨n, r, hn, e⟩ := h.hd
  have et : tl (Txt.lower (textL L)) = (tl (textL L)).map lo1 := by
    rw [lower_ascii h.ascT]
    show (Array.map lo1 (textL L).cps).toList = _
    rw [Array.toList_map]
  have hh : (tl (headS n)).map lo1 = joinL [32] [tl (Str.ofString "places"), tl (sOf n)] := by
    unfold headS
    rw [tl_append, List.map_append, lo_free (l := tl (sOf n)) fun c hc => by rw [sOf_tl hn.1] at hc; exact TL.numL_digits _ c hc]
    rfl
  refine badT_L (M := (L.map tl).map (·.map lo1)) ?_ ⟨?_, fun p hp => ?_, .inl ⟨(tl (headS n)).map lo1, ?_, ?_⟩⟩
  · rw [et, tl_text]
    exact joinL_map (·.map lo1) [10] [10] (fun a b => List.map_append) rfl rfl _
  · have := h.len
    simp only [List.length_map]
    omega
  · obtain ⟨q, hq, rfl⟩ := List.mem_map.mp hp
    obtain ⟨s, hs, rfl⟩ := List.mem_map.mp hq
    refine ⟨mem_lo (c := 0) (h.ln s hs).1, ?_⟩
    have h2 := (h.ln s hs).2
    rw [len_tl] at h2
    rw [List.length_map]
    omega
  · exact List.mem_map.mpr ⟨tl (headS n), List.mem_map.mpr ⟨headS n, by rw [e]; exact List.mem_cons_self .., rfl⟩, rfl⟩
  · unfold badB
    rw [hh, spl_join (by simp) fun p hp => by
      simp only [List.mem_cons, List.not_mem_nil, or_false] at hp
      rcases hp with rfl | rfl
      · decide
      · exact md_free hn (by decide)]
    refine ⟨?_, row_len_bad (by simp)⟩
    unfold headOkL
    rw [show decide (([tl (Str.ofString "places"), tl (sOf n)] : List (List Nat))[0]? = some (tl (Str.ofString "PLACES"))) = false from decide_eq_false fun z => absurd (Option.some.inj z) (by decide), Bool.false_and, Bool.and_false]
/-- the lines turned about, and a line feed at the end -/
theorem Lns.t_turn (h : Lns L) : BadT (Txt.join (Str.ofString "\n") (L.drop 1 ++ L.take 1) ++ Str.ofString "\n") := by
  have hne : (L.drop 1 ++ L.take 1).map tl ≠ [] := by
    obtain ⟨n, r, _, rfl⟩ := h.hd
    simp
  refine badT_L (M := (L.drop 1 ++ L.take 1).map tl ++ [[]]) ?_ ⟨?_, fun p hp => ?_, .inl ⟨[], List.mem_append.mpr (.inr (List.mem_singleton.mpr rfl)), nil_bad.2⟩⟩
  · rw [tl_append, join_eq, tl_join, joinL_app [10] [[]] (by simp) _ hne]
    rfl
  · have := h.len
    simp only [List.length_append, List.length_map, List.length_cons, List.length_nil, List.length_drop, List.length_take]
    omega
  · rcases List.mem_append.mp hp with hp | hp
    · obtain ⟨q, hq, rfl⟩ := List.mem_map.mp hp
      rcases List.mem_append.mp hq with hq | hq
      · exact h.lb (List.mem_of_mem_drop hq)
      · exact h.lb (List.mem_of_mem_take hq)
    · rw [List.mem_singleton.mp hp]; exact nil_bad.1
end
/-- texts of one line -/
theorem badT_one {z : Str} (h : (!headOkL (lineL z) && (!decide (10 ∈ tl z) && decide ((tl z).length ≤ 100))) = true) : BadT z := by
  simp only [Bool.and_eq_true] at h
  have e : z = Txt.join (Str.ofString "\n") [z] := by
    refine ext_tl ?_
    rw [join_eq, tl_join]; rfl
  rw [e]
  refine badT_parts (rest := []) (fun p hp => ?_) (by decide) (.inl (by simpa using h.1))
  rw [List.mem_singleton.mp hp]
  exact lineB_of (by rw [Bool.and_eq_true]; exact h.2)
theorem worse_at {z : Str} (h : z ∈ worseS) : LineB (tl z) ∧ badB (tl z) := by
  have h1 := List.all_eq_true.mp worse_bad z h
  have h2 := List.all_eq_true.mp worse_free z h
  have h3 : worseS.all (fun l => decide ((tl l).length ≤ 100)) = true := by decide +kernel
  have h4 := List.all_eq_true.mp h3 z h
  rw [Bool.and_eq_true] at h1
  refine ⟨⟨by simpa using h2, of_decide_eq_true h4⟩, ?_, ?_⟩
  · have := h1.1
    simpa [lineL] using this
  · have := h1.2
    simpa [lineL] using this
theorem nines : Txt.mul (Str.ofString "9") 30 = Str.ofString "999999999999999999999999999999" := by decide +kernel
end HK

set_option Elab.async false
set_option linter.all false
set_option maxRecDepth 100000
set_option maxHeartbeats 2000000
namespace HkX
open PySem PySem.Spec PyProof.Rows L2
section
variable {X : Cx}
/-- a text times a number -/
def rMulS : V → V → Hp → VK → Prop := fun x y H Q => ∃ (a : Str) (n : Int), x = .str a ∧ y = .int n ∧ MulOk a n ∧ Q (.str (Txt.mul a n)) H
theorem op_mulS : OpR X (binaryOp .Mult) rMulS := by
  intro pins s σ H x y v u Q I rx ry h
  obtain ⟨a, n, rfl, rfl, ok, q⟩ := h
  obtain ⟨t, rfl⟩ := rx
  obtain ⟨t', rfl⟩ := ry
  exact SB.mul ok fun t2 k => ⟨.str (Txt.mul a n), H, I.tok _, ⟨_, rfl⟩, q⟩
/-- items behind a first one that begins with a written text: a token is out -/
theorem pa_firstS {op : Operator} {r : R2} {c : Str} {j : Nat} {cpos bpos : Pos} {f : Expr} {es : List Expr} {tf : TE} {ta : TA} (ho : OpR X (binaryOp op) r) (hf : PE X f tf) (hr : PAT X es ta)
    (hs : starEach (.BinOp (.Constant (.str c) j cpos) op f bpos :: es) X.env = (false, eval (.BinOp (.Constant (.str c) j cpos) op f bpos) X.env) :: starEach es X.env := by rfl) :
    PA X (.BinOp (.Constant (.str c) j cpos) op f bpos :: es) (tCons (tOp r (tC (.str c)) tf) ta) := by
  refine ⟨fun pos pins s σ H Q I h => ?_⟩
  rw [hs]
  show wpAny _ _ (spliced ((false, eval (.BinOp (.Constant (.str c) j cpos) op f bpos) X.env) :: backTo pos (starEach es X.env))) _ _ s
  refine Calls.spliced_cons (wpAny_BinOp (Calls.Constant_str ?_))
  refine wpAny_mono (PySem.wpAny_toks (hf.run pins { s with toks := s.toks + 1 } σ H _ (I.tok _) h)) (fun u s2 q => ?_) fun _ _ z => z.2
  obtain ⟨hk, y, H2, I2, r2, q2⟩ := q
  have hk' : s.toks + 1 ≤ s2.toks := hk
  refine wpAny_mono (PySem.wpAny_toks (ho pins s2 σ H2 (.str c) y (.str c s.toks) u _ I2 ⟨_, rfl⟩ r2 q2)) (fun v s3 q => ?_) fun _ _ z => z.2
  obtain ⟨hk3, x, H3, I3, r3, q3⟩ := q
  exact thn (hr pos pins s3 σ H3 _ (by omega) I3 q3) fun us s4 ⟨xs, H4, I4, r4, q4⟩ => ⟨x :: xs, H4, I4, .cons r3 r4, q4⟩
end
end HkX

set_option Elab.async false
set_option linter.all false
set_option maxRecDepth 100000
set_option maxHeartbeats 4000000
namespace HK
open PySem PySem.Spec PyProof.Rows L2 GAl GxR
open Evl (pss_cut)
open TL (tl split_join)
abbrev sENoT : Stmt := topS 38
abbrev N_scENoT : List Str := ["tray", "text", "lines", "at", "line", "found", "worse", "turn", "one"]
theorem scENoT : FnScope N_scENoT ["tray", "text"] (defScope sENoT) := ⟨rfl, rfl, rfl, by decide +kernel, rfl, by decide +kernel, by decide +kernel⟩
theorem cut_takeV (xs : List V) (j : Nat) : cutV xs none (some (j : Int)) = xs.take j := by
  unfold cutV
  rw [HT.sIx_none, HT.sIx_nat, List.drop_zero, Nat.sub_zero]
  by_cases h : j ≤ xs.length
  · rw [Nat.min_eq_left h]
  · rw [Nat.min_eq_right (by omega), List.take_of_length_le (Nat.le_refl _), List.take_of_length_le (by omega)]
theorem cut_dropV (xs : List V) (j : Nat) : cutV xs (some (j : Int)) none = xs.drop j := by
  unfold cutV
  rw [HT.sIx_none, HT.sIx_nat]
  by_cases h : j ≤ xs.length
  · rw [Nat.min_eq_left h, List.take_of_length_le (by rw [List.length_drop]; exact Nat.le_refl _)]
  · rw [Nat.min_eq_right (by omega), Nat.sub_self, List.take_zero, List.drop_of_length_le (by omega)]
/-- what stands while the texts are made -/
structure NT (K : PySem.W.Frag) (H0 H' : Hp) (t sc lp : Addr) (ns : List Int) (c : Int) (L : List Str) : Prop where
  kt : Kt t H0 H'
  tr : Tray K H' t sc ns c
  lp : H' lp = some (.lst (L.map V.str))
theorem NT.k0 {K : PySem.W.Frag} {H0 H' H2 : Hp} {t sc lp : Addr} {ns : List Int} {c : Int} {L : List Str} (h : NT K H0 H' t sc lp ns c L) (k : K0 H' H2) : NT K H0 H2 t sc lp ns c L := ⟨h.kt.trans k.kt, h.tr.k0 k, k.oth lp _ h.lp (fun _ z => by cases z)⟩
def LB (H0 H' : Hp) (lp p : Addr) (Pz : Str → Prop) (hi : Nat) : Prop := ∃ zs : List Str, H' p = some (.lst (zs.map V.str)) ∧ (∀ z ∈ zs, Pz z) ∧ 1 ≤ zs.length ∧ zs.length ≤ hi ∧ (H0 p = none ∧ p ≠ lp)
theorem LB.k0 {H0 H' H2 : Hp} {lp p : Addr} {Pz : Str → Prop} {hi : Nat} (h : LB H0 H' lp p Pz hi) (k : K0 H' H2) : LB H0 H2 lp p Pz hi := by
  obtain ⟨zs, h1, h2⟩ := h
  exact ⟨zs, k.oth p _ h1 (fun _ z => by cases z), h2⟩
theorem LB.kt {H0 H' H2 : Hp} {lp p t : Addr} {Pz : Str → Prop} {hi : Nat} (h : LB H0 H' lp p Pz hi) (k : Kt t H' H2) (n : p ≠ t) : LB H0 H2 lp p Pz hi := by
  obtain ⟨zs, h1, h2⟩ := h
  exact ⟨zs, k.oth p _ h1 n (fun _ z => by cases z), h2⟩
theorem LB.sm {H0 H' : Hp} {lp p : Addr} {Pz : Str → Prop} {hi : Nat} (h : LB H0 H' lp p Pz hi) : ∃ o, H' p = some o := by
  obtain ⟨zs, h1, h2⟩ := h
  exact ⟨_, h1⟩
theorem few_str {zs : List Str} (h : zs.length ≤ 1000) : (zs.map V.str).length ≤ sizeLine := by
  rw [List.length_map, sizeLine_eq]
  omega
theorem ne_sm {H : Hp} {a b : Addr} (h : H a = none) (g : ∃ o, H b = some o) : a ≠ b := fun z => by
  obtain ⟨o, e⟩ := g
  rw [z, e] at h
  cases h
theorem LB.new {H0 H' : Hp} {t lp p : Addr} {Pz : Str → Prop} {ys : List Str} (k : Kt t H0 H') (hlp : ∃ o, H' lp = some o) (np : H' p = none) (hy : ∀ z ∈ ys, Pz z) (h1 : 1 ≤ ys.length) : LB H0 (upd H' p (.lst (ys.map V.str))) lp p Pz ys.length := ⟨ys, upd_same, hy, h1, Nat.le_refl _, k.dom p np, ne_sm np hlp⟩
/-- one list behind another -/
theorem LB.cat {H0 H' : Hp} {t lp p q : Addr} {Pz : Str → Prop} {hi : Nat} {xs ys : List Str} (k : Kt t H0 H') (hlp : ∃ o, H' lp = some o) (nq : H' q = none) (hx : ∀ z ∈ xs, Pz z) (h1 : 1 ≤ xs.length) (hl : xs.length ≤ hi) (np : upd H' q (.lst (ys.map V.str)) p = none) (hy : ∀ z ∈ ys, Pz z) :
    LB H0 (upd (upd H' q (.lst (ys.map V.str))) p (.lst (xs.map V.str ++ ys.map V.str))) lp p Pz (hi + ys.length) :=
  ⟨xs ++ ys, by rw [upd_same, List.map_append], fun z hz => by
    rcases List.mem_append.mp hz with h | h
    · exact hx z h
    · exact hy z h, by rw [List.length_append]; omega, by rw [List.length_append]; omega, k.dom p (upd_none np), ne_sm (upd_none np) hlp⟩
theorem all2 {Pz : Str → Prop} {z : Str} {zs : List Str} (h : Pz z) (hs : ∀ y ∈ zs, Pz y) : ∀ y ∈ z :: zs, Pz y := fun y hy => by
  rcases List.mem_cons.mp hy with rfl | hy
  · exact h
  · exact hs y hy
theorem all0 {Pz : Str → Prop} : ∀ y ∈ ([] : List Str), Pz y := fun y hy => by cases hy
theorem len_app (a b : Str) : (a ++ b).length = a.length + b.length := by rw [TL.len_tl, TL.tl_append, List.length_append, ← TL.len_tl, ← TL.len_tl]
theorem cutS_take (L : List Str) (j : Nat) : cutV (L.map V.str) none (some (j : Int)) = (L.take j).map V.str := by rw [cut_takeV, List.map_take]
theorem cutS_drop (L : List Str) (j : Nat) : cutV (L.map V.str) (some (j : Int)) none = (L.drop j).map V.str := by rw [cut_dropV, List.map_drop]
theorem joinOk {ys : List Str} (h : ∀ y ∈ ys, y.length ≤ 100) (hl : ys.length ≤ 300) : (ys.map (·.length)).sum + ys.length * (Str.ofString "\n").length ≤ 16777216 := by
  have h1 := sum_le h
  rw [lf_len]
  omega
theorem BadT.len {z : Str} (h : BadT z) : z.length + 2 ≤ sizeLine := by
  obtain ⟨_, _, _, h, _⟩ := h
  exact h
theorem Lns.l100 {L : List Str} (h : Lns L) {p : Str} (hp : p ∈ L) : p.length ≤ 100 := by
  have := (h.ln p hp).2
  omega
theorem worse_mem {z : Str} (h : worseS.contains z = true) : z ∈ worseS := by simpa using h
theorem worse_nines : Str.ofString "0 1 1 " ++ Txt.mul (Str.ofString "9") 30 ∈ worseS := by
  rw [nines]
  exact worse_mem (by decide +kernel)
section
variable {P : Program} {w : World} {K : PySem.W.Frag} {mg : Str → Option Value} {base : Heap}
def spNoTexts (K : PySem.W.Frag) : Sp := fun vs H Q _ => ∃ (t sc : Addr) (ns : List Int) (b : Int) (L : List Str), vs = [.ref t, .str (textL L)] ∧ Tray K H t sc ns b ∧ b ≤ 900000 ∧ Lns L ∧ ∀ (p : Addr) (zs : List Str) (H' : Hp), Kt t H H' → Tray K H' t sc ns (b + 9) → H' p = some (.lst (zs.map V.str)) → (∀ z ∈ zs, BadT z) → zs.length ≤ 100 → Q (.ref p) H'
theorem ok_notexts {f : Addr} {fd : FuncData} {f_draw : Addr} {fd_draw : FuncData} (F : Fun K "_law_e_no_texts" "_law_e_no_texts" sENoT f fd) (k_draw : PySem.W.keepIn K (.ref f_draw) = true) (b_draw : Binds K fd_draw ["tray", "many"] []) (g_draw : mg "_law_e_draw" = some (.ref f_draw)) (G_draw : FnOk P w K mg base CX0 2 f_draw fd_draw ["tray", "many"] (spDraw K)) (m_len : mg "len" = none) (m_range : mg "range" = none) : FnOk P w K mg base CX0 3 f fd ["tray", "text"] (spNoTexts K) := by
  refine F.ok scENoT (fun vs H Q E h => ?_) (fun cdv A outer s H vs Q E hr h => ?_)
  · obtain ⟨t, sc, ns, b, L, rfl, _⟩ := h
    rfl
  · obtain ⟨t, sc, ns, b, L, rfl, hT, hb, hL, q⟩ := h
    have hu := hu_of hr
    refine ⟨_, (pss_cut (ps_set (i := 2) scENoT.nd rfl (.inl rfl) (pe_split (pv 1) pe_str))
      (pss_cut (ps_set (i := 3) scENoT.nd rfl (.inl rfl) (pe_call G_draw (hr.mono (by decide)) (by rfl) g_draw k_draw b_draw .nil pass0 (pa_cons (pv 0) (pa_cons (pe_callB call_len_seq (by rfl) m_len PySem.boot_len (pa_cons (pv 2) pa_nil)) pa_nil))))
      (pss_cut (ps_set (i := 4) scENoT.nd rfl (.inl rfl) (pe_ix ix_list (pv 2) (pv 3) (fun _ _ => rfl)))
      (pss_cut (ps_set (i := 5) scENoT.nd rfl (.inl rfl) (pe_lst (HkX.pa_firstS op_add_str (pv 1) (pat_cons (CwR.PET.of (pe_op op_add_str (pv 1) pe_str)) (pat_cons (CwR.PET.of pe_str) (pat_cons (CwR.PET.of (pe_op op_add_str (pv 1) pe_str)) (pat_cons (CwR.pet_replC (pv 1)) (pat_cons (CwR.PET.of (pe_op op_add_str (pv 1) pe_str)) pat_nil))))))))
      (pss_cut (ps_set (i := 5) scENoT.nd rfl (.inl rfl) (pe_op op_cat (pv 5) (pe_lst (pa_cons (pe_op op_add_str pe_str (pv 1)) pa_nil))))
      (pss_cut (ps_set (i := 5) scENoT.nd rfl (.inl rfl) (pe_op op_cat (pv 5) (pe_lst (pa_cons (pe_lower (pv 1)) (pa_cons (pe_op op_add_str (pv 1) pe_str) (pa_cons (pe_op op_add_str (pe_join pe_str (pe_op op_cat (pe_slice sl_list (pv 2) (po_some pe_int) po_none) (pe_slice sl_list (pv 2) po_none (po_some pe_int)))) pe_str) (pa_cons pe_str pa_nil)))))))
      (pss_cut (ps_set (i := 5) scENoT.nd rfl (.inl rfl) (pe_op op_cat (pv 5) (pe_lst (pa_cons pe_str (pa_cons pe_str pa_nil)))))
      (pss_cut (ps_set (i := 6) scENoT.nd rfl (.inl rfl) (pe_lst (pa_cons pe_str (pa_cons pe_str (pa_cons pe_str (pa_cons pe_str (pa_cons pe_str (pa_cons pe_str (pa_cons pe_str pa_nil)))))))))
      (pss_cut (ps_set (i := 6) scENoT.nd rfl (.inl rfl) (pe_op op_cat (pv 6) (pe_lst (pa_cons pe_str (pa_cons pe_str pa_nil)))))
      (pss_cut (ps_set (i := 6) scENoT.nd rfl (.inl rfl) (pe_op op_cat (pv 6) (pe_lst (pa_cons pe_str (pa_cons pe_str (pa_cons pe_str (pa_cons pe_str (pa_cons pe_str (pa_cons (pe_op op_add_str pe_str (pe_op HkX.op_mulS pe_str pe_int)) (pa_cons pe_str pa_nil))))))))))
      (pss_cut (ps_set (i := 6) scENoT.nd rfl (.inl rfl) (pe_op op_cat (pv 6) (pe_lst (pa_cons pe_str (pa_cons pe_str pa_nil)))))
      (pss_cut (ps_set (i := 6) scENoT.nd rfl (.inl rfl) (pe_op op_cat (pv 6) (pe_lst (pa_cons pe_str (pa_cons pe_str (pa_cons pe_str (pa_cons pe_str (pa_cons pe_str (pa_cons pe_str pa_nil)))))))))
      (pss_cut (ps_set (i := 6) scENoT.nd rfl (.inl rfl) (pe_op op_cat (pv 6) (pe_lst (pa_cons pe_str pa_nil))))
      (pss_cut (ps_for PassesOwn.never rfl (pi_range1 (by rfl) m_range (pa_cons pe_int pa_nil)) (pg_name (i := 7) scENoT.nd rfl (.inl rfl))
      (pss_cons (ps_set (i := 8) scENoT.nd rfl (.inl rfl) (pe_ix ix_list (pv 6) (pe_call G_draw (hr.mono (by decide)) (by rfl) g_draw k_draw b_draw .nil pass0 (pa_cons (pv 0) (pa_cons (pe_callB call_len_seq (by rfl) m_len PySem.boot_len (pa_cons (pv 6) pa_nil)) pa_nil))) (fun _ _ => rfl)))
      (pss_one (ps_expr (pe_bm PySem.F.plainAttrs_list PySem.F.slot_list_append PySem.F.type_list_append mt_append (pv 5) (pa_cons (pe_join pe_str (pe_op op_cat (pe_op op_cat (pe_slice sl_list (pv 2) po_none (po_some (pv 3))) (pe_lst (pa_cons (pv 8) pa_nil))) (pe_slice sl_list (pv 2) (po_some (pe_op op_add (pv 3) pe_int)) po_none))) pa_nil))))))
      (pss_cut (ps_expr (pe_bm PySem.F.plainAttrs_list PySem.F.slot_list_append PySem.F.type_list_append mt_append (pv 5) (pa_cons (pe_join pe_str (pe_op op_cat (pe_op op_cat (pe_slice sl_list (pv 2) po_none (po_some (pv 3))) (pe_lst (pa_cons (pe_op op_add_str (pv 4) pe_str) pa_nil))) (pe_slice sl_list (pv 2) (po_some (pe_op op_add (pv 3) pe_int)) po_none))) pa_nil)))
      (pss_cut (ps_expr (pe_bm PySem.F.plainAttrs_list PySem.F.slot_list_append PySem.F.type_list_append mt_append (pv 5) (pa_cons (pe_join pe_str (pe_op op_cat (pe_op op_cat (pe_slice sl_list (pv 2) po_none (po_some (pv 3))) (pe_lst (pa_cons (pe_op op_add_str pe_str (pv 4)) pa_nil))) (pe_slice sl_list (pv 2) (po_some (pe_op op_add (pv 3) pe_int)) po_none))) pa_nil)))
      (pss_one (ps_ret (pv 5))))))))))))))))))), ?_⟩
    have hs : sizeLine = 16777216 := sizeLine_eq
    have hxl := hL.text_len
    have pls : ∀ (s : Str), s.length ≤ 20 → s.length + (textL L).length ≤ sizeLine := fun s h => by omega
    have prs : ∀ (s : Str), s.length ≤ 20 → (textL L).length + s.length ≤ sizeLine := fun s h => by omega
    have hsp : Txt.split (textL L) (Str.ofString "\n") = L := split_join (s := 10) (S := []) rfl (by decide +kernel) hL.ne fun p hp => (hL.ln p hp).1
    -- lines
    refine ⟨fun σ' H' => ∃ lp, σ' = [some (.ref t), some (.str (textL L)), some (.ref lp), none, none, none, none, none, none] ∧ NT K H H' t sc lp ns b L ∧ lp ≠ t, ?_, ?_⟩
    · refine ⟨_, rfl, ⟨_, rfl⟩, _, _, rfl, rfl, by decide, by omega, fun p np => ⟨p, rfl, ?_⟩⟩
      rw [hsp]
      exact ⟨⟨(K0.new np).kt, hT.k0 (K0.new np), upd_same⟩, hT.ne np⟩
    rintro σ' H1 ⟨lp, rfl, hN, hlt⟩
    have hLl : 0 < L.length := List.length_pos_iff.mpr hL.ne
    have hLn := hL.len
    -- at
    refine ⟨fun σ' H' => ∃ (i : Nat), σ' = [some (.ref t), some (.str (textL L)), some (.ref lp), some (.int (i : Int)), none, none, none, none, none] ∧ NT K H H' t sc lp ns (b + 1) L ∧ i < L.length, ?_, ?_⟩
    · refine ⟨_, rfl, _, rfl, lp, _, rfl, .inl (.inl (.inl hN.lp)), t, sc, _, ns, b, rfl, hN.tr, by omega, by rw [List.length_map]; omega, by rw [List.length_map]; omega, fun d H' d0 d1 k T => ?_⟩
      obtain ⟨i, rfl⟩ := Int.eq_ofNat_of_zero_le d0
      rw [List.length_map] at d1
      exact ⟨i, rfl, ⟨hN.kt.trans k, T, k.oth lp _ hN.lp hlt (fun _ z => by cases z)⟩, by omega⟩
    clear hN
    rintro σ' H2 ⟨i, rfl, hN, hi⟩
    -- line
    have hiL : L[i]? = some L[i] := List.getElem?_eq_getElem hi
    have hmL : L[i] ∈ L := List.getElem_mem hi
    refine ⟨fun σ' H' => σ' = [some (.ref t), some (.str (textL L)), some (.ref lp), some (.int (i : Int)), some (.str L[i]), none, none, none, none] ∧ H' = H2, ?_, ?_⟩
    · refine ⟨_, rfl, _, rfl, lp, _, (i : Int), .str L[i], rfl, rfl, .inl (.inl hN.lp), atI_nat (j := i) (by rw [List.getElem?_map, hiL]; rfl), ?_⟩
      exact ⟨rfl, rfl⟩
    rintro σ' H' ⟨rfl, rfl⟩
    -- found
    refine ⟨fun σ' H' => ∃ fp, σ' = [some (.ref t), some (.str (textL L)), some (.ref lp), some (.int (i : Int)), some (.str L[i]), some (.ref fp), none, none, none] ∧ NT K H H' t sc lp ns (b + 1) L ∧ LB H H' lp fp BadT 6, ?_, ?_⟩
    · refine ⟨_, rfl, _, _, rfl, rfl, pls _ (by decide), _, rfl, _, _, rfl, rfl, prs _ (by decide), _, rfl, _, _, rfl, rfl, prs _ (by decide), _, rfl, _, rfl, ?_, _, rfl, _, _, rfl, rfl, prs _ (by decide), few_str (zs := [Str.ofString "\n" ++ textL L, textL L ++ Str.ofString "\n", Str.ofString "", textL L ++ Str.ofString "\n\n0 1 1 1", Txt.replace (textL L) (Str.ofString " ") (Str.ofString "  "), textL L ++ Str.ofString " "]) (by simp), fun p np => ?_⟩
      · have e2 : (Str.ofString "  ").length = 2 := by decide
        rw [e2]; omega
      · exact ⟨p, rfl, hN.k0 (K0.new np), LB.new (ys := [Str.ofString "\n" ++ textL L, textL L ++ Str.ofString "\n", Str.ofString "", textL L ++ Str.ofString "\n\n0 1 1 1", Txt.replace (textL L) (Str.ofString " ") (Str.ofString "  "), textL L ++ Str.ofString " "]) hN.kt ⟨_, hN.lp⟩ np
          (all2 hL.t_ahead (all2 hL.t_lf (all2 (badT_one (by decide +kernel)) (all2 hL.t_lf2 (all2 hL.t_dbl (all2 hL.t_end all0)))))) (by simp)⟩
    clear hN
    rintro σ' H3 ⟨fp, rfl, hN, zs, hz, hzb, hz1, hzl, hz0⟩
    refine ⟨fun σ' H' => ∃ fp, σ' = [some (.ref t), some (.str (textL L)), some (.ref lp), some (.int (i : Int)), some (.str L[i]), some (.ref fp), none, none, none] ∧ NT K H H' t sc lp ns (b + 1) L ∧ LB H H' lp fp BadT 7, ?_, ?_⟩
    · refine ⟨_, rfl, _, rfl, _, _, rfl, rfl, pls _ (by decide), few_str (zs := [Str.ofString " " ++ textL L]) (by simp), fun q nq => ?_⟩
      refine ⟨fp, q, _, _, rfl, rfl, (K0.new nq).oth fp _ hz (fun _ z => by cases z), upd_same, ?_, fun p np => ?_⟩
      · rw [List.length_map, hs]
        show zs.length + 1 ≤ 16777216
        omega
      · exact ⟨p, rfl, (hN.k0 (K0.new nq)).k0 (K0.new np), LB.cat (ys := [Str.ofString " " ++ textL L]) hN.kt ⟨_, hN.lp⟩ nq hzb hz1 hzl np (all2 hL.t_blank all0)⟩
    clear hN hz hzb hz1 hzl hz0 zs fp
    rintro σ' H4 ⟨fp, rfl, hN, zs, hz, hzb, hz1, hzl, hz0⟩
    refine ⟨fun σ' H' => ∃ fp, σ' = [some (.ref t), some (.str (textL L)), some (.ref lp), some (.int (i : Int)), some (.str L[i]), some (.ref fp), none, none, none] ∧ NT K H H' t sc lp ns (b + 1) L ∧ LB H H' lp fp BadT 11, ?_, ?_⟩
    · refine ⟨_, rfl, _, rfl, ⟨_, rfl⟩, _, rfl, rfl, by omega, _, rfl, _, _, rfl, rfl, prs _ (by decide), ⟨_, rfl⟩, _, rfl, 1, rfl, lp, _, rfl, .inl (.inl hN.lp), fun c1 nc1 => ?_⟩
      rw [show cutV (L.map V.str) (some 1) none = (L.drop 1).map V.str from cutS_drop L 1]
      have hN1 := hN.k0 (K0.new nc1 (o := .lst ((L.drop 1).map V.str)))
      have h1 : upd H4 c1 (.lst ((L.drop 1).map V.str)) c1 = some (.lst ((L.drop 1).map V.str)) := upd_same
      have k1 := K0.new nc1 (o := .lst ((L.drop 1).map V.str))
      generalize upd H4 c1 (.lst ((L.drop 1).map V.str)) = G1 at hN1 h1 k1 ⊢
      refine ⟨_, rfl, 1, rfl, lp, _, rfl, .inl (.inl hN1.lp), fun c2 nc2 => ?_⟩
      rw [show cutV (L.map V.str) none (some 1) = (L.take 1).map V.str from cutS_take L 1]
      have k2 := K0.new nc2 (o := .lst ((L.take 1).map V.str))
      have h2 : upd G1 c2 (.lst ((L.take 1).map V.str)) c2 = some (.lst ((L.take 1).map V.str)) := upd_same
      generalize upd G1 c2 (.lst ((L.take 1).map V.str)) = G2 at k2 h2 ⊢
      refine ⟨c1, c2, _, _, rfl, rfl, k2.oth c1 _ h1 (fun _ z => by cases z), h2, ?_, fun c3 nc3 => ?_⟩
      · rw [List.length_map, List.length_map, List.length_drop, List.length_take]; omega
      rw [← List.map_append]
      have k3 := K0.new nc3 (o := .lst ((L.drop 1 ++ L.take 1).map V.str))
      have h3 : upd G2 c3 (.lst ((L.drop 1 ++ L.take 1).map V.str)) c3 = some (.lst ((L.drop 1 ++ L.take 1).map V.str)) := upd_same
      generalize upd G2 c3 (.lst ((L.drop 1 ++ L.take 1).map V.str)) = G3 at k3 h3 ⊢
      refine ⟨_, c3, _, rfl, rfl, .inl (.inl (.inl h3)), joinOk (fun y hy => ?_) ?_, ?_⟩
      · rcases List.mem_append.mp hy with hy | hy
        · exact hL.l100 (List.mem_of_mem_drop hy)
        · exact hL.l100 (List.mem_of_mem_take hy)
      · rw [List.length_append, List.length_drop, List.length_take]; omega
      have ht := hL.t_turn
      have htl := ht.len
      rw [len_app, lf_len] at htl
      refine ⟨_, _, rfl, rfl, (by rw [lf_len]; omega), few_str (zs := [Txt.lower (textL L), textL L ++ Str.ofString "\nPLACES 2", Txt.join (Str.ofString "\n") (L.drop 1 ++ L.take 1) ++ Str.ofString "\n", Str.ofString "PLACES"]) (by simp), fun q nq => ?_⟩
      have kk := (k1.trans k2).trans k3
      refine ⟨fp, q, _, _, rfl, rfl, (kk.trans (K0.new nq)).oth fp _ hz (fun _ z => by cases z), upd_same, ?_, fun p np => ?_⟩
      · rw [List.length_map, hs]
        show zs.length + 4 ≤ 16777216
        omega
      · exact ⟨p, rfl, ((hN.k0 kk).k0 (K0.new nq)).k0 (K0.new np), LB.cat (ys := [Txt.lower (textL L), textL L ++ Str.ofString "\nPLACES 2", Txt.join (Str.ofString "\n") (L.drop 1 ++ L.take 1) ++ Str.ofString "\n", Str.ofString "PLACES"]) (hN.k0 kk).kt ⟨_, (hN.k0 kk).lp⟩ nq hzb hz1 hzl np (all2 hL.t_low (all2 hL.t_two (all2 ht (all2 (badT_one (by decide +kernel)) all0))))⟩
    clear hN hz hzb hz1 hzl hz0 zs fp
    rintro σ' H5 ⟨fp, rfl, hN, zs, hz, hzb, hz1, hzl, hz0⟩
    refine ⟨fun σ' H' => ∃ fp, σ' = [some (.ref t), some (.str (textL L)), some (.ref lp), some (.int (i : Int)), some (.str L[i]), some (.ref fp), none, none, none] ∧ NT K H H' t sc lp ns (b + 1) L ∧ LB H H' lp fp BadT 13, ?_, ?_⟩
    · refine ⟨_, rfl, few_str (zs := [Str.ofString "PLACES ", Str.ofString "2"]) (by simp), fun q nq => ?_⟩
      refine ⟨fp, q, _, _, rfl, rfl, (K0.new nq).oth fp _ hz (fun _ z => by cases z), upd_same, ?_, fun p np => ?_⟩
      · rw [List.length_map, hs]
        show zs.length + 2 ≤ 16777216
        omega
      · exact ⟨p, rfl, (hN.k0 (K0.new nq)).k0 (K0.new np), LB.cat (ys := [Str.ofString "PLACES ", Str.ofString "2"]) hN.kt ⟨_, hN.lp⟩ nq hzb hz1 hzl np (all2 (badT_one (by decide +kernel)) (all2 (badT_one (by decide +kernel)) all0))⟩
    clear hN hz hzb hz1 hzl hz0 zs fp
    rintro σ' H6 ⟨fp, rfl, hN, hF⟩
    refine ⟨fun σ' H' => ∃ fp wp, σ' = [some (.ref t), some (.str (textL L)), some (.ref lp), some (.int (i : Int)), some (.str L[i]), some (.ref fp), some (.ref wp), none, none] ∧ NT K H H' t sc lp ns (b + 1) L ∧ LB H H' lp fp BadT 13 ∧ LB H H' fp wp (· ∈ worseS) 7, ?_, ?_⟩
    · refine ⟨few_str (zs := [Str.ofString "0 1 1", Str.ofString "0 1 1 1 1", Str.ofString "00 1 1 1", Str.ofString "0 01 1 1", Str.ofString "0 1 +1 1", Str.ofString "0 1 1 -1", Str.ofString "0 1 1.0 1"]) (by simp), fun p np => ⟨fp, p, rfl, hN.k0 (K0.new np), hF.k0 (K0.new np), LB.new (ys := [Str.ofString "0 1 1", Str.ofString "0 1 1 1 1", Str.ofString "00 1 1 1", Str.ofString "0 01 1 1", Str.ofString "0 1 +1 1", Str.ofString "0 1 1 -1", Str.ofString "0 1 1.0 1"]) hN.kt hF.sm np (all2 (worse_mem (by decide +kernel)) (all2 (worse_mem (by decide +kernel)) (all2 (worse_mem (by decide +kernel)) (all2 (worse_mem (by decide +kernel)) (all2 (worse_mem (by decide +kernel)) (all2 (worse_mem (by decide +kernel)) (all2 (worse_mem (by decide +kernel)) (all0)))))))) (by simp)⟩⟩
    clear hN hF fp
    rintro σ' H7 ⟨fp, wp, rfl, hN, hF, zs, hz, hzb, hz1, hzl, hz0⟩
    refine ⟨fun σ' H' => ∃ fp wp, σ' = [some (.ref t), some (.str (textL L)), some (.ref lp), some (.int (i : Int)), some (.str L[i]), some (.ref fp), some (.ref wp), none, none] ∧ NT K H H' t sc lp ns (b + 1) L ∧ LB H H' lp fp BadT 13 ∧ LB H H' fp wp (· ∈ worseS) 9, ?_, ?_⟩
    · refine ⟨_, rfl, few_str (zs := [Str.ofString "0 1 1 1000000", Str.ofString "a"]) (by simp), fun q nq => ?_⟩
      refine ⟨wp, q, _, _, rfl, rfl, (K0.new nq).oth wp _ hz (fun _ z => by cases z), upd_same, ?_, fun p np => ?_⟩
      · rw [List.length_map, hs]
        show zs.length + 2 ≤ 16777216
        omega
      · exact ⟨fp, p, rfl, (hN.k0 (K0.new nq)).k0 (K0.new np), (hF.k0 (K0.new nq)).k0 (K0.new np), LB.cat (ys := [Str.ofString "0 1 1 1000000", Str.ofString "a"]) hN.kt hF.sm nq hzb hz1 hzl np (all2 (worse_mem (by decide +kernel)) (all2 (worse_mem (by decide +kernel)) (all0)))⟩
    clear hN hF hz hzb hz1 hzl hz0 zs fp wp
    rintro σ' H8 ⟨fp, wp, rfl, hN, hF, zs, hz, hzb, hz1, hzl, hz0⟩
    refine ⟨fun σ' H' => ∃ fp wp, σ' = [some (.ref t), some (.str (textL L)), some (.ref lp), some (.int (i : Int)), some (.str L[i]), some (.ref fp), some (.ref wp), none, none] ∧ NT K H H' t sc lp ns (b + 1) L ∧ LB H H' lp fp BadT 13 ∧ LB H H' fp wp (· ∈ worseS) 16, ?_, ?_⟩
    · refine ⟨_, rfl, _, _, rfl, rfl, ⟨by decide, by decide, by decide⟩, _, _, rfl, rfl, (by rw [nines, hs]; decide), few_str (zs := [Str.ofString "0 1 1 x", Str.ofString "0,1,1,1", Str.ofString "0 1 1 1_0", Str.ofString "", Str.ofString "0 1  1", Str.ofString "0 1 1 " ++ Txt.mul (Str.ofString "9") 30, Str.ofString "PLACES 1 1"]) (by simp), fun q nq => ?_⟩
      refine ⟨wp, q, _, _, rfl, rfl, (K0.new nq).oth wp _ hz (fun _ z => by cases z), upd_same, ?_, fun p np => ?_⟩
      · rw [List.length_map, hs]
        show zs.length + 7 ≤ 16777216
        omega
      · exact ⟨fp, p, rfl, (hN.k0 (K0.new nq)).k0 (K0.new np), (hF.k0 (K0.new nq)).k0 (K0.new np), LB.cat (ys := [Str.ofString "0 1 1 x", Str.ofString "0,1,1,1", Str.ofString "0 1 1 1_0", Str.ofString "", Str.ofString "0 1  1", Str.ofString "0 1 1 " ++ Txt.mul (Str.ofString "9") 30, Str.ofString "PLACES 1 1"]) hN.kt hF.sm nq hzb hz1 hzl np (all2 (worse_mem (by decide +kernel)) (all2 (worse_mem (by decide +kernel)) (all2 (worse_mem (by decide +kernel)) (all2 (worse_mem (by decide +kernel)) (all2 (worse_mem (by decide +kernel)) (all2 worse_nines (all2 (worse_mem (by decide +kernel)) (all0))))))))⟩
    clear hN hF hz hzb hz1 hzl hz0 zs fp wp
    rintro σ' H9 ⟨fp, wp, rfl, hN, hF, zs, hz, hzb, hz1, hzl, hz0⟩
    refine ⟨fun σ' H' => ∃ fp wp, σ' = [some (.ref t), some (.str (textL L)), some (.ref lp), some (.int (i : Int)), some (.str L[i]), some (.ref fp), some (.ref wp), none, none] ∧ NT K H H' t sc lp ns (b + 1) L ∧ LB H H' lp fp BadT 13 ∧ LB H H' fp wp (· ∈ worseS) 18, ?_, ?_⟩
    · refine ⟨_, rfl, few_str (zs := [Str.ofString "Places 2", Str.ofString "0 1 1 ."]) (by simp), fun q nq => ?_⟩
      refine ⟨wp, q, _, _, rfl, rfl, (K0.new nq).oth wp _ hz (fun _ z => by cases z), upd_same, ?_, fun p np => ?_⟩
      · rw [List.length_map, hs]
        show zs.length + 2 ≤ 16777216
        omega
      · exact ⟨fp, p, rfl, (hN.k0 (K0.new nq)).k0 (K0.new np), (hF.k0 (K0.new nq)).k0 (K0.new np), LB.cat (ys := [Str.ofString "Places 2", Str.ofString "0 1 1 ."]) hN.kt hF.sm nq hzb hz1 hzl np (all2 (worse_mem (by decide +kernel)) (all2 (worse_mem (by decide +kernel)) (all0)))⟩
    clear hN hF hz hzb hz1 hzl hz0 zs fp wp
    rintro σ' H10 ⟨fp, wp, rfl, hN, hF, zs, hz, hzb, hz1, hzl, hz0⟩
    refine ⟨fun σ' H' => ∃ fp wp, σ' = [some (.ref t), some (.str (textL L)), some (.ref lp), some (.int (i : Int)), some (.str L[i]), some (.ref fp), some (.ref wp), none, none] ∧ NT K H H' t sc lp ns (b + 1) L ∧ LB H H' lp fp BadT 13 ∧ LB H H' fp wp (· ∈ worseS) 24, ?_, ?_⟩
    · refine ⟨_, rfl, few_str (zs := [Str.ofString "PLACES 01", Str.ofString "PLACES -1", Str.ofString "PLACES +2", Str.ofString "PLACES 1000000", Str.ofString "PLACES 2 ", Str.ofString "places 2"]) (by simp), fun q nq => ?_⟩
      refine ⟨wp, q, _, _, rfl, rfl, (K0.new nq).oth wp _ hz (fun _ z => by cases z), upd_same, ?_, fun p np => ?_⟩
      · rw [List.length_map, hs]
        show zs.length + 6 ≤ 16777216
        omega
      · exact ⟨fp, p, rfl, (hN.k0 (K0.new nq)).k0 (K0.new np), (hF.k0 (K0.new nq)).k0 (K0.new np), LB.cat (ys := [Str.ofString "PLACES 01", Str.ofString "PLACES -1", Str.ofString "PLACES +2", Str.ofString "PLACES 1000000", Str.ofString "PLACES 2 ", Str.ofString "places 2"]) hN.kt hF.sm nq hzb hz1 hzl np (all2 (worse_mem (by decide +kernel)) (all2 (worse_mem (by decide +kernel)) (all2 (worse_mem (by decide +kernel)) (all2 (worse_mem (by decide +kernel)) (all2 (worse_mem (by decide +kernel)) (all2 (worse_mem (by decide +kernel)) (all0)))))))⟩
    clear hN hF hz hzb hz1 hzl hz0 zs fp wp
    rintro σ' H11 ⟨fp, wp, rfl, hN, hF, zs, hz, hzb, hz1, hzl, hz0⟩
    refine ⟨fun σ' H' => ∃ fp wp, σ' = [some (.ref t), some (.str (textL L)), some (.ref lp), some (.int (i : Int)), some (.str L[i]), some (.ref fp), some (.ref wp), none, none] ∧ NT K H H' t sc lp ns (b + 1) L ∧ LB H H' lp fp BadT 13 ∧ LB H H' fp wp (· ∈ worseS) 25, ?_, ?_⟩
    · refine ⟨_, rfl, few_str (zs := [Str.ofString "PLACES2"]) (by simp), fun q nq => ?_⟩
      refine ⟨wp, q, _, _, rfl, rfl, (K0.new nq).oth wp _ hz (fun _ z => by cases z), upd_same, ?_, fun p np => ?_⟩
      · rw [List.length_map, hs]
        show zs.length + 1 ≤ 16777216
        omega
      · exact ⟨fp, p, rfl, (hN.k0 (K0.new nq)).k0 (K0.new np), (hF.k0 (K0.new nq)).k0 (K0.new np), LB.cat (ys := [Str.ofString "PLACES2"]) hN.kt hF.sm nq hzb hz1 hzl np (all2 (worse_mem (by decide +kernel)) (all0))⟩
    clear hN hF hz hzb hz1 hzl hz0 zs fp wp
    rintro σ' H12 ⟨fp, wp, rfl, hN, hF, zs, hz, hzb, hz1, hzl, hz0⟩
    -- turns
    have hwl : zs.length ≤ 25 := hzl
    refine ⟨fun σ' H' => ∃ y7 y8, σ' = [some (.ref t), some (.str (textL L)), some (.ref lp), some (.int (i : Int)), some (.str L[i]), some (.ref fp), some (.ref wp), y7, y8] ∧ NT K H H' t sc lp ns (b + 9) L ∧ LB H H' lp fp BadT 21, ?_, ?_⟩
    · refine ⟨8, rfl, by decide, by decide, for_range (lo := 0) (n := 8) (fun j σ' H' => ∃ y7 y8, σ' = [some (.ref t), some (.str (textL L)), some (.ref lp), some (.int (i : Int)), some (.str L[i]), some (.ref fp), some (.ref wp), y7, y8] ∧ NT K H H' t sc lp ns (b + 1 + j) L ∧ LB H H' lp fp BadT (13 + j) ∧ H' wp = some (.lst (zs.map V.str)))
        ⟨none, none, rfl, ⟨hN.kt, hN.tr.le (by omega), hN.lp⟩, hF, hz⟩ (fun j σ' H' hj h => ?_) (fun σ' H' h => ?_)⟩
      · obtain ⟨y7, y8, rfl, hNj, hFj, hzj⟩ := h
        have hj8 : j < 8 := hj
        refine ⟨_, rfl, _, rfl, _, rfl, wp, _, rfl, .inl (.inl (.inl hzj)), t, sc, _, ns, _, rfl, hNj.tr, by omega, by rw [List.length_map]; omega, by rw [List.length_map]; omega, fun d G0 d0 d1 k0 T0 => ?_⟩
        obtain ⟨m, rfl⟩ := Int.eq_ofNat_of_zero_le d0
        rw [List.length_map] at d1
        have hm : m < zs.length := by omega
        have hzm : zs[m]? = some zs[m] := List.getElem?_eq_getElem hm
        have hw : zs[m] ∈ worseS := hzb _ (List.getElem_mem hm)
        obtain ⟨wb1, wb2⟩ := worse_at hw
        have hwt : wp ≠ t := ne_sm hz0.1 ⟨_, (hT.v).choose_spec.choose_spec.1⟩
        have hft : fp ≠ t := by
          obtain ⟨_, _, _, _, _, h0, _⟩ := hFj
          exact ne_sm h0 ⟨_, (hT.v).choose_spec.choose_spec.1⟩
        have hz0' : G0 wp = some (.lst (zs.map V.str)) := k0.oth wp _ hzj hwt (fun _ z => by cases z)
        have hN0 : NT K H G0 t sc lp ns (b + 1 + j + 1) L := ⟨hNj.kt.trans k0, T0, k0.oth lp _ hNj.lp hlt (fun _ z => by cases z)⟩
        have hF0 := hFj.kt k0 hft
        refine ⟨wp, _, (m : Int), .str zs[m], rfl, rfl, .inl (.inl hz0'), atI_nat (j := m) (by rw [List.getElem?_map, hzm]; rfl), ?_⟩
        obtain ⟨xs, hx, hxb, hx1, hxl2, hx0⟩ := hF0
        refine ⟨_, rfl, .inl ⟨rfl, _, .inl (.inl hx)⟩, ?_⟩
        refine ⟨⟨_, rfl⟩, _, rfl, _, rfl, (i : Int), rfl, lp, _, rfl, .inl (.inl hN0.lp), fun c1 nc1 => ?_⟩
        rw [cutS_take L i]
        have k1 := K0.new nc1 (o := .lst ((L.take i).map V.str))
        have h1 : upd G0 c1 (.lst ((L.take i).map V.str)) c1 = some (.lst ((L.take i).map V.str)) := upd_same
        generalize upd G0 c1 (.lst ((L.take i).map V.str)) = G1 at k1 h1 ⊢
        refine ⟨_, rfl, few_str (zs := [zs[m]]) (by simp), fun c2 nc2 => ?_⟩
        have k2 := K0.new nc2 (o := .lst (([zs[m]] : List Str).map V.str))
        have h2 : upd G1 c2 (.lst (([zs[m]] : List Str).map V.str)) c2 = some (.lst (([zs[m]] : List Str).map V.str)) := upd_same
        change _ at k2
        generalize hG2 : upd G1 c2 (.lst (([zs[m]] : List Str).map V.str)) = G2 at k2 h2
        simp only [List.map_cons, List.map_nil] at hG2
        rw [hG2]
        refine ⟨c1, c2, _, _, rfl, rfl, k2.oth c1 _ h1 (fun _ z => by cases z), h2, ?_, fun c3 nc3 => ?_⟩
        · rw [List.length_map, List.length_map, List.length_take, hs]; show min i L.length + 1 ≤ 16777216; omega
        rw [← List.map_append]
        have k3 := K0.new nc3 (o := .lst ((L.take i ++ [zs[m]]).map V.str))
        have h3 : upd G2 c3 (.lst ((L.take i ++ [zs[m]]).map V.str)) c3 = some (.lst ((L.take i ++ [zs[m]]).map V.str)) := upd_same
        generalize upd G2 c3 (.lst ((L.take i ++ [zs[m]]).map V.str)) = G3 at k3 h3 ⊢
        have kk3 := (k1.trans k2).trans k3
        refine ⟨_, rfl, _, rfl, (i : Int), 1, rfl, rfl, _, rfl, lp, _, rfl, .inl (.inl (hN0.k0 kk3).lp), fun c4 nc4 => ?_⟩
        rw [show cutV (L.map V.str) (some ((i : Int) + 1)) none = (L.drop (i + 1)).map V.str from cutS_drop L (i + 1)]
        have k4 := K0.new nc4 (o := .lst ((L.drop (i + 1)).map V.str))
        have h4 : upd G3 c4 (.lst ((L.drop (i + 1)).map V.str)) c4 = some (.lst ((L.drop (i + 1)).map V.str)) := upd_same
        generalize upd G3 c4 (.lst ((L.drop (i + 1)).map V.str)) = G4 at k4 h4 ⊢
        refine ⟨c3, c4, _, _, rfl, rfl, k4.oth c3 _ h3 (fun _ z => by cases z), h4, ?_, fun c5 nc5 => ?_⟩
        · rw [List.length_map, List.length_map, List.length_append, List.length_take, List.length_drop, hs]; show min i L.length + 1 + _ ≤ 16777216; omega
        rw [← List.map_append]
        have k5 := K0.new nc5 (o := .lst (((L.take i ++ [zs[m]]) ++ L.drop (i + 1)).map V.str))
        have h5 : upd G4 c5 (.lst (((L.take i ++ [zs[m]]) ++ L.drop (i + 1)).map V.str)) c5 = some (.lst (((L.take i ++ [zs[m]]) ++ L.drop (i + 1)).map V.str)) := upd_same
        generalize upd G4 c5 (.lst (((L.take i ++ [zs[m]]) ++ L.drop (i + 1)).map V.str)) = G5 at k5 h5 ⊢
        have kk := (kk3.trans k4).trans k5
        refine ⟨_, c5, _, rfl, rfl, .inl (.inl (.inl h5)), joinOk (fun y hy => ?_) ?_, ?_⟩
        · rcases List.mem_append.mp hy with hy | hy
          · rcases List.mem_append.mp hy with hy | hy
            · exact hL.l100 (List.mem_of_mem_take hy)
            · rw [List.mem_singleton.mp hy]; exact (by have := wb1.2; rw [TL.len_tl]; exact this)
          · exact hL.l100 (List.mem_of_mem_drop hy)
        · rw [List.length_append, List.length_append, List.length_take, List.length_drop]; show min i L.length + 1 + _ ≤ 300; omega
        have hbad : BadT (Txt.join (Str.ofString "\n") ((L.take i ++ [zs[m]]) ++ L.drop (i + 1))) := hL.t_at hi wb1 wb2
        have hxk : G5 fp = some (.lst (xs.map V.str)) := kk.oth fp _ hx (fun _ z => by cases z)
        refine ⟨fp, _, _, rfl, rfl, hxk, ?_, ?_⟩
        · rw [List.length_map, hs]; omega
        have hN5 := hN0.k0 kk
        have hzk : G5 wp = some (.lst (zs.map V.str)) := kk.oth wp _ hz0' (fun _ z => by cases z)
        exact ⟨_, _, rfl, ⟨hN5.kt.mut hx0.1, (hN5.tr.mut hT hN5.kt hx0.1).le (by omega), by rw [upd_ne (Ne.symm hx0.2)]; exact hN5.lp⟩,
          ⟨xs ++ [Txt.join (Str.ofString "\n") ((L.take i ++ [zs[m]]) ++ L.drop (i + 1))], by rw [upd_same, List.map_append]; rfl, fun z hz => by
            rcases List.mem_append.mp hz with hz | hz
            · exact hxb z hz
            · rw [List.mem_singleton.mp hz]; exact hbad, by rw [List.length_append]; omega, by rw [List.length_append]; show xs.length + 1 ≤ _; omega, hx0⟩, by rw [upd_ne hz0.2]; exact hzk⟩
      · obtain ⟨y7, y8, rfl, hNj, hFj, _⟩ := h
        exact ⟨y7, y8, rfl, ⟨hNj.kt, hNj.tr.le (by omega), hNj.lp⟩, hFj⟩
    clear hN hF
    rintro σ' K1 ⟨y7, y8, rfl, hN, xs, hx, hxb, hx1, hxl2, hx0⟩
    refine ⟨fun σ' H' => ∃ y7 y8, σ' = [some (.ref t), some (.str (textL L)), some (.ref lp), some (.int (i : Int)), some (.str L[i]), some (.ref fp), some (.ref wp), y7, y8] ∧ NT K H H' t sc lp ns (b + 9) L ∧ LB H H' lp fp BadT 22, ?_, ?_⟩
    · refine ⟨_, rfl, .inl ⟨rfl, _, .inl (.inl hx)⟩, ?_⟩
      refine ⟨⟨_, rfl⟩, _, rfl, _, rfl, (i : Int), rfl, lp, _, rfl, .inl (.inl hN.lp), fun c1 nc1 => ?_⟩
      rw [cutS_take L i]
      have k1 := K0.new nc1 (o := .lst ((L.take i).map V.str))
      have h1 : upd K1 c1 (.lst ((L.take i).map V.str)) c1 = some (.lst ((L.take i).map V.str)) := upd_same
      generalize upd K1 c1 (.lst ((L.take i).map V.str)) = G1 at k1 h1 ⊢
      refine ⟨_, rfl, _, _, rfl, rfl, (by have := hL.l100 hmL; have e : (Str.ofString " ").length = 1 := rfl; omega), few_str (zs := [L[i] ++ Str.ofString " "]) (by simp), fun c2 nc2 => ?_⟩
      have k2 := K0.new nc2 (o := .lst (([L[i] ++ Str.ofString " "] : List Str).map V.str))
      have h2 : upd G1 c2 (.lst (([L[i] ++ Str.ofString " "] : List Str).map V.str)) c2 = some (.lst (([L[i] ++ Str.ofString " "] : List Str).map V.str)) := upd_same
      change _ at k2
      generalize hG2 : upd G1 c2 (.lst (([L[i] ++ Str.ofString " "] : List Str).map V.str)) = G2 at k2 h2
      simp only [List.map_cons, List.map_nil] at hG2
      rw [hG2]
      refine ⟨c1, c2, _, _, rfl, rfl, k2.oth c1 _ h1 (fun _ z => by cases z), h2, ?_, fun c3 nc3 => ?_⟩
      · rw [List.length_map, List.length_map, List.length_take, hs]; show min i L.length + 1 ≤ 16777216; omega
      rw [← List.map_append]
      have k3 := K0.new nc3 (o := .lst ((L.take i ++ [L[i] ++ Str.ofString " "]).map V.str))
      have h3 : upd G2 c3 (.lst ((L.take i ++ [L[i] ++ Str.ofString " "]).map V.str)) c3 = some (.lst ((L.take i ++ [L[i] ++ Str.ofString " "]).map V.str)) := upd_same
      generalize upd G2 c3 (.lst ((L.take i ++ [L[i] ++ Str.ofString " "]).map V.str)) = G3 at k3 h3 ⊢
      have kk3 := (k1.trans k2).trans k3
      refine ⟨_, rfl, _, rfl, (i : Int), 1, rfl, rfl, _, rfl, lp, _, rfl, .inl (.inl (hN.k0 kk3).lp), fun c4 nc4 => ?_⟩
      rw [show cutV (L.map V.str) (some ((i : Int) + 1)) none = (L.drop (i + 1)).map V.str from cutS_drop L (i + 1)]
      have k4 := K0.new nc4 (o := .lst ((L.drop (i + 1)).map V.str))
      have h4 : upd G3 c4 (.lst ((L.drop (i + 1)).map V.str)) c4 = some (.lst ((L.drop (i + 1)).map V.str)) := upd_same
      generalize upd G3 c4 (.lst ((L.drop (i + 1)).map V.str)) = G4 at k4 h4 ⊢
      refine ⟨c3, c4, _, _, rfl, rfl, k4.oth c3 _ h3 (fun _ z => by cases z), h4, ?_, fun c5 nc5 => ?_⟩
      · rw [List.length_map, List.length_map, List.length_append, List.length_take, List.length_drop, hs]; show min i L.length + 1 + _ ≤ 16777216; omega
      rw [← List.map_append]
      have k5 := K0.new nc5 (o := .lst (((L.take i ++ [L[i] ++ Str.ofString " "]) ++ L.drop (i + 1)).map V.str))
      have h5 : upd G4 c5 (.lst (((L.take i ++ [L[i] ++ Str.ofString " "]) ++ L.drop (i + 1)).map V.str)) c5 = some (.lst (((L.take i ++ [L[i] ++ Str.ofString " "]) ++ L.drop (i + 1)).map V.str)) := upd_same
      generalize upd G4 c5 (.lst (((L.take i ++ [L[i] ++ Str.ofString " "]) ++ L.drop (i + 1)).map V.str)) = G5 at k5 h5 ⊢
      have kk := (kk3.trans k4).trans k5
      refine ⟨_, c5, _, rfl, rfl, .inl (.inl (.inl h5)), joinOk (fun y hy => ?_) ?_, ?_⟩
      · rcases List.mem_append.mp hy with hy | hy
        · rcases List.mem_append.mp hy with hy | hy
          · exact hL.l100 (List.mem_of_mem_take hy)
          · rw [List.mem_singleton.mp hy]; exact (by have := (hL.blank_end hmL).1.2; rw [TL.len_tl]; exact this)
        · exact hL.l100 (List.mem_of_mem_drop hy)
      · rw [List.length_append, List.length_append, List.length_take, List.length_drop]; show min i L.length + 1 + _ ≤ 300; omega
      have hbad : BadT (Txt.join (Str.ofString "\n") ((L.take i ++ [L[i] ++ Str.ofString " "]) ++ L.drop (i + 1))) := hL.t_at hi (hL.blank_end hmL).1 (hL.blank_end hmL).2
      have hxk : G5 fp = some (.lst (xs.map V.str)) := kk.oth fp _ hx (fun _ z => by cases z)
      refine ⟨fp, _, _, rfl, rfl, hxk, ?_, ?_⟩
      · rw [List.length_map, hs]; omega
      have hN5 := hN.k0 kk
      exact ⟨_, _, rfl, ⟨hN5.kt.mut hx0.1, (hN5.tr.mut hT hN5.kt hx0.1).le (by omega), by rw [upd_ne (Ne.symm hx0.2)]; exact hN5.lp⟩,
        ⟨xs ++ [Txt.join (Str.ofString "\n") ((L.take i ++ [L[i] ++ Str.ofString " "]) ++ L.drop (i + 1))], by rw [upd_same, List.map_append]; rfl, fun z hz => by
          rcases List.mem_append.mp hz with hz | hz
          · exact hxb z hz
          · rw [List.mem_singleton.mp hz]; exact hbad, by rw [List.length_append]; omega, by rw [List.length_append]; show xs.length + 1 ≤ _; omega, hx0⟩⟩
    clear hN hx hxb hx1 hxl2 hx0 xs K1
    rintro σ' K2 ⟨y7, y8, rfl, hN, xs, hx, hxb, hx1, hxl2, hx0⟩
    refine ⟨fun σ' H' => ∃ y7 y8, σ' = [some (.ref t), some (.str (textL L)), some (.ref lp), some (.int (i : Int)), some (.str L[i]), some (.ref fp), some (.ref wp), y7, y8] ∧ NT K H H' t sc lp ns (b + 9) L ∧ LB H H' lp fp BadT 23, ?_, ?_⟩
    · refine ⟨_, rfl, .inl ⟨rfl, _, .inl (.inl hx)⟩, ?_⟩
      refine ⟨⟨_, rfl⟩, _, rfl, _, rfl, (i : Int), rfl, lp, _, rfl, .inl (.inl hN.lp), fun c1 nc1 => ?_⟩
      rw [cutS_take L i]
      have k1 := K0.new nc1 (o := .lst ((L.take i).map V.str))
      have h1 : upd K2 c1 (.lst ((L.take i).map V.str)) c1 = some (.lst ((L.take i).map V.str)) := upd_same
      generalize upd K2 c1 (.lst ((L.take i).map V.str)) = G1 at k1 h1 ⊢
      refine ⟨_, rfl, _, _, rfl, rfl, (by have := hL.l100 hmL; have e : (Str.ofString " ").length = 1 := rfl; omega), few_str (zs := [Str.ofString " " ++ L[i]]) (by simp), fun c2 nc2 => ?_⟩
      have k2 := K0.new nc2 (o := .lst (([Str.ofString " " ++ L[i]] : List Str).map V.str))
      have h2 : upd G1 c2 (.lst (([Str.ofString " " ++ L[i]] : List Str).map V.str)) c2 = some (.lst (([Str.ofString " " ++ L[i]] : List Str).map V.str)) := upd_same
      change _ at k2
      generalize hG2 : upd G1 c2 (.lst (([Str.ofString " " ++ L[i]] : List Str).map V.str)) = G2 at k2 h2
      simp only [List.map_cons, List.map_nil] at hG2
      rw [hG2]
      refine ⟨c1, c2, _, _, rfl, rfl, k2.oth c1 _ h1 (fun _ z => by cases z), h2, ?_, fun c3 nc3 => ?_⟩
      · rw [List.length_map, List.length_map, List.length_take, hs]; show min i L.length + 1 ≤ 16777216; omega
      rw [← List.map_append]
      have k3 := K0.new nc3 (o := .lst ((L.take i ++ [Str.ofString " " ++ L[i]]).map V.str))
      have h3 : upd G2 c3 (.lst ((L.take i ++ [Str.ofString " " ++ L[i]]).map V.str)) c3 = some (.lst ((L.take i ++ [Str.ofString " " ++ L[i]]).map V.str)) := upd_same
      generalize upd G2 c3 (.lst ((L.take i ++ [Str.ofString " " ++ L[i]]).map V.str)) = G3 at k3 h3 ⊢
      have kk3 := (k1.trans k2).trans k3
      refine ⟨_, rfl, _, rfl, (i : Int), 1, rfl, rfl, _, rfl, lp, _, rfl, .inl (.inl (hN.k0 kk3).lp), fun c4 nc4 => ?_⟩
      rw [show cutV (L.map V.str) (some ((i : Int) + 1)) none = (L.drop (i + 1)).map V.str from cutS_drop L (i + 1)]
      have k4 := K0.new nc4 (o := .lst ((L.drop (i + 1)).map V.str))
      have h4 : upd G3 c4 (.lst ((L.drop (i + 1)).map V.str)) c4 = some (.lst ((L.drop (i + 1)).map V.str)) := upd_same
      generalize upd G3 c4 (.lst ((L.drop (i + 1)).map V.str)) = G4 at k4 h4 ⊢
      refine ⟨c3, c4, _, _, rfl, rfl, k4.oth c3 _ h3 (fun _ z => by cases z), h4, ?_, fun c5 nc5 => ?_⟩
      · rw [List.length_map, List.length_map, List.length_append, List.length_take, List.length_drop, hs]; show min i L.length + 1 + _ ≤ 16777216; omega
      rw [← List.map_append]
      have k5 := K0.new nc5 (o := .lst (((L.take i ++ [Str.ofString " " ++ L[i]]) ++ L.drop (i + 1)).map V.str))
      have h5 : upd G4 c5 (.lst (((L.take i ++ [Str.ofString " " ++ L[i]]) ++ L.drop (i + 1)).map V.str)) c5 = some (.lst (((L.take i ++ [Str.ofString " " ++ L[i]]) ++ L.drop (i + 1)).map V.str)) := upd_same
      generalize upd G4 c5 (.lst (((L.take i ++ [Str.ofString " " ++ L[i]]) ++ L.drop (i + 1)).map V.str)) = G5 at k5 h5 ⊢
      have kk := (kk3.trans k4).trans k5
      refine ⟨_, c5, _, rfl, rfl, .inl (.inl (.inl h5)), joinOk (fun y hy => ?_) ?_, ?_⟩
      · rcases List.mem_append.mp hy with hy | hy
        · rcases List.mem_append.mp hy with hy | hy
          · exact hL.l100 (List.mem_of_mem_take hy)
          · rw [List.mem_singleton.mp hy]; exact (by have := (hL.blank_ahead hmL).1.2; rw [TL.len_tl]; exact this)
        · exact hL.l100 (List.mem_of_mem_drop hy)
      · rw [List.length_append, List.length_append, List.length_take, List.length_drop]; show min i L.length + 1 + _ ≤ 300; omega
      have hbad : BadT (Txt.join (Str.ofString "\n") ((L.take i ++ [Str.ofString " " ++ L[i]]) ++ L.drop (i + 1))) := hL.t_at hi (hL.blank_ahead hmL).1 (hL.blank_ahead hmL).2
      have hxk : G5 fp = some (.lst (xs.map V.str)) := kk.oth fp _ hx (fun _ z => by cases z)
      refine ⟨fp, _, _, rfl, rfl, hxk, ?_, ?_⟩
      · rw [List.length_map, hs]; omega
      have hN5 := hN.k0 kk
      exact ⟨_, _, rfl, ⟨hN5.kt.mut hx0.1, (hN5.tr.mut hT hN5.kt hx0.1).le (by omega), by rw [upd_ne (Ne.symm hx0.2)]; exact hN5.lp⟩,
        ⟨xs ++ [Txt.join (Str.ofString "\n") ((L.take i ++ [Str.ofString " " ++ L[i]]) ++ L.drop (i + 1))], by rw [upd_same, List.map_append]; rfl, fun z hz => by
          rcases List.mem_append.mp hz with hz | hz
          · exact hxb z hz
          · rw [List.mem_singleton.mp hz]; exact hbad, by rw [List.length_append]; omega, by rw [List.length_append]; show xs.length + 1 ≤ _; omega, hx0⟩⟩
    clear hN hx hxb hx1 hxl2 hx0 xs K2
    rintro σ' K3 ⟨y7, y8, rfl, hN, xs, hx, hxb, hx1, hxl2, hx0⟩
    exact ⟨_, rfl, q fp xs K3 hN.kt hN.tr hx hxb (by omega)⟩
end
end HK

set_option Elab.async false
set_option linter.all false
set_option maxRecDepth 100000
set_option maxHeartbeats 2000000
namespace HK
open PySem PySem.Spec PyProof.Rows L2 GAl GxR
/-! ### t[::-1], a tuple -/
theorem adjust_back (n : Nat) : Builtin.Slice.sliceAdjust none none (-1) (n : Int) = ((n : Int) - 1, -1) := by
  unfold Builtin.Slice.sliceAdjust
  rfl
theorem places_back (n : Nat) : Builtin.Slice.slicePlaces ((n : Int) - 1) (-1) (-1) = n := by
  unfold Builtin.Slice.slicePlaces
  have h1 : ¬ ((-1 : Int) > 0) := by omega
  simp only [h1, if_false, Int.neg_neg, Int.ediv_one]
  split <;> omega
theorem fm_congr {α β : Type} {f g : α → Option β} : ∀ {l : List α}, (∀ x ∈ l, f x = g x) → l.filterMap f = l.filterMap g
  | [], _ => rfl
  | a :: l, h => by
    rw [List.filterMap_cons, List.filterMap_cons, h a List.mem_cons_self, fm_congr fun x hx => h x (List.mem_cons_of_mem _ hx)]
theorem pick_back (xs : Array Value) : ((List.range xs.size).filterMap fun (m : Nat) => xs[(((xs.size : Int) - 1) + (m : Int) * (-1)).toNat]?).toArray = xs.toList.reverse.toArray := by
  have e : (List.range xs.size).filterMap (fun (m : Nat) => xs[(((xs.size : Int) - 1) + (m : Int) * (-1)).toNat]?) = ((List.range xs.size).map fun k => xs.size - 1 - k).filterMap (xs[·]?) := by
    rw [List.filterMap_map]
    refine fm_congr fun m hm => ?_
    have hm := List.mem_range.mp hm
    have z : (((xs.size : Int) - 1) + (m : Int) * (-1)).toNat = xs.size - 1 - m := by omega
    show xs[(((xs.size : Int) - 1) + (m : Int) * (-1)).toNat]? = xs[xs.size - 1 - m]?
    rw [z]
  rw [e, PySem.W.krv_range, List.filterMap_reverse, PySem.W.krv_all]
section
variable {prog : Program} {w : World} {A : Around} {E : Value → Shared → Prop} {s : Shared}
theorem applied_back {sl : Addr} {vs : Value} {n : Nat} {Q : Int × Int × Nat → Shared → Prop} (hs : s.heap.IsSliceOf sl .none .none vs) (ps : IsPart vs (some (-1)))
    (h : Q ((n : Int) - 1, -1, n) s) : wpAny (model prog w) A (Builtin.Slice.sliceApplied (.ref sl) (pure (n : Int))) Q E s := by
  obtain ⟨os, hos, hcs, hds⟩ := id hs
  unfold Builtin.Slice.sliceApplied Builtin.Slice.sliceFields
  refine wpAny_bind (wpAny_bind (wpAny_field hos hds (x := .none) rfl (wpAny_bind (wpAny_field hos hds (x := .none) rfl (wpAny_bind (wpAny_field hos hds (x := vs) rfl (wpAny_pure ?_)))))))
  refine wpAny_bind (HT.slicePart_ ps ?_)
  show wpAny _ _ (if ((-1 : Int) == 0) = true then _ else _) _ _ s
  rw [if_neg (by decide)]
  refine wpAny_bind (slicePart_none (wpAny_bind (slicePart_none (wpAny_bind (wpAny_pure ?_)))))
  show wpAny _ _ (match Builtin.Slice.sliceAdjust none none (-1) (n : Int) with | (lo, hi) => pure (lo, (-1 : Int), Builtin.Slice.slicePlaces lo hi (-1))) _ _ s
  rw [adjust_back n]
  show wpAny _ _ (pure ((n : Int) - 1, (-1 : Int), Builtin.Slice.slicePlaces ((n : Int) - 1) (-1) (-1))) _ _ s
  rw [places_back]
  exact wpAny_pure h
theorem item_back {t sl : Addr} {items : Array Value} {vs : Value} {Q : Value → Shared → Prop} (ht : IsTup s.heap t items) (hs : s.heap.IsSliceOf sl .none .none vs) (ps : IsPart vs (some (-1)))
    (h : Q (.ref s.heap.objs.size) { s with heap := s.heap.push { cls := .type "tuple", data := .seq items.toList.reverse.toArray } }) (hsz : items.size ≤ sizeLine) : wpAny (model prog w) A (getItem (.ref t) (.ref sl)) Q E s := by
  have htake : sizeOk (.seq items.toList.reverse.toArray) := by
    show items.toList.reverse.toArray.size ≤ sizeLine
    rw [List.size_toArray, List.length_reverse, Array.length_toList]
    exact hsz
  obtain ⟨os, hos, hcs, hds⟩ := id hs
  have hTs : s.TypeIs (.ref sl) "slice" := ⟨os, hos, hcs⟩
  unfold getItem
  try with_reducible refine wpAny_holding ?_
  first | refine wpAny_bind (wpAny_pure ?_) | skip
  refine wpAny_bind (wpAny_sequenceKey ht.typeIs (by decide) ?_)
  refine wpAny_bind (wpAny_callSpecial?_slot (name := Str.ofString "__getitem__") ht.typeIs PyProof.Rows.slot_tuple_getitem
    (wpAny_call_entry PyProof.Rows.slot_tuple_getitem ht.typeIs entry_tuple_getitem ?_ (args_tuple_getitem _ _)))
  show wpAny _ _ (Builtin.Tuple.tupleItemsOf (.ref t) >>= _) _ _ s
  refine wpAny_bind (tupleItemsOf_ ht ?_)
  refine wpAny_bind (wpAny_typeOf hTs ?_)
  rw [if_pos (by decide)]
  refine wpAny_bind (applied_back hs ps ?_)
  have hno : ¬ ((((items.size : Int) - 1) == 0 && (-1 : Int) == 1 && items.size == items.size) = true) := by
    intro q
    rw [Bool.and_eq_true, Bool.and_eq_true] at q
    exact absurd q.1.2 (by decide)
  show wpAny _ _ (if (((items.size : Int) - 1) == 0 && (-1 : Int) == 1 && items.size == items.size) = true then _ else _) _ _ s
  rw [if_neg hno, pick_back]
  first
    | exact wpAny_bind (m := Builtin.Tuple.tupleExact _) (wpAny_newObj_type (wpAny_pure ⟨_, rfl, wpAny_pure h⟩) htake)
    | exact wpAny_bind (m := Builtin.Tuple.tupleExact _) (wpAny_newObj_type (wpAny_bind (wpAny_pure (wpAny_pure ⟨_, rfl, wpAny_pure h⟩))) htake)
    | exact wpAny_bind (wpAny_bind (m := Builtin.Tuple.tupleExact _) (wpAny_newObj_type (wpAny_pure (wpAny_pure ⟨_, rfl, wpAny_pure h⟩)) htake))
    | exact wpAny_bind (wpAny_bind (m := Builtin.Tuple.tupleExact _) (wpAny_newObj_type (wpAny_pure ⟨_, rfl, wpAny_pure h⟩) htake))
end
section
variable {X : Cx}
def tRevT (K : PySem.W.Frag) (te : TE) : TE := fun σ H Q => te σ H fun x H1 => ∃ a xs, x = .ref a ∧ SqT K H1 a xs ∧ ∀ p, H1 p = none → Q (.ref p) (upd H1 p (.tup xs.reverse))
theorem isPart_none {v : Value} (p : IsPart v none) : v = .none := by cases p; rfl
theorem pe_revT {e : Expr} {te : TE} {k : Nat} {p1 p2 p3 pos : Pos} (he : PE X e te) : PE X (.Subscript e (.Slice none none (some (.UnaryOp .USub (.Constant (.int 1) k p1) p2)) p3) pos) (tRevT X.K te) := by
  refine ⟨fun pins s σ H Q I h => ?_⟩
  refine Subscript_ (thn (he.run pins s σ H _ I h) fun v s1 ⟨x, H1, I1, r1, q1⟩ => ?_)
  obtain ⟨a, xs, ex, hx, q⟩ := q1
  subst ex
  cases r1
  have hst : PO X (some (.UnaryOp .USub (.Constant (.int 1) k p1) p2)) (tPart (tUn (rU fun i => .int (-i)) (tC (.int 1)))) := po_some (pe_un un_neg pe_int)
  refine wpAny_Slice (thn (po_none.run pins s1 σ H1 (fun o H2 => o = none ∧ H2 = H1) I1 ⟨rfl, rfl⟩) fun vl s2 ⟨l, H2, I2, pl, el, e2⟩ => ?_)
  subst el e2
  refine thn (po_none.run pins s2 σ H2 (fun o H3 => o = none ∧ H3 = H2) I2 ⟨rfl, rfl⟩) fun vu s3 ⟨u, H3, I3, pu, eu, e3⟩ => ?_
  subst eu e3
  refine thn (hst.run pins s3 σ H3 (fun o H4 => o = some (-1) ∧ H4 = H3) I3 ⟨1, rfl, -1, rfl, rfl, rfl⟩) fun vs s4 ⟨o, H4, I4, ps, eo, e4⟩ => ?_
  subst eo e4
  have hl0 := isPart_none pl
  have hu0 := isPart_none pu
  subst hl0 hu0
  have I5 : Inv X pins σ H4 { s4 with heap := s4.heap.push { cls := .type "slice", data := .fields #[.none, .none, vs] } } := I4.kept (t' := s4.toks) fun b ob q => Heap.get?_push_of_some _ q
  obtain ⟨its, r, ht, hz⟩ := I5.tuple hx
  have hlen := r.length
  show wpAny (model X.prog X.w) X.A (subscriptTail e (.Slice none none (some (.UnaryOp .USub (.Constant (.int 1) k p1) p2)) p3) (.ref a) (.ref s4.heap.objs.size)) (EP X pins σ Q) X.xe { s4 with heap := s4.heap.push { cls := .type "slice", data := .fields #[.none, .none, vs] } }
  refine tail_any (ops := [.ref a, .ref s4.heap.objs.size]) ht.typeIs (PyProof.Rows.slot_tuple_getitem.lookup) ?_ (by with_unfolding_all rfl)
  refine item_back ht (Heap.IsSliceOf.new _ .none .none vs) ps ?_ (by rw [List.size_toArray]; omega)
  refine ⟨.ref _, _, I5.laid (t' := s4.toks) (o := .tup xs.reverse) (fun b ob q => Heap.get?_push_of_some _ q) (Nat.le_refl _) ?_, rfl, q _ (I5.hok.fresh (Nat.le_refl _))⟩
  exact ⟨by rw [List.length_reverse]; exact hz, _, r.reverse, ⟨_, Heap.get?_push_size _ rfl, rfl, _, rfl⟩⟩
end
end HK

set_option Elab.async false
set_option linter.all false
set_option maxRecDepth 100000
set_option maxHeartbeats 4000000
namespace HK
open PySem PySem.Spec PyProof.Rows L2 GAl GxR
open Evl (pss_cut)
abbrev sENoN : Stmt := topS 39
abbrev N_scENoN : List Str := ["tray", "net", "n", "roads", "great", "found"]
theorem scENoN : FnScope N_scENoN ["tray", "net"] (defScope sENoN) := ⟨rfl, rfl, rfl, by decide +kernel, rfl, by decide +kernel, by decide +kernel⟩
def nD (m : Int) (nss : List (List Int)) : PyData := .tuple [.int m, .tuple (nss.map fun ns => .tuple (ns.map PyData.int))]
theorem nD_eq (m : Int) (nss : List (List Int)) : isNetD (nD m nss) = ((decide (1 ≤ m) && decide (m ≤ 12)) && ((nss.map fun ns => PyData.tuple (ns.map PyData.int)).all (isRoadD m) && risesB ((nss.map fun ns => PyData.tuple (ns.map PyData.int)).map pairD))) := rfl
theorem bad_m {m : Int} {nss : List (List Int)} (h : m < 1 ∨ 12 < m) : isNetD (nD m nss) = false := by
  rw [nD_eq]
  rcases h with h | h
  · rw [decide_eq_false (by omega), Bool.false_and, Bool.false_and]
  · rw [decide_eq_false (show ¬ m ≤ 12 by omega), Bool.and_false, Bool.false_and]
theorem bad_row {m a b c d : Int} {nss : List (List Int)} (hm : [a, b, c, d] ∈ nss) (h : isRoadD m (.tuple [.int a, .int b, .int c, .int d]) = false) : isNetD (nD m nss) = false := by
  rw [nD_eq]
  have e : (nss.map fun ns => PyData.tuple (ns.map PyData.int)).all (isRoadD m) = false := List.all_eq_false.mpr ⟨_, List.mem_map.mpr ⟨_, hm, rfl⟩, by
    show ¬ isRoadD m (.tuple [.int a, .int b, .int c, .int d]) = true
    rw [h]; exact Bool.false_ne_true⟩
  rw [e, Bool.false_and, Bool.and_false]
theorem road_no {n a b c d : Int} (h : ¬ (0 ≤ a ∧ a ≤ n - 1 ∧ 0 ≤ b ∧ b ≤ n - 1 ∧ a ≠ b ∧ 0 ≤ c ∧ c ≤ 1000 ∧ 1 ≤ d ∧ d ≤ 1000)) : isRoadD n (.tuple [.int a, .int b, .int c, .int d]) = false := by
  cases e : isRoadD n (.tuple [.int a, .int b, .int c, .int d]) with
  | false => rfl
  | true =>
    obtain ⟨s, e', c', l, q, h1⟩ := road_ints e
    cases q
    exact absurd h1 h
def lt4 (a b : List Int) : Prop := HT.lexLt (a.take 2) (b.take 2) = true
theorem bad_up {m : Int} {nss : List (List Int)} {j : Nat} {a b c d a' b' c' d' : Int} (h1 : nss[j]? = some [a, b, c, d]) (h2 : nss[j + 1]? = some [a', b', c', d']) (h : ¬ (a < a' ∨ (a = a' ∧ b < b'))) : isNetD (nD m nss) = false := by
  rw [nD_eq]
  have hj : j + 1 < nss.length := (List.getElem?_eq_some_iff.mp h2).1
  have e : risesB ((nss.map fun ns => PyData.tuple (ns.map PyData.int)).map pairD) = false := by
    refine risesB_no (j := j) (by rw [List.length_map, List.length_map]; omega) ?_
    rw [List.getD_eq_getElem?_getD, List.getD_eq_getElem?_getD, List.getElem?_map, List.getElem?_map, List.getElem?_map, List.getElem?_map, h1, h2]
    show HT.lexLt [a, b] [a', b'] = false
    simp only [HT.lexLt]
    by_cases e : a = a'
    · rw [if_pos e]
      by_cases e2 : b = b'
      · rw [if_pos e2]
      · rw [if_neg e2]
        exact decide_eq_false (by omega)
    · rw [if_neg e]
      exact decide_eq_false (by omega)
  rw [e, Bool.and_false, Bool.and_false]
theorem RowsI.k0 {K : PySem.W.Frag} {H H' : Hp} {xs : List V} {nss : List (List Int)} (h : RowsI K H xs nss) (k : K0 H H') : RowsI K H' xs nss := h.kt (k.kt (t := 0))
theorem NetI.k0 {K : PySem.W.Frag} {H H' : Hp} {a : Addr} {m : Int} {nss : List (List Int)} (h : NetI K H a m nss) (k : K0 H H') : NetI K H' a m nss := h.kt (k.kt (t := 0))
theorem RowsI.one {K : PySem.W.Frag} {H : Hp} {q : Addr} {ns : List Int} (h : SqT K H q (ns.map V.int)) : RowsI K H [.ref q] [ns] := RowsI.snoc (xs := []) (nss := []) ⟨rfl, fun i ns e => by cases e⟩ h
theorem RowsI.app {K : PySem.W.Frag} {H : Hp} {xs ys : List V} {nss mss : List (List Int)} (h : RowsI K H xs nss) (g : RowsI K H ys mss) : RowsI K H (xs ++ ys) (nss ++ mss) := by
  refine ⟨by rw [List.length_append, List.length_append, h.1, g.1], fun i ns e => ?_⟩
  by_cases hi : i < nss.length
  · rw [List.getElem?_append_left hi] at e
    rw [List.getElem?_append_left (by rw [h.1]; exact hi)]
    exact h.2 i ns e
  · rw [List.getElem?_append_right (by omega)] at e
    rw [List.getElem?_append_right (by rw [h.1]; omega), h.1]
    exact g.2 _ ns e
theorem RowsI.drop {K : PySem.W.Frag} {H : Hp} {xs : List V} {nss : List (List Int)} (h : RowsI K H xs nss) (k : Nat) : RowsI K H (xs.drop k) (nss.drop k) := by
  refine ⟨by rw [List.length_drop, List.length_drop, h.1], fun i ns e => ?_⟩
  rw [List.getElem?_drop] at e ⊢
  exact h.2 _ ns e
theorem RowsI.take {K : PySem.W.Frag} {H : Hp} {xs : List V} {nss : List (List Int)} (h : RowsI K H xs nss) (k : Nat) : RowsI K H (xs.take k) (nss.take k) := by
  refine ⟨by rw [List.length_take, List.length_take, h.1], fun i ns e => ?_⟩
  by_cases hi : i < k
  · rw [List.getElem?_take_of_lt hi] at e ⊢
    exact h.2 _ ns e
  · rw [List.getElem?_eq_none (by rw [List.length_take]; omega)] at e
    cases e
theorem RowsI.rev {K : PySem.W.Frag} {H : Hp} {xs : List V} {nss : List (List Int)} (h : RowsI K H xs nss) : RowsI K H xs.reverse nss.reverse := by
  refine ⟨by rw [List.length_reverse, List.length_reverse, h.1], fun i ns e => ?_⟩
  have hi : i < nss.length := by have := (List.getElem?_eq_some_iff.mp e).1; rwa [List.length_reverse] at this
  rw [List.getElem?_reverse hi] at e
  rw [List.getElem?_reverse (by rw [h.1]; exact hi), h.1]
  exact h.2 _ ns e
theorem tupQ {K : PySem.W.Frag} {H : Hp} {xs : List V} {Q : VK} (hl : xs.length ≤ 1000) (h : ∀ (p : Addr) (H' : Hp), K0 H H' → SqT K H' p xs → Q (.ref p) H') : xs.length ≤ sizeLine ∧ ∀ p, H p = none → Q (.ref p) (upd H p (.tup xs)) :=
  ⟨by rw [sizeLine_eq]; omega, fun p np => h p _ (K0.new np) (.inl (.inl upd_same))⟩
theorem lstQ {H : Hp} {xs : List V} {Q : VK} (hl : xs.length ≤ 1000) (h : ∀ (p : Addr) (H' : Hp), K0 H H' → H' p = some (.lst xs) → H p = none → Q (.ref p) H') : xs.length ≤ sizeLine ∧ ∀ p, H p = none → Q (.ref p) (upd H p (.lst xs)) :=
  ⟨by rw [sizeLine_eq]; omega, fun p np => h p _ (K0.new np) upd_same np⟩
theorem catQ {K : PySem.W.Frag} {H : Hp} {p q : Addr} {l m : List V} {Q : VK} (h : SqT K H p l) (g : SqT K H q m) (hz : l.length + m.length ≤ 1000) (hq : ∀ (b : Addr) (H' : Hp), K0 H H' → SqT K H' b (l ++ m) → Q (.ref b) H') : rCatA K (.ref p) (.ref q) H Q := by
  refine ⟨p, q, l, m, rfl, rfl, h, g, by rw [sizeLine_eq]; omega, fun e => ?_, fun _ e => ?_, fun _ _ b nb => ?_⟩
  · subst e
    exact hq q H (K0.refl _) g
  · subst e
    exact hq p H (K0.refl _) (by rw [List.append_nil]; exact h)
  · exact hq b _ (K0.new nb) (.inl (.inl upd_same))
def BadI (K : PySem.W.Frag) (H : Hp) (x : V) : Prop := ∃ (q : Addr) (m : Int) (nss : List (List Int)), x = .ref q ∧ NetI K H q m nss ∧ Md m ∧ (∀ ns ∈ nss, ns.length = 4 ∧ ∀ i ∈ ns, Md i) ∧ nss.length ≤ 200 ∧ isNetD (nD m nss) = false
theorem BadI.k0 {K : PySem.W.Frag} {H H' : Hp} {x : V} (h : BadI K H x) (k : K0 H H') : BadI K H' x := by
  obtain ⟨q, m, nss, e, h1, h2⟩ := h
  exact ⟨q, m, nss, e, h1.k0 k, h2⟩
theorem BadI.kt {K : PySem.W.Frag} {t : Addr} {H H' : Hp} {x : V} (h : BadI K H x) (k : Kt t H H') : BadI K H' x := by
  obtain ⟨q, m, nss, e, h1, h2⟩ := h
  exact ⟨q, m, nss, e, h1.kt k, h2⟩
theorem md4 {a b c d : Int} (ha : Md a) (hb : Md b) (hc : Md c) (hd : Md d) : ([a, b, c, d] : List Int).length = 4 ∧ ∀ i ∈ [a, b, c, d], Md i := ⟨rfl, fun i hi => by
  simp only [List.mem_cons, List.not_mem_nil, or_false] at hi
  rcases hi with rfl | rfl | rfl | rfl
  · exact ha
  · exact hb
  · exact hc
  · exact hd⟩
def AllB (K : PySem.W.Frag) (H0 H' : Hp) (p : Addr) (hi : Nat) : Prop := ∃ xs : List V, H' p = some (.lst xs) ∧ (∀ x ∈ xs, BadI K H' x) ∧ xs.length ≤ hi ∧ H0 p = none
structure NS (K : PySem.W.Frag) (H0 H' : Hp) (t sc : Addr) (ns : List Int) (c : Int) (r : Addr) (xs : List V) (rs : List R4) : Prop where
  kt : Kt t H0 H'
  tr : Tray K H' t sc ns c
  s2 : SqT K H' r xs
  s3 : RowsI K H' xs (rs.map R4.is)
theorem NS.k0 {K : PySem.W.Frag} {H0 H' H2 : Hp} {t sc : Addr} {ns : List Int} {c : Int} {r : Addr} {xs : List V} {rs : List R4} (h : NS K H0 H' t sc ns c r xs rs) (k : K0 H' H2) : NS K H0 H2 t sc ns c r xs rs :=
  ⟨h.kt.trans k.kt, h.tr.k0 k, k.sqT h.s2, h.s3.k0 k⟩
theorem few_n {xs : List V} (h : xs.length ≤ 1000) : xs.length ≤ sizeLine := by
  rw [sizeLine_eq]
  omega
def MdR (ns : List Int) : Prop := ns.length = 4 ∧ ∀ i ∈ ns, Md i
theorem all2m {z : List Int} {zs : List (List Int)} (h : z.length = 4 ∧ ∀ i ∈ z, Md i) (hs : ∀ y ∈ zs, y.length = 4 ∧ ∀ i ∈ y, Md i) : ∀ y ∈ z :: zs, y.length = 4 ∧ ∀ i ∈ y, Md i := fun y hy => by
  rcases List.mem_cons.mp hy with rfl | hy
  · exact h
  · exact hs y hy
theorem all0m : ∀ y ∈ ([] : List (List Int)), y.length = 4 ∧ ∀ i ∈ y, Md i := fun y hy => by cases hy
theorem allAm {xs ys : List (List Int)} (h : ∀ y ∈ xs, y.length = 4 ∧ ∀ i ∈ y, Md i) (g : ∀ y ∈ ys, y.length = 4 ∧ ∀ i ∈ y, Md i) : ∀ y ∈ xs ++ ys, y.length = 4 ∧ ∀ i ∈ y, Md i := fun y hy => by
  rcases List.mem_append.mp hy with hy | hy
  · exact h y hy
  · exact g y hy
theorem allRm {xs : List (List Int)} (h : ∀ y ∈ xs, y.length = 4 ∧ ∀ i ∈ y, Md i) : ∀ y ∈ xs.reverse, y.length = 4 ∧ ∀ i ∈ y, Md i := fun y hy => h y (List.mem_reverse.mp hy)
theorem allDm {xs : List (List Int)} {k : Nat} (h : ∀ y ∈ xs, y.length = 4 ∧ ∀ i ∈ y, Md i) : ∀ y ∈ xs.drop k, y.length = 4 ∧ ∀ i ∈ y, Md i := fun y hy => h y (List.mem_of_mem_drop hy)
theorem allTm {xs : List (List Int)} {k : Nat} (h : ∀ y ∈ xs, y.length = 4 ∧ ∀ i ∈ y, Md i) : ∀ y ∈ xs.take k, y.length = 4 ∧ ∀ i ∈ y, Md i := fun y hy => h y (List.mem_of_mem_take hy)
theorem allV2 {K : PySem.W.Frag} {H : Hp} {x : V} {xs : List V} (h : BadI K H x) (hs : ∀ y ∈ xs, BadI K H y) : ∀ y ∈ x :: xs, BadI K H y := fun y hy => by
  rcases List.mem_cons.mp hy with rfl | hy
  · exact h
  · exact hs y hy
theorem allV0 {K : PySem.W.Frag} {H : Hp} : ∀ y ∈ ([] : List V), BadI K H y := fun y hy => by cases hy
theorem allVA {K : PySem.W.Frag} {H : Hp} {xs ys : List V} (h : ∀ y ∈ xs, BadI K H y) (g : ∀ y ∈ ys, BadI K H y) : ∀ y ∈ xs ++ ys, BadI K H y := fun y hy => by
  rcases List.mem_append.mp hy with hy | hy
  · exact h y hy
  · exact g y hy
theorem slD {K : PySem.W.Frag} {H : Hp} {a : Addr} {xs : List V} {Q : VK} (h : SqT K H a xs) (hq : ∀ (p : Addr) (H' : Hp), K0 H H' → SqT K H' p (xs.drop 1) → Q (.ref p) H') : rSlA K (.ref a) (some 1) none H Q := by
  have e : cutV xs (some 1) none = xs.drop 1 := cut_dropV xs 1
  refine ⟨a, xs, rfl, h, fun z => hq a H (K0.refl _) ?_, fun _ p np => hq p _ (K0.new np) ?_⟩
  · have e2 : cutV xs (some 1) none = xs := by
      unfold cutV
      rw [z.1, z.2, List.drop_zero, Nat.sub_zero, List.take_length]
    rw [← e, e2]; exact h
  · rw [← e]; exact .inl (.inl upd_same)
theorem slT {K : PySem.W.Frag} {H : Hp} {a : Addr} {xs : List V} {Q : VK} (h : SqT K H a xs) (hq : ∀ (p : Addr) (H' : Hp), K0 H H' → SqT K H' p (xs.take 1) → Q (.ref p) H') : rSlA K (.ref a) none (some 1) H Q := by
  have e : cutV xs none (some 1) = xs.take 1 := cut_takeV xs 1
  refine ⟨a, xs, rfl, h, fun z => hq a H (K0.refl _) ?_, fun _ p np => hq p _ (K0.new np) ?_⟩
  · have e2 : cutV xs none (some 1) = xs := by
      unfold cutV
      rw [z.1, z.2, List.drop_zero, Nat.sub_zero, List.take_length]
    rw [← e, e2]; exact h
  · rw [← e]; exact .inl (.inl upd_same)
theorem bad_pair {n m : Int} {rs : List R4} (G : Good n rs) {nss : List (List Int)} {k i j : Nat} (hi : i < rs.length) (hij : j < i) (h1 : nss[k]? = some (rs[i]'hi).is) (h2 : nss[k + 1]? = some (rs[j]'(by omega)).is) : isNetD (nD m nss) = false := by
  have hp := List.pairwise_iff_getElem.mp G.up j i (by omega) hi hij
  have h : (rs[j]'(by omega)).s < rs[i].s ∨ ((rs[j]'(by omega)).s = rs[i].s ∧ (rs[j]'(by omega)).e < rs[i].e) := hp
  exact bad_up h1 h2 (by omega)
theorem is_at {rs : List R4} {i : Nat} (hi : i < rs.length) : (rs.map R4.is)[i]? = some (rs[i]'hi).is := by
  rw [List.getElem?_map, List.getElem?_eq_getElem hi]
  rfl
theorem bad_rev {n : Int} {rs : List R4} (G : Good n rs) (hl : 1 < rs.length) : isNetD (nD n (rs.map R4.is).reverse) = false := by
  refine bad_pair G (k := 0) (i := rs.length - 1) (j := rs.length - 2) (by omega) (by omega) ?_ ?_
  · rw [List.getElem?_reverse (by rw [List.length_map]; omega), List.length_map]
    exact is_at (by omega)
  · rw [List.getElem?_reverse (by rw [List.length_map]; omega), List.length_map]
    have e : rs.length - 1 - (0 + 1) = rs.length - 2 := by omega
    rw [e]
    exact is_at (by omega)
theorem bad_turn {n : Int} {rs : List R4} (G : Good n rs) (hl : 1 < rs.length) : isNetD (nD n ((rs.map R4.is).drop 1 ++ (rs.map R4.is).take 1)) = false := by
  have hd : ((rs.map R4.is).drop 1).length = rs.length - 1 := by rw [List.length_drop, List.length_map]
  refine bad_pair G (k := rs.length - 2) (i := rs.length - 1) (j := 0) (by omega) (by omega) ?_ ?_
  · rw [List.getElem?_append_left (by omega), List.getElem?_drop]
    have e : 1 + (rs.length - 2) = rs.length - 1 := by omega
    rw [e]
    exact is_at (by omega)
  · rw [List.getElem?_append_right (by omega), hd]
    have e : rs.length - 2 + 1 - (rs.length - 1) = 0 := by omega
    rw [e, List.getElem?_take_of_lt (by decide)]
    exact is_at (by omega)
theorem bad_twice {n : Int} {rs : List R4} (G : Good n rs) (hl : 1 < rs.length) : isNetD (nD n (rs.map R4.is ++ (rs.map R4.is).take 1)) = false := by
  have hd : (rs.map R4.is).length = rs.length := List.length_map ..
  refine bad_pair G (k := rs.length - 1) (i := rs.length - 1) (j := 0) (by omega) (by omega) ?_ ?_
  · rw [List.getElem?_append_left (by omega)]
    exact is_at (by omega)
  · rw [List.getElem?_append_right (by omega), hd]
    have e : rs.length - 1 + 1 - rs.length = 0 := by omega
    rw [e, List.getElem?_take_of_lt (by decide)]
    exact is_at (by omega)
section
variable {P : Program} {w : World} {K : PySem.W.Frag} {mg : Str → Option Value} {base : Heap}
def spNoNets (K : PySem.W.Frag) : Sp := fun vs H Q _ => ∃ (t sc a : Addr) (ns : List Int) (b n : Int) (rs : List R4), vs = [.ref t, .ref a] ∧ Tray K H t sc ns b ∧ b ≤ 900000 ∧ NetAt K H a n rs ∧ Good n rs ∧ rs.length ≤ 156 ∧
  ∀ (p : Addr) (xs : List V) (H' : Hp), Kt t H H' → Tray K H' t sc ns (b + 1) → H' p = some (.lst xs) → (∀ x ∈ xs, BadI K H' x) → xs.length ≤ 100 → Q (.ref p) H'
theorem ok_nonets {f : Addr} {fd : FuncData} {f_draw : Addr} {fd_draw : FuncData} (F : Fun K "_law_e_no_nets" "_law_e_no_nets" sENoN f fd) (k_draw : PySem.W.keepIn K (.ref f_draw) = true) (b_draw : Binds K fd_draw ["tray", "many"] []) (g_draw : mg "_law_e_draw" = some (.ref f_draw)) (G_draw : FnOk P w K mg base CX0 2 f_draw fd_draw ["tray", "many"] (spDraw K)) (m_len : mg "len" = none) : FnOk P w K mg base CX0 3 f fd ["tray", "net"] (spNoNets K) := by
  refine F.ok scENoN (fun vs H Q E h => ?_) (fun cdv A outer s H vs Q E hr h => ?_)
  · obtain ⟨t, sc, a, ns, b, n, rs, rfl, _⟩ := h
    rfl
  · obtain ⟨t, sc, a, ns, b, n, rs, rfl, hT, hb, hA, G, hl, q⟩ := h
    have hu := hu_of hr
    refine ⟨_, (pss_cut (ps_asg (pv 1) (pg_tup rfl (pgs_cons (pg_name (i := 2) scENoN.nd rfl (.inl rfl)) (pgs_cons (pg_name (i := 3) scENoN.nd rfl (.inl rfl)) pgs_nil))))
      (pss_cut (ps_set (i := 4) scENoN.nd rfl (.inl rfl) (pe_op op_sub (pe_op op_sub (pe_op op_pow pe_int pe_int) pe_int) (pe_call G_draw (hr.mono (by decide)) (by rfl) g_draw k_draw b_draw .nil pass0 (pa_cons (pv 0) (pa_cons pe_int pa_nil)))))
      (pss_cut (ps_set (i := 5) scENoN.nd rfl (.inl rfl) (pe_lst (pa_cons (pe_tup (pa_cons pe_int (pa_cons (pe_tup pa_nil) pa_nil))) (pa_cons (pe_tup (pa_cons pe_int (pa_cons (pv 3) pa_nil))) (pa_cons (pe_tup (pa_cons (pv 4) (pa_cons (pv 3) pa_nil))) (pa_cons (pe_tup (pa_cons (pv 2) (pa_cons (pe_op op_catA (pv 3) (pe_tup (pa_cons (pe_tup (pa_cons (pv 2) (pa_cons pe_int (pa_cons pe_int (pa_cons pe_int pa_nil))))) pa_nil))) pa_nil))) pa_nil))))))
      (pss_cut (ps_set (i := 5) scENoN.nd rfl (.inl rfl) (pe_op op_cat (pv 5) (pe_lst (pa_cons (pe_tup (pa_cons (pv 2) (pa_cons (pe_op op_catA (pv 3) (pe_tup (pa_cons (pe_tup (pa_cons (pe_op op_sub (pv 2) pe_int) (pa_cons (pv 2) (pa_cons pe_int (pa_cons pe_int pa_nil))))) pa_nil))) pa_nil))) pa_nil))))
      (pss_cut (ps_set (i := 5) scENoN.nd rfl (.inl rfl) (pe_op op_cat (pv 5) (pe_lst (pa_cons (pe_tup (pa_cons (pv 2) (pa_cons (pe_op op_catA (pe_tup (pa_cons (pe_tup (pa_cons pe_int (pa_cons pe_int (pa_cons pe_int (pa_cons pe_int pa_nil))))) pa_nil)) (pv 3)) pa_nil))) (pa_cons (pe_tup (pa_cons pe_int (pa_cons (pe_tup (pa_cons (pe_tup (pa_cons pe_int (pa_cons pe_int (pa_cons pe_int (pa_cons pe_int pa_nil))))) pa_nil)) pa_nil))) (pa_cons (pe_tup (pa_cons pe_int (pa_cons (pe_tup (pa_cons (pe_tup (pa_cons pe_int (pa_cons pe_int (pa_cons pe_int (pa_cons pe_int pa_nil))))) pa_nil)) pa_nil))) pa_nil))))))
      (pss_cut (ps_set (i := 5) scENoN.nd rfl (.inl rfl) (pe_op op_cat (pv 5) (pe_lst (pa_cons (pe_tup (pa_cons pe_int (pa_cons (pe_tup (pa_cons (pe_tup (pa_cons pe_int (pa_cons pe_int (pa_cons pe_int (pa_cons pe_int pa_nil))))) pa_nil)) pa_nil))) pa_nil))))
      (pss_cut (ps_set (i := 5) scENoN.nd rfl (.inl rfl) (pe_op op_cat (pv 5) (pe_lst (pa_cons (pe_tup (pa_cons pe_int (pa_cons (pe_tup (pa_cons (pe_tup (pa_cons pe_int (pa_cons pe_int (pa_cons pe_int (pa_cons pe_int pa_nil))))) (pa_cons (pe_tup (pa_cons pe_int (pa_cons pe_int (pa_cons pe_int (pa_cons pe_int pa_nil))))) pa_nil))) pa_nil))) (pa_cons (pe_tup (pa_cons pe_int (pa_cons (pe_tup (pa_cons (pe_tup (pa_cons pe_int (pa_cons pe_int (pa_cons pe_int (pa_cons pe_int pa_nil))))) (pa_cons (pe_tup (pa_cons pe_int (pa_cons pe_int (pa_cons pe_int (pa_cons pe_int pa_nil))))) pa_nil))) pa_nil))) pa_nil)))))
      (pss_cut (ps_set (i := 5) scENoN.nd rfl (.inl rfl) (pe_op op_cat (pv 5) (pe_lst (pa_cons (pe_tup (pa_cons pe_int (pa_cons (pe_tup (pa_cons (pe_tup (pa_cons pe_int (pa_cons pe_int (pa_cons pe_int (pa_cons pe_int pa_nil))))) (pa_cons (pe_tup (pa_cons pe_int (pa_cons pe_int (pa_cons pe_int (pa_cons pe_int pa_nil))))) pa_nil))) pa_nil))) pa_nil))))
      (pss_cut (ps_set (i := 5) scENoN.nd rfl (.inl rfl) (pe_op op_cat (pv 5) (pe_lst (pa_cons (pe_tup (pa_cons pe_int (pa_cons (pe_tup (pa_cons (pe_tup (pa_cons pe_int (pa_cons pe_int (pa_cons (pv 4) (pa_cons pe_int pa_nil))))) pa_nil)) pa_nil))) (pa_cons (pe_tup (pa_cons pe_int (pa_cons (pe_tup (pa_cons (pe_tup (pa_cons pe_int (pa_cons (pv 4) (pa_cons pe_int (pa_cons pe_int pa_nil))))) pa_nil)) pa_nil))) (pa_cons (pe_tup (pa_cons pe_int (pa_cons (pe_tup (pa_cons (pe_tup (pa_cons pe_int (pa_cons pe_int (pa_cons pe_int (pa_cons pe_int pa_nil))))) pa_nil)) pa_nil))) pa_nil))))))
      (pss_cut (ps_if (pt_cmpR op_gt (pe_callB call_len_seq (by rfl) m_len PySem.boot_len (pa_cons (pv 3) pa_nil)) pe_int (nomark _)) (pss_one (ps_set (i := 5) scENoN.nd rfl (.inl rfl) (pe_op op_cat (pv 5) (pe_lst (pa_cons (pe_tup (pa_cons (pv 2) (pa_cons (pe_revT (pv 3)) pa_nil))) (pa_cons (pe_tup (pa_cons (pv 2) (pa_cons (pe_op op_catA (pe_slice sl_tupA (pv 3) (po_some pe_int) po_none) (pe_slice sl_tupA (pv 3) po_none (po_some pe_int))) pa_nil))) (pa_cons (pe_tup (pa_cons (pv 2) (pa_cons (pe_op op_catA (pv 3) (pe_slice sl_tupA (pv 3) po_none (po_some pe_int))) pa_nil))) pa_nil))))))) pss_nil)
      (pss_one (ps_ret (pv 5))))))))))))), ?_⟩
    have hN := hA.toI
    obtain ⟨r, xs, s1, s2, s3⟩ := hN
    have hxl : xs.length = rs.length := by rw [s3.1, List.length_map]
    have hn1 := G.n1
    have hn2 := G.n2
    have hMn : Md n := ⟨by omega, by omega⟩
    have hMn1 : Md (n - 1) := ⟨by omega, by omega⟩
    have hrs : ∀ ns ∈ rs.map R4.is, ns.length = 4 ∧ ∀ i ∈ ns, Md i := fun ns hns => by
      obtain ⟨r, hr, rfl⟩ := List.mem_map.mp hns
      refine ⟨rfl, fun i hi => ?_⟩
      obtain ⟨a, b⟩ := (G.ok r hr).sm hn2 i hi
      exact ⟨a, by omega⟩
    -- n, roads
    refine ⟨fun σ' H' => σ' = [some (.ref t), some (.ref a), some (.int n), some (.ref r), none, none] ∧ H' = H, ?_, ?_⟩
    · exact ⟨_, rfl, a, _, rfl, s1, rfl, _, _, rfl, _, _, rfl, rfl, rfl, rfl⟩
    rintro σ' H' ⟨rfl, rfl⟩
    -- great
    refine ⟨fun σ' H2 => ∃ g : Int, σ' = [some (.ref t), some (.ref a), some (.int n), some (.ref r), some (.int g), none] ∧ 999000 ≤ g ∧ g ≤ 999999 ∧ NS K H' H2 t sc ns (b + 1) r xs rs, ?_, ?_⟩
    · refine ⟨10, 6, rfl, rfl, ⟨by decide, by decide, by decide⟩, _, 1, rfl, rfl, _, rfl, t, sc, 1000, ns, b, rfl, hT, by omega, by decide, by decide, fun d H2 d0 d1 k T => ⟨_, d, rfl, rfl, _, rfl, ?_, ?_, k, T, k.sqT s2, s3.kt k⟩⟩
      · have e : (10 : Int) ^ (6 : Int).toNat = 1000000 := by decide
        omega
      · have e : (10 : Int) ^ (6 : Int).toNat = 1000000 := by decide
        omega
    rintro σ' H0 ⟨g, rfl, hg1, hg2, hNS⟩
    have hMg : Md g := ⟨by omega, by omega⟩
    clear s1 s2 s3 hT
    -- found, 1
    refine ⟨fun σ' H'' => ∃ fp, σ' = [some (.ref t), some (.ref a), some (.int n), some (.ref r), some (.int g), some (.ref fp)] ∧ NS K H' H'' t sc ns (b + 1) r xs rs ∧ AllB K H' H'' fp 4, ?_, ?_⟩
    · refine ⟨few_n (xs := []) (by simp), fun p1 np2 => ?_⟩
      have k3 := K0.new np2 (o := .tup [])
      have s4 : SqT K (upd H0 p1 (.tup [])) p1 [] := .inl (.inl upd_same)
      generalize upd H0 p1 (.tup []) = G5 at k3 s4 ⊢
      replace hNS := hNS.k0 k3
      refine ⟨few_n (xs := [.int 0, .ref p1]) (by simp), fun p6 np7 => ?_⟩
      have k8 := K0.new np7 (o := .tup [.int 0, .ref p1])
      have s9 : SqT K (upd G5 p6 (.tup [.int 0, .ref p1])) p6 [.int 0, .ref p1] := .inl (.inl upd_same)
      generalize upd G5 p6 (.tup [.int 0, .ref p1]) = G10 at k8 s9 ⊢
      replace hNS := hNS.k0 k8
      replace s4 := k8.sqT s4
      have bd11 : BadI K G10 (.ref p6) := ⟨p6, 0, [], rfl, ⟨p1, _, s9, s4, (⟨rfl, fun i ns e => by cases e⟩ : RowsI K _ [] [])⟩, ⟨by decide, by decide⟩, all0m, by decide, bad_m (.inl (by decide))⟩
      refine ⟨_, rfl, ?_⟩
      refine ⟨few_n (xs := [.int 13, .ref r]) (by simp), fun p12 np13 => ?_⟩
      have k14 := K0.new np13 (o := .tup [.int 13, .ref r])
      have s15 : SqT K (upd G10 p12 (.tup [.int 13, .ref r])) p12 [.int 13, .ref r] := .inl (.inl upd_same)
      generalize upd G10 p12 (.tup [.int 13, .ref r]) = G16 at k14 s15 ⊢
      replace hNS := hNS.k0 k14
      replace bd11 := bd11.k0 k14
      replace s4 := k14.sqT s4
      have bd17 : BadI K G16 (.ref p12) := ⟨p12, 13, (rs.map R4.is), rfl, ⟨r, _, s15, hNS.s2, hNS.s3⟩, ⟨by decide, by decide⟩, hrs, by rw [List.length_map]; omega, bad_m (.inr (by decide))⟩
      refine ⟨_, rfl, ?_⟩
      refine ⟨_, rfl, ?_⟩
      refine ⟨few_n (xs := [.int g, .ref r]) (by simp), fun p18 np19 => ?_⟩
      have k20 := K0.new np19 (o := .tup [.int g, .ref r])
      have s21 : SqT K (upd G16 p18 (.tup [.int g, .ref r])) p18 [.int g, .ref r] := .inl (.inl upd_same)
      generalize upd G16 p18 (.tup [.int g, .ref r]) = G22 at k20 s21 ⊢
      replace hNS := hNS.k0 k20
      replace bd11 := bd11.k0 k20
      replace bd17 := bd17.k0 k20
      replace s4 := k20.sqT s4
      have bd23 : BadI K G22 (.ref p18) := ⟨p18, g, (rs.map R4.is), rfl, ⟨r, _, s21, hNS.s2, hNS.s3⟩, hMg, hrs, by rw [List.length_map]; omega, bad_m (.inr (by omega))⟩
      refine ⟨_, rfl, ?_⟩
      refine ⟨_, rfl, ?_⟩
      refine ⟨_, rfl, ?_⟩
      refine ⟨few_n (xs := [.int n, .int 0, .int 1, .int 1]) (by simp), fun p24 np25 => ?_⟩
      have k26 := K0.new np25 (o := .tup [.int n, .int 0, .int 1, .int 1])
      have s27 : SqT K (upd G22 p24 (.tup [.int n, .int 0, .int 1, .int 1])) p24 [.int n, .int 0, .int 1, .int 1] := .inl (.inl upd_same)
      generalize upd G22 p24 (.tup [.int n, .int 0, .int 1, .int 1]) = G28 at k26 s27 ⊢
      replace hNS := hNS.k0 k26
      replace bd11 := bd11.k0 k26
      replace bd17 := bd17.k0 k26
      replace bd23 := bd23.k0 k26
      replace s4 := k26.sqT s4
      refine ⟨few_n (xs := [.ref p24]) (by simp), fun p29 np30 => ?_⟩
      have k31 := K0.new np30 (o := .tup [.ref p24])
      have s32 : SqT K (upd G28 p29 (.tup [.ref p24])) p29 [.ref p24] := .inl (.inl upd_same)
      generalize upd G28 p29 (.tup [.ref p24]) = G33 at k31 s32 ⊢
      replace hNS := hNS.k0 k31
      replace bd11 := bd11.k0 k31
      replace bd17 := bd17.k0 k31
      replace bd23 := bd23.k0 k31
      replace s4 := k31.sqT s4
      replace s27 := k31.sqT s27
      have ri34 : RowsI K G33 _ [[n, 0, 1, 1]] := (RowsI.one (ns := [n, 0, 1, 1]) s27)
      have hm35 : ∀ ns ∈ ([[n, 0, 1, 1]] : List (List Int)), ns.length = 4 ∧ ∀ i ∈ ns, Md i := all2m (md4 hMn ⟨by decide, by decide⟩ ⟨by decide, by decide⟩ ⟨by decide, by decide⟩) (all0m)
      refine catQ hNS.s2 s32 (by rw [hxl]; simp; omega) fun b36 G37 k38 s39 => ?_
      replace hNS := hNS.k0 k38
      replace bd11 := bd11.k0 k38
      replace bd17 := bd17.k0 k38
      replace bd23 := bd23.k0 k38
      replace s4 := k38.sqT s4
      replace s27 := k38.sqT s27
      replace s32 := k38.sqT s32
      replace ri34 := ri34.k0 k38
      refine ⟨few_n (xs := [.int n, .ref b36]) (by simp), fun p40 np41 => ?_⟩
      have k42 := K0.new np41 (o := .tup [.int n, .ref b36])
      have s43 : SqT K (upd G37 p40 (.tup [.int n, .ref b36])) p40 [.int n, .ref b36] := .inl (.inl upd_same)
      generalize upd G37 p40 (.tup [.int n, .ref b36]) = G44 at k42 s43 ⊢
      replace hNS := hNS.k0 k42
      replace bd11 := bd11.k0 k42
      replace bd17 := bd17.k0 k42
      replace bd23 := bd23.k0 k42
      replace s4 := k42.sqT s4
      replace s27 := k42.sqT s27
      replace s32 := k42.sqT s32
      replace s39 := k42.sqT s39
      replace ri34 := ri34.k0 k42
      have bd45 : BadI K G44 (.ref p40) := ⟨p40, n, (rs.map R4.is ++ [[n, 0, 1, 1]]), rfl, ⟨b36, _, s43, s39, (hNS.s3.app ri34)⟩, hMn, (allAm hrs hm35), by rw [List.length_append, List.length_map]; simp; omega, bad_row (List.mem_append.mpr (.inr (List.mem_singleton.mpr rfl))) (road_no (by omega))⟩
      refine ⟨few_n (xs := [.ref p6, .ref p12, .ref p18, .ref p40]) (by simp), fun lp46 nl47 => ?_⟩
      have k48 := K0.new nl47 (o := .lst [.ref p6, .ref p12, .ref p18, .ref p40])
      exact ⟨lp46, rfl, hNS.k0 k48, [.ref p6, .ref p12, .ref p18, .ref p40], upd_same, fun x hx => (allV2 bd11 (allV2 bd17 (allV2 bd23 (allV2 bd45 (allV0)))) x hx).k0 k48, by simp, hNS.kt.dom _ nl47⟩
    clear hNS
    rintro σ' H1 ⟨fp, rfl, hNS, zs, hz, hzb, hzl, hz0⟩
    -- found, 2
    refine ⟨fun σ' H'' => ∃ fp, σ' = [some (.ref t), some (.ref a), some (.int n), some (.ref r), some (.int g), some (.ref fp)] ∧ NS K H' H'' t sc ns (b + 1) r xs rs ∧ AllB K H' H'' fp 5, ?_, ?_⟩
    · refine ⟨_, rfl, ?_⟩
      refine ⟨_, rfl, ?_⟩
      refine ⟨_, rfl, ?_⟩
      refine ⟨_, rfl, _, 1, rfl, rfl, ?_⟩
      refine ⟨_, rfl, ?_⟩
      refine ⟨few_n (xs := [.int (n - 1), .int n, .int 1, .int 1]) (by simp), fun p50 np51 => ?_⟩
      have k52 := K0.new np51 (o := .tup [.int (n - 1), .int n, .int 1, .int 1])
      have s53 : SqT K (upd H1 p50 (.tup [.int (n - 1), .int n, .int 1, .int 1])) p50 [.int (n - 1), .int n, .int 1, .int 1] := .inl (.inl upd_same)
      generalize upd H1 p50 (.tup [.int (n - 1), .int n, .int 1, .int 1]) = G54 at k52 s53 ⊢
      replace hNS := hNS.k0 k52
      replace hz := k52.oth fp _ hz (fun _ z => by cases z)
      replace hzb := fun x hx => (hzb x hx).k0 k52
      refine ⟨few_n (xs := [.ref p50]) (by simp), fun p55 np56 => ?_⟩
      have k57 := K0.new np56 (o := .tup [.ref p50])
      have s58 : SqT K (upd G54 p55 (.tup [.ref p50])) p55 [.ref p50] := .inl (.inl upd_same)
      generalize upd G54 p55 (.tup [.ref p50]) = G59 at k57 s58 ⊢
      replace hNS := hNS.k0 k57
      replace hz := k57.oth fp _ hz (fun _ z => by cases z)
      replace hzb := fun x hx => (hzb x hx).k0 k57
      replace s53 := k57.sqT s53
      have ri60 : RowsI K G59 _ [[(n - 1), n, 1, 1]] := (RowsI.one (ns := [(n - 1), n, 1, 1]) s53)
      have hm61 : ∀ ns ∈ ([[(n - 1), n, 1, 1]] : List (List Int)), ns.length = 4 ∧ ∀ i ∈ ns, Md i := all2m (md4 hMn1 hMn ⟨by decide, by decide⟩ ⟨by decide, by decide⟩) (all0m)
      refine catQ hNS.s2 s58 (by rw [hxl]; simp; omega) fun b62 G63 k64 s65 => ?_
      replace hNS := hNS.k0 k64
      replace hz := k64.oth fp _ hz (fun _ z => by cases z)
      replace hzb := fun x hx => (hzb x hx).k0 k64
      replace s53 := k64.sqT s53
      replace s58 := k64.sqT s58
      replace ri60 := ri60.k0 k64
      refine ⟨few_n (xs := [.int n, .ref b62]) (by simp), fun p66 np67 => ?_⟩
      have k68 := K0.new np67 (o := .tup [.int n, .ref b62])
      have s69 : SqT K (upd G63 p66 (.tup [.int n, .ref b62])) p66 [.int n, .ref b62] := .inl (.inl upd_same)
      generalize upd G63 p66 (.tup [.int n, .ref b62]) = G70 at k68 s69 ⊢
      replace hNS := hNS.k0 k68
      replace hz := k68.oth fp _ hz (fun _ z => by cases z)
      replace hzb := fun x hx => (hzb x hx).k0 k68
      replace s53 := k68.sqT s53
      replace s58 := k68.sqT s58
      replace s65 := k68.sqT s65
      replace ri60 := ri60.k0 k68
      have bd71 : BadI K G70 (.ref p66) := ⟨p66, n, (rs.map R4.is ++ [[(n - 1), n, 1, 1]]), rfl, ⟨b62, _, s69, s65, (hNS.s3.app ri60)⟩, hMn, (allAm hrs hm61), by rw [List.length_append, List.length_map]; simp; omega, bad_row (List.mem_append.mpr (.inr (List.mem_singleton.mpr rfl))) (road_no (by omega))⟩
      refine ⟨few_n (xs := [.ref p66]) (by simp), fun lp72 nl73 => ?_⟩
      have k74 := K0.new nl73 (o := .lst [.ref p66])
      have ql76 : upd G70 lp72 (.lst [.ref p66]) lp72 = some (.lst [.ref p66]) := upd_same
      have hall := allV2 bd71 (allV0)
      generalize upd G70 lp72 (.lst [.ref p66]) = G75 at k74 ql76 ⊢
      replace hNS := hNS.k0 k74
      replace hz := k74.oth fp _ hz (fun _ z => by cases z)
      replace hzb := fun x hx => (hzb x hx).k0 k74
      replace s53 := k74.sqT s53
      replace s58 := k74.sqT s58
      replace s65 := k74.sqT s65
      replace ri60 := ri60.k0 k74
      replace hall := fun x hx => (hall x hx).k0 k74
      refine ⟨fp, lp72, _, _, rfl, rfl, hz, ql76, (by rw [sizeLine_eq]; show zs.length + 1 ≤ 16777216; omega), fun p77 np78 => ?_⟩
      have kE := K0.new np78 (o := .lst (zs ++ [.ref p66]))
      exact ⟨p77, rfl, hNS.k0 kE, zs ++ [.ref p66], upd_same, fun x hx => (allVA hzb hall x hx).k0 kE, (by rw [List.length_append]; show zs.length + 1 ≤ 5; omega), hNS.kt.dom _ np78⟩
    clear hNS hz hzb hzl hz0 zs fp H1
    rintro σ' H1 ⟨fp, rfl, hNS, zs, hz, hzb, hzl, hz0⟩
    -- found, 3
    refine ⟨fun σ' H'' => ∃ fp, σ' = [some (.ref t), some (.ref a), some (.int n), some (.ref r), some (.int g), some (.ref fp)] ∧ NS K H' H'' t sc ns (b + 1) r xs rs ∧ AllB K H' H'' fp 8, ?_, ?_⟩
    · refine ⟨_, rfl, ?_⟩
      refine ⟨_, rfl, ?_⟩
      refine ⟨few_n (xs := [.int 0, .int 0, .int 1, .int 1]) (by simp), fun p79 np80 => ?_⟩
      have k81 := K0.new np80 (o := .tup [.int 0, .int 0, .int 1, .int 1])
      have s82 : SqT K (upd H1 p79 (.tup [.int 0, .int 0, .int 1, .int 1])) p79 [.int 0, .int 0, .int 1, .int 1] := .inl (.inl upd_same)
      generalize upd H1 p79 (.tup [.int 0, .int 0, .int 1, .int 1]) = G83 at k81 s82 ⊢
      replace hNS := hNS.k0 k81
      replace hz := k81.oth fp _ hz (fun _ z => by cases z)
      replace hzb := fun x hx => (hzb x hx).k0 k81
      refine ⟨few_n (xs := [.ref p79]) (by simp), fun p84 np85 => ?_⟩
      have k86 := K0.new np85 (o := .tup [.ref p79])
      have s87 : SqT K (upd G83 p84 (.tup [.ref p79])) p84 [.ref p79] := .inl (.inl upd_same)
      generalize upd G83 p84 (.tup [.ref p79]) = G88 at k86 s87 ⊢
      replace hNS := hNS.k0 k86
      replace hz := k86.oth fp _ hz (fun _ z => by cases z)
      replace hzb := fun x hx => (hzb x hx).k0 k86
      replace s82 := k86.sqT s82
      have ri89 : RowsI K G88 _ [[0, 0, 1, 1]] := (RowsI.one (ns := [0, 0, 1, 1]) s82)
      have hm90 : ∀ ns ∈ ([[0, 0, 1, 1]] : List (List Int)), ns.length = 4 ∧ ∀ i ∈ ns, Md i := all2m (md4 ⟨by decide, by decide⟩ ⟨by decide, by decide⟩ ⟨by decide, by decide⟩ ⟨by decide, by decide⟩) (all0m)
      refine ⟨_, rfl, ?_⟩
      refine catQ s87 hNS.s2 (by rw [hxl]; simp; omega) fun b91 G92 k93 s94 => ?_
      replace hNS := hNS.k0 k93
      replace hz := k93.oth fp _ hz (fun _ z => by cases z)
      replace hzb := fun x hx => (hzb x hx).k0 k93
      replace s82 := k93.sqT s82
      replace s87 := k93.sqT s87
      replace ri89 := ri89.k0 k93
      refine ⟨few_n (xs := [.int n, .ref b91]) (by simp), fun p95 np96 => ?_⟩
      have k97 := K0.new np96 (o := .tup [.int n, .ref b91])
      have s98 : SqT K (upd G92 p95 (.tup [.int n, .ref b91])) p95 [.int n, .ref b91] := .inl (.inl upd_same)
      generalize upd G92 p95 (.tup [.int n, .ref b91]) = G99 at k97 s98 ⊢
      replace hNS := hNS.k0 k97
      replace hz := k97.oth fp _ hz (fun _ z => by cases z)
      replace hzb := fun x hx => (hzb x hx).k0 k97
      replace s82 := k97.sqT s82
      replace s87 := k97.sqT s87
      replace s94 := k97.sqT s94
      replace ri89 := ri89.k0 k97
      have bd100 : BadI K G99 (.ref p95) := ⟨p95, n, ([[0, 0, 1, 1]] ++ rs.map R4.is), rfl, ⟨b91, _, s98, s94, (ri89.app hNS.s3)⟩, hMn, (allAm hm90 hrs), by rw [List.length_append, List.length_map]; simp; omega, bad_row (List.mem_append.mpr (.inl (List.mem_singleton.mpr rfl))) (road_no (by omega))⟩
      refine ⟨few_n (xs := [.int 0, .int 1, .int 1001, .int 1]) (by simp), fun p101 np102 => ?_⟩
      have k103 := K0.new np102 (o := .tup [.int 0, .int 1, .int 1001, .int 1])
      have s104 : SqT K (upd G99 p101 (.tup [.int 0, .int 1, .int 1001, .int 1])) p101 [.int 0, .int 1, .int 1001, .int 1] := .inl (.inl upd_same)
      generalize upd G99 p101 (.tup [.int 0, .int 1, .int 1001, .int 1]) = G105 at k103 s104 ⊢
      replace hNS := hNS.k0 k103
      replace hz := k103.oth fp _ hz (fun _ z => by cases z)
      replace hzb := fun x hx => (hzb x hx).k0 k103
      replace bd100 := bd100.k0 k103
      replace s82 := k103.sqT s82
      replace s87 := k103.sqT s87
      replace s94 := k103.sqT s94
      replace ri89 := ri89.k0 k103
      refine ⟨few_n (xs := [.ref p101]) (by simp), fun p106 np107 => ?_⟩
      have k108 := K0.new np107 (o := .tup [.ref p101])
      have s109 : SqT K (upd G105 p106 (.tup [.ref p101])) p106 [.ref p101] := .inl (.inl upd_same)
      generalize upd G105 p106 (.tup [.ref p101]) = G110 at k108 s109 ⊢
      replace hNS := hNS.k0 k108
      replace hz := k108.oth fp _ hz (fun _ z => by cases z)
      replace hzb := fun x hx => (hzb x hx).k0 k108
      replace bd100 := bd100.k0 k108
      replace s82 := k108.sqT s82
      replace s87 := k108.sqT s87
      replace s94 := k108.sqT s94
      replace s104 := k108.sqT s104
      replace ri89 := ri89.k0 k108
      have ri111 : RowsI K G110 _ [[0, 1, 1001, 1]] := (RowsI.one (ns := [0, 1, 1001, 1]) s104)
      have hm112 : ∀ ns ∈ ([[0, 1, 1001, 1]] : List (List Int)), ns.length = 4 ∧ ∀ i ∈ ns, Md i := all2m (md4 ⟨by decide, by decide⟩ ⟨by decide, by decide⟩ ⟨by decide, by decide⟩ ⟨by decide, by decide⟩) (all0m)
      refine ⟨few_n (xs := [.int 2, .ref p106]) (by simp), fun p113 np114 => ?_⟩
      have k115 := K0.new np114 (o := .tup [.int 2, .ref p106])
      have s116 : SqT K (upd G110 p113 (.tup [.int 2, .ref p106])) p113 [.int 2, .ref p106] := .inl (.inl upd_same)
      generalize upd G110 p113 (.tup [.int 2, .ref p106]) = G117 at k115 s116 ⊢
      replace hNS := hNS.k0 k115
      replace hz := k115.oth fp _ hz (fun _ z => by cases z)
      replace hzb := fun x hx => (hzb x hx).k0 k115
      replace bd100 := bd100.k0 k115
      replace s82 := k115.sqT s82
      replace s87 := k115.sqT s87
      replace s94 := k115.sqT s94
      replace s104 := k115.sqT s104
      replace s109 := k115.sqT s109
      replace ri89 := ri89.k0 k115
      replace ri111 := ri111.k0 k115
      have bd118 : BadI K G117 (.ref p113) := ⟨p113, 2, [[0, 1, 1001, 1]], rfl, ⟨p106, _, s116, s109, ri111⟩, ⟨by decide, by decide⟩, hm112, by simp, by decide +kernel⟩
      refine ⟨few_n (xs := [.int 0, .int 1, .int 1, .int 0]) (by simp), fun p119 np120 => ?_⟩
      have k121 := K0.new np120 (o := .tup [.int 0, .int 1, .int 1, .int 0])
      have s122 : SqT K (upd G117 p119 (.tup [.int 0, .int 1, .int 1, .int 0])) p119 [.int 0, .int 1, .int 1, .int 0] := .inl (.inl upd_same)
      generalize upd G117 p119 (.tup [.int 0, .int 1, .int 1, .int 0]) = G123 at k121 s122 ⊢
      replace hNS := hNS.k0 k121
      replace hz := k121.oth fp _ hz (fun _ z => by cases z)
      replace hzb := fun x hx => (hzb x hx).k0 k121
      replace bd100 := bd100.k0 k121
      replace bd118 := bd118.k0 k121
      replace s82 := k121.sqT s82
      replace s87 := k121.sqT s87
      replace s94 := k121.sqT s94
      replace s104 := k121.sqT s104
      replace s109 := k121.sqT s109
      replace ri89 := ri89.k0 k121
      replace ri111 := ri111.k0 k121
      refine ⟨few_n (xs := [.ref p119]) (by simp), fun p124 np125 => ?_⟩
      have k126 := K0.new np125 (o := .tup [.ref p119])
      have s127 : SqT K (upd G123 p124 (.tup [.ref p119])) p124 [.ref p119] := .inl (.inl upd_same)
      generalize upd G123 p124 (.tup [.ref p119]) = G128 at k126 s127 ⊢
      replace hNS := hNS.k0 k126
      replace hz := k126.oth fp _ hz (fun _ z => by cases z)
      replace hzb := fun x hx => (hzb x hx).k0 k126
      replace bd100 := bd100.k0 k126
      replace bd118 := bd118.k0 k126
      replace s82 := k126.sqT s82
      replace s87 := k126.sqT s87
      replace s94 := k126.sqT s94
      replace s104 := k126.sqT s104
      replace s109 := k126.sqT s109
      replace s122 := k126.sqT s122
      replace ri89 := ri89.k0 k126
      replace ri111 := ri111.k0 k126
      have ri129 : RowsI K G128 _ [[0, 1, 1, 0]] := (RowsI.one (ns := [0, 1, 1, 0]) s122)
      have hm130 : ∀ ns ∈ ([[0, 1, 1, 0]] : List (List Int)), ns.length = 4 ∧ ∀ i ∈ ns, Md i := all2m (md4 ⟨by decide, by decide⟩ ⟨by decide, by decide⟩ ⟨by decide, by decide⟩ ⟨by decide, by decide⟩) (all0m)
      refine ⟨few_n (xs := [.int 2, .ref p124]) (by simp), fun p131 np132 => ?_⟩
      have k133 := K0.new np132 (o := .tup [.int 2, .ref p124])
      have s134 : SqT K (upd G128 p131 (.tup [.int 2, .ref p124])) p131 [.int 2, .ref p124] := .inl (.inl upd_same)
      generalize upd G128 p131 (.tup [.int 2, .ref p124]) = G135 at k133 s134 ⊢
      replace hNS := hNS.k0 k133
      replace hz := k133.oth fp _ hz (fun _ z => by cases z)
      replace hzb := fun x hx => (hzb x hx).k0 k133
      replace bd100 := bd100.k0 k133
      replace bd118 := bd118.k0 k133
      replace s82 := k133.sqT s82
      replace s87 := k133.sqT s87
      replace s94 := k133.sqT s94
      replace s104 := k133.sqT s104
      replace s109 := k133.sqT s109
      replace s122 := k133.sqT s122
      replace s127 := k133.sqT s127
      replace ri89 := ri89.k0 k133
      replace ri111 := ri111.k0 k133
      replace ri129 := ri129.k0 k133
      have bd136 : BadI K G135 (.ref p131) := ⟨p131, 2, [[0, 1, 1, 0]], rfl, ⟨p124, _, s134, s127, ri129⟩, ⟨by decide, by decide⟩, hm130, by simp, by decide +kernel⟩
      refine ⟨few_n (xs := [.ref p95, .ref p113, .ref p131]) (by simp), fun lp137 nl138 => ?_⟩
      have k139 := K0.new nl138 (o := .lst [.ref p95, .ref p113, .ref p131])
      have ql141 : upd G135 lp137 (.lst [.ref p95, .ref p113, .ref p131]) lp137 = some (.lst [.ref p95, .ref p113, .ref p131]) := upd_same
      have hall := allV2 bd100 (allV2 bd118 (allV2 bd136 (allV0)))
      generalize upd G135 lp137 (.lst [.ref p95, .ref p113, .ref p131]) = G140 at k139 ql141 ⊢
      replace hNS := hNS.k0 k139
      replace hz := k139.oth fp _ hz (fun _ z => by cases z)
      replace hzb := fun x hx => (hzb x hx).k0 k139
      replace s82 := k139.sqT s82
      replace s87 := k139.sqT s87
      replace s94 := k139.sqT s94
      replace s104 := k139.sqT s104
      replace s109 := k139.sqT s109
      replace s122 := k139.sqT s122
      replace s127 := k139.sqT s127
      replace ri89 := ri89.k0 k139
      replace ri111 := ri111.k0 k139
      replace ri129 := ri129.k0 k139
      replace hall := fun x hx => (hall x hx).k0 k139
      refine ⟨fp, lp137, _, _, rfl, rfl, hz, ql141, (by rw [sizeLine_eq]; show zs.length + 3 ≤ 16777216; omega), fun p142 np143 => ?_⟩
      have kE := K0.new np143 (o := .lst (zs ++ [.ref p95, .ref p113, .ref p131]))
      exact ⟨p142, rfl, hNS.k0 kE, zs ++ [.ref p95, .ref p113, .ref p131], upd_same, fun x hx => (allVA hzb hall x hx).k0 kE, (by rw [List.length_append]; show zs.length + 3 ≤ 8; omega), hNS.kt.dom _ np143⟩
    clear hNS hz hzb hzl hz0 zs fp H1
    rintro σ' H1 ⟨fp, rfl, hNS, zs, hz, hzb, hzl, hz0⟩
    -- found, 4
    refine ⟨fun σ' H'' => ∃ fp, σ' = [some (.ref t), some (.ref a), some (.int n), some (.ref r), some (.int g), some (.ref fp)] ∧ NS K H' H'' t sc ns (b + 1) r xs rs ∧ AllB K H' H'' fp 9, ?_, ?_⟩
    · refine ⟨_, rfl, ?_⟩
      refine ⟨few_n (xs := [.int 0, .int 1, .int 1, .int 1001]) (by simp), fun p144 np145 => ?_⟩
      have k146 := K0.new np145 (o := .tup [.int 0, .int 1, .int 1, .int 1001])
      have s147 : SqT K (upd H1 p144 (.tup [.int 0, .int 1, .int 1, .int 1001])) p144 [.int 0, .int 1, .int 1, .int 1001] := .inl (.inl upd_same)
      generalize upd H1 p144 (.tup [.int 0, .int 1, .int 1, .int 1001]) = G148 at k146 s147 ⊢
      replace hNS := hNS.k0 k146
      replace hz := k146.oth fp _ hz (fun _ z => by cases z)
      replace hzb := fun x hx => (hzb x hx).k0 k146
      refine ⟨few_n (xs := [.ref p144]) (by simp), fun p149 np150 => ?_⟩
      have k151 := K0.new np150 (o := .tup [.ref p144])
      have s152 : SqT K (upd G148 p149 (.tup [.ref p144])) p149 [.ref p144] := .inl (.inl upd_same)
      generalize upd G148 p149 (.tup [.ref p144]) = G153 at k151 s152 ⊢
      replace hNS := hNS.k0 k151
      replace hz := k151.oth fp _ hz (fun _ z => by cases z)
      replace hzb := fun x hx => (hzb x hx).k0 k151
      replace s147 := k151.sqT s147
      have ri154 : RowsI K G153 _ [[0, 1, 1, 1001]] := (RowsI.one (ns := [0, 1, 1, 1001]) s147)
      have hm155 : ∀ ns ∈ ([[0, 1, 1, 1001]] : List (List Int)), ns.length = 4 ∧ ∀ i ∈ ns, Md i := all2m (md4 ⟨by decide, by decide⟩ ⟨by decide, by decide⟩ ⟨by decide, by decide⟩ ⟨by decide, by decide⟩) (all0m)
      refine ⟨few_n (xs := [.int 2, .ref p149]) (by simp), fun p156 np157 => ?_⟩
      have k158 := K0.new np157 (o := .tup [.int 2, .ref p149])
      have s159 : SqT K (upd G153 p156 (.tup [.int 2, .ref p149])) p156 [.int 2, .ref p149] := .inl (.inl upd_same)
      generalize upd G153 p156 (.tup [.int 2, .ref p149]) = G160 at k158 s159 ⊢
      replace hNS := hNS.k0 k158
      replace hz := k158.oth fp _ hz (fun _ z => by cases z)
      replace hzb := fun x hx => (hzb x hx).k0 k158
      replace s147 := k158.sqT s147
      replace s152 := k158.sqT s152
      replace ri154 := ri154.k0 k158
      have bd161 : BadI K G160 (.ref p156) := ⟨p156, 2, [[0, 1, 1, 1001]], rfl, ⟨p149, _, s159, s152, ri154⟩, ⟨by decide, by decide⟩, hm155, by simp, by decide +kernel⟩
      refine ⟨few_n (xs := [.ref p156]) (by simp), fun lp162 nl163 => ?_⟩
      have k164 := K0.new nl163 (o := .lst [.ref p156])
      have ql166 : upd G160 lp162 (.lst [.ref p156]) lp162 = some (.lst [.ref p156]) := upd_same
      have hall := allV2 bd161 (allV0)
      generalize upd G160 lp162 (.lst [.ref p156]) = G165 at k164 ql166 ⊢
      replace hNS := hNS.k0 k164
      replace hz := k164.oth fp _ hz (fun _ z => by cases z)
      replace hzb := fun x hx => (hzb x hx).k0 k164
      replace s147 := k164.sqT s147
      replace s152 := k164.sqT s152
      replace ri154 := ri154.k0 k164
      replace hall := fun x hx => (hall x hx).k0 k164
      refine ⟨fp, lp162, _, _, rfl, rfl, hz, ql166, (by rw [sizeLine_eq]; show zs.length + 1 ≤ 16777216; omega), fun p167 np168 => ?_⟩
      have kE := K0.new np168 (o := .lst (zs ++ [.ref p156]))
      exact ⟨p167, rfl, hNS.k0 kE, zs ++ [.ref p156], upd_same, fun x hx => (allVA hzb hall x hx).k0 kE, (by rw [List.length_append]; show zs.length + 1 ≤ 9; omega), hNS.kt.dom _ np168⟩
    clear hNS hz hzb hzl hz0 zs fp H1
    rintro σ' H1 ⟨fp, rfl, hNS, zs, hz, hzb, hzl, hz0⟩
    -- found, 5
    refine ⟨fun σ' H'' => ∃ fp, σ' = [some (.ref t), some (.ref a), some (.int n), some (.ref r), some (.int g), some (.ref fp)] ∧ NS K H' H'' t sc ns (b + 1) r xs rs ∧ AllB K H' H'' fp 11, ?_, ?_⟩
    · refine ⟨_, rfl, ?_⟩
      refine ⟨few_n (xs := [.int 1, .int 0, .int 1, .int 1]) (by simp), fun p169 np170 => ?_⟩
      have k171 := K0.new np170 (o := .tup [.int 1, .int 0, .int 1, .int 1])
      have s172 : SqT K (upd H1 p169 (.tup [.int 1, .int 0, .int 1, .int 1])) p169 [.int 1, .int 0, .int 1, .int 1] := .inl (.inl upd_same)
      generalize upd H1 p169 (.tup [.int 1, .int 0, .int 1, .int 1]) = G173 at k171 s172 ⊢
      replace hNS := hNS.k0 k171
      replace hz := k171.oth fp _ hz (fun _ z => by cases z)
      replace hzb := fun x hx => (hzb x hx).k0 k171
      refine ⟨few_n (xs := [.int 0, .int 1, .int 1, .int 1]) (by simp), fun p174 np175 => ?_⟩
      have k176 := K0.new np175 (o := .tup [.int 0, .int 1, .int 1, .int 1])
      have s177 : SqT K (upd G173 p174 (.tup [.int 0, .int 1, .int 1, .int 1])) p174 [.int 0, .int 1, .int 1, .int 1] := .inl (.inl upd_same)
      generalize upd G173 p174 (.tup [.int 0, .int 1, .int 1, .int 1]) = G178 at k176 s177 ⊢
      replace hNS := hNS.k0 k176
      replace hz := k176.oth fp _ hz (fun _ z => by cases z)
      replace hzb := fun x hx => (hzb x hx).k0 k176
      replace s172 := k176.sqT s172
      refine ⟨few_n (xs := [.ref p169, .ref p174]) (by simp), fun p179 np180 => ?_⟩
      have k181 := K0.new np180 (o := .tup [.ref p169, .ref p174])
      have s182 : SqT K (upd G178 p179 (.tup [.ref p169, .ref p174])) p179 [.ref p169, .ref p174] := .inl (.inl upd_same)
      generalize upd G178 p179 (.tup [.ref p169, .ref p174]) = G183 at k181 s182 ⊢
      replace hNS := hNS.k0 k181
      replace hz := k181.oth fp _ hz (fun _ z => by cases z)
      replace hzb := fun x hx => (hzb x hx).k0 k181
      replace s172 := k181.sqT s172
      replace s177 := k181.sqT s177
      have ri184 : RowsI K G183 _ [[1, 0, 1, 1], [0, 1, 1, 1]] := (RowsI.app (RowsI.one (ns := [1, 0, 1, 1]) s172) (RowsI.one (ns := [0, 1, 1, 1]) s177))
      have hm185 : ∀ ns ∈ ([[1, 0, 1, 1], [0, 1, 1, 1]] : List (List Int)), ns.length = 4 ∧ ∀ i ∈ ns, Md i := all2m (md4 ⟨by decide, by decide⟩ ⟨by decide, by decide⟩ ⟨by decide, by decide⟩ ⟨by decide, by decide⟩) (all2m (md4 ⟨by decide, by decide⟩ ⟨by decide, by decide⟩ ⟨by decide, by decide⟩ ⟨by decide, by decide⟩) (all0m))
      refine ⟨few_n (xs := [.int 2, .ref p179]) (by simp), fun p186 np187 => ?_⟩
      have k188 := K0.new np187 (o := .tup [.int 2, .ref p179])
      have s189 : SqT K (upd G183 p186 (.tup [.int 2, .ref p179])) p186 [.int 2, .ref p179] := .inl (.inl upd_same)
      generalize upd G183 p186 (.tup [.int 2, .ref p179]) = G190 at k188 s189 ⊢
      replace hNS := hNS.k0 k188
      replace hz := k188.oth fp _ hz (fun _ z => by cases z)
      replace hzb := fun x hx => (hzb x hx).k0 k188
      replace s172 := k188.sqT s172
      replace s177 := k188.sqT s177
      replace s182 := k188.sqT s182
      replace ri184 := ri184.k0 k188
      have bd191 : BadI K G190 (.ref p186) := ⟨p186, 2, [[1, 0, 1, 1], [0, 1, 1, 1]], rfl, ⟨p179, _, s189, s182, ri184⟩, ⟨by decide, by decide⟩, hm185, by simp, by decide +kernel⟩
      refine ⟨few_n (xs := [.int 0, .int 1, .int 1, .int 1]) (by simp), fun p192 np193 => ?_⟩
      have k194 := K0.new np193 (o := .tup [.int 0, .int 1, .int 1, .int 1])
      have s195 : SqT K (upd G190 p192 (.tup [.int 0, .int 1, .int 1, .int 1])) p192 [.int 0, .int 1, .int 1, .int 1] := .inl (.inl upd_same)
      generalize upd G190 p192 (.tup [.int 0, .int 1, .int 1, .int 1]) = G196 at k194 s195 ⊢
      replace hNS := hNS.k0 k194
      replace hz := k194.oth fp _ hz (fun _ z => by cases z)
      replace hzb := fun x hx => (hzb x hx).k0 k194
      replace bd191 := bd191.k0 k194
      replace s172 := k194.sqT s172
      replace s177 := k194.sqT s177
      replace s182 := k194.sqT s182
      replace ri184 := ri184.k0 k194
      refine ⟨few_n (xs := [.int 0, .int 1, .int 1, .int 1]) (by simp), fun p197 np198 => ?_⟩
      have k199 := K0.new np198 (o := .tup [.int 0, .int 1, .int 1, .int 1])
      have s200 : SqT K (upd G196 p197 (.tup [.int 0, .int 1, .int 1, .int 1])) p197 [.int 0, .int 1, .int 1, .int 1] := .inl (.inl upd_same)
      generalize upd G196 p197 (.tup [.int 0, .int 1, .int 1, .int 1]) = G201 at k199 s200 ⊢
      replace hNS := hNS.k0 k199
      replace hz := k199.oth fp _ hz (fun _ z => by cases z)
      replace hzb := fun x hx => (hzb x hx).k0 k199
      replace bd191 := bd191.k0 k199
      replace s172 := k199.sqT s172
      replace s177 := k199.sqT s177
      replace s182 := k199.sqT s182
      replace s195 := k199.sqT s195
      replace ri184 := ri184.k0 k199
      refine ⟨few_n (xs := [.ref p192, .ref p197]) (by simp), fun p202 np203 => ?_⟩
      have k204 := K0.new np203 (o := .tup [.ref p192, .ref p197])
      have s205 : SqT K (upd G201 p202 (.tup [.ref p192, .ref p197])) p202 [.ref p192, .ref p197] := .inl (.inl upd_same)
      generalize upd G201 p202 (.tup [.ref p192, .ref p197]) = G206 at k204 s205 ⊢
      replace hNS := hNS.k0 k204
      replace hz := k204.oth fp _ hz (fun _ z => by cases z)
      replace hzb := fun x hx => (hzb x hx).k0 k204
      replace bd191 := bd191.k0 k204
      replace s172 := k204.sqT s172
      replace s177 := k204.sqT s177
      replace s182 := k204.sqT s182
      replace s195 := k204.sqT s195
      replace s200 := k204.sqT s200
      replace ri184 := ri184.k0 k204
      have ri207 : RowsI K G206 _ [[0, 1, 1, 1], [0, 1, 1, 1]] := (RowsI.app (RowsI.one (ns := [0, 1, 1, 1]) s195) (RowsI.one (ns := [0, 1, 1, 1]) s200))
      have hm208 : ∀ ns ∈ ([[0, 1, 1, 1], [0, 1, 1, 1]] : List (List Int)), ns.length = 4 ∧ ∀ i ∈ ns, Md i := all2m (md4 ⟨by decide, by decide⟩ ⟨by decide, by decide⟩ ⟨by decide, by decide⟩ ⟨by decide, by decide⟩) (all2m (md4 ⟨by decide, by decide⟩ ⟨by decide, by decide⟩ ⟨by decide, by decide⟩ ⟨by decide, by decide⟩) (all0m))
      refine ⟨few_n (xs := [.int 2, .ref p202]) (by simp), fun p209 np210 => ?_⟩
      have k211 := K0.new np210 (o := .tup [.int 2, .ref p202])
      have s212 : SqT K (upd G206 p209 (.tup [.int 2, .ref p202])) p209 [.int 2, .ref p202] := .inl (.inl upd_same)
      generalize upd G206 p209 (.tup [.int 2, .ref p202]) = G213 at k211 s212 ⊢
      replace hNS := hNS.k0 k211
      replace hz := k211.oth fp _ hz (fun _ z => by cases z)
      replace hzb := fun x hx => (hzb x hx).k0 k211
      replace bd191 := bd191.k0 k211
      replace s172 := k211.sqT s172
      replace s177 := k211.sqT s177
      replace s182 := k211.sqT s182
      replace s195 := k211.sqT s195
      replace s200 := k211.sqT s200
      replace s205 := k211.sqT s205
      replace ri184 := ri184.k0 k211
      replace ri207 := ri207.k0 k211
      have bd214 : BadI K G213 (.ref p209) := ⟨p209, 2, [[0, 1, 1, 1], [0, 1, 1, 1]], rfl, ⟨p202, _, s212, s205, ri207⟩, ⟨by decide, by decide⟩, hm208, by simp, by decide +kernel⟩
      refine ⟨few_n (xs := [.ref p186, .ref p209]) (by simp), fun lp215 nl216 => ?_⟩
      have k217 := K0.new nl216 (o := .lst [.ref p186, .ref p209])
      have ql219 : upd G213 lp215 (.lst [.ref p186, .ref p209]) lp215 = some (.lst [.ref p186, .ref p209]) := upd_same
      have hall := allV2 bd191 (allV2 bd214 (allV0))
      generalize upd G213 lp215 (.lst [.ref p186, .ref p209]) = G218 at k217 ql219 ⊢
      replace hNS := hNS.k0 k217
      replace hz := k217.oth fp _ hz (fun _ z => by cases z)
      replace hzb := fun x hx => (hzb x hx).k0 k217
      replace s172 := k217.sqT s172
      replace s177 := k217.sqT s177
      replace s182 := k217.sqT s182
      replace s195 := k217.sqT s195
      replace s200 := k217.sqT s200
      replace s205 := k217.sqT s205
      replace ri184 := ri184.k0 k217
      replace ri207 := ri207.k0 k217
      replace hall := fun x hx => (hall x hx).k0 k217
      refine ⟨fp, lp215, _, _, rfl, rfl, hz, ql219, (by rw [sizeLine_eq]; show zs.length + 2 ≤ 16777216; omega), fun p220 np221 => ?_⟩
      have kE := K0.new np221 (o := .lst (zs ++ [.ref p186, .ref p209]))
      exact ⟨p220, rfl, hNS.k0 kE, zs ++ [.ref p186, .ref p209], upd_same, fun x hx => (allVA hzb hall x hx).k0 kE, (by rw [List.length_append]; show zs.length + 2 ≤ 11; omega), hNS.kt.dom _ np221⟩
    clear hNS hz hzb hzl hz0 zs fp H1
    rintro σ' H1 ⟨fp, rfl, hNS, zs, hz, hzb, hzl, hz0⟩
    -- found, 6
    refine ⟨fun σ' H'' => ∃ fp, σ' = [some (.ref t), some (.ref a), some (.int n), some (.ref r), some (.int g), some (.ref fp)] ∧ NS K H' H'' t sc ns (b + 1) r xs rs ∧ AllB K H' H'' fp 12, ?_, ?_⟩
    · refine ⟨_, rfl, ?_⟩
      refine ⟨few_n (xs := [.int 0, .int 1, .int 1, .int 1]) (by simp), fun p222 np223 => ?_⟩
      have k224 := K0.new np223 (o := .tup [.int 0, .int 1, .int 1, .int 1])
      have s225 : SqT K (upd H1 p222 (.tup [.int 0, .int 1, .int 1, .int 1])) p222 [.int 0, .int 1, .int 1, .int 1] := .inl (.inl upd_same)
      generalize upd H1 p222 (.tup [.int 0, .int 1, .int 1, .int 1]) = G226 at k224 s225 ⊢
      replace hNS := hNS.k0 k224
      replace hz := k224.oth fp _ hz (fun _ z => by cases z)
      replace hzb := fun x hx => (hzb x hx).k0 k224
      refine ⟨few_n (xs := [.int 0, .int 1, .int 2, .int 1]) (by simp), fun p227 np228 => ?_⟩
      have k229 := K0.new np228 (o := .tup [.int 0, .int 1, .int 2, .int 1])
      have s230 : SqT K (upd G226 p227 (.tup [.int 0, .int 1, .int 2, .int 1])) p227 [.int 0, .int 1, .int 2, .int 1] := .inl (.inl upd_same)
      generalize upd G226 p227 (.tup [.int 0, .int 1, .int 2, .int 1]) = G231 at k229 s230 ⊢
      replace hNS := hNS.k0 k229
      replace hz := k229.oth fp _ hz (fun _ z => by cases z)
      replace hzb := fun x hx => (hzb x hx).k0 k229
      replace s225 := k229.sqT s225
      refine ⟨few_n (xs := [.ref p222, .ref p227]) (by simp), fun p232 np233 => ?_⟩
      have k234 := K0.new np233 (o := .tup [.ref p222, .ref p227])
      have s235 : SqT K (upd G231 p232 (.tup [.ref p222, .ref p227])) p232 [.ref p222, .ref p227] := .inl (.inl upd_same)
      generalize upd G231 p232 (.tup [.ref p222, .ref p227]) = G236 at k234 s235 ⊢
      replace hNS := hNS.k0 k234
      replace hz := k234.oth fp _ hz (fun _ z => by cases z)
      replace hzb := fun x hx => (hzb x hx).k0 k234
      replace s225 := k234.sqT s225
      replace s230 := k234.sqT s230
      have ri237 : RowsI K G236 _ [[0, 1, 1, 1], [0, 1, 2, 1]] := (RowsI.app (RowsI.one (ns := [0, 1, 1, 1]) s225) (RowsI.one (ns := [0, 1, 2, 1]) s230))
      have hm238 : ∀ ns ∈ ([[0, 1, 1, 1], [0, 1, 2, 1]] : List (List Int)), ns.length = 4 ∧ ∀ i ∈ ns, Md i := all2m (md4 ⟨by decide, by decide⟩ ⟨by decide, by decide⟩ ⟨by decide, by decide⟩ ⟨by decide, by decide⟩) (all2m (md4 ⟨by decide, by decide⟩ ⟨by decide, by decide⟩ ⟨by decide, by decide⟩ ⟨by decide, by decide⟩) (all0m))
      refine ⟨few_n (xs := [.int 2, .ref p232]) (by simp), fun p239 np240 => ?_⟩
      have k241 := K0.new np240 (o := .tup [.int 2, .ref p232])
      have s242 : SqT K (upd G236 p239 (.tup [.int 2, .ref p232])) p239 [.int 2, .ref p232] := .inl (.inl upd_same)
      generalize upd G236 p239 (.tup [.int 2, .ref p232]) = G243 at k241 s242 ⊢
      replace hNS := hNS.k0 k241
      replace hz := k241.oth fp _ hz (fun _ z => by cases z)
      replace hzb := fun x hx => (hzb x hx).k0 k241
      replace s225 := k241.sqT s225
      replace s230 := k241.sqT s230
      replace s235 := k241.sqT s235
      replace ri237 := ri237.k0 k241
      have bd244 : BadI K G243 (.ref p239) := ⟨p239, 2, [[0, 1, 1, 1], [0, 1, 2, 1]], rfl, ⟨p232, _, s242, s235, ri237⟩, ⟨by decide, by decide⟩, hm238, by simp, by decide +kernel⟩
      refine ⟨few_n (xs := [.ref p239]) (by simp), fun lp245 nl246 => ?_⟩
      have k247 := K0.new nl246 (o := .lst [.ref p239])
      have ql249 : upd G243 lp245 (.lst [.ref p239]) lp245 = some (.lst [.ref p239]) := upd_same
      have hall := allV2 bd244 (allV0)
      generalize upd G243 lp245 (.lst [.ref p239]) = G248 at k247 ql249 ⊢
      replace hNS := hNS.k0 k247
      replace hz := k247.oth fp _ hz (fun _ z => by cases z)
      replace hzb := fun x hx => (hzb x hx).k0 k247
      replace s225 := k247.sqT s225
      replace s230 := k247.sqT s230
      replace s235 := k247.sqT s235
      replace ri237 := ri237.k0 k247
      replace hall := fun x hx => (hall x hx).k0 k247
      refine ⟨fp, lp245, _, _, rfl, rfl, hz, ql249, (by rw [sizeLine_eq]; show zs.length + 1 ≤ 16777216; omega), fun p250 np251 => ?_⟩
      have kE := K0.new np251 (o := .lst (zs ++ [.ref p239]))
      exact ⟨p250, rfl, hNS.k0 kE, zs ++ [.ref p239], upd_same, fun x hx => (allVA hzb hall x hx).k0 kE, (by rw [List.length_append]; show zs.length + 1 ≤ 12; omega), hNS.kt.dom _ np251⟩
    clear hNS hz hzb hzl hz0 zs fp H1
    rintro σ' H1 ⟨fp, rfl, hNS, zs, hz, hzb, hzl, hz0⟩
    -- found, 7
    refine ⟨fun σ' H'' => ∃ fp, σ' = [some (.ref t), some (.ref a), some (.int n), some (.ref r), some (.int g), some (.ref fp)] ∧ NS K H' H'' t sc ns (b + 1) r xs rs ∧ AllB K H' H'' fp 15, ?_, ?_⟩
    · refine ⟨_, rfl, ?_⟩
      refine ⟨_, rfl, ?_⟩
      refine ⟨few_n (xs := [.int 0, .int 1, .int g, .int 1]) (by simp), fun p252 np253 => ?_⟩
      have k254 := K0.new np253 (o := .tup [.int 0, .int 1, .int g, .int 1])
      have s255 : SqT K (upd H1 p252 (.tup [.int 0, .int 1, .int g, .int 1])) p252 [.int 0, .int 1, .int g, .int 1] := .inl (.inl upd_same)
      generalize upd H1 p252 (.tup [.int 0, .int 1, .int g, .int 1]) = G256 at k254 s255 ⊢
      replace hNS := hNS.k0 k254
      replace hz := k254.oth fp _ hz (fun _ z => by cases z)
      replace hzb := fun x hx => (hzb x hx).k0 k254
      refine ⟨few_n (xs := [.ref p252]) (by simp), fun p257 np258 => ?_⟩
      have k259 := K0.new np258 (o := .tup [.ref p252])
      have s260 : SqT K (upd G256 p257 (.tup [.ref p252])) p257 [.ref p252] := .inl (.inl upd_same)
      generalize upd G256 p257 (.tup [.ref p252]) = G261 at k259 s260 ⊢
      replace hNS := hNS.k0 k259
      replace hz := k259.oth fp _ hz (fun _ z => by cases z)
      replace hzb := fun x hx => (hzb x hx).k0 k259
      replace s255 := k259.sqT s255
      have ri262 : RowsI K G261 _ [[0, 1, g, 1]] := (RowsI.one (ns := [0, 1, g, 1]) s255)
      have hm263 : ∀ ns ∈ ([[0, 1, g, 1]] : List (List Int)), ns.length = 4 ∧ ∀ i ∈ ns, Md i := all2m (md4 ⟨by decide, by decide⟩ ⟨by decide, by decide⟩ hMg ⟨by decide, by decide⟩) (all0m)
      refine ⟨few_n (xs := [.int 2, .ref p257]) (by simp), fun p264 np265 => ?_⟩
      have k266 := K0.new np265 (o := .tup [.int 2, .ref p257])
      have s267 : SqT K (upd G261 p264 (.tup [.int 2, .ref p257])) p264 [.int 2, .ref p257] := .inl (.inl upd_same)
      generalize upd G261 p264 (.tup [.int 2, .ref p257]) = G268 at k266 s267 ⊢
      replace hNS := hNS.k0 k266
      replace hz := k266.oth fp _ hz (fun _ z => by cases z)
      replace hzb := fun x hx => (hzb x hx).k0 k266
      replace s255 := k266.sqT s255
      replace s260 := k266.sqT s260
      replace ri262 := ri262.k0 k266
      have bd269 : BadI K G268 (.ref p264) := ⟨p264, 2, [[0, 1, g, 1]], rfl, ⟨p257, _, s267, s260, ri262⟩, ⟨by decide, by decide⟩, hm263, by simp, bad_row (List.mem_singleton.mpr rfl) (road_no (by omega))⟩
      refine ⟨_, rfl, ?_⟩
      refine ⟨few_n (xs := [.int 0, .int g, .int 1, .int 1]) (by simp), fun p270 np271 => ?_⟩
      have k272 := K0.new np271 (o := .tup [.int 0, .int g, .int 1, .int 1])
      have s273 : SqT K (upd G268 p270 (.tup [.int 0, .int g, .int 1, .int 1])) p270 [.int 0, .int g, .int 1, .int 1] := .inl (.inl upd_same)
      generalize upd G268 p270 (.tup [.int 0, .int g, .int 1, .int 1]) = G274 at k272 s273 ⊢
      replace hNS := hNS.k0 k272
      replace hz := k272.oth fp _ hz (fun _ z => by cases z)
      replace hzb := fun x hx => (hzb x hx).k0 k272
      replace bd269 := bd269.k0 k272
      replace s255 := k272.sqT s255
      replace s260 := k272.sqT s260
      replace ri262 := ri262.k0 k272
      refine ⟨few_n (xs := [.ref p270]) (by simp), fun p275 np276 => ?_⟩
      have k277 := K0.new np276 (o := .tup [.ref p270])
      have s278 : SqT K (upd G274 p275 (.tup [.ref p270])) p275 [.ref p270] := .inl (.inl upd_same)
      generalize upd G274 p275 (.tup [.ref p270]) = G279 at k277 s278 ⊢
      replace hNS := hNS.k0 k277
      replace hz := k277.oth fp _ hz (fun _ z => by cases z)
      replace hzb := fun x hx => (hzb x hx).k0 k277
      replace bd269 := bd269.k0 k277
      replace s255 := k277.sqT s255
      replace s260 := k277.sqT s260
      replace s273 := k277.sqT s273
      replace ri262 := ri262.k0 k277
      have ri280 : RowsI K G279 _ [[0, g, 1, 1]] := (RowsI.one (ns := [0, g, 1, 1]) s273)
      have hm281 : ∀ ns ∈ ([[0, g, 1, 1]] : List (List Int)), ns.length = 4 ∧ ∀ i ∈ ns, Md i := all2m (md4 ⟨by decide, by decide⟩ hMg ⟨by decide, by decide⟩ ⟨by decide, by decide⟩) (all0m)
      refine ⟨few_n (xs := [.int 2, .ref p275]) (by simp), fun p282 np283 => ?_⟩
      have k284 := K0.new np283 (o := .tup [.int 2, .ref p275])
      have s285 : SqT K (upd G279 p282 (.tup [.int 2, .ref p275])) p282 [.int 2, .ref p275] := .inl (.inl upd_same)
      generalize upd G279 p282 (.tup [.int 2, .ref p275]) = G286 at k284 s285 ⊢
      replace hNS := hNS.k0 k284
      replace hz := k284.oth fp _ hz (fun _ z => by cases z)
      replace hzb := fun x hx => (hzb x hx).k0 k284
      replace bd269 := bd269.k0 k284
      replace s255 := k284.sqT s255
      replace s260 := k284.sqT s260
      replace s273 := k284.sqT s273
      replace s278 := k284.sqT s278
      replace ri262 := ri262.k0 k284
      replace ri280 := ri280.k0 k284
      have bd287 : BadI K G286 (.ref p282) := ⟨p282, 2, [[0, g, 1, 1]], rfl, ⟨p275, _, s285, s278, ri280⟩, ⟨by decide, by decide⟩, hm281, by simp, bad_row (List.mem_singleton.mpr rfl) (road_no (by omega))⟩
      refine ⟨few_n (xs := [.int 0, .int 1, .int 1, .int 1]) (by simp), fun p288 np289 => ?_⟩
      have k290 := K0.new np289 (o := .tup [.int 0, .int 1, .int 1, .int 1])
      have s291 : SqT K (upd G286 p288 (.tup [.int 0, .int 1, .int 1, .int 1])) p288 [.int 0, .int 1, .int 1, .int 1] := .inl (.inl upd_same)
      generalize upd G286 p288 (.tup [.int 0, .int 1, .int 1, .int 1]) = G292 at k290 s291 ⊢
      replace hNS := hNS.k0 k290
      replace hz := k290.oth fp _ hz (fun _ z => by cases z)
      replace hzb := fun x hx => (hzb x hx).k0 k290
      replace bd269 := bd269.k0 k290
      replace bd287 := bd287.k0 k290
      replace s255 := k290.sqT s255
      replace s260 := k290.sqT s260
      replace s273 := k290.sqT s273
      replace s278 := k290.sqT s278
      replace ri262 := ri262.k0 k290
      replace ri280 := ri280.k0 k290
      refine ⟨few_n (xs := [.ref p288]) (by simp), fun p293 np294 => ?_⟩
      have k295 := K0.new np294 (o := .tup [.ref p288])
      have s296 : SqT K (upd G292 p293 (.tup [.ref p288])) p293 [.ref p288] := .inl (.inl upd_same)
      generalize upd G292 p293 (.tup [.ref p288]) = G297 at k295 s296 ⊢
      replace hNS := hNS.k0 k295
      replace hz := k295.oth fp _ hz (fun _ z => by cases z)
      replace hzb := fun x hx => (hzb x hx).k0 k295
      replace bd269 := bd269.k0 k295
      replace bd287 := bd287.k0 k295
      replace s255 := k295.sqT s255
      replace s260 := k295.sqT s260
      replace s273 := k295.sqT s273
      replace s278 := k295.sqT s278
      replace s291 := k295.sqT s291
      replace ri262 := ri262.k0 k295
      replace ri280 := ri280.k0 k295
      have ri298 : RowsI K G297 _ [[0, 1, 1, 1]] := (RowsI.one (ns := [0, 1, 1, 1]) s291)
      have hm299 : ∀ ns ∈ ([[0, 1, 1, 1]] : List (List Int)), ns.length = 4 ∧ ∀ i ∈ ns, Md i := all2m (md4 ⟨by decide, by decide⟩ ⟨by decide, by decide⟩ ⟨by decide, by decide⟩ ⟨by decide, by decide⟩) (all0m)
      refine ⟨few_n (xs := [.int 1, .ref p293]) (by simp), fun p300 np301 => ?_⟩
      have k302 := K0.new np301 (o := .tup [.int 1, .ref p293])
      have s303 : SqT K (upd G297 p300 (.tup [.int 1, .ref p293])) p300 [.int 1, .ref p293] := .inl (.inl upd_same)
      generalize upd G297 p300 (.tup [.int 1, .ref p293]) = G304 at k302 s303 ⊢
      replace hNS := hNS.k0 k302
      replace hz := k302.oth fp _ hz (fun _ z => by cases z)
      replace hzb := fun x hx => (hzb x hx).k0 k302
      replace bd269 := bd269.k0 k302
      replace bd287 := bd287.k0 k302
      replace s255 := k302.sqT s255
      replace s260 := k302.sqT s260
      replace s273 := k302.sqT s273
      replace s278 := k302.sqT s278
      replace s291 := k302.sqT s291
      replace s296 := k302.sqT s296
      replace ri262 := ri262.k0 k302
      replace ri280 := ri280.k0 k302
      replace ri298 := ri298.k0 k302
      have bd305 : BadI K G304 (.ref p300) := ⟨p300, 1, [[0, 1, 1, 1]], rfl, ⟨p293, _, s303, s296, ri298⟩, ⟨by decide, by decide⟩, hm299, by simp, by decide +kernel⟩
      refine ⟨few_n (xs := [.ref p264, .ref p282, .ref p300]) (by simp), fun lp306 nl307 => ?_⟩
      have k308 := K0.new nl307 (o := .lst [.ref p264, .ref p282, .ref p300])
      have ql310 : upd G304 lp306 (.lst [.ref p264, .ref p282, .ref p300]) lp306 = some (.lst [.ref p264, .ref p282, .ref p300]) := upd_same
      have hall := allV2 bd269 (allV2 bd287 (allV2 bd305 (allV0)))
      generalize upd G304 lp306 (.lst [.ref p264, .ref p282, .ref p300]) = G309 at k308 ql310 ⊢
      replace hNS := hNS.k0 k308
      replace hz := k308.oth fp _ hz (fun _ z => by cases z)
      replace hzb := fun x hx => (hzb x hx).k0 k308
      replace s255 := k308.sqT s255
      replace s260 := k308.sqT s260
      replace s273 := k308.sqT s273
      replace s278 := k308.sqT s278
      replace s291 := k308.sqT s291
      replace s296 := k308.sqT s296
      replace ri262 := ri262.k0 k308
      replace ri280 := ri280.k0 k308
      replace ri298 := ri298.k0 k308
      replace hall := fun x hx => (hall x hx).k0 k308
      refine ⟨fp, lp306, _, _, rfl, rfl, hz, ql310, (by rw [sizeLine_eq]; show zs.length + 3 ≤ 16777216; omega), fun p311 np312 => ?_⟩
      have kE := K0.new np312 (o := .lst (zs ++ [.ref p264, .ref p282, .ref p300]))
      exact ⟨p311, rfl, hNS.k0 kE, zs ++ [.ref p264, .ref p282, .ref p300], upd_same, fun x hx => (allVA hzb hall x hx).k0 kE, (by rw [List.length_append]; show zs.length + 3 ≤ 15; omega), hNS.kt.dom _ np312⟩
    clear hNS hz hzb hzl hz0 zs fp H1
    rintro σ' H1 ⟨fp, rfl, hNS, zs, hz, hzb, hzl, hz0⟩
    -- the last
    refine ⟨fun σ' H'' => ∃ fp, σ' = [some (.ref t), some (.ref a), some (.int n), some (.ref r), some (.int g), some (.ref fp)] ∧ NS K H' H'' t sc ns (b + 1) r xs rs ∧ AllB K H' H'' fp 18, ?_, ?_⟩
    · refine ⟨_, rfl, r, _, rfl, .inr hNS.s2, _, 1, rfl, rfl, _, rfl, ite2 (fun e => ?_) (fun e => ⟨fp, rfl, hNS, zs, hz, hzb, Nat.le_trans hzl (by decide), hz0⟩)⟩
      have hlen : 1 < rs.length := by have e2 := of_decide_eq_true e; rw [hxl] at e2; omega
      refine ⟨_, rfl, ?_⟩
      refine ⟨_, rfl, ?_⟩
      refine ⟨_, rfl, r, xs, rfl, hNS.s2, fun p313 np314 => ?_⟩
      have k315 := K0.new np314 (o := .tup xs.reverse)
      have s316 : SqT K (upd H1 p313 (.tup xs.reverse)) p313 xs.reverse := .inl (.inl upd_same)
      generalize upd H1 p313 (.tup xs.reverse) = G317 at k315 s316 ⊢
      replace hNS := hNS.k0 k315
      replace hz := k315.oth fp _ hz (fun _ z => by cases z)
      replace hzb := fun x hx => (hzb x hx).k0 k315
      refine ⟨few_n (xs := [.int n, .ref p313]) (by simp), fun p318 np319 => ?_⟩
      have k320 := K0.new np319 (o := .tup [.int n, .ref p313])
      have s321 : SqT K (upd G317 p318 (.tup [.int n, .ref p313])) p318 [.int n, .ref p313] := .inl (.inl upd_same)
      generalize upd G317 p318 (.tup [.int n, .ref p313]) = G322 at k320 s321 ⊢
      replace hNS := hNS.k0 k320
      replace hz := k320.oth fp _ hz (fun _ z => by cases z)
      replace hzb := fun x hx => (hzb x hx).k0 k320
      replace s316 := k320.sqT s316
      have bd323 : BadI K G322 (.ref p318) := ⟨p318, n, (rs.map R4.is).reverse, rfl, ⟨p313, _, s321, s316, hNS.s3.rev⟩, hMn, (allRm hrs), by rw [List.length_reverse, List.length_map]; omega, bad_rev G hlen⟩
      refine ⟨_, rfl, ?_⟩
      refine ⟨_, rfl, 1, rfl, ?_⟩
      dsimp only [tNoPart]
      refine slD hNS.s2 fun b324 G325 k326 s327 => ?_
      replace hNS := hNS.k0 k326
      replace hz := k326.oth fp _ hz (fun _ z => by cases z)
      replace hzb := fun x hx => (hzb x hx).k0 k326
      replace bd323 := bd323.k0 k326
      replace s316 := k326.sqT s316
      refine ⟨_, rfl, 1, rfl, slT hNS.s2 fun b328 G329 k330 s331 => ?_⟩
      replace hNS := hNS.k0 k330
      replace hz := k330.oth fp _ hz (fun _ z => by cases z)
      replace hzb := fun x hx => (hzb x hx).k0 k330
      replace bd323 := bd323.k0 k330
      replace s316 := k330.sqT s316
      replace s327 := k330.sqT s327
      refine catQ s327 s331 (by rw [List.length_drop, List.length_take]; omega) fun b332 G333 k334 s335 => ?_
      replace hNS := hNS.k0 k334
      replace hz := k334.oth fp _ hz (fun _ z => by cases z)
      replace hzb := fun x hx => (hzb x hx).k0 k334
      replace bd323 := bd323.k0 k334
      replace s316 := k334.sqT s316
      replace s327 := k334.sqT s327
      replace s331 := k334.sqT s331
      refine ⟨few_n (xs := [.int n, .ref b332]) (by simp), fun p336 np337 => ?_⟩
      have k338 := K0.new np337 (o := .tup [.int n, .ref b332])
      have s339 : SqT K (upd G333 p336 (.tup [.int n, .ref b332])) p336 [.int n, .ref b332] := .inl (.inl upd_same)
      generalize upd G333 p336 (.tup [.int n, .ref b332]) = G340 at k338 s339 ⊢
      replace hNS := hNS.k0 k338
      replace hz := k338.oth fp _ hz (fun _ z => by cases z)
      replace hzb := fun x hx => (hzb x hx).k0 k338
      replace bd323 := bd323.k0 k338
      replace s316 := k338.sqT s316
      replace s327 := k338.sqT s327
      replace s331 := k338.sqT s331
      replace s335 := k338.sqT s335
      have bd341 : BadI K G340 (.ref p336) := ⟨p336, n, ((rs.map R4.is).drop 1 ++ (rs.map R4.is).take 1), rfl, ⟨b332, _, s339, s335, ((hNS.s3.drop 1).app (hNS.s3.take 1))⟩, hMn, (allAm (allDm hrs) (allTm hrs)), by rw [List.length_append, List.length_drop, List.length_take, List.length_map]; omega, bad_turn G hlen⟩
      refine ⟨_, rfl, ?_⟩
      refine ⟨_, rfl, ?_⟩
      refine ⟨_, rfl, 1, rfl, slT hNS.s2 fun b342 G343 k344 s345 => ?_⟩
      replace hNS := hNS.k0 k344
      replace hz := k344.oth fp _ hz (fun _ z => by cases z)
      replace hzb := fun x hx => (hzb x hx).k0 k344
      replace bd323 := bd323.k0 k344
      replace bd341 := bd341.k0 k344
      replace s316 := k344.sqT s316
      replace s327 := k344.sqT s327
      replace s331 := k344.sqT s331
      replace s335 := k344.sqT s335
      refine catQ hNS.s2 s345 (by rw [List.length_take]; omega) fun b346 G347 k348 s349 => ?_
      replace hNS := hNS.k0 k348
      replace hz := k348.oth fp _ hz (fun _ z => by cases z)
      replace hzb := fun x hx => (hzb x hx).k0 k348
      replace bd323 := bd323.k0 k348
      replace bd341 := bd341.k0 k348
      replace s316 := k348.sqT s316
      replace s327 := k348.sqT s327
      replace s331 := k348.sqT s331
      replace s335 := k348.sqT s335
      replace s345 := k348.sqT s345
      refine ⟨few_n (xs := [.int n, .ref b346]) (by simp), fun p350 np351 => ?_⟩
      have k352 := K0.new np351 (o := .tup [.int n, .ref b346])
      have s353 : SqT K (upd G347 p350 (.tup [.int n, .ref b346])) p350 [.int n, .ref b346] := .inl (.inl upd_same)
      generalize upd G347 p350 (.tup [.int n, .ref b346]) = G354 at k352 s353 ⊢
      replace hNS := hNS.k0 k352
      replace hz := k352.oth fp _ hz (fun _ z => by cases z)
      replace hzb := fun x hx => (hzb x hx).k0 k352
      replace bd323 := bd323.k0 k352
      replace bd341 := bd341.k0 k352
      replace s316 := k352.sqT s316
      replace s327 := k352.sqT s327
      replace s331 := k352.sqT s331
      replace s335 := k352.sqT s335
      replace s345 := k352.sqT s345
      replace s349 := k352.sqT s349
      have bd355 : BadI K G354 (.ref p350) := ⟨p350, n, (rs.map R4.is ++ (rs.map R4.is).take 1), rfl, ⟨b346, _, s353, s349, (hNS.s3.app (hNS.s3.take 1))⟩, hMn, (allAm hrs (allTm hrs)), by rw [List.length_append, List.length_take, List.length_map]; omega, bad_twice G hlen⟩
      refine ⟨few_n (xs := [.ref p318, .ref p336, .ref p350]) (by simp), fun lp356 nl357 => ?_⟩
      have k358 := K0.new nl357 (o := .lst [.ref p318, .ref p336, .ref p350])
      have ql360 : upd G354 lp356 (.lst [.ref p318, .ref p336, .ref p350]) lp356 = some (.lst [.ref p318, .ref p336, .ref p350]) := upd_same
      have hall := allV2 bd323 (allV2 bd341 (allV2 bd355 (allV0)))
      generalize upd G354 lp356 (.lst [.ref p318, .ref p336, .ref p350]) = G359 at k358 ql360 ⊢
      replace hNS := hNS.k0 k358
      replace hz := k358.oth fp _ hz (fun _ z => by cases z)
      replace hzb := fun x hx => (hzb x hx).k0 k358
      replace s316 := k358.sqT s316
      replace s327 := k358.sqT s327
      replace s331 := k358.sqT s331
      replace s335 := k358.sqT s335
      replace s345 := k358.sqT s345
      replace s349 := k358.sqT s349
      replace hall := fun x hx => (hall x hx).k0 k358
      refine ⟨fp, lp356, _, _, rfl, rfl, hz, ql360, (by rw [sizeLine_eq]; show zs.length + 3 ≤ 16777216; omega), fun p361 np362 => ?_⟩
      have kE := K0.new np362 (o := .lst (zs ++ [.ref p318, .ref p336, .ref p350]))
      exact ⟨p361, rfl, hNS.k0 kE, zs ++ [.ref p318, .ref p336, .ref p350], upd_same, fun x hx => (allVA hzb hall x hx).k0 kE, (by rw [List.length_append]; show zs.length + 3 ≤ 18; omega), hNS.kt.dom _ np362⟩
    clear hNS hz hzb hzl hz0 zs fp H1
    rintro σ' H1 ⟨fp, rfl, hNS, zs, hz, hzb, hzl, hz0⟩
    exact ⟨_, rfl, q fp zs H1 hNS.kt hNS.tr hz hzb (Nat.le_trans hzl (by decide))⟩
end
end HK

set_option Elab.async false
set_option linter.all false
set_option maxRecDepth 100000
set_option maxHeartbeats 4000000
namespace HK
open PySem PySem.Spec PyProof.Rows L2 GAl GxR HkE
open Evl (pss_cut)
abbrev sLaw : Stmt := topS 40
abbrev N_scLaw : List Str := ["script", "tray", "k", "net", "text", "bad"]
theorem scLaw : FnScope N_scLaw ["script"] (defScope sLaw) := ⟨rfl, rfl, rfl, by decide +kernel, rfl, by decide +kernel, by decide +kernel⟩
theorem passE0 {X : Cx} : Passes (CX X.prog X.w) X E0 := fun _ _ _ _ _ _ _ h => by
  obtain ⟨_, _, _, _, _, _, _, _, _, _, _, _, hE⟩ := h
  exact hE.elim
theorem rowsS_len {m : Int} {nss : List (List Int)} (hm : Md m) (h : ∀ ns ∈ nss, ns.length = 4 ∧ ∀ i ∈ ns, Md i) (hl : nss.length ≤ 200) : (rowsS m nss).length ≤ 6000 := (lns_rows hm h hl).text_len
theorem rows_parts {m : Int} {nss : List (List Int)} (hm : Md m) (h : ∀ ns ∈ nss, ns.length = 4 ∧ ∀ i ∈ ns, Md i) (hl : nss.length ≤ 200) : rowsT (rowsS m nss) = headL m :: nss.map (·.map sOf) ∧ (rowsS m nss).length + 2 ≤ sizeLine ∧ (∀ l ∈ Txt.split (rowsS m nss) (Str.ofString "\n"), l.length + 2 ≤ sizeLine) ∧ (∀ ys ∈ headL m :: nss.map (·.map sOf), ∀ v ∈ ys, v.length ≤ sizeLine) ∧ (nss.map (·.map sOf)).length ≤ 900 := by
  have hs : sizeLine = 16777216 := sizeLine_eq
  have h1 := rowsS_len hm h hl
  refine ⟨rowsT_rows hm fun ns hns => ⟨(fun z => by have := (h ns hns).1; rw [z] at this; cases this), (h ns hns).2⟩, by omega, fun l hl2 => ?_, fun ys hys v hv => ?_, by rw [List.length_map]; omega⟩
  · rw [split_rows hm fun ns hns => (h ns hns).2] at hl2
    have := ((lns_rows hm h hl).ln l hl2).2
    omega
  · rcases List.mem_cons.mp hys with rfl | hys
    · simp only [headL, List.mem_cons, List.not_mem_nil, or_false] at hv
      rcases hv with rfl | rfl
      · rw [hs]; decide
      · have := hm.len; omega
    · obtain ⟨ns, hns, rfl⟩ := List.mem_map.mp hys
      obtain ⟨i, hi, rfl⟩ := List.mem_map.mp hv
      have := ((h ns hns).2 i hi).len
      omega
theorem word_rows {K : PySem.W.Frag} {H : Hp} {m : Int} {nss : List (List Int)} (hm : Md m) (h : ∀ ns ∈ nss, ns.length = 4 ∧ ∀ i ∈ ns, Md i) (hl : nss.length ≤ 200) : WordP K H 0 (.str (rowsS m nss)) (if isNetD (nD m nss) = true then "" else "net") := by
  obtain ⟨a, b, c, d, e⟩ := rows_parts hm h hl
  have w := WordP.read (K := K) (H := H) a b c d e
  rw [if_pos (textOk_rows hm h), textD_rows hm (nss := nss) fun ns hns => (h ns hns).2] at w
  exact w
theorem nD_R4 (n : Int) (rs : List R4) : nD n (rs.map R4.is) = .tuple [.int n, .tuple (rs.map R4.d)] := by
  unfold nD
  rw [List.map_map]
  rfl
theorem nD_lay (n : Int) (rs : List R4) : PyData.canLay0 (nD n (rs.map R4.is)) = true ∧ PyData.depth (nD n (rs.map R4.is)) ≤ 64 := by
  rw [nD_R4]
  have h1 : ∀ ts : List R4, PyData.canLayAll0 (ts.map R4.d) = true := fun ts => by
    induction ts with
    | nil => rfl
    | cons t r ih => rw [List.map_cons]; simp only [PyData.canLayAll0, ih, R4.d, PyData.canLay0, Bool.and_true]
  have h2 : ∀ ts : List R4, PyData.depthAll (ts.map R4.d) ≤ 2 := fun ts => by
    induction ts with
    | nil => decide
    | cons t r ih =>
      rw [List.map_cons]
      simp only [PyData.depthAll, R4.d, PyData.depth]
      omega
  refine ⟨by simp only [PyData.canLay0, PyData.canLayAll0, h1 rs, Bool.and_true], ?_⟩
  have := h2 rs
  simp only [PyData.depth, PyData.depthAll]
  omega
theorem nD_shaped (n : Int) (rs : List R4) : SeqAt.shaped (nD n (rs.map R4.is)) = true := by
  show (PyData.canLay0 (nD n (rs.map R4.is)) && decide (PyData.depth (nD n (rs.map R4.is)) ≤ 64)) = true
  rw [Bool.and_eq_true, decide_eq_true_iff]
  exact nD_lay n rs
theorem nD_eqv (n : Int) (rs : List R4) : PyData.eqv (nD n (rs.map R4.is)) (nD n (rs.map R4.is)) = true := SeqAt.eqv_refl _ (nD_lay n rs).1
def BadN (K : PySem.W.Frag) (H : Hp) (x : V) : Prop := ∃ d, Dp K H x d ∧ (∀ m rs, d = .tuple [m, .tuple rs] → rs.length ≤ 1000) ∧ isNetD d = false
theorem BadN.k0 {K : PySem.W.Frag} {H H' : Hp} {x : V} (h : BadN K H x) (k : K0 H H') : BadN K H' x := by
  obtain ⟨d, h1, h2, h3⟩ := h
  exact ⟨d, k.dp d x h1, h2, h3⟩
theorem BadN.ans {K : PySem.W.Frag} {H : Hp} {x : V} (h : BadN K H x) : NetAns K H x false := by
  obtain ⟨d, h1, h2, h3⟩ := h
  exact .inl ⟨d, h1, h2, h3.symm⟩
section
variable {P : Program} {w : World} {K : PySem.W.Frag} {mg : Str → Option Value} {base : Heap}
def spLaw (K : PySem.W.Frag) (Pi Pm Pn Pr : Addr) : Sp := fun vs H Q _ => ∃ (a : Addr) (ns : List Int), vs = [.ref a] ∧ SqL K H a (ns.map V.int) ∧ TabG H Pi ∧ TabG H Pm ∧ TabG H Pn ∧ TabG H Pr ∧ ∀ H', Q (.bl true) H'
theorem ok_law {f f_readnet CT CN : Addr} {fd fd_readnet : FuncData} {f_enet f_etext f_notexts f_nonets f_eword : Addr} {fd_enet fd_etext fd_notexts fd_nonets fd_eword : FuncData} {Pi Pm Pn Pr : Addr} (F : Fun K "law" "law" sLaw f fd)
    (k_enet : PySem.W.keepIn K (.ref f_enet) = true) (b_enet : Binds K fd_enet ["tray"] []) (g_enet : mg "_law_e_net" = some (.ref f_enet)) (G_enet : FnOk P w K mg base CX0 3 f_enet fd_enet ["tray"] (spENet K))
    (k_etext : PySem.W.keepIn K (.ref f_etext) = true) (b_etext : Binds K fd_etext ["net"] []) (g_etext : mg "_law_e_text" = some (.ref f_etext)) (G_etext : FnOk P w K mg base CX0 1 f_etext fd_etext ["net"] (spTextG K))
    (k_notexts : PySem.W.keepIn K (.ref f_notexts) = true) (b_notexts : Binds K fd_notexts ["tray", "text"] []) (g_notexts : mg "_law_e_no_texts" = some (.ref f_notexts)) (G_notexts : FnOk P w K mg base CX0 3 f_notexts fd_notexts ["tray", "text"] (spNoTexts K))
    (k_nonets : PySem.W.keepIn K (.ref f_nonets) = true) (b_nonets : Binds K fd_nonets ["tray", "net"] []) (g_nonets : mg "_law_e_no_nets" = some (.ref f_nonets)) (G_nonets : FnOk P w K mg base CX0 3 f_nonets fd_nonets ["tray", "net"] (spNoNets K))
    (k_eword : PySem.W.keepIn K (.ref f_eword) = true) (b_eword : Binds K fd_eword ["way", "thing"] []) (g_eword : mg "_law_e_word" = some (.ref f_eword)) (G_eword : FnOk P w K mg base CX0 8 f_eword fd_eword ["way", "thing"] (spEWord K Pi Pm Pn Pr))
    (k_readnet : PySem.W.keepIn K (.ref f_readnet) = true) (b_readnet : Binds K fd_readnet ["text"] []) (g_readnet : mg "read_net" = some (.ref f_readnet)) (J_readnet : FnOk P w K mg base (CX P w) 7 f_readnet fd_readnet ["text"] (spReadX K Pi Pm Pn Pr CT CN))
    (m_len : mg "len" = none) (m_range : mg "range" = none) (m_list : mg "list" = none) : FnOk P w K mg base CX0 9 f fd ["script"] (spLaw K Pi Pm Pn Pr) := by
  refine F.ok scLaw (fun vs H Q E h => ?_) (fun cdv A outer s H vs Q E hr h => ?_)
  · obtain ⟨a, ns, rfl, _⟩ := h
    rfl
  · obtain ⟨a, ns, rfl, hS, ti, tm, tn, tr, q⟩ := h
    have hu := hu_of hr
    refine ⟨_, (pss_cons (ps_set (i := 1) scLaw.nd rfl (.inl rfl) (pe_lst (pa_cons (pv 0) (pa_cons pe_int (pa_cons pe_int pa_nil)))))
      (pss_cons (ps_for PassesOwn.never rfl (pi_range1 (by rfl) m_range (pa_cons pe_int pa_nil)) (pg_name (i := 2) scLaw.nd rfl (.inl rfl))
      (pss_cut (ps_if (PW.pt (pw_and (pt_cmpR op_gt (pv 2) pe_int (nomark _)) (pw_and1 (pt_cmpR op_ge (pe_ix ix_list (pv 1) pe_int (fun _ _ => rfl)) (pe_callB call_len_seq (by rfl) m_len PySem.boot_len (pa_cons (pv 0) pa_nil)) (nomark _))))) (pss_one ps_break) pss_nil)
      (pss_cons (ps_set (i := 3) scLaw.nd rfl (.inl rfl) (pe_call G_enet (hr.mono (by decide)) (by rfl) g_enet k_enet b_enet .nil pass0 (pa_cons (pv 1) pa_nil)))
      (pss_cons (ps_set (i := 4) scLaw.nd rfl (.inl rfl) (pe_call G_etext (hr.mono (by decide)) (by rfl) g_etext k_etext b_etext .nil pass0 (pa_cons (pv 3) pa_nil)))
      (pss_cut (ps_for PassesOwn.never rfl (pi_list (pe_call G_notexts (hr.mono (by decide)) (by rfl) g_notexts k_notexts b_notexts .nil pass0 (pa_cons (pv 1) (pa_cons (pv 4) pa_nil)))) (pg_name (i := 5) scLaw.nd rfl (.inl rfl))
      (pss_one (ps_if (pt_cmpR op_ne (pe_call G_eword (hr.mono (by decide)) (by rfl) g_eword k_eword b_eword .nil pass0 (pa_cons pe_int (pa_cons (pv 5) pa_nil))) pe_str (nomark _)) (pss_one (ps_ret pe_bl)) pss_nil)))
      (pss_cut (ps_for PassesOwn.never rfl (pi_list (pe_call G_nonets (hr.mono (by decide)) (by rfl) g_nonets k_nonets b_nonets .nil pass0 (pa_cons (pv 1) (pa_cons (pv 3) pa_nil)))) (pg_name (i := 5) scLaw.nd rfl (.inl rfl))
      (pss_one (ps_if (PW.pt (pw_or (pt_cmpR op_ne (pe_call G_eword (hr.mono (by decide)) (by rfl) g_eword k_eword b_eword .nil pass0 (pa_cons pe_int (pa_cons (pe_call G_etext (hr.mono (by decide)) (by rfl) g_etext k_etext b_etext .nil pass0 (pa_cons (pv 5) pa_nil)) pa_nil))) pe_str (nomark _)) (pw_or1 (pt_cmpR op_ne (pe_call G_eword (hr.mono (by decide)) (by rfl) g_eword k_eword b_eword .nil pass0 (pa_cons pe_int (pa_cons (pv 5) pa_nil))) pe_str (nomark _))))) (pss_one (ps_ret pe_bl)) pss_nil)))
      (pss_cut (ps_for PassesOwn.never rfl (pi_list (pe_lst (pa_cons pe_non (pa_cons (pe_tup pa_nil) (pa_cons (pe_callTy call_list_of (by rfl) m_list (by decide +kernel) (pa_cons (pv 3) pa_nil)) (pa_cons (pe_tup (pa_cons (pe_ix ix_tup (pv 3) pe_int (fun _ _ => rfl)) (pa_cons (pe_callTy call_list_of (by rfl) m_list (by decide +kernel) (pa_cons (pe_ix ix_tup (pv 3) pe_int (fun _ _ => rfl)) pa_nil)) pa_nil))) (pa_cons (pe_tup (pa_cons (pe_ix ix_tup (pv 3) pe_int (fun _ _ => rfl)) pa_nil)) (pa_cons pe_str pa_nil)))))))) (pg_name (i := 5) scLaw.nd rfl (.inl rfl))
      (pss_one (ps_if (pt_cmpR op_ne (pe_call G_eword (hr.mono (by decide)) (by rfl) g_eword k_eword b_eword .nil pass0 (pa_cons pe_int (pa_cons (pv 5) pa_nil))) pe_str (nomark _)) (pss_one (ps_ret pe_bl)) pss_nil)))
      (pss_one (ps_if (PW.pt (pw_or (pt_cmpR op_ne (pe_call G_eword (hr.mono (by decide)) (by rfl) g_eword k_eword b_eword .nil pass0 (pa_cons pe_int (pa_cons (pv 4) pa_nil))) pe_str (nomark _)) (pw_or1 (pt_cmpR (op_neD hr.units) (pe_call J_readnet (hr.mono (by decide)) (by rfl) g_readnet k_readnet b_readnet .nil passE0 (pa_cons (pv 4) pa_nil)) (pv 3) (nomark _))))) (pss_one (ps_ret pe_bl)) pss_nil)))))))))
      (pss_one (ps_ret pe_bl)))), ?_⟩
    -- tray
    refine ⟨.ref a, rfl, by show 3 ≤ sizeLine; decide, fun t hnt => ?_⟩
    have k1 : K0 H (upd H t (.lst [.ref a, .int 0, .int 0])) := K0.new hnt
    have htp : Tray K (upd H t (.lst [.ref a, .int 0, .int 0])) t a ns 0 := ⟨⟨0, 0, upd_same, by omega, by omega, by omega⟩, Scr.of hS hnt⟩
    generalize upd H t (.lst [.ref a, .int 0, .int 0]) = H1 at k1 htp ⊢
    have ti1 := k1.tab _ ti
    have tm1 := k1.tab _ tm
    have tn1 := k1.tab _ tn
    have tr1 := k1.tab _ tr
    have hs : sizeLine = 16777216 := sizeLine_eq
    refine ⟨4, rfl, by decide, by decide, for_range (lo := 0) (n := 4) (fun i σ' H' => ∃ y2 y3 y4 y5, σ' = [some (.ref a), some (.ref t), y2, y3, y4, y5] ∧ Kt t H1 H' ∧ Tray K H' t a ns (1300 * i))
        ⟨none, none, none, none, rfl, Kt.refl _ _, htp.le (by omega)⟩ (fun i σ' H' hi h => ?_) (fun σ' H' h => ?_)⟩
    rotate_left
    · exact q _
    obtain ⟨y2, y3, y4, y5, rfl, k, htp'⟩ := h
    have hi4 : i < 4 := hi
    refine ⟨fun σ' H' => σ' = [some (.ref a), some (.ref t), some (.int (0 + (i : Int))), y3, y4, y5] ∧ Kt t H1 H' ∧ Tray K H' t a ns (1300 * i), ?_, ?_⟩
    · refine ⟨_, rfl, _, 1, rfl, rfl, _, rfl, ite2 (fun e => ?_) (fun e => iteF ⟨rfl, k, htp'⟩)⟩
      have htp'' := htp'
      obtain ⟨⟨p, v, et, _⟩, hscr⟩ := htp'
      refine ⟨.ref t, rfl, t, _, 1, .int p, rfl, rfl, .inl (.inl et), atI_nat (j := 1) rfl, .ref a, rfl, a, _, rfl, .inl hscr.sq, p, _, rfl, rfl, _, rfl, ite2 (fun e2 => ?_) (fun e2 => ⟨rfl, k, htp''⟩)⟩
      exact q _
    rintro σ' H2 ⟨rfl, k2, T2⟩
    -- the net
    refine ⟨_, rfl, t, a, ns, _, rfl, T2, by omega, fun p n rs H3 k3 T3 hN G hl => ?_⟩
    have kt3 := k2.trans k3
    have hn1 := G.n1
    have hn2 := G.n2
    have hMn : Md n := ⟨by omega, by omega⟩
    have hrs : ∀ ns ∈ rs.map R4.is, ns.length = 4 ∧ ∀ i ∈ ns, Md i := fun ns hns => by
      obtain ⟨r, hr, rfl⟩ := List.mem_map.mp hns
      refine ⟨rfl, fun i hi => ?_⟩
      obtain ⟨a, b⟩ := (G.ok r hr).sm hn2 i hi
      exact ⟨a, by omega⟩
    have hrl : (rs.map R4.is).length ≤ 200 := by rw [List.length_map]; omega
    -- its text
    refine ⟨_, rfl, p, n, rs.map R4.is, rfl, hN.toI, hMn, hrs, hrl, fun H4 k4 => ?_⟩
    have kt4 := kt3.trans k4.kt
    have hN4 := hN.k0 k4
    have T4 := T3.k0 k4
    have hL := lns_rows hMn hrs hrl
    -- texts that are none
    refine ⟨fun σ' H' => ∃ y5, σ' = [some (.ref a), some (.ref t), some (.int (0 + (i : Int))), some (.ref p), some (.str (rowsS n (rs.map R4.is))), y5] ∧ Kt t H4 H' ∧ Tray K H' t a ns (1300 * i + 1200 + 9), ?_, ?_⟩
    · refine ⟨_, rfl, _, rfl, t, a, ns, _, headS n :: (rs.map R4.is).map lineS, rfl, T4, by omega, hL, fun lp zs H5 k5 T5 hz hzb hzl => ⟨lp, rfl, ⟨_, .inl (.inl hz)⟩, ?_⟩⟩
      refine for_list (xs := zs.map V.str) (fun j σ' H' => ∃ y5, σ' = [some (.ref a), some (.ref t), some (.int (0 + (i : Int))), some (.ref p), some (.str (rowsS n (rs.map R4.is))), y5] ∧ K0 H5 H') ⟨_, rfl, K0.refl _⟩ (fun j σ' H' hj h => ?_) (fun j x σ' H' hx h => ?_) (fun σ' H' h => ?_)
      · obtain ⟨_, _, kj⟩ := h
        exact .inl (.inl (kj.oth lp _ hz (fun _ z => by cases z)))
      · obtain ⟨y5, rfl, kj⟩ := h
        rw [List.getElem?_map] at hx
        obtain ⟨z, hzj, rfl⟩ := Option.map_eq_some_iff.mp hx
        obtain ⟨y, r, e1, e2, e3, e4, e5, e6⟩ := hzb z (List.mem_of_getElem? hzj)
        have kt5 := (kt4.trans k5).trans (kj.kt)
        refine ⟨_, rfl, 0, .str z, _, rfl, .read e1 e2 e3 e4 e5, kt5.tab _ ti1, kt5.tab _ tm1, kt5.tab _ tn1, kt5.tab _ tr1, fun H6 k6 => ⟨rfl, _, rfl, ?_⟩⟩
        rw [if_neg (by rw [e6]; exact Bool.false_ne_true), decide_eq_true (show V.str "text" = V.str (Str.ofString "text") from rfl)]
        exact iteF ⟨_, rfl, kj.trans k6⟩
      · obtain ⟨y5, rfl, kj⟩ := h
        exact ⟨_, rfl, k5.trans kj.kt, T5.k0 kj⟩
    clear T4 htp' T2 T3
    rintro σ' H5 ⟨y5, rfl, k5, T5⟩
    have kt5 := kt4.trans k5
    -- things that are no nets
    refine ⟨fun σ' H' => ∃ y5, σ' = [some (.ref a), some (.ref t), some (.int (0 + (i : Int))), some (.ref p), some (.str (rowsS n (rs.map R4.is))), y5] ∧ Kt t H5 H' ∧ Tray K H' t a ns (1300 * i + 1200 + 10), ?_, ?_⟩
    · refine ⟨_, rfl, _, rfl, t, a, p, ns, _, n, rs, rfl, T5, by omega, hN4.kt k5, G, hl, fun lp xs H6 k6 T6 hz hzb hzl => ⟨lp, rfl, ⟨_, .inl (.inl hz)⟩, ?_⟩⟩
      refine for_list (xs := xs) (fun j σ' H' => ∃ y5, σ' = [some (.ref a), some (.ref t), some (.int (0 + (i : Int))), some (.ref p), some (.str (rowsS n (rs.map R4.is))), y5] ∧ K0 H6 H') ⟨_, rfl, K0.refl _⟩ (fun j σ' H' hj h => ?_) (fun j x σ' H' hx h => ?_) (fun σ' H' h => ?_)
      · obtain ⟨_, _, kj⟩ := h
        exact .inl (.inl (kj.oth lp _ hz (fun _ z => by cases z)))
      · obtain ⟨y5, rfl, kj⟩ := h
        obtain ⟨b, m, nss, rfl, hI, hMm, hms, hml, hbad⟩ := (hzb x (List.mem_of_getElem? hx)).k0 kj
        have kt6 := (kt5.trans k6).trans (kj.kt)
        refine ⟨_, rfl, b, m, nss, rfl, hI, hMm, hms, hml, fun H7 k7 => ?_⟩
        have kt7 := kt6.trans k7.kt
        refine ⟨0, .str (rowsS m nss), _, rfl, word_rows hMm hms hml, kt7.tab _ ti1, kt7.tab _ tm1, kt7.tab _ tn1, kt7.tab _ tr1, fun H8 k8 => ⟨rfl, _, rfl, ?_⟩⟩
        rw [if_neg (by rw [hbad]; exact Bool.false_ne_true), decide_eq_true (show V.str "net" = V.str (Str.ofString "net") from rfl)]
        have kt8 := kt7.trans k8.kt
        have hI8 := (hI.k0 k7).k0 k8
        refine iteF ⟨_, rfl, 1, .ref b, _, rfl, .shown (by decide) (.inl ⟨_, hI8.dp, fun m' rs' e => ?_, hbad.symm⟩), kt8.tab _ ti1, kt8.tab _ tm1, kt8.tab _ tn1, kt8.tab _ tr1, fun H9 k9 => ⟨rfl, _, rfl, ?_⟩⟩
        · cases e
          rw [List.length_map]
          omega
        rw [decide_eq_true (show V.str "net" = V.str (Str.ofString "net") from rfl)]
        exact iteF ⟨_, rfl, ((kj.trans k7).trans k8).trans k9⟩
      · obtain ⟨y5, rfl, kj⟩ := h
        exact ⟨_, rfl, k6.trans kj.kt, T6.k0 kj⟩
    clear T5
    rintro σ' H6 ⟨y5, rfl, k6, T6⟩
    have kt6 := kt5.trans k6
    obtain ⟨r, xs, s1, s2, s3⟩ := (hN4.kt (k5.trans k6)).toI
    -- other things
    refine ⟨fun σ' H' => ∃ y5, σ' = [some (.ref a), some (.ref t), some (.int (0 + (i : Int))), some (.ref p), some (.str (rowsS n (rs.map R4.is))), y5] ∧ K0 H6 H', ?_, ?_⟩
    · refine ⟨few_n (xs := []) (by simp), fun p1 np1 => ?_⟩
      have kA := K0.new np1 (o := .tup [])
      have sA : SqT K (upd H6 p1 (.tup [])) p1 [] := .inl (.inl upd_same)
      have bA : BadN K (upd H6 p1 (.tup [])) (.ref p1) := ⟨.tuple [], .tup sA .nil, (fun m rs e => by cases e), rfl⟩
      generalize upd H6 p1 (.tup []) = GA at kA bA ⊢
      have s1A := kA.sqT s1
      have s2A := kA.sqT s2
      have s3A := s3.k0 kA
      refine ⟨_, rfl, p, _, rfl, .inr s1A, fun l1 nl1 => ?_⟩
      have kB := K0.new nl1 (o := .lst [.int n, .ref r])
      have sB : SqL K (upd GA l1 (.lst [.int n, .ref r])) l1 [.int n, .ref r] := .inl (.inl upd_same)
      have bB : BadN K (upd GA l1 (.lst [.int n, .ref r])) (.ref l1) := ⟨.list [.int n, .tuple ((rs.map R4.is).map fun ns => .tuple (ns.map PyData.int))], .lst sB (.cons (.int _) (.cons (.tup (kB.sqT s2A) (s3A.k0 kB).dp) .nil)), (fun m rs e => by cases e), rfl⟩
      generalize upd GA l1 (.lst [.int n, .ref r]) = GB at kB bB ⊢
      have s1B := kB.sqT s1A
      have s2B := kB.sqT s2A
      have s3B := s3A.k0 kB
      refine ⟨_, rfl, p, _, 0, .int n, rfl, rfl, s1B, atI_nat (j := 0) rfl, _, rfl, p, _, 1, .ref r, rfl, rfl, s1B, atI_nat (j := 1) rfl, r, _, rfl, .inr s2B, fun l2 nl2 => ?_⟩
      have kC := K0.new nl2 (o := .lst xs)
      have sC : SqL K (upd GB l2 (.lst xs)) l2 xs := .inl (.inl upd_same)
      generalize upd GB l2 (.lst xs) = GC at kC sC ⊢
      have s3C := s3B.k0 kC
      refine ⟨few_n (xs := [.int n, .ref l2]) (by simp), fun p2 np2 => ?_⟩
      have kD := K0.new np2 (o := .tup [.int n, .ref l2])
      have sD : SqT K (upd GC p2 (.tup [.int n, .ref l2])) p2 [.int n, .ref l2] := .inl (.inl upd_same)
      have bD : BadN K (upd GC p2 (.tup [.int n, .ref l2])) (.ref p2) := ⟨.tuple [.int n, .list ((rs.map R4.is).map fun ns => .tuple (ns.map PyData.int))], .tup sD (.cons (.int _) (.cons (.lst (kD.sqL sC) (s3C.k0 kD).dp) .nil)), (fun m rs e => by cases e), rfl⟩
      generalize upd GC p2 (.tup [.int n, .ref l2]) = GD at kD bD ⊢
      have s1D := kD.sqT (kC.sqT s1B)
      refine ⟨_, rfl, p, _, 0, .int n, rfl, rfl, s1D, atI_nat (j := 0) rfl, few_n (xs := [.int n]) (by simp), fun p3 np3 => ?_⟩
      have kF := K0.new np3 (o := .tup [.int n])
      have sF : SqT K (upd GD p3 (.tup [.int n])) p3 [.int n] := .inl (.inl upd_same)
      have bF : BadN K (upd GD p3 (.tup [.int n])) (.ref p3) := ⟨.tuple [.int n], .tup sF (.cons (.int _) .nil), (fun m rs e => by cases e), rfl⟩
      generalize upd GD p3 (.tup [.int n]) = GF at kF bF ⊢
      have bN : BadN K GF .non := ⟨.none, .non, (fun m rs e => by cases e), rfl⟩
      have bS : BadN K GF (.str (Str.ofString "net")) := ⟨.str _, .str _, (fun m rs e => by cases e), rfl⟩
      have hall : ∀ x ∈ ([.non, .ref p1, .ref l1, .ref p2, .ref p3, .str (Str.ofString "net")] : List V), BadN K GF x := fun x hx => by
        simp only [List.mem_cons, List.not_mem_nil, or_false] at hx
        rcases hx with rfl | rfl | rfl | rfl | rfl | rfl
        · exact bN
        · exact bA.k0 (((kB.trans kC).trans kD).trans kF)
        · exact bB.k0 ((kC.trans kD).trans kF)
        · exact bD.k0 kF
        · exact bF
        · exact bS
      refine ⟨few_n (xs := [.non, .ref p1, .ref l1, .ref p2, .ref p3, .str (Str.ofString "net")]) (by simp), fun lp nlp => ?_⟩
      have kL := K0.new nlp (o := .lst [.non, .ref p1, .ref l1, .ref p2, .ref p3, .str (Str.ofString "net")])
      have hz : (upd GF lp (.lst [.non, .ref p1, .ref l1, .ref p2, .ref p3, .str (Str.ofString "net")])) lp = some (.lst [.non, .ref p1, .ref l1, .ref p2, .ref p3, .str (Str.ofString "net")]) := upd_same
      generalize upd GF lp (.lst [.non, .ref p1, .ref l1, .ref p2, .ref p3, .str (Str.ofString "net")]) = GL at kL hz ⊢
      have kz := ((((kA.trans kB).trans kC).trans kD).trans kF).trans kL
      refine ⟨lp, rfl, ⟨_, .inl (.inl hz)⟩, ?_⟩
      refine for_list (xs := [.non, .ref p1, .ref l1, .ref p2, .ref p3, .str (Str.ofString "net")]) (fun j σ' H' => ∃ y5, σ' = [some (.ref a), some (.ref t), some (.int (0 + (i : Int))), some (.ref p), some (.str (rowsS n (rs.map R4.is))), y5] ∧ K0 GL H') ⟨_, rfl, K0.refl _⟩ (fun j σ' H' hj h => ?_) (fun j x σ' H' hx h => ?_) (fun σ' H' h => ?_)
      · obtain ⟨_, _, kj⟩ := h
        exact .inl (.inl (kj.oth lp _ hz (fun _ z => by cases z)))
      · obtain ⟨y5, rfl, kj⟩ := h
        have hb := (hall x (List.mem_of_getElem? hx)).k0 (kL.trans kj)
        have kt7 := kt6.trans (kz.trans kj).kt
        refine ⟨_, rfl, 1, x, _, rfl, .shown (by decide) hb.ans, kt7.tab _ ti1, kt7.tab _ tm1, kt7.tab _ tn1, kt7.tab _ tr1, fun H8 k8 => ⟨rfl, _, rfl, ?_⟩⟩
        rw [decide_eq_true (show V.str "net" = V.str (Str.ofString "net") from rfl)]
        exact iteF ⟨_, rfl, kj.trans k8⟩
      · obtain ⟨y5, rfl, kj⟩ := h
        exact ⟨_, rfl, kz.trans kj⟩
    rintro σ' H7 ⟨y5, rfl, k7⟩
    have kt7 := kt6.trans k7.kt
    -- the good text
    have hgood : isNetD (nD n (rs.map R4.is)) = true := by
      have := net_yes G
      unfold nD
      rw [List.map_map]
      exact this
    have hw := word_rows (K := K) (H := H7) hMn hrs hrl
    rw [if_pos hgood] at hw
    refine ⟨_, rfl, 0, .str (rowsS n (rs.map R4.is)), _, rfl, hw, kt7.tab _ ti1, kt7.tab _ tm1, kt7.tab _ tn1, kt7.tab _ tr1, fun H8 k8 => ⟨rfl, _, rfl, ?_⟩⟩
    rw [decide_eq_true (show V.str "" = V.str (Str.ofString "") from rfl)]
    have kt8 := kt7.trans k8.kt
    obtain ⟨c1, c2, c3, c4, c5⟩ := rows_parts hMn hrs hrl
    have e2 := textOk_rows hMn hrs
    have e3 : textD (headL n) ((rs.map R4.is).map (·.map sOf)) = nD n (rs.map R4.is) := textD_rows hMn (nss := rs.map R4.is) fun ns hns => (hrs ns hns).2
    refine iteF ⟨_, rfl, _, _, _, rfl, c1, c2, c3, c4, c5, kt8.tab _ ti1, kt8.tab _ tm1, kt8.tab _ tn1, kt8.tab _ tr1, fun H9 k9 => ⟨(fun e => ?_), (fun e e' => ?_), (fun e e' b hd => ?_)⟩⟩
    · rw [e2] at e; cases e
    · rw [e3, hgood] at e'; cases e'
    rw [e3] at hd
    have s9 := (k7.trans (k8.trans k9))
    have hN9 : NetI K H9 p n (rs.map R4.is) := NetI.k0 ⟨r, xs, s1, s2, s3⟩ s9
    refine ⟨_, rfl, nD n (rs.map R4.is), nD n (rs.map R4.is), hd, hN9.dp, nD_shaped n rs, nD_shaped n rs, _, rfl, ?_⟩
    rw [nD_eqv]
    refine iteF ⟨_, _, _, _, rfl, kt8.trans k9.kt, ?_⟩
    exact (T6.k0 s9).le (by omega)
end
end HK

set_option Elab.async false
set_option linter.all false
set_option maxRecDepth 100000
set_option maxHeartbeats 0
namespace HK
open PySem PySem.Spec PyProof.Rows L2 GAl GxR
abbrev RX : PySem.W.OpenRow := PySem.W.OpenLaw.row PySem.Challenge.rw_hearkenway_k57_texts_that_write_no_net
abbrev qX : Program := PySem.W.view RX.prog [40]
def namesX : List Str := (["__name__", "HearError", "NoNet", "NoPlace", "NoTree", "NoWays", "NoDeed", "NoEvents", "NoKept", "TooMany", "NoText", "NoRow", "NoName", "is_whole", "is_within", "rises", "MOST_PLACES", "MOST_PRICE", "LEAST_LATE", "MOST_LATE", "is_net", "is_road", "need_net", "FIGURES", "MOST_FIGURES"] : List Str) ++ (["show_net", "read_net", "is_number", "_law_e_blend", "_law_e_draw", "_law_e_net", "_law_e_text", "_law_e_kind", "_law_e_word", "_law_e_no_texts", "_law_e_no_nets"] : List Str)
def fnX : List He.DefD := [dd "_law_e_blend" sBlend, dd "_law_e_draw" sDraw, dd "_law_e_net" sENet, dd "_law_e_text" sETextG, dd "_law_e_no_texts" sENoT, dd "_law_e_no_nets" sENoN, dd "is_number" sIsNum, dd "is_whole" sWhole, dd "is_within" sWithin, dd "is_road" sIsRoad, dd "rises" sRises, dd "is_net" sIsNet, dd "need_net" sNeedNet, dd "read_net" sRead, dd "show_net" sShow, dd "_law_e_kind" sEKind, dd "_law_e_word" sEWord, dd "law" sLaw]
def faX : List He.Fa := [.glo "_law_e_blend", .glo "_law_e_draw", .glo "_law_e_net", .glo "_law_e_text", .glo "_law_e_no_texts", .glo "_law_e_no_nets", .glo "is_number", .glo "is_whole", .glo "is_within", .glo "is_road", .glo "rises", .glo "is_net", .glo "need_net", .glo "read_net", .glo "show_net", .glo "_law_e_kind", .glo "_law_e_word", .glo "law", .glo "NoDeed", .glo "NoEvents", .glo "NoKept", .glo "NoName", .glo "NoNet", .glo "NoPlace", .glo "NoRow", .glo "NoText", .glo "NoTree", .glo "NoWays", .glo "TooMany", .glo "HearError", .free "len", .free "range", .free "tuple", .free "str", .free "all", .free "isinstance", .free "int", .free "bool", .free "zip", .free "ValueError", .free "list", .int "MOST_FIGURES" 6, .str "FIGURES" (Str.ofString "0123456789"), .int "MOST_PRICE" 1000, .int "LEAST_LATE" 1, .int "MOST_LATE" 1000, .int "MOST_PLACES" 12, .exc "NoNet", .exc "NoText", .exm "NoNet" "HearError" true, .exm "NoText" "HearError" true]
def tfX : List He.Defn := [("is_number", none), ("read_net", none), ("is_net", none), ("rises", none)]
def exX : PySem.W.Frag → Bool := fun K => kindB K "NoNet" 4 && (kindB K "NoText" 7)
abbrev hkX : PySem.W.Hook := He.hookX 4 faX fnX [] tfX exX
def obX (s : PySem.W.SharedT) : He.AlX := He.obsX 4 faX fnX [] tfX exX (HandSHeadRun.getT s)
theorem obX_eq (s : PySem.W.SharedT) : obX s = hkX.obs s.abs := He.obsX_eq (HandSHeadRun.getT_eq s)
theorem at_law {w : World} {h : Heap} {K : PySem.W.Frag} {mg : Str → Option Value} {fa : Addr} (X : K.In h) (G : h.Ns mainGlobals mg) (hfa : mg "law" = some (.ref fa)) (c : He.SaysX faX fnX [] tfX exX w h K) : LamX.LawAtS PySem.Challenge.rw_hearkenway_k57_texts_that_write_no_net w K CX0 9 63 "script" mg fa h := by
  have cd := c.t.d
  obtain ⟨fd1, D1⟩ := cd.def_ 0 (d := dd "_law_e_blend" sBlend) rfl
  have F1 := fun_of (st := sBlend) D1
  have b1 := F1.binds (ps := ["cell", "place"]) fun _ _ _ _ _ _ us hl => match us, hl with | [_, _], _ => rfl
  have k1 := F1.kp
  have g1 := He.glo_ok X G (cd.fact 0 (f := .glo "_law_e_blend") rfl)
  obtain ⟨fd2, D2⟩ := cd.def_ 1 (d := dd "_law_e_draw" sDraw) rfl
  have F2 := fun_of (st := sDraw) D2
  have b2 := F2.binds (ps := ["tray", "many"]) fun _ _ _ _ _ _ us hl => match us, hl with | [_, _], _ => rfl
  have k2 := F2.kp
  have g2 := He.glo_ok X G (cd.fact 1 (f := .glo "_law_e_draw") rfl)
  obtain ⟨fd3, D3⟩ := cd.def_ 2 (d := dd "_law_e_net" sENet) rfl
  have F3 := fun_of (st := sENet) D3
  have b3 := F3.binds (ps := ["tray"]) fun _ _ _ _ _ _ us hl => match us, hl with | [_], _ => rfl
  have k3 := F3.kp
  have g3 := He.glo_ok X G (cd.fact 2 (f := .glo "_law_e_net") rfl)
  obtain ⟨fd4, D4⟩ := cd.def_ 3 (d := dd "_law_e_text" sETextG) rfl
  have F4 := fun_of (st := sETextG) D4
  have b4 := F4.binds (ps := ["net"]) fun _ _ _ _ _ _ us hl => match us, hl with | [_], _ => rfl
  have k4 := F4.kp
  have g4 := He.glo_ok X G (cd.fact 3 (f := .glo "_law_e_text") rfl)
  obtain ⟨fd5, D5⟩ := cd.def_ 4 (d := dd "_law_e_no_texts" sENoT) rfl
  have F5 := fun_of (st := sENoT) D5
  have b5 := F5.binds (ps := ["tray", "text"]) fun _ _ _ _ _ _ us hl => match us, hl with | [_, _], _ => rfl
  have k5 := F5.kp
  have g5 := He.glo_ok X G (cd.fact 4 (f := .glo "_law_e_no_texts") rfl)
  obtain ⟨fd6, D6⟩ := cd.def_ 5 (d := dd "_law_e_no_nets" sENoN) rfl
  have F6 := fun_of (st := sENoN) D6
  have b6 := F6.binds (ps := ["tray", "net"]) fun _ _ _ _ _ _ us hl => match us, hl with | [_, _], _ => rfl
  have k6 := F6.kp
  have g6 := He.glo_ok X G (cd.fact 5 (f := .glo "_law_e_no_nets") rfl)
  obtain ⟨fd7, D7⟩ := cd.def_ 6 (d := dd "is_number" sIsNum) rfl
  have F7 := funC_of (p := ("is_number", none)) (st := sIsNum) D7
  have b7 := F7.toFun.binds (ps := ["word"]) fun _ _ _ _ _ _ us hl => match us, hl with | [_], _ => rfl
  have k7 := F7.kp
  have g7 := He.glo_ok X G (cd.fact 6 (f := .glo "is_number") rfl)
  obtain ⟨fd8, D8⟩ := cd.def_ 7 (d := dd "is_whole" sWhole) rfl
  have F8 := fun_of (st := sWhole) D8
  have b8 := F8.binds (ps := ["thing"]) fun _ _ _ _ _ _ us hl => match us, hl with | [_], _ => rfl
  have k8 := F8.kp
  have g8 := He.glo_ok X G (cd.fact 7 (f := .glo "is_whole") rfl)
  obtain ⟨fd9, D9⟩ := cd.def_ 8 (d := dd "is_within" sWithin) rfl
  have F9 := fun_of (st := sWithin) D9
  have b9 := F9.binds (ps := ["thing", "least", "greatest"]) fun _ _ _ _ _ _ us hl => match us, hl with | [_, _, _], _ => rfl
  have k9 := F9.kp
  have g9 := He.glo_ok X G (cd.fact 8 (f := .glo "is_within") rfl)
  obtain ⟨fd10, D10⟩ := cd.def_ 9 (d := dd "is_road" sIsRoad) rfl
  have F10 := fun_of (st := sIsRoad) D10
  have b10 := F10.binds (ps := ["many", "thing"]) fun _ _ _ _ _ _ us hl => match us, hl with | [_, _], _ => rfl
  have k10 := F10.kp
  have g10 := He.glo_ok X G (cd.fact 9 (f := .glo "is_road") rfl)
  obtain ⟨fd11, D11⟩ := cd.def_ 10 (d := dd "rises" sRises) rfl
  have F11 := funC_of (p := ("rises", none)) (st := sRises) D11
  have b11 := F11.toFun.binds (ps := ["row"]) fun _ _ _ _ _ _ us hl => match us, hl with | [_], _ => rfl
  have k11 := F11.kp
  have g11 := He.glo_ok X G (cd.fact 10 (f := .glo "rises") rfl)
  obtain ⟨fd12, D12⟩ := cd.def_ 11 (d := dd "is_net" sIsNet) rfl
  have F12 := funC_of (p := ("is_net", none)) (st := sIsNet) D12
  have b12 := F12.toFun.binds (ps := ["thing"]) fun _ _ _ _ _ _ us hl => match us, hl with | [_], _ => rfl
  have k12 := F12.kp
  have g12 := He.glo_ok X G (cd.fact 11 (f := .glo "is_net") rfl)
  obtain ⟨fd13, D13⟩ := cd.def_ 12 (d := dd "need_net" sNeedNet) rfl
  have F13 := fun_of (st := sNeedNet) D13
  have b13 := F13.binds (ps := ["net"]) fun _ _ _ _ _ _ us hl => match us, hl with | [_], _ => rfl
  have k13 := F13.kp
  have g13 := He.glo_ok X G (cd.fact 12 (f := .glo "need_net") rfl)
  obtain ⟨fd14, D14⟩ := cd.def_ 13 (d := dd "read_net" sRead) rfl
  have F14 := funC_of (p := ("read_net", none)) (st := sRead) D14
  have b14 := F14.toFun.binds (ps := ["text"]) fun _ _ _ _ _ _ us hl => match us, hl with | [_], _ => rfl
  have k14 := F14.kp
  have g14 := He.glo_ok X G (cd.fact 13 (f := .glo "read_net") rfl)
  obtain ⟨fd15, D15⟩ := cd.def_ 14 (d := dd "show_net" sShow) rfl
  have F15 := fun_of (st := sShow) D15
  have b15 := F15.binds (ps := ["net"]) fun _ _ _ _ _ _ us hl => match us, hl with | [_], _ => rfl
  have k15 := F15.kp
  have g15 := He.glo_ok X G (cd.fact 14 (f := .glo "show_net") rfl)
  obtain ⟨fd16, D16⟩ := cd.def_ 15 (d := dd "_law_e_kind" sEKind) rfl
  have F16 := fun_of (st := sEKind) D16
  have b16 := F16.binds (ps := ["caught"]) fun _ _ _ _ _ _ us hl => match us, hl with | [_], _ => rfl
  have k16 := F16.kp
  have g16 := He.glo_ok X G (cd.fact 15 (f := .glo "_law_e_kind") rfl)
  obtain ⟨fd17, D17⟩ := cd.def_ 16 (d := dd "_law_e_word" sEWord) rfl
  have F17 := fun_of (st := sEWord) D17
  have b17 := F17.binds (ps := ["way", "thing"]) fun _ _ _ _ _ _ us hl => match us, hl with | [_, _], _ => rfl
  have k17 := F17.kp
  have g17 := He.glo_ok X G (cd.fact 16 (f := .glo "_law_e_word") rfl)
  obtain ⟨fd18, D18⟩ := cd.def_ 17 (d := dd "law" sLaw) rfl
  have F18 := fun_of (st := sLaw) D18
  have k18 := F18.kp
  have g18 := He.glo_ok X G (cd.fact 17 (f := .glo "law") rfl)
  have m0 := He.free_ok X G (cd.fact 30 (f := .free "len") rfl)
  have m1 := He.free_ok X G (cd.fact 31 (f := .free "range") rfl)
  have m2 := He.free_ok X G (cd.fact 32 (f := .free "tuple") rfl)
  have m3 := He.free_ok X G (cd.fact 33 (f := .free "str") rfl)
  have m4 := He.free_ok X G (cd.fact 34 (f := .free "all") rfl)
  have m5 := He.free_ok X G (cd.fact 35 (f := .free "isinstance") rfl)
  have m6 := He.free_ok X G (cd.fact 36 (f := .free "int") rfl)
  have m7 := He.free_ok X G (cd.fact 37 (f := .free "bool") rfl)
  have m8 := He.free_ok X G (cd.fact 38 (f := .free "zip") rfl)
  have m9 := He.free_ok X G (cd.fact 39 (f := .free "ValueError") rfl)
  have m10 := He.free_ok X G (cd.fact 40 (f := .free "list") rfl)
  obtain ⟨t0, u0⟩ := He.int_ok X G (cd.fact 41 (f := .int "MOST_FIGURES" 6) rfl)
  obtain ⟨t1, u1⟩ := He.str_ok X G (cd.fact 42 (f := .str "FIGURES" (Str.ofString "0123456789")) rfl)
  obtain ⟨t2, u2⟩ := He.int_ok X G (cd.fact 43 (f := .int "MOST_PRICE" 1000) rfl)
  obtain ⟨t3, u3⟩ := He.int_ok X G (cd.fact 44 (f := .int "LEAST_LATE" 1) rfl)
  obtain ⟨t4, u4⟩ := He.int_ok X G (cd.fact 45 (f := .int "MOST_LATE" 1000) rfl)
  obtain ⟨t5, u5⟩ := He.int_ok X G (cd.fact 46 (f := .int "MOST_PLACES" 12) rfl)
  have c1 := He.glo_ok X G (cd.fact 18 (f := .glo "NoDeed") rfl)
  have c2 := He.glo_ok X G (cd.fact 19 (f := .glo "NoEvents") rfl)
  have c3 := He.glo_ok X G (cd.fact 20 (f := .glo "NoKept") rfl)
  have c4 := He.glo_ok X G (cd.fact 21 (f := .glo "NoName") rfl)
  have c5 := He.glo_ok X G (cd.fact 22 (f := .glo "NoNet") rfl)
  have c6 := He.glo_ok X G (cd.fact 23 (f := .glo "NoPlace") rfl)
  have c7 := He.glo_ok X G (cd.fact 24 (f := .glo "NoRow") rfl)
  have c8 := He.glo_ok X G (cd.fact 25 (f := .glo "NoText") rfl)
  have c9 := He.glo_ok X G (cd.fact 26 (f := .glo "NoTree") rfl)
  have c10 := He.glo_ok X G (cd.fact 27 (f := .glo "NoWays") rfl)
  have c11 := He.glo_ok X G (cd.fact 28 (f := .glo "TooMany") rfl)
  have cH := He.glo_ok X G (cd.fact 29 (f := .glo "HearError") rfl)
  have more := c.more
  unfold exX at more
  obtain ⟨mo0, more⟩ := He.ba more
  have hX1 := xcls_of c5 (He.exc_ok (cd.fact 47 (f := .exc "NoNet") rfl))
  have hEN := hearE_of mo0 (by decide) (He.exm_ok (cd.fact 49 (f := .exm "NoNet" "HearError" true) rfl))
  have mo1 := more
  have hX2 := xcls_of c8 (He.exc_ok (cd.fact 48 (f := .exc "NoText") rfl))
  have hET := hearE_of mo1 (by decide) (He.exm_ok (cd.fact 50 (f := .exm "NoText" "HearError" true) rfl))
  have bl := FunD.bindsA (ps := ["script"]) D18 fun _ _ _ _ _ _ us hl => match us, hl with | [_], _ => rfl
  have e := hfa.symm.trans g18
  cases e
  have hcs : ∀ p ∈ [He.cT K ("is_number", none), He.cT K ("read_net", none), He.cT K ("is_net", none), He.cT K ("rises", none)], ∃ d ∈ tfX, p = He.cT K d := fun p hp => by
    simp only [List.mem_cons, List.not_mem_nil, or_false] at hp
    rcases hp with rfl | rfl | rfl | rfl
    · exact ⟨("is_number", none), by simp [tfX], rfl⟩
    · exact ⟨("read_net", none), by simp [tfX], rfl⟩
    · exact ⟨("is_net", none), by simp [tfX], rfl⟩
    · exact ⟨("rises", none), by simp [tfX], rfl⟩
  refine ⟨fd18, [He.cT K ("is_number", none), He.cT K ("read_net", none), He.cT K ("is_net", none), He.cT K ("rises", none)], spLaw K (He.cT K ("is_number", none)).2 (He.cT K ("read_net", none)).2 (He.cT K ("is_net", none)).2 (He.cT K ("rises", none)).2, fun p hp => ?_, fun p hp => ?_, fun p hp => ?_, fun s v => bl s [v] rfl, fun H a ns _ _ hH hS => ?_, fun base hK hN hB => ?_⟩
  · obtain ⟨d, hd, rfl⟩ := hcs p hp
    exact c.empty d hd
  · obtain ⟨d, hd, rfl⟩ := hcs p hp
    exact c.out d hd
  · obtain ⟨d, hd, rfl⟩ := hcs p hp
    exact PySem.W.codeHd_of_K X (c.hd d hd)
  · have tb0 : H (He.cT K ("is_number", none)).2 = some (.tbl #[]) := hH (He.cT K ("is_number", none)) (by simp)
    have tb1 : H (He.cT K ("read_net", none)).2 = some (.tbl #[]) := hH (He.cT K ("read_net", none)) (by simp)
    have tb2 : H (He.cT K ("is_net", none)).2 = some (.tbl #[]) := hH (He.cT K ("is_net", none)) (by simp)
    have tb3 : H (He.cT K ("rises", none)).2 = some (.tbl #[]) := hH (He.cT K ("rises", none)) (by simp)
    exact ⟨a, ns, rfl, hS, ⟨_, tb0, trivial⟩, ⟨_, tb1, trivial⟩, ⟨_, tb2, trivial⟩, ⟨_, tb3, trivial⟩, fun _ => rfl⟩
  · have B7 : GxR.TabB base mg (He.cT K ("is_number", none)).1 (He.cT K ("is_number", none)).2 := by
      obtain ⟨x1, x2, x3⟩ := hB (He.cT K ("is_number", none)) (by simp)
      exact ⟨x1, x2, x3⟩
    have B14 : GxR.TabB base mg (He.cT K ("read_net", none)).1 (He.cT K ("read_net", none)).2 := by
      obtain ⟨x1, x2, x3⟩ := hB (He.cT K ("read_net", none)) (by simp)
      exact ⟨x1, x2, x3⟩
    have B12 : GxR.TabB base mg (He.cT K ("is_net", none)).1 (He.cT K ("is_net", none)).2 := by
      obtain ⟨x1, x2, x3⟩ := hB (He.cT K ("is_net", none)) (by simp)
      exact ⟨x1, x2, x3⟩
    have B11 : GxR.TabB base mg (He.cT K ("rises", none)).1 (He.cT K ("rises", none)).2 := by
      obtain ⟨x1, x2, x3⟩ := hB (He.cT K ("rises", none)) (by simp)
      exact ⟨x1, x2, x3⟩
    have O1 := ok_blend (P := PySem.Challenge.rw_hearkenway_k57_texts_that_write_no_net.prog) (w := w) (mg := mg) (base := base) F1
    have O2 := ok_draw (P := PySem.Challenge.rw_hearkenway_k57_texts_that_write_no_net.prog) (w := w) (mg := mg) (base := base) F2 k1 b1 g1 O1 m0
    have O3 := ok_e_net (P := PySem.Challenge.rw_hearkenway_k57_texts_that_write_no_net.prog) (w := w) (mg := mg) (base := base) F3 k2 b2 g2 O2 m1 m2
    have O4 := ok_e_textG (P := PySem.Challenge.rw_hearkenway_k57_texts_that_write_no_net.prog) (w := w) (mg := mg) (base := base) F4 m3
    have O5 := ok_notexts (P := PySem.Challenge.rw_hearkenway_k57_texts_that_write_no_net.prog) (w := w) (mg := mg) (base := base) F5 k2 b2 g2 O2 m0 m1
    have O6 := ok_nonets (P := PySem.Challenge.rw_hearkenway_k57_texts_that_write_no_net.prog) (w := w) (mg := mg) (base := base) F6 k2 b2 g2 O2 m0
    have O7 := ok_isnum (P := PySem.Challenge.rw_hearkenway_k57_texts_that_write_no_net.prog) (w := w) (mg := mg) (base := base) F7 B7 m0 m4 u0 u1
    have O8 := ok_whole (P := PySem.Challenge.rw_hearkenway_k57_texts_that_write_no_net.prog) (w := w) (mg := mg) (base := base) F8 m5 m6 m7
    have O9 := ok_within (P := PySem.Challenge.rw_hearkenway_k57_texts_that_write_no_net.prog) (w := w) (mg := mg) (base := base) F9 F8 b8 g8 O8
    have O10 := ok_road (P := PySem.Challenge.rw_hearkenway_k57_texts_that_write_no_net.prog) (w := w) (mg := mg) (base := base) F10 F9 b9 g9 O9 m5 m2 m0 u2 u3 u4
    have O11 := ok_rises (P := PySem.Challenge.rw_hearkenway_k57_texts_that_write_no_net.prog) (w := w) (mg := mg) (base := base) F11 B11 m8 m4
    have O12 := ok_isnet (P := PySem.Challenge.rw_hearkenway_k57_texts_that_write_no_net.prog) (w := w) (mg := mg) (base := base) F12 B12 k9 b9 g9 O9 k10 b10 g10 O10 k11 b11 g11 O11 m5 m2 m0 m4 u5
    have O13 := ok_neednetX (P := PySem.Challenge.rw_hearkenway_k57_texts_that_write_no_net.prog) (w := w) (mg := mg) (base := base) F13 hX1 k12 b12 g12 O12
    have O14 := ok_readX (P := PySem.Challenge.rw_hearkenway_k57_texts_that_write_no_net.prog) (w := w) (mg := mg) (base := base) F14 B14 hX2 k7 b7 g7 O7 k13 b13 g13 O13 m5 m3 m0 m4 m6 m2
    have O15 := ok_showX (P := PySem.Challenge.rw_hearkenway_k57_texts_that_write_no_net.prog) (w := w) (mg := mg) (base := base) F15 k13 b13 g13 O13
    have O16 := ok_ekind (P := PySem.Challenge.rw_hearkenway_k57_texts_that_write_no_net.prog) (w := w) (mg := mg) (base := base) F16 c1 c2 c3 c4 c5 c6 c7 c8 c9 c10 c11 m5 m9
    have O17 := ok_eword (P := PySem.Challenge.rw_hearkenway_k57_texts_that_write_no_net.prog) (w := w) (mg := mg) (base := base) F17 cH hET hEN k14 b14 g14 O14 k15 b15 g15 O15 k16 b16 g16 O16
    exact ok_law F18 k3 b3 g3 O3 k4 b4 g4 O4 k5 b5 g5 O5 k6 b6 g6 O6 k17 b17 g17 O17 k14 b14 g14 O14 m0 m1 m10
end HK

open PySem PySem.W PySem.Calls PyProof.Rows
set_option Elab.async false
set_option linter.all false
set_option maxRecDepth 100000
set_option maxHeartbeats 0
theorem HK.runX (w : World) : HandSHeadRun.RunEq HK.RX HK.qX HK.hkX HK.obX 14000 HK.namesX w := by
  intro os
  kernel_rfl
theorem PySem.Challenge.cw_hearkenway_k57_texts_that_write_no_net_holds : PySem.Challenge.rw_hearkenway_k57_texts_that_write_no_net.Holds := by
  w_on; o_law
  refine HandSHeadRun.head_any (r := OpenLaw.row PySem.Challenge.rw_hearkenway_k57_texts_that_write_no_net) (q := HK.qX) (H := HK.hkX) (ob := HK.obX) (M := 14000) (loose := HK.namesX) (d := HandSHeadRun.topDef (OpenLaw.row PySem.Challenge.rw_hearkenway_k57_texts_that_write_no_net).prog 40) (kwd := []) HK.obX_eq
    (by kernel_rfl) (fun s => by kernel_rfl) HK.runX (by kernel_rfl) (by kernel_rfl) (by kernel_rfl) (by rfl) (by first | assumption | decide +kernel) (by decide +kernel) ⟨rfl, rfl, rfl, rfl, rfl, by decide +kernel⟩ ?hw ?hc
  case hw => w_witness2
  case hc =>
    refine LamX.walk_ofTsE (l := PySem.Challenge.rw_hearkenway_k57_texts_that_write_no_net) (n := 63) (k := 9) (x := "script") (CX := fun _ => L2.CX0) rfl (by decide) (by kernel_rfl) ⟨rfl, by decide, by decide⟩ ?F (fun _ _ _ _ _ h => h)
    intro w mg fa h Y G hmg0
    obtain ⟨K, KX, c⟩ := Y
    have hmg : mg ("law" : PySem.Str) = some (.ref fa) := by
      have e : (HandSHeadRun.topDef (OpenLaw.row PySem.Challenge.rw_hearkenway_k57_texts_that_write_no_net).prog 40).name = ("law" : PySem.Str) := by kernel_rfl
      rw [← e]
      exact hmg0
    exact ⟨K, KX, HK.at_law KX G hmg c⟩
