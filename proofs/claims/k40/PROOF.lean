import PyProof.Rows.All
import Wide.All
import OpenK.AllK
import Wide.FinOn
import KE.KIsAll
import KE.KTryMore
import HandS.ForMost
import HandS.ForExc
import HandS.Defaults
import HandS.ExcIs
import HandS.Lambda
import HandS.Codes
import HandS.Conv
import HandS.More
import HandS.Walk
import HandS.EndTab
import HandS.HeadWalk
import PyProof.ReprRoads
import PyProof.ListRange
import HandS.HeadHook1
import HandS.HeadHook2
import HandS.HeadHook3
import HandS.HeadHook4
import KE.KStateDown
import Lean
import HandS.IsInst
import HandS.Head0
import HandS.Head1
import HandS.Head2
import HandS.HeadEnd
import HandS.Wide
import KE.GoesMore
import KE.GoesEnum
import KE.KFmtOwn
import PyProof.InstEq
import HandS.OwnEq
import HandS.WideMore
import PyProof.ReprLen
import HandS.TupAny
import HandS.Dict
import HandS.DictComp
import HandS.Iter
import HandS.Zip
import HandS.SortKw
import KE.GoesEnumKw
import KE.GoesZip
import PyProof.Rows.CallKwBuiltin
import KE.KeyNested
import HandS.List
import KE.SortData
import KE.KDictCopyH
import KE.KDictWalk
import KE.KDictSum
import HandS.SortInts
import PyProof.DictItems
import PyProof.SumWalkG
import HandS.Finally
import KE.KDictOf
import KE.KDictKeyed
import HandS.Star
import HandS.Comp
import HandS.TupSets
import PySem.Challenge.RW_turncouple_k40_whole_rows_parted_and_exc
open PySem PySem.W PySem.Calls PyProof.Rows in
set_option Elab.async false in
set_option maxRecDepth 100000 in
set_option maxHeartbeats 0 in
theorem lookAt (h : PySem.Challenge.rw_turncouple_k40_whole_rows_parted_and_exc.row.wellSaid = true → PySem.Challenge.rw_turncouple_k40_whole_rows_parted_and_exc.row.Holds) : PySem.Challenge.rw_turncouple_k40_whole_rows_parted_and_exc.Holds := by
  w_on; o_law
  exact h (by assumption)
set_option Elab.async false
set_option linter.all false
set_option maxRecDepth 100000
set_option maxHeartbeats 4000000
/-! Exceptions that are caught, kept in a name and asked of later. -/
namespace TCX
open PySem PySem.Spec PyProof.Rows L2
/-! ### a clause that names five classes -/
section
open PySem.W
variable {M : Model} {K : Frag}
theorem exm_tup5 {c1 c2 c3 c4 c5 cls : Value} {tp e : Addr} {b : Bool} {h : Heap} (X : K.In h) (LT : Looks M h (typeOf (.ref e)) cls) (hp : h.get? tp = some { cls := .type "tuple", data := .seq [c1, c2, c3, c4, c5].toArray }) (hx : exmAny K cls [c1, c2, c3, c4, c5] = some b) :
    Looks M h (excMatches (.ref e) (.ref tp)) b := by
  intro A Q E s k₀ q
  obtain ⟨hh, g, d, tk, os⟩ := s
  have k : ∀ b o, h.get? b = some o → hh.get? b = some o := k₀
  have T0 : Looks M h (isInstance (.ref tp) (.type "tuple")) true := ((Looks.ld hp).andThen .now).andThen (Looks.of_pure isSubtype_tuple_tuple)
  have T1 := T0.keeps k
  have TY := LT.keeps k
  have hp' := k _ _ hp
  obtain ⟨b1, d1, x1, y1, z1⟩ := exmAny_cons hx
  obtain ⟨b2, d2, x2, y2, z2⟩ := exmAny_cons y1
  obtain ⟨b3, d3, x3, y3, z3⟩ := exmAny_cons y2
  obtain ⟨b4, d4, x4, y4, z4⟩ := exmAny_cons y3
  obtain ⟨b5, d5, x5, y5, z5⟩ := exmAny_cons y4
  have u1 := (exm_cls (M := M) X x1).1.keeps k
  have v1 := (exm_cls (M := M) X x1).2.keeps k
  have u2 := (exm_cls (M := M) X x2).1.keeps k
  have v2 := (exm_cls (M := M) X x2).2.keeps k
  have u3 := (exm_cls (M := M) X x3).1.keeps k
  have v3 := (exm_cls (M := M) X x3).2.keeps k
  have u4 := (exm_cls (M := M) X x4).1.keeps k
  have v4 := (exm_cls (M := M) X x4).2.keeps k
  have u5 := (exm_cls (M := M) X x5).1.keeps k
  have v5 := (exm_cls (M := M) X x5).2.keeps k
  have w5 : some false = some d5 := y5
  cases w5
  subst z1 z2 z3 z4 z5
  unfold excMatches
  refine wpAny_bind (T1.at ?_)
  dsimp only
  rw [if_pos rfl]
  first
    | refine wpAny_bind (wpAny_seqItems hp' rfl ?_)
    | refine wpAny_bind (wpAny_bind (wpAny_seqItems hp' rfl (wpAny_pure ?_)))
  dsimp only [Option.getD_some, Option.getD]
  cases b1 <;> cases b2 <;> cases b3 <;> cases b4 <;> cases b5 <;> ((repeat (first | simp only [List.forIn_cons, List.forIn_nil, Bool.not_true, Bool.false_eq_true, if_false, if_true] | lk)); exact q)
end
/-- the test t of a clause, asked while an exception of the class cls is handled: it says b -/
def Tst (X : Cx) (t : Expr) (cls : Value) (b : Bool) : Prop :=
  ∀ (a : Addr) (oe : Obj) (pn : List (Addr × Obj)) (σ : L2.St) (H : Hp) (s : Shared) (Q : Bool → Shared → Prop) (E : Value → Shared → Prop),
    Inv (X.suite a ((a, oe) :: pn)) [] σ H s → oe.cls = cls → (∀ h', (∀ q o, s.heap.get? q = some o → h'.get? q = some o) → Q b { s with heap := h' }) →
    wpAny (model X.prog X.w) (X.A.mark (some (.ref a))) (eval t X.env) (fun c s₁ => wpAny (model X.prog X.w) (X.A.mark (some (.ref a))) (excMatches (.ref a) c) Q E s₁) E s
section
variable {X : Cx}
theorem suite_ty {a : Addr} {oe : Obj} {pn : List (Addr × Obj)} {σ : L2.St} {H : Hp} {s : Shared} (I : Inv (X.suite a ((a, oe) :: pn)) [] σ H s) : PySem.W.Looks (model X.prog X.w) s.heap (typeOf (.ref a)) oe.cls := by
  obtain ⟨hget, _⟩ := I.pin (a, oe) (List.mem_append.mpr (.inl List.mem_cons_self))
  exact fun A Q E s k q => wpAny_typeOf_ref (k _ _ hget) q
theorem ld_names {a : Addr} {oe : Obj} {pn : List (Addr × Obj)} {σ : L2.St} {H : Hp} {s : Shared} {x : Str} {c : Value} {np : Pos} {Q : Value → Shared → Prop} {E : Value → Shared → Prop} (hc : Names X x c) (I : Inv (X.suite a ((a, oe) :: pn)) [] σ H s) (q : Q c s) :
    wpAny (model X.prog X.w) (X.A.mark (some (.ref a))) (eval (.Name x np) X.env) Q E s := by
  obtain ⟨hg, hdbg, hm | ⟨hm, hv, hnn⟩⟩ := hc
  · exact ld_glob (X := X.suite a ((a, oe) :: pn)) I hg hm q hdbg
  · exact ld_blt (X := X.suite a ((a, oe) :: pn)) I hg hm hv q hnn hdbg
theorem tst_name {x : Str} {c cls : Value} {np : Pos} {b : Bool} (hc : Names X x c) (he : PySem.W.exmOne X.K cls c = some b) : Tst X (.Name x np) cls b := by
  intro a oe pn σ H s Q E I e q
  subst e
  exact ld_names hc I ((PySem.W.exm_one I.kIn (suite_ty I) he).here (q s.heap fun _ _ z => z))
theorem tst_tup4 {x1 x2 x3 x4 : Str} {c1 c2 c3 c4 cls : Value} {p1 p2 p3 p4 tpos : Pos} {kk : Nat} {b : Bool} (n1 : Names X x1 c1) (n2 : Names X x2 c2) (n3 : Names X x3 c3) (n4 : Names X x4 c4) (he : PySem.W.exmAny X.K cls [c1, c2, c3, c4] = some b) :
    Tst X (.Tuple [.Name x1 p1, .Name x2 p2, .Name x3 p3, .Name x4 p4] kk tpos) cls b := by
  intro a oe pn σ H s Q E I e q
  subst e
  refine wpAny_Tuple ?_
  refine wpAny_items_cons (ld_names n1 I ?_)
  refine wpAny_items_cons (ld_names n2 I ?_)
  refine wpAny_items_cons (ld_names n3 I ?_)
  refine wpAny_items_cons (ld_names n4 I ?_)
  refine wpAny_items_nil ⟨by size_fits, ?_⟩
  have kp : ∀ q o, s.heap.get? q = some o → (s.heap.push { cls := .type "tuple", data := .seq [c1, c2, c3, c4].toArray }).get? q = some o := fun _ _ z => Heap.get?_push_of_some _ z
  exact (PySem.W.exm_tup4 (I.kIn.keeps kp) ((suite_ty I).keeps kp) (Heap.get?_push_size s.heap rfl) he).here (q _ kp)
theorem tst_tup5 {x1 x2 x3 x4 x5 : Str} {c1 c2 c3 c4 c5 cls : Value} {p1 p2 p3 p4 p5 tpos : Pos} {kk : Nat} {b : Bool} (n1 : Names X x1 c1) (n2 : Names X x2 c2) (n3 : Names X x3 c3) (n4 : Names X x4 c4) (n5 : Names X x5 c5) (he : PySem.W.exmAny X.K cls [c1, c2, c3, c4, c5] = some b) :
    Tst X (.Tuple [.Name x1 p1, .Name x2 p2, .Name x3 p3, .Name x4 p4, .Name x5 p5] kk tpos) cls b := by
  intro a oe pn σ H s Q E I e q
  subst e
  refine wpAny_Tuple ?_
  refine wpAny_items_cons (ld_names n1 I ?_)
  refine wpAny_items_cons (ld_names n2 I ?_)
  refine wpAny_items_cons (ld_names n3 I ?_)
  refine wpAny_items_cons (ld_names n4 I ?_)
  refine wpAny_items_cons (ld_names n5 I ?_)
  refine wpAny_items_nil ⟨by size_fits, ?_⟩
  have kp : ∀ q o, s.heap.get? q = some o → (s.heap.push { cls := .type "tuple", data := .seq [c1, c2, c3, c4, c5].toArray }).get? q = some o := fun _ _ z => Heap.get?_push_of_some _ z
  exact (exm_tup5 (I.kIn.keeps kp) ((suite_ty I).keeps kp) (Heap.get?_push_size s.heap rfl) he).here (q _ kp)
end
/-! ### a caught exception that is tracked from now on -/
/-- at a stands an exception of the class cls, its own dict d -/
def ExV (cls : Value) (d : Option Addr) (a : Addr) : HO := .ext fun h => ∃ (oe : Obj) (vs : Array Value), h.get? a = some oe ∧ Zc cls d oe ∧ oe.data = .fields vs
theorem exV_ok {P : Program} {w : World} {H : Hp} {h : Heap} {a : Addr} {cls : Value} {d : Option Addr} {oe : Obj} {vs : Array Value} (e : h.get? a = some oe) (z : Zc cls d oe) (hd : oe.data = .fields vs) : ObjOk P w H h a (ExV cls d a) :=
  ⟨⟨oe, vs, e, z, hd⟩, ⟨oe, e⟩, fun _ _ ⟨o, v, q, r⟩ k => ⟨o, v, k o q, r⟩⟩
theorem flyZ_keeps {B h h' : Heap} {l : List Env} {e : Addr} {Z : Obj → Prop} (R : HandSPX.FlyingZ B l e Z h) (k : ∀ b o, h.get? b = some o → h'.get? b = some o) : HandSPX.FlyingZ B l e Z h' := by
  obtain ⟨f1, f2, f3, oe, ws, T, oT, ts, he, hz, hd, h1, hn, hne, hT, hdT, h3⟩ := R
  exact ⟨fun b o q => k b o (f1 b o q), f2, f3.of_keeps fun b o q _ => ⟨o, k b o q, rfl⟩, oe, ws, T, oT, ts, k _ _ he, hz, hd, h1, hn, hne, k _ _ hT, hdT, h3⟩
section
variable {X : Cx} {pins : List (Addr × Obj)} {σ : L2.St} {H : Hp} {s : Shared}
theorem Inv_track {a : Addr} {cls : Value} {d : Option Addr} {oe : Obj} {vs : Array Value} (I : Inv X pins σ H s) (h0 : X.s_0.heap.get? a = none) (na : H a = none) (he : s.heap.get? a = some oe) (hz : Zc cls d oe) (hd : oe.data = .fields vs) (nL : a ≠ X.env.locals) (nP : ∀ p ∈ X.pn ++ pins, p.1 ≠ a) :
    Inv X pins σ (upd H a (ExV cls d a)) s := by
  have nS : ∀ b u, H b = some u → b ≠ a := fun b u e => ne_of_none e na
  refine ⟨I.ok, I.os, I.bare, ⟨I.base.keep, I.base.slot, fun b o e n hx => ?_, I.base.there, fun b xs e => ?_, fun b o u e => ?_, fun b ps e => ?_⟩, I.loc, I.cell, ?_, fun x c e => ?_, fun p hp => ?_, fun b u e => ?_, I.len⟩
  · rw [upd_ne (fun z => by rw [z, h0] at e; cases e)]
    exact I.base.free b o e n hx
  · have q := I.base.tups b xs e
    rw [upd_ne (nS _ _ q)]
    exact q
  · have q := I.base.frzs b o u e
    rw [upd_ne (nS _ _ q)]
    exact q
  · obtain ⟨m, q⟩ := I.base.tbls b ps e
    exact ⟨m, by rw [upd_ne (nS _ _ q)]; exact q⟩
  · rw [upd_ne (Ne.symm nL)]
    exact I.free
  · obtain ⟨v, o, ho, hdc⟩ := I.cell x c e
    rw [upd_ne (fun z => by
      rw [z, he] at ho
      cases ho
      rw [hd] at hdc
      cases hdc)]
    exact I.freeC x c e
  · obtain ⟨e, n, ne, nf, dd⟩ := I.pin p hp
    exact ⟨e, by rw [upd_ne (nP p hp)]; exact n, ne, nf, dd⟩
  · by_cases hb : b = a
    · subst hb
      rw [upd_same] at e
      cases e
      exact exV_ok he hz hd
    · rw [upd_ne hb] at e
      exact (I.hok b u e).stay (fun c v _ q => q) (fun c q => by rw [upd_ne (nS _ _ q)]; exact q) fun c xs q => by rw [upd_ne (nS _ _ q)]; exact q
theorem Inv_suite0 {a : Addr} (I : Inv X pins σ H s) : Inv (X.suite a (X.pn ++ pins)) [] σ H s :=
  ⟨I.ok.suite _ _, I.os, I.bare, I.base, I.loc, I.cell, I.free, I.freeC, fun p hp => I.pin p (by rw [List.append_nil] at hp; exact hp), I.hok, I.len⟩
theorem Inv_unsuite0 {a : Addr} {pn' : List (Addr × Obj)} (I : Inv (X.suite a (X.pn ++ pins)) pn' σ H s) (ok : X.Ok) : Inv X pins σ H s :=
  ⟨ok, I.os, I.bare, I.base, I.loc, I.cell, I.free, I.freeC, fun p hp => I.pin p (List.mem_append_left _ hp), I.hok, I.len⟩
end
/-- the ends of a suite whose name's slot i is emptied behind it -/
def endsAs (i : Nat) (D : Ends) : Ends := { nx := fun σ' H' => D.nx (σ'.set i none) H', rt := D.rt, bk := fun σ' H' => D.bk (σ'.set i none) H', ct := fun σ' H' => D.ct (σ'.set i none) H' }
/-- what the clauses wish: each has its classes, its name's slot, its suite -/
def wKeep (K : PySem.W.Frag) (D : Ends) : List (List Value × Nat × (Addr → Value → Option Addr → TS)) → WX
  | [] => fun _ _ _ _ => False
  | (cs, i, ts) :: r => fun cls d σ H => ∃ b, PySem.W.exmAny K cls cs = some b ∧ (b = true → ∀ a, H a = none → ts a cls d (endsAs i D) (σ.set i (some (.ref a))) (upd H a (ExV cls d a))) ∧ (b = false → wKeep K D r cls d σ H)
inductive HdK (X : Cx) : List ExceptHandler → List (List Value × Nat × (Addr → Value → Option Addr → TS)) → Prop
  | nil : HdK X [] []
  | cons {t : Expr} {n : Str} {i : Nat} {cs : List Value} {ts : Addr → Value → Option Addr → TS} {b₀ : Stmt} {suite : List Stmt} {pos' : Pos} {hds : List ExceptHandler} {l : List (List Value × Nat × (Addr → Value → Option Addr → TS))}
      (ht : ∀ cls b, PySem.W.exmAny X.K cls cs = some b → Tst X t cls b) (hi : X.N[i]? = some n) (hln : X.env.kindOf n = some .local)
      (hsu : ∀ (a : Addr) (cls : Value) (d : Option Addr) (pn : List (Addr × Obj)), PSs (X.suite a pn) (b₀ :: suite) (ts a cls d)) (r : HdK X hds l) :
      HdK X (.ExceptHandler (some t) (some n) (b₀ :: suite) pos' :: hds) ((cs, i, ts) :: l)
section
variable {X : Cx} {body : List Stmt} {h₀ : ExceptHandler} {hds : List ExceptHandler} {l : List (List Value × Nat × (Addr → Value → Option Addr → TS))} {pos : Pos} {tb : WX → TS}
theorem ps_try_keep (hs : X.stack = X.env :: X.outer) (hf : X.env.frame = some X.env.locals) (hex : X.ex = []) (hN : X.N.Nodup)
    (hb : ∀ (W : WX) (pn : List (Addr × Obj)) (xe : Value → Shared → Prop), Takes (X.tr pn xe) W → PassesOwn (model X.prog X.w) X.A X.env xe → PSs (X.tr pn xe) body (tb W))
    (hh : HdK X (h₀ :: hds) l) : PS X (.Try body (h₀ :: hds) [] [] pos) (fun D σ H => tb (fun cls d σ' H' => σ'.length = X.N.length → wKeep X.K D l cls d σ' H') D σ H) := by
  refine ⟨fun pins s σ H D I h => ?_⟩
  have ok := I.ok
  have hfr : X.A.frames = some (X.env :: X.outer) := by rw [ok.frames, hs]
  refine wpAny_Try_except ?_
  refine wpAny_mono ((hb (fun cls d σ' H' => σ'.length = X.N.length → wKeep X.K D l cls d σ' H') (X.pn ++ pins) (fun e s₁ => wpAny (model X.prog X.w) X.A (noteFrame e X.env) (fun _ s₂ => wpAny (model X.prog X.w) X.A (setFlight e none) (fun _ s₃ =>
    wpAny (model X.prog X.w) X.A (handleBy e X.env (h₀ :: hds)) (SP X pins D) X.xe s₃) X.xe s₂) X.xe s₁) (fun u s' xx => ?_) PassesOwn.looking).run [] s σ H D (I.toTry _) h) (fun f s1 hsp => ?_) (fun e s1 he => he)
  · obtain ⟨a, B, sI, pins', σ', H', cls, d, rfl, J', nb, up, sky, na, os, ag, w⟩ := xx
    have J : Inv X pins σ' H' sI := J'.ofTry ok
    have sky' : Sky B (X.env :: X.outer) a (Zc cls d) X.env.locals s'.heap := by rw [← hs]; exact sky
    show wpAny (model X.prog X.w) X.A (noteFrame (.ref a) X.env) _ _ _
    refine Sky.land Zc.steady hfr hf sky' fun h3 fl3 up3 => ?_
    have notFr : ∀ {h : Heap} {o : Obj} {vs : Array Value}, h.FunFrames B (X.env :: X.outer) → h.get? a = some o → o.data = .fields vs → a ∉ frs (X.env :: X.outer) := fun {h o vs} ff e dd hm => by
      obtain ⟨_, o', e', hnf⟩ := ff.mem hm
      rw [e] at e'; cases e'
      exact hnf _ dd
    have nfr : a ∉ frs (X.env :: X.outer) := by
      obtain ⟨oe3, vs3, he3, hz3, hd3⟩ := fl3.there
      exact notFr fl3.2.2.1 he3 hd3
    have nL : a ≠ X.env.locals := fun z => nfr (List.mem_filterMap.mpr ⟨X.env, List.mem_cons_self, by rw [hf, z]⟩)
    have nF : a ∉ X.fs := fun hm => by
      obtain ⟨e, he, q⟩ := List.mem_filterMap.mp hm
      exact nfr (List.mem_filterMap.mpr ⟨e, List.mem_cons_of_mem _ he, q⟩)
    have nI : sI.heap.get? a = none := by
      cases e : sI.heap.get? a with
      | none => rfl
      | some o =>
        have z := nb a o e (by rw [hs]; exact nfr)
        rw [fl3.2.1] at z
        cases z
    have n0 : X.s_0.heap.get? a = none := by
      cases e : X.s_0.heap.get? a with
      | none => rfl
      | some o =>
        obtain ⟨o', z⟩ := J.base.there a o e (by rw [hex]; exact fun z => nomatch z)
        rw [nI] at z
        cases z
    have nP : ∀ p ∈ X.pn ++ pins, p.1 ≠ a := fun p hp z => by
      obtain ⟨e, _⟩ := J.pin p hp
      rw [z, nI] at e
      cases e
    have go : ∀ {hds' : List ExceptHandler} {l' : List (List Value × Nat × (Addr → Value → Option Addr → TS))}, HdK X hds' l' → wKeep X.K D l' cls d σ' H' → ∀ h3 : Heap, HandSPX.FlyingZ B (X.env :: X.outer) a (Zc cls d) h3 → sI.heap.UpToSlots h3 →
        wpAny (model X.prog X.w) X.A (handleBy (.ref a) X.env hds') (SP X pins D) X.xe { s' with heap := h3 } := by
      intro hds' l' hk
      induction hk with
      | nil =>
        intro w
        exact w.elim
      | @cons t n i cs ts b₀ suite pos' hds2 l2 ht hi hln hsu r ih =>
        intro w h3 fl3 up3
        obtain ⟨b, hb1, hyes, hno⟩ := w
        have J3 : Inv X pins σ' H' { s' with heap := h3 } := J.landed nb fl3.1 up3 os ag
        obtain ⟨oe3, vs3, he3, hz3, hd3⟩ := fl3.there
        have S3 := J3.suite he3 hd3 na nL nF
        refine wpAny_handleBy_cons (codeAny_handlers_test (ht cls b hb1 a oe3 _ _ _ _ _ _ S3 hz3.1 fun h4 kp => ?_)) (by intro q; cases q)
        have fl4 := flyZ_keeps fl3 kp
        have up4 : sI.heap.UpToSlots h4 := up3.trans (Heap.UpToSlots.of_keeps kp)
        cases b with
        | true =>
          refine codeAny_handlers_suite_as ?_
          refine HandSPX.lands_againZ (s := { s' with heap := h4 }) fl4 fun h5 fl5 up5 => ?_
          have J5 : Inv X pins σ' H' { s' with heap := h5 } := J.landed nb fl5.1 (up4.trans up5) os ag
          obtain ⟨oe5, vs5, he5, hz5, hd5⟩ := fl5.there
          have K5 : Inv X pins σ' (upd H' a (ExV cls d a)) { s' with heap := h5 } := Inv_track J5 n0 na he5 hz5 hd5 nL nP
          have S5 : Inv (X.suite a (X.pn ++ pins)) [] σ' (upd H' a (ExV cls d a)) { s' with heap := h5 } := Inv_suite0 K5
          refine store_ok (X := X.suite a (X.pn ++ pins)) (v := .ref a) S5 hN hi (.inl hln) rfl (fun s6 S6 => ?_) (.inr hln)
          refine wpAny_mono ((hsu a cls d (X.pn ++ pins)).run [] s6 _ _ _ S6 (hyes rfl a na)) (fun f s7 hsp => ?_) (fun _ _ z => False.elim z)
          have end_ : ∀ {σ6 : L2.St} {H6 : Hp} {Q : Shared → Prop}, Inv (X.suite a (X.pn ++ pins)) [] σ6 H6 s7 → (∀ s8, Inv X pins (σ6.set i none) H6 s8 → Q s8) →
              wpAny (model X.prog X.w) X.A (do bindName X.env n .none; unbindBehindTheSuite X.env n pos') (fun _ s8 => Q s8) X.xe s7 := fun {σ6 H6 Q} S6 hq => gone_ok (Inv_unsuite0 S6 ok) hN hi hln hq
          cases f with
          | next =>
            obtain ⟨σ6, H6, S6, q6⟩ := hsp
            exact end_ S6 fun s7 J7 => ⟨_, _, J7, q6⟩
          | brk =>
            obtain ⟨σ6, H6, S6, q6⟩ := hsp
            exact end_ S6 fun s7 J7 => ⟨_, _, J7, q6⟩
          | cont =>
            obtain ⟨σ6, H6, S6, q6⟩ := hsp
            exact end_ S6 fun s7 J7 => ⟨_, _, J7, q6⟩
          | ret u =>
            obtain ⟨v6, σ6, H6, S6, r6, q6⟩ := hsp
            exact end_ S6 fun s7 J7 => ⟨_, _, _, J7, r6, q6⟩
        | false =>
          show wpAny _ X.A (handleBy (.ref a) X.env hds2) _ _ _
          exact ih (hno rfl) h4 fl4 up4
    exact go hh (w J.len) h3 fl3 (up.trans up3)
  · cases f with
    | next =>
      obtain ⟨σ', H', J', q⟩ := hsp
      exact wpAny_execs_nil ⟨σ', H', J'.ofTry ok, q⟩
    | brk =>
      obtain ⟨σ', H', J', q⟩ := hsp
      exact ⟨σ', H', J'.ofTry ok, q⟩
    | cont =>
      obtain ⟨σ', H', J', q⟩ := hsp
      exact ⟨σ', H', J'.ofTry ok, q⟩
    | ret u =>
      obtain ⟨v, σ', H', J', r, q⟩ := hsp
      exact ⟨v, σ', H', J'.ofTry ok, r, q⟩
end
/-! ### isinstance of it -/
section
variable {X : Cx}
/-- isinstance(e, c), e a kept exception of an own class without fields -/
def rIsV (K : PySem.W.Frag) : List V → Hp → VK → Prop := fun xs H Q => ∃ (a D : Addr) (c : V) (cv : Value) (b : Bool), xs = [.ref a, c] ∧ H a = some (ExV (.ref D) none a) ∧ ExcC K D ∧ (∀ u, RelV c u → u = cv) ∧ PySem.W.kitOne K (.ref D) cv = some b ∧ Q (.bl b) H
theorem inst_of {pins : List (Addr × Obj)} {σ : L2.St} {H : Hp} {s : Shared} {a D : Addr} (I : Inv X pins σ H s) (h : H a = some (ExV (.ref D) none a)) : ∃ oe, PySem.W.InstAt s.heap a oe D none := by
  obtain ⟨⟨oe, vs, hget, hz, hv⟩, _, _⟩ := I.hok a _ h
  refine ⟨oe, ?_⟩
  obtain ⟨oc, od, oda, osl⟩ := oe
  obtain ⟨h1, h2⟩ := hz
  dsimp only at h1 h2 hv
  subst h1 h2 hv
  exact ⟨hget, rfl, rfl, trivial⟩
theorem call_isV : CallR X (.builtin "isinstance") (rIsV X.K) := by
  intro pins s σ H xs us Q I r h
  obtain ⟨a, D, c, cv, b, rfl, hH, C, hcv, e, q⟩ := h
  cases r with
  | cons rx rr =>
    cases rr with
    | cons rt rr =>
      cases rr
      cases rx
      have ec := hcv _ rt
      subst ec
      obtain ⟨oe, J⟩ := inst_of I hH
      exact PySem.W.kia_one (PySem.W.handS_kitx_exc C.hg C.hk C.hs C.hd C.ha C.hn C.ht C.hm) I.kIn J e (fun z => nomatch z) fun tk => ⟨.bl b, H, I.kept (t' := tk) fun _ _ z => z, rfl, q⟩
/-- xs.count(y), flat items -/
def rCount (K : PySem.W.Frag) : V → List V → Hp → VK → Prop := fun x xs H Q => ∃ (a : Addr) (ys : List V) (y : V), x = V.ref a ∧ xs = [y] ∧ SqL K H a ys ∧ flatV y = true ∧ ys.all flatV = true ∧ Q (.int ((ys.countP fun z => eqV z y : Nat) : Int)) H
theorem count_eqU {y : V} : ∀ {xs : List V} {us : List Value}, Vals xs us → xs.all flatV = true → us.countP (eqU y) = xs.countP fun z => eqV z y
  | _, _, .nil, _ => rfl
  | x :: xs, u :: us, .cons r t, f => by
    rw [List.all_cons, Bool.and_eq_true] at f
    rw [List.countP_cons, List.countP_cons, eqU_of r f.1, count_eqU t f.2]
theorem mt_count : MtR X "list.count" (rCount X.K) := by
  intro pins s σ H x xs v us Q I rx rxs h
  obtain ⟨a, ys, y, rfl, rfl, hs, fy, fys, q⟩ := h
  cases rx
  cases rxs with
  | cons ry rt =>
    rename_i uy ut
    cases rt
    obtain ⟨its, rv, ⟨⟨cls, dd, data, sl⟩, n, ho, hc, hdn, hd⟩, hlen⟩ := I.list hs
    simp only at hc hd
    subst hc hd
    refine call_meets PySem.F.slot_list_count ⟨_, ho, rfl⟩ PySem.F.entry_list_count (PySem.F.args_list_count_2 _ _)
      (SeqAt.list_countAt a its.toArray n dd sl uy (eqU y)) ⟨ho, fun u' hu' => mem_eqAt ry fy rv fys u' (by simpa using hu'), ?_⟩
    have ec : its.toArray.toList.countP (eqU y) = ys.countP fun z => eqV z y := count_eqU rv fys
    refine ⟨.int ((ys.countP fun z => eqV z y : Nat) : Int), H, I.tok _, ⟨s.toks, ?_⟩, q⟩
    rw [ec]
end
end TCX
/-! Defs that ask repr of lists and tuples: the guards of the calls around are told. -/
namespace TCX
open PySem PySem.Spec PyProof.Rows L2
/-- FnOk where no repr is under way -/
structure FnG (P : Program) (w : World) (K : PySem.W.Frag) (mg : Str → Option Value) (base : Heap) (CX : CXT) (k : Nat) (f : Addr) (fd : FuncData) (ps : List Str) (sp : Sp) : Prop where
  glen : ∀ vs H Q E, sp vs H Q E → vs.length = ps.length
  grun : ∀ (A : Around) (outer : List Env) (s : Shared) (H : Hp) (args : Args) (us : List Value) (vs : List V) (Q : VK) (E : XK), A.guards = some [] → Room k A → Env0 P w K mg base A outer s H → BindsTo s fd args (ps.zip us) → Vals vs us → sp vs H Q E →
    codeAny (model P w) A (.call (.ref f) args) (CR CX outer P w H s Q E) s
section
variable {P : Program} {w : World} {K : PySem.W.Frag} {mg : Str → Option Value} {base : Heap} {x qual : Str} {params : Arguments} {body : List Stmt} {scope : Scope} {dvs : List V} {kws : List (Str × V)} {f : Addr} {fd : FuncData} {CX : CXT} {N ps : List Str} {k : Nat} {sp : Sp}
theorem okG (F : FunD K x qual params body scope dvs kws f fd) (S : FnScope N ps scope) (len : ∀ vs H Q E, sp vs H Q E → vs.length = ps.length)
    (hbody : ∀ (cdv : Value) (A : Around) (outer : List Env) (s : Shared) (H : Hp) (vs : List V) (Q : VK) (E : XK), A.guards = some [] → Room k (A.deeper (envOfC qual scope s.heap.objs.size f cdv)) → sp vs H Q E →
      ∃ t, PSs (cxOf CX P w K mg base N qual scope f cdv A outer s H E) body t ∧ t { nx := fun _ H' => Q .non H', rt := Q } (L2.start N vs) H) : FnG P w K mg base CX (k + 1) f fd ps sp := by
  obtain ⟨oc, od, dV, kV, doc, pm, an, cdv, ct, osl, rfl, lk, hcd, _, _⟩ := F.ex
  exact ⟨len, fun A outer s H args us vs Q E hg hr e0 hb r hsp => LamX.run_ofS lk hcd S hr e0 hb r (len _ _ _ _ hsp) fun hr' => hbody cdv A outer s H vs Q E hg hr' hsp⟩
end
section
variable {X : Cx} {CX : CXT} {k : Nat} {f : Addr} {fd : FuncData} {ps : List Str} {sp : Sp} {E : XK} {x : Str} {p pos : Pos} {e : Expr} {es : List Expr} {t : TA} {dvs : List V} {ds : List Value}
/-- f(e, ..) of such a def -/
theorem pe_callG (F : FnG X.prog X.w X.K X.mg X.base CX k f fd ps sp) (hG : X.A.guards = some []) (hr : Room k X.A) (hg : Gl X x) (hm : X.mg x = some (.ref f)) (hk : PySem.W.keepIn X.K (.ref f) = true) (hb : L2.Binds X.K fd ps ds) (hd : Vals dvs ds) (hx : Passes CX X E)
    (ha : PA X (e :: es) t) (hdb : (x == ("__debug__" : Str)) = false := by decide) (he : starEach (e :: es) X.env = (false, eval e X.env) :: starEach es X.env := by rfl) (hpl : (backTo pos (starEach es X.env)).any (·.1) = false := by rfl) :
    PE X (.Call (.Name x p) (e :: es) [] pos) (tCall sp dvs E t) := by
  refine ⟨fun pins s σ H Q I h => wpAny_Call_Name_kw (ld_glob I hg hm ?_ hdb)⟩
  refine PySem.W.callWith_K (h₀ := X.base) I.ok.mod.kin hk (thn (ha.run pos pins s σ H _ I h) fun us s1 z => ?_) he hpl
  obtain ⟨vs, H1, I1, r, q⟩ := z
  refine ⟨I1.kIn, wpAny_call (codeAny_mono (F.grun X.A X.stack s1 H1 ⟨us, []⟩ (us ++ ds) (vs ++ dvs) Q E hG hr I1.env0 (hb s1 us I1.kIn ?_) (r.append hd) q) fun y s' hq => ?_)⟩
  · rw [← (r.append hd).length]
    exact F.glen _ _ _ _ q
  · match y, hq with
    | .error u, hq => exact hx pins σ H1 s1 u s' I1 hq
    | .ok (.ret u), hq => exact I1.after hq
    | .ok .next, hq => exact False.elim hq
    | .ok .brk, hq => exact False.elim hq
    | .ok .cont, hq => exact False.elim hq
/-- repr(x) of lists and tuples of data -/
theorem call_reprD (hG : X.A.guards = some []) (hu : X.A.units + 64 < cLine) : CallR X (.builtin "repr") (fun xs H Q => ∃ (a : Addr) (d : PyData), xs = [.ref a] ∧ Dp X.K H (.ref a) d ∧ d.showable = true ∧ d.hasDict = false ∧ d.depth ≤ 60 ∧ d.shown.length ≤ sizeLine ∧ Q (.str d.shown) H) := by
  intro pins s σ H xs us Q I r h
  obtain ⟨a, d, rfl, hd, hs, hn, hdp, hz, q⟩ := h
  rw [Vals.ref1 r]
  obtain ⟨as, hr⟩ := Dp.reads I d (.ref a) (.ref a) hd rfl
  exact repr_of_reads' hr hs (fun z => by rw [hn] at z; cases z) hG (by omega) (fun _ _ z => z) (fun h' u tk hk => ⟨.str d.shown, H, I.kept (t' := tk) hk, ⟨u, rfl⟩, q⟩) hz
theorem call_reprB : CallR X (.builtin "repr") (fun xs H Q => ∃ b : Bool, xs = [.bl b] ∧ Q (.str (if b then "True" else "False")) H) := by
  intro pins s σ H xs us Q I r h
  obtain ⟨b, rfl, q⟩ := h
  obtain ⟨u, rfl, rfl⟩ := vals1 r
  exact P.repr_of_bool ⟨.str (if b then "True" else "False"), H, I.tok _, ⟨_, rfl⟩, q⟩
end
/-! ### list(range(a, b, 2)) -/
theorem size2 {a b : Int} {n : Nat} (h : a < b) (hn : (b - a - 1) / 2 + 1 = n) : Builtin.Range.rangeSize a b 2 = n := by
  unfold Builtin.Range.rangeSize
  rw [if_pos (by decide), if_pos h, hn]
theorem size2_0 {a b : Int} (h : ¬ a < b) : Builtin.Range.rangeSize a b 2 = (0 : Nat) := by
  unfold Builtin.Range.rangeSize
  rw [if_pos (by decide), if_neg h]
  rfl
theorem small2 {a b : Int} (ha : -100000 ≤ a) (ha' : a < 100000) (hb : -100000 ≤ b) (hb' : b < 100000) : Builtin.Range.small a b 2 = true := by
  unfold Builtin.Range.small
  by_cases h : a < b
  · rw [size2 (n := ((b - a - 1) / 2 + 1).toNat) h (by omega)]
    simp only [Builtin.Range.rangeFitsLong, Bool.and_eq_true, Bool.or_eq_true, decide_eq_true_eq, beq_iff_eq, show (2 : Int) > 0 by decide, if_true]
    omega
  · rw [size2_0 h]
    simp only [Builtin.Range.rangeFitsLong, Bool.and_eq_true, Bool.or_eq_true, decide_eq_true_eq, beq_iff_eq, show (2 : Int) > 0 by decide, if_true]
    omega
/-- a, a + 2, .. : n of them -/
def upV (a : Int) (n : Nat) : List V := (List.range n).map fun i => V.int (a + (i : Nat) * 2)
theorem upV_length (a : Int) (n : Nat) : (upV a n).length = n := by rw [upV, List.length_map, List.length_range]
section
variable {X : Cx} {a b : Expr} {ta : TA}
def tLst2 (ta : TA) : TE := fun σ H Q => ta σ H fun vs H1 => ∃ (i j : Int) (n : Nat), vs = [.int i, .int j, .int 2] ∧ -100000 ≤ i ∧ i < 100000 ∧ -100000 ≤ j ∧ j < 100000 ∧ Builtin.Range.rangeSize i j 2 = n ∧ ∀ q, H1 q = none → Q (.ref q) (upd H1 q (.lst (upV i n)))
theorem pe_list2 {c : Expr} {p pos p2 pos2 : Pos} (hc : X.calm = true) (hgl : Gl X "list") (hml : X.mg "list" = none) (hgr : Gl X "range") (hmr : X.mg "range" = none) (ha : PA X [a, b, c] ta)
    (hs : starEach [a, b, c] X.env = (false, eval a X.env) :: starEach [b, c] X.env := by rfl) (hpl : (backTo pos2 (starEach [b, c] X.env)).any (·.1) = false := by rfl)
    (hs2 : starEach [Expr.Call (.Name "range" p2) [a, b, c] [] pos2] X.env = (false, eval (.Call (.Name "range" p2) [a, b, c] [] pos2) X.env) :: starEach [] X.env := by rfl) :
    PE X (.Call (.Name "list" p) [.Call (.Name "range" p2) [a, b, c] [] pos2] [] pos) (tLst2 ta) := by
  refine ⟨fun pins s σ H Q I h => ?_⟩
  refine Call_ (ld_blt I hgl hml boot_list (PyProof.Rows.callWith_type1 (args_cons ?_ hs2) hs2))
  refine Call_ (ld_blt I hgr hmr boot_range (PyProof.Rows.callWith_type1 (thn (ha.run pos2 pins s σ H _ I h) fun us s1 z => ?_) hs hpl))
  obtain ⟨vs, H1, I1, r1, i, j, n, rfl, i1, i2, j1, j2, hn, q⟩ := z
  match us, r1 with
  | [_, _, _], .cons ⟨t, rfl⟩ (.cons ⟨t', rfl⟩ (.cons ⟨t'', rfl⟩ .nil)) =>
    refine call_range_3 (by decide) (args_nil ?_) (Or.inl (PyProof.noPylong_of_log2 (by decide +kernel)))
    have I2 : Inv X pins σ H1 { s1 with heap := s1.heap.push { cls := .type "range", data := .fields #[.int i t, .int j t', .int 2 t''] } } := I1.kept (t' := s1.toks) fun b u e => Heap.get?_push_of_some _ e
    have nle : n ≤ 2 ^ 24 := by
      unfold Builtin.Range.rangeSize at hn
      rw [if_pos (by decide)] at hn
      by_cases z : i < j
      · rw [if_pos z] at hn
        omega
      · rw [if_neg z] at hn
        omega
    refine call_list_range (n := n) (I2.ok.hd hc) (IsRange.new _ _ _ _ _ _ _) (small2 i1 i2 j1 j2) hn nle fun h' tk acc c' hk e' hi => ?_
    have hv : Vals (upV i n) acc.toList := by
      have e : acc.toList.length = n := by rw [Array.length_toList]; exact hi.1
      rw [upV, ← e]
      refine vals_of_get acc.toList _ fun k u hj => ?_
      obtain ⟨y, rfl⟩ := hi.2 k u (by rw [← hj, Array.getElem?_toList])
      exact ⟨y, rfl⟩
    refine ⟨.ref _, upd H1 _ (.lst (upV i n)), I2.laid hk (Nat.le_refl _) (show ObjOk X.prog X.w _ _ _ (.lst (upV i n)) from ⟨?_, acc.toList, c', hv, ?_⟩), rfl, q _ (I2.hok.fresh (Nat.le_refl _))⟩
    · rw [upV_length, sizeLine_eq]
      omega
    · rw [Array.toArray_toList]
      exact e'
end
end TCX
/-! What the head tells of the program's exception classes. -/
namespace TCX
open PySem PySem.Spec PyProof.Rows L2
/-- what isinstance asks of the class at D -/
def excB (K : PySem.W.Frag) (D : Addr) : Bool :=
  He.eqO (PySem.W.findIn K (.ref D) "__getattribute__") (some (some (.builtin "BaseException.__getattribute__"))) && (He.eqO (PySem.W.findIn K (.ref D) "__getattr__") (some none) && (decide (PySem.W.subIn K (.ref D) (.type "BaseException") = some true) &&
    (PySem.W.hasDictIn K D && (He.eqO (PySem.W.findIn K (.ref D) "__class__") (some (some (.builtin "object.__class__"))) && (He.eqO (PySem.W.specialIn K (.builtin "object.__class__") "__get__") (some (some (.builtin "getset_descriptor.__get__"))) &&
      (decide (PySem.W.takesIn K (.builtin "object.__class__") = some true) && decide (PySem.W.mroIn K D (.type "object") = some true)))))))
theorem excB_ok {K : PySem.W.Frag} {D : Addr} (h : excB K D = true) : ExcC K D := by
  obtain ⟨h1, h⟩ := He.ba h
  obtain ⟨h2, h⟩ := He.ba h
  obtain ⟨h3, h⟩ := He.ba h
  obtain ⟨h4, h⟩ := He.ba h
  obtain ⟨h5, h⟩ := He.ba h
  obtain ⟨h6, h⟩ := He.ba h
  obtain ⟨h7, h8⟩ := He.ba h
  exact ⟨He.eqO_ok h1, He.eqO_ok h2, of_decide_eq_true h3, h4, He.eqO_ok h5, He.eqO_ok h6, of_decide_eq_true h7, of_decide_eq_true h8⟩
/-- the classes in the order in which _law_word asks for them -/
def clsN : List Str := (["Empty", "NoDeed", "NoHalf", "NoLinking", "NoNet", "NoNumber", "NoOffset", "NoQuestion", "NoRow", "NoSize", "NoStanding"] : List Str) ++ (["NoTable", "NoText", "NotParted", "NoTree", "NoTriple", "NoWay", "TooWide", "ByNought", "NoName", "NoPlace", "NothingDone"] : List Str)
def words : List Str := (["empty", "deed", "half", "linking", "net", "number", "offset", "question", "row", "size", "standing"] : List Str) ++ (["table", "text", "parted", "tree", "triple", "way", "wide", "nought", "name", "place", "done"] : List Str)
/-- of the 22 classes the at-th one alone is D's -/
def Kits (K : PySem.W.Frag) (D : Addr) (at_ : Nat) : Prop := clsN.map (fun x => PySem.W.kitOne K (.ref D) (.ref (He.ga K x))) = (List.range 22).map fun i => some (i == at_)
instance {K : PySem.W.Frag} {D : Addr} {n : Nat} : Decidable (Kits K D n) := inferInstanceAs (Decidable (_ = _))
theorem Kits.at {K : PySem.W.Frag} {D : Addr} {n : Nat} (h : Kits K D n) (i : Nat) {x : Str} (hx : clsN[i]? = some x) : PySem.W.kitOne K (.ref D) (.ref (He.ga K x)) = some (i == n) := by
  have e := congrArg (fun l : List (Option Bool) => l[i]?) h
  have hi : i < 22 := by
    obtain ⟨z, _⟩ := List.getElem?_eq_some_iff.mp hx
    exact Nat.lt_of_lt_of_eq z rfl
  simp only [List.getElem?_map, hx, Option.map_some] at e
  rw [List.getElem?_range hi] at e
  exact Option.some.inj e
structure Kind (K : PySem.W.Frag) (D : Addr) (n : Nat) : Prop where
  ec : ExcC K D
  kits : Kits K D n
  te : PySem.W.kitOne K (.ref D) (.ref (He.ga K "TurnError")) = some (decide (n < 18))
  ve : PySem.W.kitOne K (.ref D) (.type "ValueError") = some (decide (n < 18))
def excAll (K : PySem.W.Frag) (x : Str) (n : Nat) : Bool := excB K (He.ga K x) && (decide (Kits K (He.ga K x) n) && (decide (PySem.W.kitOne K (.ref (He.ga K x)) (.ref (He.ga K "TurnError")) = some (decide (n < 18))) && (decide (PySem.W.kitOne K (.ref (He.ga K x)) (.type "ValueError") = some (decide (n < 18))) &&
  decide (PySem.W.exmAny K (.ref (He.ga K x)) [.ref (He.ga K "TurnError")] = some (decide (n < 18))))))
theorem excAll_ok {K : PySem.W.Frag} {x : Str} {n : Nat} (h : excAll K x n = true) : Kind K (He.ga K x) n ∧ PySem.W.exmAny K (.ref (He.ga K x)) [.ref (He.ga K "TurnError")] = some (decide (n < 18)) := by
  obtain ⟨h1, h⟩ := He.ba h
  obtain ⟨h2, h⟩ := He.ba h
  obtain ⟨h3, h⟩ := He.ba h
  obtain ⟨h4, h5⟩ := He.ba h
  exact ⟨⟨excB_ok h1, of_decide_eq_true h2, of_decide_eq_true h3, of_decide_eq_true h4⟩, of_decide_eq_true h5⟩
/-- as Kind, of all the classes -/
structure KindF (K : PySem.W.Frag) (D : Addr) (n : Nat) : Prop where
  ec : ExcC K D
  kits : Kits K D n
  te : PySem.W.kitOne K (.ref D) (.ref (He.ga K "TurnError")) = some (decide (n < 18))
  ve : PySem.W.kitOne K (.ref D) (.type "ValueError") = some (decide (n < 18))
  kz : PySem.W.kitOne K (.ref D) (.type "ZeroDivisionError") = some (n == 18)
  ky : PySem.W.kitOne K (.ref D) (.type "KeyError") = some (n == 19)
  ki : PySem.W.kitOne K (.ref D) (.type "IndexError") = some (n == 20)
  kl : PySem.W.kitOne K (.ref D) (.type "LookupError") = some (decide (19 ≤ n))
  kt : PySem.W.kitAny K (.ref D) [.type "KeyError", .type "IndexError"] = some (n == 19 || n == 20)
  x5 : PySem.W.exmAny K (.ref D) [.ref (He.ga K "TurnError"), .ref (He.ga K "ByNought"), .ref (He.ga K "NoName"), .ref (He.ga K "NoPlace"), .ref (He.ga K "NothingDone")] = some true
def excAllF (K : PySem.W.Frag) (x : Str) (n : Nat) : Bool := excB K (He.ga K x) && (decide (Kits K (He.ga K x) n) && (decide (PySem.W.kitOne K (.ref (He.ga K x)) (.ref (He.ga K "TurnError")) = some (decide (n < 18))) && (decide (PySem.W.kitOne K (.ref (He.ga K x)) (.type "ValueError") = some (decide (n < 18))) &&
  (decide (PySem.W.kitOne K (.ref (He.ga K x)) (.type "ZeroDivisionError") = some (n == 18)) && (decide (PySem.W.kitOne K (.ref (He.ga K x)) (.type "KeyError") = some (n == 19)) && (decide (PySem.W.kitOne K (.ref (He.ga K x)) (.type "IndexError") = some (n == 20)) && (decide (PySem.W.kitOne K (.ref (He.ga K x)) (.type "LookupError") = some (decide (19 ≤ n))) &&
  (decide (PySem.W.kitAny K (.ref (He.ga K x)) [.type "KeyError", .type "IndexError"] = some (n == 19 || n == 20)) && decide (PySem.W.exmAny K (.ref (He.ga K x)) [.ref (He.ga K "TurnError"), .ref (He.ga K "ByNought"), .ref (He.ga K "NoName"), .ref (He.ga K "NoPlace"), .ref (He.ga K "NothingDone")] = some true)))))))))
theorem excAllF_ok {K : PySem.W.Frag} {x : Str} {n : Nat} (h : excAllF K x n = true) : KindF K (He.ga K x) n := by
  obtain ⟨h1, h⟩ := He.ba h
  obtain ⟨h2, h⟩ := He.ba h
  obtain ⟨h3, h⟩ := He.ba h
  obtain ⟨h4, h⟩ := He.ba h
  obtain ⟨h5, h⟩ := He.ba h
  obtain ⟨h6, h⟩ := He.ba h
  obtain ⟨h7, h⟩ := He.ba h
  obtain ⟨h8, h⟩ := He.ba h
  obtain ⟨h9, ha⟩ := He.ba h
  exact ⟨excB_ok h1, of_decide_eq_true h2, of_decide_eq_true h3, of_decide_eq_true h4, of_decide_eq_true h5, of_decide_eq_true h6, of_decide_eq_true h7, of_decide_eq_true h8, of_decide_eq_true h9, of_decide_eq_true ha⟩
/-- an own class over ZeroDivisionError -/
def zBase : List Value := [.type "ZeroDivisionError", .type "ArithmeticError", .type "Exception", .type "BaseException", .type "object"]
def excZ (K : PySem.W.Frag) (x : Str) : Bool := PySem.W.excIn K (He.ga K x) zBase "ZeroDivisionError.__new__" && (PySem.W.keepIn K (.ref (He.ga K x)) && (decide (PySem.W.subIn K (.ref (He.ga K x)) (.type "BaseException") = some true) && decide (PySem.W.typeIn K (.ref (He.ga K x)) = some (.type "type"))))
theorem excZ_ok {K : PySem.W.Frag} {x : Str} (h : excZ K x = true) : PySem.W.excIn K (He.ga K x) zBase "ZeroDivisionError.__new__" = true ∧ PySem.W.keepIn K (.ref (He.ga K x)) = true ∧ PySem.W.subIn K (.ref (He.ga K x)) (.type "BaseException") = some true ∧ PySem.W.typeIn K (.ref (He.ga K x)) = some (.type "type") := by
  obtain ⟨h1, h⟩ := He.ba h
  obtain ⟨h2, h⟩ := He.ba h
  obtain ⟨h3, h4⟩ := He.ba h
  exact ⟨h1, h2, of_decide_eq_true h3, of_decide_eq_true h4⟩
end TCX
namespace TCX
open PySem PySem.Spec PyProof.Rows L2
/-- an own class over IndexError -/
def iBase : List Value := [.type "IndexError", .type "LookupError", .type "Exception", .type "BaseException", .type "object"]
def excI (K : PySem.W.Frag) (x : Str) : Bool := PySem.W.excIn K (He.ga K x) iBase "IndexError.__new__" && (PySem.W.keepIn K (.ref (He.ga K x)) && (decide (PySem.W.subIn K (.ref (He.ga K x)) (.type "BaseException") = some true) && decide (PySem.W.typeIn K (.ref (He.ga K x)) = some (.type "type"))))
theorem excI_ok {K : PySem.W.Frag} {x : Str} (h : excI K x = true) : PySem.W.excIn K (He.ga K x) iBase "IndexError.__new__" = true ∧ PySem.W.keepIn K (.ref (He.ga K x)) = true ∧ PySem.W.subIn K (.ref (He.ga K x)) (.type "BaseException") = some true ∧ PySem.W.typeIn K (.ref (He.ga K x)) = some (.type "type") := by
  obtain ⟨h1, h⟩ := He.ba h
  obtain ⟨h2, h⟩ := He.ba h
  obtain ⟨h3, h4⟩ := He.ba h
  exact ⟨h1, h2, of_decide_eq_true h3, of_decide_eq_true h4⟩
end TCX
namespace TC
open PySem PySem.Spec PyProof.Rows L2 TCX
/-! the text by places -/
def top (i : Nat) : Stmt := PySem.Challenge.pw_turncouple_k40_whole_rows_parted_and_exc.main.body.getD i (.Pass ⟨0, 0, 0, 0⟩)
abbrev sWhole : Stmt := top 7
abbrev sCounted : Stmt := top 13
abbrev sByOff : Stmt := top 14
abbrev sLabels : Stmt := top 15
abbrev sLabelAt : Stmt := top 16
abbrev sPlaceOf : Stmt := top 17
abbrev sNeedRow : Stmt := top 18
abbrev sEnds : Stmt := top 19
abbrev sWays : Stmt := top 20
abbrev sPen : Stmt := top 22
abbrev sDraw : Stmt := top 23
abbrev sJoints : Stmt := top 24
abbrev sRow : Stmt := top 25
abbrev sMixed : Stmt := top 26
abbrev sAllC : Stmt := top 27
abbrev sCut : Stmt := top 28
abbrev sListed : Stmt := top 29
abbrev sLaw : Stmt := top 30
abbrev FnP (K : PySem.W.Frag) (x : Str) (st : Stmt) (f : Addr) (fd : FuncData) : Prop := FunD K x x (defArgs st) (defBody st) (defScope st) [] [] f fd
def dd (x : Str) (st : Stmt) : He.DefD := ⟨(x, none), x, x, defArgs st, defBody st, defScope st, [], []⟩
def fn : List He.DefD := ([dd "is_whole" sWhole, dd "counted" sCounted, dd "counted_by_offsets" sByOff, dd "labels" sLabels, dd "label_at" sLabelAt, dd "place_of" sPlaceOf, dd "need_row" sNeedRow, dd "ends_of" sEnds, dd "ways_to" sWays, dd "_law_pen" sPen, dd "_law_draw" sDraw, dd "_law_joints" sJoints, dd "_law_row" sRow, dd "_law_mixed" sMixed, dd "_law_all_counts" sAllC, dd "_law_cut_right" sCut] : List He.DefD) ++ ([dd "_law_listed" sListed, dd "law" sLaw] : List He.DefD)
def fa : List He.Fa := ([.glo "TurnError", .glo "NoSize", .glo "TooWide", .glo "NoRow", .glo "NoPlace", .glo "is_whole", .glo "counted", .glo "counted_by_offsets", .glo "labels", .glo "label_at", .glo "place_of", .glo "need_row", .glo "ends_of", .glo "ways_to", .glo "_law_pen", .glo "_law_draw"] : List He.Fa) ++ ([.glo "_law_joints", .glo "_law_row", .glo "_law_mixed", .glo "_law_all_counts", .glo "_law_cut_right", .glo "_law_listed", .glo "law", .int "MOST_OF_ROW" 10, .int "HIGHEST_OF_ROW" 12, .int "HIGHEST_END" 120, .int "MOST_LABELS" 2000, .exc "NoRow", .exc "NoSize", .free "isinstance", .free "int", .free "bool"] : List He.Fa) ++ ([.free "abs", .free "list", .free "range", .free "len", .free "IndexError", .free "sum", .free "sorted", .free "tuple", .free "enumerate", .free "dict", .free "set"] : List He.Fa)
def exB (K : PySem.W.Frag) : Bool := excI K "NoPlace"
def tf : List He.Defn := []
def hk : PySem.W.Hook := He.hookX 5 fa fn [] tf exB
abbrev R : PySem.W.OpenRow := PySem.W.OpenLaw.row PySem.Challenge.rw_turncouple_k40_whole_rows_parted_and_exc
def ob (s : PySem.W.SharedT) : He.AlX := He.obsX 5 fa fn [] tf exB (HandSHeadRun.getT s)
theorem ob_eq (s : PySem.W.SharedT) : ob s = hk.obs s.abs := He.obsX_eq (s := s.abs) (HandSHeadRun.getT_eq s)
def loose : List PySem.Str := (["TurnError", "NoSize", "TooWide", "NoRow", "NoPlace", "is_whole", "MOST_OF_ROW", "HIGHEST_OF_ROW", "HIGHEST_END", "MOST_LABELS", "counted", "counted_by_offsets", "labels", "label_at", "place_of", "need_row"] : List PySem.Str) ++ (["ends_of", "ways_to", "_law_pen", "_law_draw", "_law_joints", "_law_row", "_law_mixed", "_law_all_counts", "_law_cut_right", "_law_listed"] : List PySem.Str)
end TC
namespace TC
open PySem PySem.Spec PyProof.Rows L2
theorem run (w : World) : HandSHeadRun.RunEq R (PySem.W.view R.prog [30]) hk ob 30000 loose w := by
  intro os
  kernel_rfl
end TC
/-! The mathematics, in plain Lean. -/
namespace TCM
/-! ### the greatest common divisor, by steps with Python's remainder -/
theorem gcd_fmod (a b : Int) : Int.gcd b (a.fmod b) = Int.gcd a b := by
  have e : a.fmod b = a - b * a.fdiv b := by
    have := Int.fmod_add_mul_fdiv a b
    omega
  rw [e, Int.gcd_comm a b]
  apply Nat.dvd_antisymm
  · refine Int.dvd_gcd (Int.gcd_dvd_left ..) ?_
    have h1 : ((Int.gcd b (a - b * a.fdiv b) : Nat) : Int) ∣ b := Int.gcd_dvd_left ..
    have h2 : ((Int.gcd b (a - b * a.fdiv b) : Nat) : Int) ∣ a - b * a.fdiv b := Int.gcd_dvd_right ..
    have h3 := Int.dvd_add h2 (Int.dvd_mul_of_dvd_left (c := a.fdiv b) h1)
    have e2 : a - b * a.fdiv b + b * a.fdiv b = a := by omega
    rw [e2] at h3
    exact h3
  · refine Int.dvd_gcd (Int.gcd_dvd_left ..) ?_
    have h1 : ((Int.gcd b a : Nat) : Int) ∣ b := Int.gcd_dvd_left ..
    have h2 : ((Int.gcd b a : Nat) : Int) ∣ a := Int.gcd_dvd_right ..
    exact Int.dvd_sub h2 (Int.dvd_mul_of_dvd_left (c := a.fdiv b) h1)
theorem fmod_lt (a b : Int) (h : b ≠ 0) : (a.fmod b).natAbs < b.natAbs := by
  rcases Int.lt_or_gt_of_ne h with hb | hb
  · have h1 : a.fmod b = a % b + if 0 ≤ b ∨ b ∣ a then 0 else b := Int.fmod_eq_emod
    have := Int.emod_nonneg a h
    have := Int.emod_lt_of_pos a (b := -b) (by omega)
    rw [Int.emod_neg] at this
    rw [h1]
    split
    · omega
    · rename_i z
      have : a % b ≠ 0 := fun e => z (.inr (Int.dvd_of_emod_eq_zero e))
      omega
  · have h1 := Int.fmod_nonneg_of_pos a hb
    have h2 := Int.fmod_lt_of_pos a hb
    omega
theorem abs_eq (i : Int) : (if i < 0 then -i else i) = ((i.natAbs : Nat) : Int) := by
  split <;> omega
/-! ### a fraction in lowest terms -/
def sgn (t b : Int) : Int := if b < 0 then -((Int.gcd t b : Nat) : Int) else ((Int.gcd t b : Nat) : Int)
def low (t b : Int) : Int × Int := (t.fdiv (sgn t b), b.fdiv (sgn t b))
/-- as the law says it -/
def lowL (t b : Int) : Int × Int := if 0 < b then (t.fdiv ((Int.gcd t b : Nat) : Int), b.fdiv ((Int.gcd t b : Nat) : Int)) else ((-t).fdiv ((Int.gcd t b : Nat) : Int), (-b).fdiv ((Int.gcd t b : Nat) : Int))
theorem low_eq (t b : Int) (h : b ≠ 0) : low t b = lowL t b := by
  unfold low lowL sgn
  by_cases hb : b < 0
  · rw [if_pos hb, if_neg (by omega)]
    have e1 := Int.neg_fdiv_neg (-t) ((Int.gcd t b : Nat) : Int)
    have e2 := Int.neg_fdiv_neg (-b) ((Int.gcd t b : Nat) : Int)
    rw [Int.neg_neg] at e1 e2
    rw [e1, e2]
  · rw [if_neg hb, if_pos (by omega)]
theorem gcd_pos (t b : Int) (h : b ≠ 0) : 0 < Int.gcd t b := by
  have : Int.gcd t b ≠ 0 := fun e => h (Int.gcd_eq_zero_iff.mp e).2
  omega
theorem gcd_le (t b : Int) (h : b ≠ 0) : Int.gcd t b ≤ b.natAbs := by
  show Nat.gcd t.natAbs b.natAbs ≤ b.natAbs
  exact Nat.gcd_le_right _ (by omega)
theorem sgn_ne (t b : Int) (h : b ≠ 0) : sgn t b ≠ 0 := by
  have := gcd_pos t b h
  unfold sgn
  split <;> omega
theorem sgn_abs (t b : Int) : (sgn t b).natAbs = Int.gcd t b := by
  unfold sgn
  split <;> omega
/-- the quotients are no larger -/
theorem fdiv_abs (t d : Int) (h : d ≠ 0) (hd : d ∣ t) : (t.fdiv d).natAbs ≤ t.natAbs := by
  obtain ⟨k, rfl⟩ := hd
  rw [Int.mul_fdiv_cancel_left k h, Int.natAbs_mul]
  exact Nat.le_mul_of_pos_left _ (by omega)
theorem sgn_dvd (t b : Int) : sgn t b ∣ t ∧ sgn t b ∣ b := by
  have h1 : ((Int.gcd t b : Nat) : Int) ∣ t := Int.gcd_dvd_left ..
  have h2 : ((Int.gcd t b : Nat) : Int) ∣ b := Int.gcd_dvd_right ..
  unfold sgn
  split
  · exact ⟨Int.neg_dvd.mpr h1, Int.neg_dvd.mpr h2⟩
  · exact ⟨h1, h2⟩
theorem low_abs (t b : Int) (h : b ≠ 0) : (low t b).1.natAbs ≤ t.natAbs ∧ (low t b).2.natAbs ≤ b.natAbs :=
  ⟨fdiv_abs t _ (sgn_ne t b h) (sgn_dvd t b).1, fdiv_abs b _ (sgn_ne t b h) (sgn_dvd t b).2⟩
theorem low_pos (t b : Int) (h : b ≠ 0) : 0 < (low t b).2 := by
  obtain ⟨k, hk⟩ := (sgn_dvd t b).2
  have hs := sgn_ne t b h
  have e : (low t b).2 = k := by
    show b.fdiv (sgn t b) = k
    rw [hk, ← hk]
    have e2 : b.fdiv (sgn t b) = (sgn t b * k).fdiv (sgn t b) := by rw [← hk]
    rw [e2]
    exact Int.mul_fdiv_cancel_left k hs
  rw [e]
  have g0 := gcd_pos t b h
  unfold sgn at hk
  by_cases hb : b < 0
  · rw [if_pos hb] at hk
    rcases Int.lt_trichotomy k 0 with z | z | z
    · exfalso
      have := Int.mul_nonneg_of_nonpos_of_nonpos (a := -((Int.gcd t b : Nat) : Int)) (b := k) (by omega) (by omega)
      omega
    · rw [z] at hk
      omega
    · exact z
  · rw [if_neg hb] at hk
    rcases Int.lt_trichotomy k 0 with z | z | z
    · exfalso
      have := Int.mul_nonneg (a := ((Int.gcd t b : Nat) : Int)) (b := -k) (by omega) (by omega)
      rw [Int.mul_neg] at this
      omega
    · rw [z] at hk
      omega
    · exact z
theorem low_one (t : Int) : low t 1 = (t, 1) := by
  unfold low sgn
  rw [if_neg (by decide), Int.gcd_one]
  show (t.fdiv 1, (1 : Int).fdiv 1) = (t, 1)
  rw [Int.fdiv_one]
  rfl
/-! ### squares taken out -/
/-- while n % (p * p) == 0: n //= p * p; o *= p -/
def whl : Nat → Int → Int → Int → Int × Int
  | 0, _, n, o => (n, o)
  | k + 1, p, n, o => if n % (p * p) = 0 then whl k p (n / (p * p)) (o * p) else (n, o)
/-- as squares_out goes on: over the primes, until 1 is left: (outside, inside, rest) -/
def sqL : List Int → Int → Int → Int → Int × Int × Int
  | [], n, o, i => (o, i, n)
  | p :: ps, n, o, i => if n = 1 then (o, i, n) else
    if (whl 10 p n o).1 % p = 0 then sqL ps ((whl 10 p n o).1 / p) (whl 10 p n o).2 (i * p) else sqL ps (whl 10 p n o).1 (whl 10 p n o).2 i
/-- as the law goes on: over all numbers -/
def fr : Nat → Int → Int → Int → Int × Int
  | 0, _, n, s => (s, n)
  | k + 1, p, n, s => if p * p ≤ n then fr k (p + 1) (whl 10 p n s).1 (whl 10 p n s).2 else (s, n)
theorem sq_div {n q : Int} (h0 : 0 < n) (hq : 4 ≤ q) (h : n % q = 0) : 0 < n / q ∧ n / q * 4 ≤ n ∧ n / q < n := by
  have e := Int.mul_ediv_add_emod n q
  rw [h, Int.add_zero] at e
  have h1 : 0 < n / q := by
    rcases Int.lt_or_le 0 (n / q) with z | z
    · exact z
    · have := Int.mul_le_mul_of_nonneg_left z (show 0 ≤ q by omega)
      rw [Int.mul_zero] at this
      omega
  have h2 : n / q * 4 ≤ n / q * q := Int.mul_le_mul_of_nonneg_left hq (by omega)
  rw [Int.mul_comm q] at e
  exact ⟨h1, by omega, by omega⟩
theorem pp4 {p : Int} (h : 2 ≤ p) : 4 ≤ p * p := by
  have := Int.mul_le_mul h h (by omega) (by omega)
  omega
theorem whl_ok : ∀ (k : Nat) (p n o : Int), 2 ≤ p → 0 < n → 0 < (whl k p n o).1 ∧ (whl k p n o).1 ≤ n
  | 0, p, n, o, _, h => ⟨h, Int.le_refl _⟩
  | k + 1, p, n, o, hp, h => by
    unfold whl
    split
    · rename_i z
      obtain ⟨a, b, c⟩ := sq_div h (pp4 hp) z
      obtain ⟨d, e⟩ := whl_ok k p (n / (p * p)) (o * p) hp a
      exact ⟨d, by omega⟩
    · exact ⟨h, Int.le_refl _⟩
/-- the loop's measure: whl with more fuel is the same -/
theorem whl_fuel : ∀ (k j : Nat) (p n o : Int), 2 ≤ p → 0 < n → n < 4 ^ k → whl (k + j) p n o = whl k p n o
  | 0, j, p, n, o, _, h, h2 => by
    have : n < 1 := h2
    omega
  | k + 1, j, p, n, o, hp, h, h2 => by
    rw [Nat.add_right_comm]
    show (if n % (p * p) = 0 then whl (k + j) p (n / (p * p)) (o * p) else (n, o)) = (if n % (p * p) = 0 then whl k p (n / (p * p)) (o * p) else (n, o))
    split
    · rename_i z
      obtain ⟨a, b, c⟩ := sq_div h (pp4 hp) z
      exact whl_fuel k j p _ _ hp a (by
        have e : (4 : Int) ^ (k + 1) = 4 ^ k * 4 := Int.pow_succ ..
        omega)
    · rfl
def primes : List Int := [2, 3, 5, 7, 11, 13, 17, 19, 23, 29, 31, 37, 41, 43, 47, 53, 59, 61, 67, 71, 73, 79, 83, 89, 97, 101, 103, 107, 109, 113, 127, 131, 137, 139, 149, 151, 157, 163, 167, 173, 179, 181, 191, 193, 197, 199, 211, 223, 227, 229, 233, 239, 241, 251, 257, 263, 269, 271, 277, 281, 283, 293, 307, 311, 313, 317, 331, 337, 347, 349, 353, 359, 367, 373, 379, 383, 389, 397, 401, 409, 419, 421, 431, 433, 439, 443, 449, 457, 461, 463, 467, 479, 487, 491, 499, 503, 509, 521, 523, 541, 547, 557, 563, 569, 571, 577, 587, 593, 599, 601, 607, 613, 617, 619, 631, 641, 643, 647, 653, 659, 661, 673, 677, 683, 691, 701, 709, 719, 727, 733, 739, 743, 751, 757, 761, 769, 773, 787, 797, 809, 811, 821, 823, 827, 829, 839, 853, 857, 859, 863, 877, 881, 883, 887, 907, 911, 919, 929, 937, 941, 947, 953, 967, 971, 977, 983, 991, 997]
def sqOut (n : Int) : Int × Int × Int := if n = 0 then (0, 1, 1) else sqL primes n 1 1
def free (n : Int) : Int × Int := fr 1000 2 n 1
/-- the roots that the law takes -/
def chk (r : Int) : Bool := match sqOut r, free r with
  | (o, i, m), (s, f) => decide (m = 1) && (decide (0 ≤ o) && (decide (o ≤ 1000) && (decide (1 ≤ i) && (decide (i ≤ 1000000) && (decide (r = 0) || (decide (0 < o) && (decide (s = o) && decide (f = i))))))))
def some11 : List Int := [0, 1, 4, 12, 997, 997 * 997, 2 ^ 19, 510510, 720720, 1000000, 30 * 30 * 7]
theorem chk_11 : some11.all chk = true := by decide +kernel
theorem chk_900 : (List.range 900).all (fun k => chk (1 + (k : Int))) = true := by decide +kernel
def Ok (r : Int) : Prop := 0 ≤ r ∧ r ≤ 1000000 ∧ chk r = true
theorem ok_11 {r : Int} (h : r ∈ some11) : Ok r := by
  refine ⟨?_, ?_, List.all_eq_true.mp chk_11 r h⟩
  · revert r; decide
  · revert r; decide
theorem ok_900 {d : Int} (h0 : 0 ≤ d) (h1 : d < 900) : Ok (1 + d) := by
  refine ⟨by omega, by omega, ?_⟩
  have := List.all_eq_true.mp chk_900 d.toNat (List.mem_range.mpr (by omega))
  rw [Int.toNat_of_nonneg h0] at this
  exact this
theorem Ok.all {r : Int} (h : Ok r) : (sqOut r).2.2 = 1 ∧ 0 ≤ (sqOut r).1 ∧ (sqOut r).1 ≤ 1000 ∧ 1 ≤ (sqOut r).2.1 ∧ (sqOut r).2.1 ≤ 1000000 ∧ (r ≠ 0 → 0 < (sqOut r).1 ∧ free r = ((sqOut r).1, (sqOut r).2.1)) := by
  obtain ⟨_, _, h⟩ := h
  unfold chk at h
  generalize sqOut r = a at h ⊢
  generalize free r = b at h ⊢
  obtain ⟨o, i, m⟩ := a
  obtain ⟨s, f⟩ := b
  simp only [Bool.and_eq_true, Bool.or_eq_true, decide_eq_true_eq] at h
  obtain ⟨h1, h2, h3, h4, h5, h6⟩ := h
  refine ⟨h1, h2, h3, h4, h5, fun hr => ?_⟩
  rcases h6 with h6 | ⟨h6, h7, h8⟩
  · exact absurd h6 hr
  · exact ⟨h6, by rw [h7, h8]⟩
/-- what exact comes to: no part, or one -/
def ex (top bottom root : Int) : Option (Int × Int × Int) :=
  if top * (sqOut root).1 = 0 then none else some ((sqOut root).2.1, (low (top * (sqOut root).1) bottom).1, (low (top * (sqOut root).1) bottom).2)
/-- what is due, as the law says it -/
def due (up under r : Int) : Option (Int × Int × Int) :=
  if up = 0 ∨ r = 0 then none else some ((free r).2, (lowL (up * (free r).1) under).1, (lowL (up * (free r).1) under).2)
theorem ex_due {t b r : Int} (hb : b ≠ 0) (h : Ok r) : ex t b r = due t b r := by
  obtain ⟨h1, h2, h3, h4, h5, h6⟩ := h.all
  unfold ex due
  by_cases hr : r = 0
  · subst hr
    rw [if_pos (show t * (sqOut 0).1 = 0 from Int.mul_zero _), if_pos (Or.inr rfl)]
  · obtain ⟨h7, h8⟩ := h6 hr
    rw [h8, ← low_eq _ _ hb]
    by_cases ht : t = 0
    · subst ht
      rw [if_pos (Int.zero_mul _), if_pos (Or.inl rfl)]
    · rw [if_neg (show ¬ t * (sqOut r).1 = 0 from fun e => by
        rcases Int.mul_eq_zero.mp e with e | e <;> omega), if_neg (show ¬ (t = 0 ∨ r = 0) by omega)]
theorem ok_one : Ok 1 := ok_11 (by decide)
theorem sq_one : sqOut 1 = (1, 1, 1) := by decide +kernel
theorem ex_one (t : Int) : ex t 1 1 = if t = 0 then none else some (1, t, 1) := by
  unfold ex
  rw [sq_one]
  show (if t * 1 = 0 then none else some ((1 : Int), (low (t * 1) 1).1, (low (t * 1) 1).2)) = _
  rw [Int.mul_one, low_one]
theorem ex_succ (t : Int) : ex t 1 1 ≠ ex (t + 1) 1 1 := by
  rw [ex_one, ex_one]
  split <;> split
  · omega
  · simp
  · simp
  · simp only [ne_eq, Option.some.injEq, Prod.mk.injEq, not_and]
    omega
end TCM
namespace TC
open PySem PySem.Spec PyProof.Rows L2 TCX
theorem iteNT {c A B : Prop} [Decidable c] (hc : ¬ c) (h : A) : if (!decide c) = true then A else B := by
  rw [decide_eq_false hc]
  exact iteT h
theorem iteD1 {c A B : Prop} [Decidable c] (hc : c) (h : A) : if decide c = true then A else B := by
  rw [decide_eq_true hc]
  exact iteT h
theorem iteD0 {c A B : Prop} [Decidable c] (hc : ¬ c) (h : B) : if decide c = true then A else B := by
  rw [decide_eq_false hc]
  exact iteF h
theorem iteB {b : Bool} {A B : Prop} (h1 : b = true → A) (h2 : b = false → B) : if b = true then A else B := by
  cases b
  · exact iteF (h2 rfl)
  · exact iteT (h1 rfl)
theorem ine {a b : Int} (h : a ≠ b) : ¬ (V.int a = V.int b) := fun e => h (V.int.inj e)
theorem same_upd {H : Hp} {p : Addr} {o : HO} (h : H p = none) : Same H (upd H p o) := fun b x e => by
  rw [upd_ne (ne_of_none e h)]
  exact e
theorem TyX.same {K : PySem.W.Frag} {H H' : Hp} {v : V} {t : Value} (h : TyX K H v t) (s : Same H H') : TyX K H' v t := by
  cases h with
  | base b =>
    cases b with
    | non => exact .base .non
    | bl y => exact .base (.bl y)
    | int i => exact .base (.int i)
    | str y => exact .base (.str y)
    | flt y => exact .base (.flt y)
    | lst e => exact .base (.lst (s _ _ e))
    | frz e => exact .base (.frz (s _ _ e))
    | tup e => exact .base (.tup (s _ _ e))
    | dK e => exact .base (.dK (s _ _ e))
    | dT e => exact .base (.dT (s _ _ e))
    | ins e cl ha hn htk hm => exact .base (.ins (s _ _ e) cl ha hn htk hm)
  | byt y => exact .byt y
  | set e => exact .set (s _ _ e)
  | kList e c => exact .kList e c
  | kTuple e c => exact .kTuple e c
  | kDict e c => exact .kDict e c
  | fTuple e => exact .fTuple (s _ _ e)
  | fDict e => exact .fDict (s _ _ e)
/-- no whole number -/
def NotInt (K : PySem.W.Frag) (H : Hp) (v : V) : Prop := ∃ (t : Value) (bi bb : Bool), TyX K H v t ∧ PySem.W.kitOne K t (.type "int") = some bi ∧ PySem.W.kitOne K t (.type "bool") = some bb ∧ (bi && !bb) = false
/-- whether v is a size -/
def Siz (K : PySem.W.Frag) (H : Hp) (v : V) (b : Bool) : Prop := (∃ n : Int, v = .int n ∧ b = (decide (0 ≤ n) && decide (n ≤ 40))) ∨ (b = false ∧ NotInt K H v)
theorem NotInt.same {K : PySem.W.Frag} {H H' : Hp} {v : V} (h : NotInt K H v) (s : Same H H') : NotInt K H' v := by
  obtain ⟨t, bi, bb, h1, h2⟩ := h
  exact ⟨t, bi, bb, TyX.same h1 s, h2⟩
theorem Siz.same {K : PySem.W.Frag} {H H' : Hp} {v : V} {b : Bool} (h : Siz K H v b) (s : Same H H') : Siz K H' v b := by
  rcases h with h | ⟨e, h⟩
  · exact .inl h
  · exact .inr ⟨e, h.same s⟩
theorem Siz.int {K : PySem.W.Frag} {H : Hp} {n : Int} (h0 : 0 ≤ n) (h1 : n ≤ 40) : Siz K H (.int n) true := .inl ⟨n, rfl, by rw [decide_eq_true h0, decide_eq_true h1]; rfl⟩
section
variable {P : Program} {w : World} {K : PySem.W.Frag} {mg : Str → Option Value} {base : Heap} {f : Addr} {fd : FuncData}
/-! ### is_whole -/
def spWhole (K : PySem.W.Frag) : Sp := fun vs H Q _ => (∃ n : Int, vs = [.int n] ∧ Q (.bl true) H) ∨ ∃ v, vs = [v] ∧ NotInt K H v ∧ Q (.bl false) H
theorem scWhole : FnScope ["thing"] ["thing"] (defScope sWhole) := ⟨rfl, rfl, rfl, by decide +kernel, rfl, by decide +kernel, by decide +kernel⟩
theorem ok_whole (F : FnP K "is_whole" sWhole f fd) (gI : mg "isinstance" = none) (gi : mg "int" = none) (gb : mg "bool" = none) : FnOk P w K mg base CX0 1 f fd ["thing"] (spWhole K) := by
  refine F.ok scWhole (fun vs H Q E h => ?_) (fun cdv A outer s H vs Q E hr h => ?_)
  · rcases h with ⟨n, rfl, _⟩ | ⟨v, rfl, _⟩ <;> rfl
  · refine ⟨_, PSs.nox (pss_one (ps_ret (pe_and (pe_callB call_isi (by rfl) gI (by decide +kernel) (pa_cons (pv 0) (pa_cons (pe_bltn (v := .ty "int") (by rfl) gi (by decide +kernel) rfl) pa_nil)))
      (pe_one (pe_not (pe_callB call_isi (by rfl) gI (by decide +kernel) (pa_cons (pv 0) (pa_cons (pe_bltn (v := .ty "bool") (by rfl) gb (by decide +kernel) rfl) pa_nil)))))))), ?_⟩
    rcases h with ⟨n, rfl, q⟩ | ⟨v, rfl, ⟨t, bi, bb, ty, ki, kb, e⟩, q⟩
    · refine ⟨_, rfl, _, _, _, _, true, rfl, .ty "int", .base (.int n), kit_ty (by decide +kernel), true, rfl, iteT ?_⟩
      exact ⟨_, rfl, _, _, _, _, false, rfl, .ty "bool", .base (.int n), kit_ty (by decide +kernel), false, rfl, q⟩
    · refine ⟨_, rfl, _, _, _, _, bi, rfl, .ty "int", ty, ki, bi, rfl, iteB (fun z => ?_) fun z => ?_⟩
      · subst z
        refine ⟨_, rfl, _, _, _, _, bb, rfl, .ty "bool", ty, kb, bb, rfl, ?_⟩
        have e2 : (!bb) = false := e
        rw [e2]
        exact q
      · exact q
theorem dec_int {a b : Int} : decide (V.int a = V.int b) = decide (a = b) := by
  by_cases h : a = b
  · rw [decide_eq_true h, decide_eq_true (congrArg V.int h)]
  · rw [decide_eq_false h, decide_eq_false (ine h)]
/-- what the program's text says of an exception class without fields -/
structure XTxt (K : PySem.W.Frag) (mg : Str → Option Value) (x : Str) (C : Addr) : Prop where
  g : mg x = some (.ref C)
  e : PySem.W.excIn K C He.veBase "ValueError.__new__" = true
  k : PySem.W.keepIn K (.ref C) = true
  b : PySem.W.subIn K (.ref C) (.type "BaseException") = some true
  t : PySem.W.typeIn K (.ref C) = some (.type "type")
theorem paired_at {α β : Type} {R : α → β → Prop} : ∀ {xs : List α} {ys : List β}, Paired R xs ys → ∀ (i : Nat) (x : α), xs[i]? = some x → ∃ y, ys[i]? = some y ∧ R x y
  | _, _, .nil, i, x, h => by cases h
  | _, _, .cons r t, 0, x, h => by
    cases h
    exact ⟨_, rfl, r⟩
  | _, _, .cons r t, i + 1, x, h => paired_at t i x h
theorem paired_len {α β : Type} {R : α → β → Prop} : ∀ {xs : List α} {ys : List β}, Paired R xs ys → xs.length = ys.length
  | _, _, .nil => rfl
  | _, _, .cons r t => congrArg (· + 1) (paired_len t)
theorem all_take {bs : List Bool} {i : Nat} {b : Bool} (h : (bs.take i).all id = true) (hb : bs[i]? = some b) (h2 : b = true) : (bs.take (i + 1)).all id = true := by
  rw [List.take_add_one, List.all_append, h, hb]
  subst h2
  rfl
theorem all_false {bs : List Bool} {i : Nat} (hb : bs[i]? = some false) : bs.all id = false := by
  refine List.all_eq_false.mpr ⟨false, List.mem_of_getElem? hb, fun z => Bool.noConfusion z⟩
end
end TC
/-! Rules of my own: == and != by an own __eq__ with either answer, str of an instance, enumerate of a tuple. -/
namespace TCA
open PySem PySem.Spec PyProof.Rows L2
/-! ### enumerate(tuple) -/
theorem meets_enum1 {v : Value} {o : Obj} {H : Heap → Prop} (B : Begins v o H) :
    Meets (Builtin.«enumerate.__new__» ⟨[.type "enumerate", v], []⟩) (fun _ R s => H s.heap ∧
      R (.ok (.ret (.ref (s.heap.push o).objs.size))) { s with heap := (s.heap.push o).push { cls := .type "enumerate", data := .fields #[.none, .bool false, .ref s.heap.objs.size, rawInt 0, .none, .none] } }) :=
  .of_wp fun prog w A R s h => by
    obtain ⟨hp, g, d, tk, os⟩ := s; obtain ⟨h1, h⟩ := h
    have hsub := sub_enumerate
    have q1 : ∀ {A' : Around} {E : Value → Shared → Prop} {Q : Value → Shared → Prop}, Q (.ref hp.objs.size) ⟨hp.push o, g, d, tk, os⟩ → wpAny (model prog w) A' (pyIter v) Q E ⟨hp, g, d, tk, os⟩ :=
      fun q => B.iter prog w _ _ ⟨hp, g, d, tk, os⟩ _ h1 q
    wp_walk using q1
    refine wpAny_stack_any fun st => wpAny_pure ?_
    split
    · rename_i c _ _ _ _ _
      cases (c == Value.type "enumerate")
      · wp_walk using q1
        exact ⟨_, rfl, h⟩
      · wp_walk using q1
        exact ⟨_, rfl, h⟩
    · wp_walk using q1
      exact ⟨_, rfl, h⟩
theorem enum_begins1 {prog : Program} {w : World} {A : Around} {E : Value → Shared → Prop} {s : Shared} {v : Value} {o : Obj} {H : Heap → Prop} {Q : Value → Shared → Prop} (B : Begins v o H) (h1 : H s.heap)
    (h : ∀ h', IsEnum h' (s.heap.objs.size + 1) s.heap.objs.size 0 .none → h'.get? s.heap.objs.size = some o → h'.objs.size = s.heap.objs.size + 2 →
      (∀ b o, s.heap.get? b = some o → h'.get? b = some o) → Q (.ref (s.heap.objs.size + 1)) { s with heap := h' }) :
    wpAny (model prog w) A (call (.type "enumerate") [v]) Q E s := by
  refine callType_new F.called_enumerate (by decide) (F.typeCall_enumerate_1 _) (F.newCall_enumerate_1 _) (fun obj => F.args_object_init_2 obj _) F.entry_enumerate_new
    (meets_enum1 B) ⟨h1, ?_⟩
  have hz : (s.heap.push o).objs.size = s.heap.objs.size + 1 := Heap.size_push ..
  show _ ∧ _
  rw [hz]
  have he : IsEnum ((s.heap.push o).push { cls := .type "enumerate", data := .fields #[.none, .bool false, .ref s.heap.objs.size, rawInt 0, .none, .none] }) (s.heap.objs.size + 1) s.heap.objs.size 0 .none := by
    have := Heap.get?_push_size (s.heap.push o) (o := { cls := .type "enumerate", data := .fields #[.none, .bool false, .ref s.heap.objs.size, rawInt 0, .none, .none] }) rfl
    rw [hz] at this; exact this
  refine ⟨⟨_, he, rfl⟩, h _ he (Heap.get?_push_of_some _ (Heap.get?_push_size _ B.free)) (by rw [Heap.size_push, hz]) fun b o x => Heap.get?_push_of_some _ (Heap.get?_push_of_some _ x)⟩
/-- the tuple at a of xs, each item in a new pair -/
def Iet (K : PySem.W.Frag) (a : Addr) (xs : List V) : It :=
  ⟨fun i H => i < xs.length ∧ SqT K H a xs, fun i H v H' => ∃ T x, v = .ref T ∧ H T = none ∧ H' = upd H T (.tup [.int (i : Nat), x]) ∧ xs[i]? = some x, fun i H => xs.length ≤ i ∧ SqT K H a xs⟩
theorem turn_enumT {P : Program} {w : World} {K : PySem.W.Frag} {elts : List Expr} {kk : Nat} {tpos : Pos} (a e it : Addr) (xs : List V) :
    Turn P w K (.Tuple elts kk tpos) (Iet K a xs) [e, it] e (fun i h => (∃ old, IsEnum h e it ((i : Nat) : Int) old) ∧ h.IsTupleIter it a i ∧ e ≠ it ∧ a ≠ it ∧ e ≠ a ∧ i ≤ xs.length) where
  mem := by simp
  obj := fun i h st b hb => by
    obtain ⟨⟨old, he⟩, ⟨o, ho, hc, hd⟩, _⟩ := st
    have e' : b = e ∨ b = it := by simpa using hb
    rcases e' with z | z
    · rw [z]; exact ⟨_, he, fun v q => nomatch q⟩
    · rw [z]; exact ⟨o, ho, fun v q => by rw [hd] at q; cases q⟩
  keep := fun i h h' st k => let ⟨⟨old, he⟩, hi, hne⟩ := st; ⟨⟨old, k e (by simp) _ he⟩, hi.at fun o q => k it (by simp) o q, hne⟩
  item := by
    intro X hP hw hK hc i pins s σ H E I hf st hg
    subst hP hw hK
    obtain ⟨⟨old, he⟩, hit, hne, hai, hea, hle⟩ := st
    obtain ⟨hlt, hq⟩ := hg
    obtain ⟨its, rv, p, hz⟩ := I.tuple hq
    have hl := rv.length
    have hel : e < s.heap.objs.size := Heap.lt_size he
    have hil : it < s.heap.objs.size := by obtain ⟨_, q, _⟩ := hit; exact Heap.lt_size q
    have hh : X.A.in1.handled = none := I.ok.hd hc
    have D := Draws.tuple (prog := X.prog) (w := X.w) hh it a hai its.toArray
    refine wpAny_pyNext_enum_itemD D he ⟨hit, p⟩ (by simp; omega) hne (by simp; exact ⟨hne, hea⟩) fun u h' tk hu ho hst hT hsz hk => ?_
    obtain ⟨hit', _⟩ := hst
    have hu2 : its[i]? = some u := by simpa using hu
    have hx : xs[i]? = some xs[i] := List.getElem?_eq_getElem hlt
    obtain ⟨u2, hu3, ru⟩ := rv.get hx
    have eu : u2 = u := Option.some.inj (hu3.symm.trans hu2)
    subst eu
    refine ⟨_, rfl, wpAny_letOwnedTupleGo_enum (s := { s with heap := h', toks := tk + 1 }) ho fun h'' he' sb => ?_⟩
    have hT2 : h''.get? s.heap.objs.size = some { cls := .type "tuple", data := .seq #[.int i tk, u2] } := (sb.2 _ (Nat.ne_of_gt hel)).trans hT
    have new : ObjOk X.prog X.w (upd H s.heap.objs.size (.tup [.int (i : Nat), xs[i]])) h'' s.heap.objs.size (.tup [.int (i : Nat), xs[i]]) :=
      ⟨by show 2 ≤ sizeLine; decide, [.int i tk, u2], .cons ⟨_, rfl⟩ (.cons ru .nil), ⟨_, hT2, rfl, _, rfl⟩⟩
    have I1 : Inv X pins σ (upd H s.heap.objs.size (.tup [.int (i : Nat), xs[i]])) { s with heap := h'', toks := tk + 1 } :=
      I.turnedNew (ch := [e, it]) (fun b ob hb q => (sb.2 b (fun z => hb (by simp [z]))).trans (hk b ob (fun z => hb (by simp [z])) (fun z => hb (by simp [z])) q)) hf (Nat.le_refl _) new
    refine ⟨.ref s.heap.objs.size, _, I1, rfl, ⟨_, xs[i], rfl, I.hok.fresh (Nat.le_refl _), rfl, hx⟩, ⟨⟨u2, ?_⟩, hit'.at fun o q => (sb.2 it (Ne.symm hne)).trans q, hne, hai, hea, hlt⟩, fun b hb => ?_⟩
    · have e1 : ((i + 1 : Nat) : Int) = (i : Int) + 1 := by omega
      rw [e1]; exact he'
    · have hb' : b < s.heap.objs.size := by
        have e' : b = e ∨ b = it := by simpa using hb
        rcases e' with z | z
        · rw [z]; exact hel
        · rw [z]; exact hil
      rw [upd_ne (Nat.ne_of_lt hb')]
      exact (hf b hb).1
  done := by
    intro X hP hw hK hc i pins s σ H E I hf st hg
    subst hP hw hK
    obtain ⟨⟨old, he⟩, hit, hne, hai, hea, hle⟩ := st
    obtain ⟨hge, hq⟩ := hg
    obtain ⟨its, rv, p, hz⟩ := I.tuple hq
    obtain ⟨f0, f1, f2, f3, f4, f5⟩ := hf it (by simp)
    have hl := rv.length
    have hh : X.A.in1.handled = none := I.ok.hd hc
    have D := Draws.tuple (prog := X.prog) (w := X.w) hh it a hai its.toArray
    have ei : i = its.toArray.size := by simp; omega
    subst ei
    exact wpAny_pyNext_enum_endD D he ⟨hit, p⟩ fun h' eb => ⟨rfl, I.turned (t' := s.toks) (fun b o hb q => eb b o hb q) f0 f1 f3 f4 f5⟩
  self := fun A i s Q E st h => let ⟨⟨_, he⟩, _⟩ := st; wpAny_pyIter_enum he h
def iEnumT (K : PySem.W.Frag) (ta : TA) : TI := fun σ H R => ta σ H fun vs H1 => ∃ a xs, vs = [.ref a] ∧ SqT K H1 a xs ∧ R (Iet K a xs) H1
theorem pi_enumT {X : Cx} {e : Expr} {ta : TA} {p pos tpos : Pos} {elts : List Expr} {kk : Nat} (hg : Gl X "enumerate") (hm : X.mg "enumerate" = none) (ha : PA X [e] ta) (hs : starEach [e] X.env = [(false, eval e X.env)] := by rfl) :
    PI X (.Tuple elts kk tpos) (.Call (.Name "enumerate" p) [e] [] pos) (iEnumT X.K ta) := by
  refine ⟨fun pins s σ H R I h => ?_⟩
  refine Call_ (ld_blt I hg hm boot_enumerate (PyProof.Rows.callWith_type1 (thn (ha.run pos pins s σ H _ I h) fun us s1 ⟨vs, H1, I1, r1, q1⟩ => ?_) hs rfl))
  obtain ⟨a, xs, ex, hq, q⟩ := q1
  subst ex
  cases r1 with
  | cons r rr =>
    cases rr
    cases r
    obtain ⟨its, rv, p', hz⟩ := I1.tuple hq
    have hal : a < s1.heap.objs.size := by obtain ⟨o, h1, _⟩ := p'; exact Heap.lt_size h1
    refine enum_begins1 (begins_tuple a its.toArray) p' fun h' he hit hsz hk => wpAny_pyIter_enum he ?_
    have I2 : Inv X pins σ H1 { s1 with heap := h' } := I1.kept (t' := s1.toks) hk
    refine ⟨s1.heap.objs.size + 1, [s1.heap.objs.size + 1, s1.heap.objs.size], _, _, H1, rfl, I2, turn_enumT a (s1.heap.objs.size + 1) s1.heap.objs.size xs, ⟨⟨.none, he⟩, ⟨_, hit, rfl, rfl⟩, Nat.succ_ne_self _, Nat.ne_of_lt hal, Nat.ne_of_gt (Nat.lt_succ_of_lt hal), Nat.zero_le _⟩, fun b hb => ?_, q⟩
    have e' : b = s1.heap.objs.size + 1 ∨ b = s1.heap.objs.size := by simpa using hb
    have hle : s1.heap.objs.size ≤ b := by
      rcases e' with z | z
      · rw [z]; exact Nat.le_add_right _ _
      · rw [z]; exact Nat.le_refl _
    exact I1.fpOk hle (I1.hok.fresh hle)
/-! ### == and != by an own __eq__ -/
section
variable {X : Cx} {CX : CXT} {n : Nat} {C f : Addr} {fd : FuncData} {ps : List Str} {sp : Sp} {E : XK}
/-- the own method runs somewhere below -/
theorem run_sub {A : Around} {pins : List (Addr × Obj)} {σ : L2.St} {H : Hp} {s : Shared} {Q : VK} {us : List Value} {vs : List V} (F : FnOk X.prog X.w X.K X.mg X.base CX n f fd ps sp) (hb : Binds X.K fd ps []) (hx : Passes CX X E)
    (sb : Sub X n A) (I : Inv X pins σ H s) (r : Vals vs us) (h : sp vs H Q E) : wpAny (model X.prog X.w) A (call (.ref f) us) (EP X pins σ Q) X.xe s := by
  have e0 : Env0 X.prog X.w X.K X.mg X.base A X.stack s H := by
    have e := I.env0
    exact ⟨by rw [sb.fr]; exact e.frames, e.mod, e.bs, e.bsz, e.funs, e.frf, e.hok, e.bare⟩
  have hl : us.length = ps.length := by rw [← r.length]; exact F.len _ _ _ _ h
  refine wpAny_call (codeAny_mono (F.run A X.stack s H ⟨us, []⟩ us vs Q E sb.room e0 (by
    have := hb s us I.kIn (by simpa using hl)
    simpa using this) r h) fun r s' hq => ?_)
  cases r with
  | error e => exact hx pins σ H s e s' I hq
  | ok fl =>
    cases fl with
    | ret w => exact I.after hq
    | next => exact False.elim hq
    | brk => exact False.elim hq
    | cont => exact False.elim hq
/-- x == y, x an instance of the class at C with an own __eq__ that hands back a truth -/
def rEqO (K : PySem.W.Frag) (C : Addr) (sp : Sp) (E : XK) : R2 := fun x y H Q => ∃ a dx fs t, x = .ref a ∧ H a = some (.ins C dx fs) ∧ TyX K H y t ∧ PySem.W.notFirst K C t = true ∧
  sp [x, y] H (fun v H' => ∃ b, v = .bl b ∧ Q (.bl b) H') E
theorem op_eqO (F : FnOk X.prog X.w X.K X.mg X.base CX n f fd ps sp) (hs : PySem.W.findIn X.K (.ref C) "__eq__" = some (some (.ref f))) (hf : PySem.W.isFn X.K (.ref f) = true) (hb : Binds X.K fd ps []) (hx : Passes CX X E)
    (hr : Room n X.A) : OpR X (compareOp .Eq) (rEqO X.K C sp E) := by
  intro pins s σ H x y v u Q I rx ry hq
  obtain ⟨a, dx, fs, t, rfl, ha, ty, nf, q⟩ := hq
  cases (show v = Value.ref a from rx)
  obtain ⟨mA, J, _⟩ := ins_get I.hok ha
  obtain ⟨od, J, _⟩ := J.look
  obtain ⟨m, hF⟩ := I.fr
  obtain ⟨Pz, Z, pz, _⟩ := kit_of I ry ty
  have hu : X.A.units < cLine := Nat.lt_of_succ_lt (hu_of hr)
  refine PySem.W.cmp_K (op := .Eq) (tb := t) hu hF I.ok.mod.kin J (Z.ty _ _ I.kIn pz) nf hs hf ?_
  refine wpAny_mono (run_sub F hb hx ⟨hr, rfl⟩ I (.cons rx (.cons ry .nil)) q) (fun r s' hz => ?_) fun _ _ z => z
  obtain ⟨z, H', I', rz, b, rfl, qb⟩ := hz
  cases (show r = Value.bool b from rz)
  exact ⟨.bl b, H', I', rfl, qb⟩
/-- x != y: the default __ne__ asks the own __eq__ -/
def rNeO (K : PySem.W.Frag) (C : Addr) (sp : Sp) (E : XK) : R2 := fun x y H Q => ∃ a dx fs t, x = .ref a ∧ H a = some (.ins C dx fs) ∧ TyX K H y t ∧ PySem.W.notFirst K C t = true ∧
  sp [x, y] H (fun v H' => ∃ b, v = .bl b ∧ Q (.bl (!b)) H') E
theorem ifBound_B {M : Model} {A : Around} {E : Value → Shared → Prop} {s : Shared} {K : PySem.W.Frag} {x C : Addr} {ox : Obj} {od : Option Obj} {name : Str} {id : String} {args : List Value} {Q : Option Value → Shared → Prop} (X : K.In s.heap) (I : PySem.W.InstAt s.heap x ox C od)
    (hs : PySem.W.findIn K (.ref C) name = some (some (.builtin id))) (hb : ∀ self, bindSpecial (.builtin id) self = pure (.builtin id, [self]))
    (h : wpAny M A (call (.builtin id) (.ref x :: args)) (fun v => Q (some v)) E s) : wpAny M A (callSpecialIfBound? (.ref x) name args) Q E s := by
  simp only [callSpecialIfBound?, bindSpecialIfBound?]
  refine wpAny_holding (wpAny_bind (wpAny_bind (wpAny_bind (I.type.here ((PySem.W.looks_findIn X hs).here ?_)))))
  refine wpAny_bind (wpAny_askSetting (wpAny_ite ?_))
  have fin : wpAny M A (call (.builtin id) ([.ref x] ++ args) >>= fun v => pure (some v)) Q E s := wpAny_bind (wpAny_mono h (fun v s' h' => wpAny_pure h') fun _ _ h' => h')
  have L := (PySem.W.Looks.of_pure (M := M) (h := s.heap) (hb (.ref x)))
  split
  · exact wpAny_bind (L.here (wpAny_pure (by exact fin)))
  · exact wpAny_tryCatch (wpAny_bind (L.here (wpAny_pure (by exact fin))))
theorem op_neO (F : FnOk X.prog X.w X.K X.mg X.base CX n f fd ps sp) (hs : PySem.W.findIn X.K (.ref C) "__eq__" = some (some (.ref f))) (hf : PySem.W.isFn X.K (.ref f) = true) (hb : Binds X.K fd ps []) (hx : Passes CX X E)
    (hn : PySem.W.findIn X.K (.ref C) "__ne__" = some (some (.builtin "object.__ne__"))) (hm : PySem.W.mroIn X.K C (.type "object") = some true)
    (hr : Room (n + 1) X.A) : OpR X (compareOp .NotEq) (rNeO X.K C sp E) := by
  intro pins s σ H x y v u Q I rx ry hq
  obtain ⟨a, dx, fs, t, rfl, ha, ty, nf, q⟩ := hq
  cases (show v = Value.ref a from rx)
  obtain ⟨mA, J, _⟩ := ins_get I.hok ha
  obtain ⟨od, J, _⟩ := J.look
  obtain ⟨Pz, Z, pz, _⟩ := kit_of I ry ty
  have hu : X.A.units < cLine := Nat.lt_of_succ_lt (hu_of hr)
  have hu1 : X.A.in1.units < cLine := hu_of hr
  have K0 := I.kIn
  have run := run_sub F hb hx (A := X.A.in1) ⟨hr.in1, rfl⟩ I (.cons rx (.cons ry .nil)) q
  have one : wpAny (model X.prog X.w) X.A (tryCompare (.ref a) "__ne__" u) (fun r s' => ∃ v, r = some v ∧ EP X pins σ Q v s') X.xe s := by
    unfold tryCompare
    refine wpAny_bind (ifBound_B K0 J hn PySem.F.cmp_object.ne.bind ?_)
    refine wpAny_call (codeAny_call_builtin PySem.F.cmp_object.ne.plain PySem.F.cmpEntry_ne (PySem.W.check_slot (i := "object.__ne__") (owner := "object") (n := "__ne__") PySem.F.cmpKind_ne PySem.F.cmpSplit_ne (J.type.andThen (PySem.W.looks_mroIn K0 hm)) (PySem.F.cmpArgs_ne _ _) ?_))
    unfold Builtin.«object.__ne__»
    refine wpAny_bind (m := slotArgs "__ne__" 1 _) (wpAny_pure ?_)
    refine wpAny_bind (m := cRoomFor _ _) (wpAny_cRoomFor hu1 ?_)
    refine wpAny_bind (m := callSpecialIfBound? (.ref a) (Str.ofString "__eq__") _) (PySem.W.ifBound_K K0 J hs hf (wpAny_mono run (fun r s' hz => ?_) fun _ _ z => z))
    obtain ⟨z, H', I', rz, b, rfl, qb⟩ := hz
    cases (show r = Value.bool b from rz)
    refine wpAny_bind (wpAny_truthy_bool ?_)
    exact wpAny_pure (wpAny_pure ⟨_, rfl, .bl (!b), H', I', rfl, qb⟩)
  show wpAny (model X.prog X.w) X.A (richCompare .NotEq (.ref a) u) (EP X pins σ Q) X.xe s
  unfold richCompare
  simp only [oneThing_ref]
  refine wpAny_holding (wpAny_bind (wpAny_cRoomFor hu ?_))
  refine wpAny_bind (J.type.here (wpAny_bind ((Z.ty _ _ I.kIn pz).here ?_)))
  split
  · rename_i q2
    have e : PySem.W.subIn X.K t (.ref C) = some false := by
      rcases Bool.or_eq_true_iff.mp nf with e | e
      · rw [beq_iff_eq.mp e] at q2; simp at q2
      · exact beq_iff_eq.mp e
    refine wpAny_bind ((PySem.W.looks_subIn K0 e).here ?_)
    simp only [Bool.false_eq_true, if_false]
    refine wpAny_bind (wpAny_mono one (fun r s' z => ?_) fun _ _ e => e)
    obtain ⟨v, rfl, hq⟩ := z
    exact wpAny_pure hq
  · refine wpAny_bind (wpAny_pure ?_)
    simp only [Bool.false_eq_true, if_false]
    refine wpAny_bind (wpAny_mono one (fun r s' z => ?_) fun _ _ e => e)
    obtain ⟨v, rfl, hq⟩ := z
    exact wpAny_pure hq
/-! ### str(x) by an own __str__ -/
def rStrO (C : Addr) (sp : Sp) (E : XK) : List V → Hp → VK → Prop := fun xs H Q => ∃ a dx fs, xs = [.ref a] ∧ H a = some (.ins C dx fs) ∧ sp [.ref a] H (fun v H' => ∃ z, v = .str z ∧ Q (.str z) H') E
theorem call_strO (F : FnOk X.prog X.w X.K X.mg X.base CX n f fd ps sp) (hs : PySem.W.findIn X.K (.ref C) "__str__" = some (some (.ref f))) (hf : PySem.W.isFn X.K (.ref f) = true) (hb : Binds X.K fd ps []) (hx : Passes CX X E)
    (hr : Room (n + 2) X.A) : CallR X (.type "str") (rStrO C sp E) := by
  intro pins s σ H xs us Q I r hq
  obtain ⟨a, dx, fs, rfl, ha, q⟩ := hq
  obtain ⟨u, rfl, rx⟩ : ∃ u, us = [u] ∧ RelV (.ref a) u := by
    cases r with
    | cons r rr => cases rr; exact ⟨_, rfl, r⟩
  cases (show u = Value.ref a from rx)
  obtain ⟨mA, J, _⟩ := ins_get I.hok ha
  obtain ⟨od, J, _⟩ := J.look
  have hr2 : Room n X.A.in1.in1 := hr.in1.in1
  have hu : X.A.in1.in1.units < cLine := Nat.lt_of_succ_lt (hu_of hr2)
  refine PySem.W.kso_call hu I.kIn J hs hf ?_
  refine wpAny_mono (run_sub F hb hx (A := X.A.in1.in1) ⟨hr2, rfl⟩ I (.cons rx .nil) q) (fun r s' hz => ?_) fun _ _ z => z
  obtain ⟨z, H', I', rz, x, rfl, qb⟩ := hz
  obtain ⟨t, e⟩ := (show ∃ t, r = Value.str x t from rz)
  cases e
  exact ⟨.str x, H', I', ⟨t, rfl⟩, qb⟩
/-! ### // by a number of either sign -/
def CDivNW (_ j : Int) : Prop := j ≠ 0 ∧ j.natAbs.log2 < 9000
theorem op_fdivNW : OpR X (binaryOp .FloorDiv) (rI CDivNW fun i j => .int (i.fdiv j)) := opI fun _ _ _ _ _ _ _ hc q => floordiv_int hc.1 q (.inl (PyProof.noPylong_of_log2 hc.2))
end
end TCA
namespace TC
open PySem PySem.Spec PyProof.Rows L2 TCA TCX
section
variable {P : Program} {w : World} {K : PySem.W.Frag} {mg : Str → Option Value} {base : Heap} {f : Addr} {fd : FuncData}
/-! ### _law_pen -/
def spPen (K : PySem.W.Frag) : Sp := fun vs H Q _ => ∃ (a : Addr) (ns : List Int), vs = [.ref a] ∧ SqL K H a (ns.map V.int) ∧ ns.length ≤ 63 ∧
  ∀ (p c : Addr) (ms : List Int) H', Same H H' → H p = none → H' p = some (.lst [.ref c, .int 0, .int 0]) → H' c = some (.lst (ms.map V.int)) → p ≠ c → Q (.ref p) H'
theorem scPen : FnScope ["_law_script"] ["_law_script"] (defScope sPen) := ⟨rfl, rfl, rfl, by decide +kernel, rfl, by decide +kernel, by decide +kernel⟩
theorem ok_pen (F : FnP K "_law_pen" sPen f fd) (gl : mg "list" = none) : FnOk P w K mg base CX0 1 f fd ["_law_script"] (spPen K) := by
  refine F.ok scPen (fun vs H Q E h => ?_) (fun cdv A outer s H vs Q E hr h => ?_)
  · obtain ⟨a, ns, rfl, _⟩ := h
    rfl
  · obtain ⟨a, ns, rfl, hS, hn, q⟩ := h
    refine ⟨_, PSs.nox (pss_one (ps_ret (pe_lst (pa_cons (pe_callTy call_list_of (by rfl) gl (by decide +kernel) (pa_cons (pe_slice sl_list (pv 0) po_none (po_some pe_int)) pa_nil)) (pa_cons pe_int (pa_cons pe_int pa_nil)))))), ?_⟩
    refine ⟨_, rfl, _, rfl, a, _, rfl, hS, fun c1 hc1 => ?_⟩
    have sm1 := same_upd (o := .lst (cutV (ns.map V.int) none (some 63))) hc1
    refine ⟨c1, _, rfl, .inl (SqL.of upd_same), fun c hc => ?_⟩
    have sm2 := same_upd (o := .lst (cutV (ns.map V.int) none (some 63))) hc
    refine ⟨by show 3 ≤ sizeLine; decide, fun p hp => ?_⟩
    have sm3 := same_upd (o := .lst [.ref c, .int 0, .int 0]) hp
    have ec : cutV (ns.map V.int) none (some 63) = ((ns.drop (HT.sIx (ns.map V.int).length 0 none)).take (HT.sIx (ns.map V.int).length (ns.map V.int).length (some 63) - HT.sIx (ns.map V.int).length 0 none)).map V.int := by
      rw [List.map_take, List.map_drop]
      rfl
    refine q p c ((ns.drop (HT.sIx (ns.map V.int).length 0 none)).take (HT.sIx (ns.map V.int).length (ns.map V.int).length (some 63) - HT.sIx (ns.map V.int).length 0 none)) _ ((sm1.trans sm2).trans sm3) ((sm1.trans sm2).free hp) upd_same ?_ ?_
    · rw [← ec]
      exact sm3 _ _ upd_same
    · exact fun e => by
        rw [e, upd_same] at hp
        cases hp
/-! ### _law_draw -/
/-- the pen: its cells at c, where it stands, what is left of a great cell -/
def PenAt (H : Hp) (p c : Addr) (ms : List Int) (n : Int) : Prop := ∃ left : Int, H p = some (.lst [.ref c, .int n, .int left]) ∧ H c = some (.lst (ms.map V.int)) ∧ p ≠ c
/-- all but the pen is as it was -/
def SameBut (p : Addr) (H H' : Hp) : Prop := ∀ b o, b ≠ p → H b = some o → H' b = some o
def spDraw : Sp := fun vs H Q _ => ∃ (p c : Addr) (ms : List Int) (n m : Int), vs = [.ref p, .int m] ∧ PenAt H p c ms n ∧ 0 ≤ n ∧ n ≤ 1000000 ∧ 0 < m ∧ m < 2 ^ 1000 ∧
  ∀ (d n' : Int) H', 0 ≤ d → d < m → n ≤ n' → n' ≤ n + 1 → PenAt H' p c ms n' → SameBut p H H' → Q (.int d) H'
theorem scDraw : FnScope ["_law_pen_here", "_law_many", "_law_found", "_law_at", "_law_cell", "_law_number"] ["_law_pen_here", "_law_many"] (defScope sDraw) := ⟨rfl, rfl, rfl, by decide +kernel, rfl, by decide +kernel, by decide +kernel⟩
theorem but_upd {p : Addr} {H H1 : Hp} {o : HO} (s : SameBut p H H1) : SameBut p H (upd H1 p o) := fun b x hb e => by
  rw [upd_ne hb]
  exact s b x hb e
set_option exponentiation.threshold 2000 in
theorem wdiv {i m : Int} (h : 0 < m) (h2 : m < 2 ^ 1000) : CDivW i m := ⟨h, Nat.lt_of_lt_of_le (PySem.Flt.log2_lt_of (show 0 < 1000 by decide) (show m.natAbs < 2 ^ 1000 by omega)) (by decide)⟩
theorem ok_draw (F : FnP K "_law_draw" sDraw f fd) (gl : mg "len" = none) : FnOk P w K mg base CX0 1 f fd ["_law_pen_here", "_law_many"] spDraw := by
  refine F.ok scDraw (fun vs H Q E h => ?_) (fun cdv A outer s H vs Q E hr h => ?_)
  · obtain ⟨p, c, ms, n, m, rfl, _⟩ := h
    rfl
  · obtain ⟨p, c, ms, n, m, rfl, ⟨left, hp, hc, hpc⟩, n0, n1, m0, m1, q⟩ := h
    refine ⟨_, PSs.nox (pss_cons (ps_if (pt_cmpR op_gt (pe_ix ix_list (pv 0) pe_int (fun _ _ => rfl)) pe_int (nomark _))
        (pss_cons (ps_set (i := 2) scDraw.nd rfl (.inl rfl) (pe_op op_mod (pe_ix ix_list (pv 0) pe_int (fun _ _ => rfl)) (pv 1)))
        (pss_cons (ps_asg (pe_op op_fdivW (pe_ix ix_list (pv 0) pe_int (fun _ _ => rfl)) (pv 1)) (pg_sub (pv 0) pe_int set_list))
        (pss_one (ps_ret (pv 2))))) pss_nil)
      (pss_cons (ps_set (i := 3) scDraw.nd rfl (.inl rfl) (pe_ix ix_list (pv 0) pe_int (fun _ _ => rfl)))
      (pss_cons (ps_asg (pe_op op_add (pv 3) pe_int) (pg_sub (pv 0) pe_int set_list))
      (pss_cons (ps_set (i := 4) scDraw.nd rfl (.inl rfl) pe_int)
      (C8.pss_cut (ps_if (pt_cmpR op_gt (pe_callB call_len_seq (by rfl) gl PySem.boot_len (pa_cons (pe_ix ix_list (pv 0) pe_int (fun _ _ => rfl)) pa_nil)) pe_int (nomark _))
        (pss_one (ps_set (i := 4) scDraw.nd rfl (.inl rfl) (pe_ix ix_list (pe_ix ix_list (pv 0) pe_int (fun _ _ => rfl)) (pe_op op_mod (pv 3) (pe_callB call_len_seq (by rfl) gl PySem.boot_len (pa_cons (pe_ix ix_list (pv 0) pe_int (fun _ _ => rfl)) pa_nil))) (fun _ _ => rfl)))) pss_nil)
      (C8.pss_cut (ps_if (PW.pt (pw_and (pt_cmpR op_lt (pv 3) (pe_callB call_len_seq (by rfl) gl PySem.boot_len (pa_cons (pe_ix ix_list (pv 0) pe_int (fun _ _ => rfl)) pa_nil)) (nomark _)) (pw_and1 (pt_cmpR op_ge (pv 4) (pe_op op_pow pe_int pe_int) (nomark _)))))
        (pss_cons (ps_asg (pe_op op_fdivW (pv 4) (pv 1)) (pg_sub (pv 0) pe_int set_list)) (pss_one (ps_ret (pe_op op_mod (pv 4) (pv 1))))) pss_nil)
      (pss_cons (ps_set (i := 5) scDraw.nd rfl (.inl rfl) (pe_op op_mod (pe_op op_mul (pe_op op_add (pe_op op_mod (pv 4) pe_int) pe_int) (pe_op op_add (pe_op op_add (pe_op op_mul (pv 3) (pv 3)) (pe_op op_mul pe_int (pv 3))) pe_int)) pe_int))
      (pss_cons (ps_set (i := 5) scDraw.nd rfl (.inl rfl) (pe_op op_mod (pe_op op_mul (pe_op op_mod (pe_op op_add (pe_op op_pow (pv 5) pe_int) (pe_op op_mul pe_int (pv 3))) pe_int) pe_int) pe_int))
      (C8.pss_cut (ps_if (pt_cmpR op_gt (pv 1) (pe_op op_pow pe_int pe_int) (nomark _))
        (pss_one (ps_set (i := 5) scDraw.nd rfl (.inl rfl) (pe_op op_add (pe_op op_mul (pv 5) pe_int) (pe_op op_mod (pe_op op_mul (pe_op op_mod (pv 5) pe_int) pe_int) pe_int)))) pss_nil)
      (pss_one (ps_ret (pe_op op_mod (pe_op op_fdiv (pv 5) pe_int) (pv 1))))))))))))), ?_⟩
    have i2 : atI ([.ref c, .int n, .int left] : List V) 2 = some (.int left) := atI_nat (j := 2) rfl
    have i1 : atI ([.ref c, .int n, .int left] : List V) 1 = some (.int n) := atI_nat (j := 1) rfl
    refine ⟨_, rfl, p, _, 2, _, rfl, rfl, SqL.of hp, i2, left, 0, rfl, rfl, _, rfl, ?_⟩
    by_cases hl : 0 < left
    · refine iteD1 hl ?_
      refine ⟨_, rfl, p, _, 2, _, rfl, rfl, SqL.of hp, i2, _, rfl, left, m, rfl, rfl, m0, ?_⟩
      refine ⟨_, rfl, p, _, 2, _, rfl, rfl, SqL.of hp, i2, _, rfl, left, m, rfl, rfl, wdiv m0 m1, ?_⟩
      refine ⟨_, rfl, p, _, 2, 2, rfl, rfl, hp, rfl, ?_⟩
      refine ⟨_, rfl, ?_⟩
      exact q _ n _ (Int.emod_nonneg _ (by omega)) (Int.emod_lt_of_pos _ m0) (by omega) (by omega) ⟨left / m, upd_same, by rw [upd_ne hpc.symm]; exact hc, hpc⟩ (but_upd fun _ _ _ e => e)
    · refine iteD0 hl ?_
      refine ⟨_, rfl, p, _, 1, _, rfl, rfl, SqL.of hp, i1, ?_⟩
      refine ⟨_, rfl, n, 1, rfl, rfl, _, rfl, p, _, 1, 1, rfl, rfl, hp, rfl, ?_⟩
      have hp2u : (upd H p (.lst [.ref c, .int (n + 1), .int left])) p = some (.lst [.ref c, .int (n + 1), .int left]) := upd_same
      have hc2u : (upd H p (.lst [.ref c, .int (n + 1), .int left])) c = some (.lst (ms.map V.int)) := by
        rw [upd_ne hpc.symm]
        exact hc
      obtain ⟨H2, eH2⟩ : ∃ H2 : Hp, upd H p (.lst [.ref c, .int (n + 1), .int left]) = H2 := ⟨_, rfl⟩
      have hp2 : H2 p = some (.lst [.ref c, .int (n + 1), .int left]) := by
        rw [← eH2]
        exact hp2u
      have hc2 : H2 c = some (.lst (ms.map V.int)) := by
        rw [← eH2]
        exact hc2u
      have sb : SameBut p H H2 := by
        rw [← eH2]
        exact but_upd fun _ _ _ e => e
      have j0 : atI ([.ref c, .int (n + 1), .int left] : List V) 0 = some (.ref c) := atI_nat (j := 0) rfl
      refine ⟨fun σ H' => ∃ cell : Int, σ = [some (.ref p), some (.int m), none, some (.int n), some (.int cell), none] ∧ H' = H2, ?_, fun σ' H' hM => ?_⟩
      · refine ⟨_, rfl, p, _, 0, _, rfl, rfl, SqL.of hp2u, j0, c, _, rfl, .inl (SqL.of hc2u), _, 0, rfl, rfl, _, rfl, ite2 (fun e => ?_) (fun e => ?_)⟩
        · have e2 : 0 < ((ms.map V.int).length : Int) := of_decide_eq_true e
          rw [List.length_map] at e2
          have hk0 := Int.emod_nonneg n (show (ms.length : Int) ≠ 0 by omega)
          have hk1 := Int.emod_lt_of_pos n e2
          have hk : (n % (ms.length : Int)).toNat < ms.length := by omega
          refine ⟨_, rfl, p, _, 0, _, rfl, rfl, SqL.of hp2u, j0, _, rfl, _, rfl, p, _, 0, _, rfl, rfl, SqL.of hp2u, j0, c, _, rfl, .inl (SqL.of hc2u), n, _, rfl, rfl, by
            show 0 < ((ms.map V.int).length : Int)
            rw [List.length_map]
            exact e2, c, _, _, .int (ms[(n % (ms.length : Int)).toNat]), rfl, rfl, SqL.of hc2u, ?_, ?_⟩
          · rw [List.length_map]
            exact at_of (j := (n % (ms.length : Int)).toNat) (by omega) (by rw [List.getElem?_map, List.getElem?_eq_getElem hk]; rfl)
          · exact ⟨_, rfl, eH2⟩
        · exact ⟨7, rfl, eH2⟩
      · obtain ⟨cell, rfl, eM⟩ := hM
        replace eM := eM.symm
        subst eM
        refine ⟨fun σ H' => σ = [some (.ref p), some (.int m), none, some (.int n), some (.int cell), none] ∧ H' = H2, ?_, fun σ' H' hM => ?_⟩
        · refine ⟨_, rfl, _, rfl, p, _, 0, _, rfl, rfl, SqL.of hp2, j0, c, _, rfl, .inl (SqL.of hc2), n, _, rfl, rfl, _, rfl, ite2 (fun _ => ?_) (fun _ => iteF ⟨rfl, rfl⟩)⟩
          refine ⟨_, rfl, 10, 18, rfl, rfl, ⟨by decide, by decide, by decide⟩, cell, _, rfl, rfl, _, rfl, ite2 (fun _ => ?_) (fun _ => ⟨rfl, rfl⟩)⟩
          refine ⟨_, rfl, _, rfl, cell, m, rfl, rfl, wdiv m0 m1, _, rfl, p, _, 2, 2, rfl, rfl, hp2, rfl, ?_⟩
          refine ⟨_, rfl, _, rfl, cell, m, rfl, rfl, m0, ?_⟩
          exact q _ (n + 1) _ (Int.emod_nonneg _ (by omega)) (Int.emod_lt_of_pos _ m0) (by omega) (by omega) ⟨cell / m, upd_same, by rw [upd_ne hpc.symm]; exact hc2, hpc⟩ (but_upd sb)
        · obtain ⟨rfl, eM⟩ := hM
          replace eM := eM.symm
          subst eM
          have c0 := Int.emod_nonneg cell (show (2147483629 : Int) ≠ 0 by decide)
          have c1 := Int.emod_lt_of_pos cell (show (0 : Int) < 2147483629 by decide)
          refine ⟨_, rfl, cell, 2147483629, rfl, rfl, (show (0 : Int) < 2147483629 by decide), _, 11, rfl, rfl, _, rfl, _, rfl, n, n, rfl, rfl, .inl ⟨by omega, by omega⟩, _, rfl, 5, n, rfl, rfl, .inl ⟨by decide, by decide⟩, _, _, rfl, rfl, _, 3, rfl, rfl, _, _, rfl, rfl, .inl ⟨by omega, by omega⟩, _, 2147483647, rfl, rfl, (show (0 : Int) < 2147483647 by decide), ?_⟩
          have hz2 : ∀ z : Int, (z % 2147483647).natAbs < 2 ^ 64 := fun z => by
            have d0 := Int.emod_nonneg z (show (2147483647 : Int) ≠ 0 by decide)
            have d1 := Int.emod_lt_of_pos z (show (0 : Int) < 2147483647 by decide)
            omega
          refine ⟨_, rfl, _, 3, rfl, rfl, ⟨by decide, by decide, hz2 _⟩, _, rfl, 69621, n, rfl, rfl, .inl ⟨by decide, by decide⟩, _, _, rfl, rfl, _, 2147483587, rfl, rfl, (show (0 : Int) < 2147483587 by decide), _, 40692, rfl, rfl, .inr ⟨by decide, by decide⟩, _, 2147483399, rfl, rfl, (show (0 : Int) < 2147483399 by decide), ?_⟩
          refine ⟨fun σ H' => ∃ z : Int, σ = [some (.ref p), some (.int m), none, some (.int n), some (.int cell), some (.int z)] ∧ H' = H2, ?_, fun σ' H' hM => ?_⟩
          · refine ⟨_, rfl, 10, 6, rfl, rfl, ⟨by decide, by decide, by decide⟩, m, _, rfl, rfl, _, rfl, ite2 (fun _ => ?_) (fun _ => ⟨_, rfl, rfl⟩)⟩
            exact ⟨_, rfl, _, 2147483629, rfl, rfl, .inr ⟨by decide, by decide⟩, _, rfl, _, 1000003, rfl, rfl, (show (0 : Int) < 1000003 by decide), _, 48271, rfl, rfl, .inr ⟨by decide, by decide⟩, _, 2147483587, rfl, rfl, (show (0 : Int) < 2147483587 by decide), _, _, rfl, rfl, _, rfl, rfl⟩
          · obtain ⟨z, rfl, eM⟩ := hM
            replace eM := eM.symm
            subst eM
            refine ⟨_, rfl, z, 64, rfl, rfl, ⟨by decide, by decide⟩, _, rfl, _, m, rfl, rfl, m0, ?_⟩
            exact q _ (n + 1) _ (Int.emod_nonneg _ (by omega)) (Int.emod_lt_of_pos _ m0) (by omega) (by omega) ⟨left, hp2, hc2, hpc⟩ sb
end
theorem Same.but {H H' : Hp} {p : Addr} (s : Same H H') : SameBut p H H' := fun b o _ e => s b o e
theorem SameBut.trans {H H1 H2 : Hp} {p : Addr} (s : SameBut p H H1) (t : SameBut p H1 H2) : SameBut p H H2 := fun b o n e => t b o n (s b o n e)
theorem SameBut.refl {H : Hp} {p : Addr} : SameBut p H H := fun _ _ _ e => e
theorem SameBut.new {H H1 : Hp} {p q : Addr} {o : HO} (s : SameBut p H H1) (n : H1 q = none) : SameBut p H (upd H1 q o) := s.trans (Same.but (same_upd n))
theorem PenAt.same {H H' : Hp} {p c : Addr} {ms : List Int} {n : Int} (h : PenAt H p c ms n) (s : Same H H') : PenAt H' p c ms n := by
  obtain ⟨l, h1, h2, h3⟩ := h
  exact ⟨l, s _ _ h1, s _ _ h2, h3⟩
theorem PenAt.new {H : Hp} {p c q : Addr} {ms : List Int} {n : Int} {o : HO} (h : PenAt H p c ms n) (hq : H q = none) : PenAt (upd H q o) p c ms n := h.same (same_upd hq)
theorem PenAt.ne {H : Hp} {p c q : Addr} {ms : List Int} {n : Int} (h : PenAt H p c ms n) (hq : H q = none) : q ≠ p := by
  obtain ⟨l, h1, h2, h3⟩ := h
  exact fun e => by rw [e, h1] at hq; cases hq
end TC
/-! repr of lists of ints; the end of a law whose own def asks repr. -/
namespace TCX
open PySem PySem.Spec PyProof.Rows L2
/-! ### data of lists of ints -/
def dInts (ns : List Int) : List PyData := ns.map PyData.int
theorem dpAll_ints {K : PySem.W.Frag} {H : Hp} : ∀ ns : List Int, DpAll K H (ns.map V.int) (dInts ns)
  | [] => .nil
  | n :: r => .cons (.int n) (dpAll_ints r)
theorem dp_ints {K : PySem.W.Frag} {H : Hp} {a : Addr} {ns : List Int} (h : H a = some (.lst (ns.map V.int))) : Dp K H (.ref a) (.list (dInts ns)) := .lst (SqL.of h) (dpAll_ints ns)
theorem log_small {i : Int} (h : i.natAbs < 10 ^ 9) : i.natAbs.log2 < 30 := Nat.lt_of_lt_of_le (PySem.Flt.log2_lt_of (show 0 < 30 by decide) (Nat.lt_trans h (by decide))) (by decide)
theorem ints_show : ∀ ns : List Int, (∀ n ∈ ns, n.natAbs < 10 ^ 9) → PyData.showableAll (dInts ns) = true ∧ PyData.hasDictAll (dInts ns) = false ∧ PyData.depthAll (dInts ns) = 0 ∧ PyData.leavesShortAll 13 (dInts ns) = true ∧ PyData.weightAll (dInts ns) ≤ 40 * ns.length
  | [], _ => ⟨rfl, rfl, rfl, rfl, Nat.le_refl _⟩
  | n :: r, h => by
    obtain ⟨h1, h2, h3, h4, h5⟩ := ints_show r fun m hm => h m (List.mem_cons_of_mem _ hm)
    have hn := h n List.mem_cons_self
    have hl := log_small hn
    refine ⟨?_, ?_, ?_, ?_, ?_⟩
    · show (PyData.showable (.int n) && PyData.showableAll (dInts r)) = true
      rw [h1, Bool.and_true]
      simp only [PyData.showable, decide_eq_true_eq]
      omega
    · show (PyData.hasDict (.int n) || PyData.hasDictAll (dInts r)) = false
      rw [h2]
      rfl
    · show max (PyData.depth (.int n)) (PyData.depthAll (dInts r)) = 0
      rw [h3]
      rfl
    · show (PyData.leavesShort 13 (.int n) && PyData.leavesShortAll 13 (dInts r)) = true
      rw [h4, Bool.and_true]
      exact decide_eq_true (PyData.shown_int_le (Nat.lt_trans hn (by decide)))
    · show PyData.weight (.int n) + 1 + PyData.weightAll (dInts r) ≤ 40 * (r.length + 1)
      have : PyData.weight (.int n) ≤ 31 := by
        show (if n == 0 then 0 else n.natAbs.log2 + 1) ≤ 31
        split <;> omega
      omega
structure Shows (d : PyData) : Prop where
  s : d.showable = true
  h : d.hasDict = false
  dp : d.depth ≤ 60
  z : d.shown.length ≤ sizeLine
theorem shows_ints {ns : List Int} (h : ∀ n ∈ ns, n.natAbs < 10 ^ 9) (hl : ns.length ≤ 10000) : Shows (.list (dInts ns)) := by
  obtain ⟨h1, h2, h3, h4, h5⟩ := ints_show ns h
  refine ⟨h1, h2, ?_, PyData.shown_fits (B := 13) (by decide) (by decide) (d := .list (dInts ns)) h4 ?_⟩
  · show PyData.depthAll (dInts ns) + 1 ≤ 60
    omega
  · show PyData.weightAll (dInts ns) ≤ 2 ^ 20
    omega
/-! ### the end of a law, by FnG -/
section
variable {P : Program} {w : World} {K : PySem.W.Frag} {mg mb : Str → Option Value} {CX : CXT} {k : Nat} {fa a : Addr} {cs : List (Addr × Addr)} {fd : FuncData} {x : Str} {sp : Sp} {s₁ : Shared} {vs : List Value} {ns : List Int}
/-- the script (where K doesn't hold it) and the tables are tracked at the law's call -/
def hLaw (K : PySem.W.Frag) (T : List Addr) (a : Addr) (ob : Obj) (xs : List V) : Hp := fun b =>
  if b ∈ T then some (.tbl #[]) else if b = a ∧ K.lookup a = none then some (.frz ob (.lst xs)) else none
theorem hLaw_tab {T : List Addr} {ob : Obj} {xs : List V} {b : Addr} (h : b ∈ T) : hLaw K T a ob xs b = some (.tbl #[]) := if_pos h
theorem hLaw_inv {T : List Addr} {ob : Obj} {xs : List V} {b : Addr} {u : HO} (h : hLaw K T a ob xs b = some u) : (b ∈ T ∧ u = .tbl #[]) ∨ (b = a ∧ K.lookup a = none ∧ u = .frz ob (.lst xs)) := by
  unfold hLaw at h
  by_cases hT : b ∈ T
  · rw [if_pos hT] at h
    exact .inl ⟨hT, (Option.some.inj h).symm⟩
  · rw [if_neg hT] at h
    by_cases ha : b = a ∧ K.lookup a = none
    · rw [if_pos ha] at h
      exact .inr ⟨ha.1, ha.2, (Option.some.inj h).symm⟩
    · rw [if_neg ha] at h
      cases h
theorem law_callG (KX : K.In s₁.heap) (hns : s₁.heap.Ns mainGlobals mg) (hb : s₁.heap.Ns builtinsNs mb) (hbb : ∀ x : Str, x ≠ "__name__" → mb x = bootBuiltins x) (hlim : s₁.heap.NoLimit) (hg : s₁.gens = #[])
    (hT : ∀ p ∈ cs, s₁.heap.get? p.2 = some { cls := .none, data := .fields #[] }) (nT : ∀ p ∈ cs, K.lookup p.2 = none) (C : ∀ p ∈ cs, PySem.W.CodeHd s₁.heap p.1 p.2)
    (hbm : ∃ (bm : Addr) (ob : Obj), mg "__builtins__" = some (.ref bm) ∧ bm ≠ builtinsNs ∧ s₁.heap.get? bm = some ob ∧ ob.cls = .type "module" ∧ ob.dict = some builtinsNs ∧ ob.data = .plain)
    (ha : s₁.heap.get? a = some { cls := .type "list", data := .seq vs.toArray }) (hi : IntsAre vs ns) (hl : ns.length ≤ sizeLine) (hr : Room k callerA)
    (F : ∀ base : Heap, K.In base → base.Ns mainGlobals mg → (∀ p ∈ cs, LamX.TabB base mg p.1 p.2) → FnG P w K mg base CX k fa fd [x] sp) (hbind : ∀ (s : Shared) (u : Value), BindsTo s fd ⟨[u], []⟩ [(x, u)])
    (hsp : ∀ H : Hp, (∀ p ∈ cs, H p.2 = some (.tbl #[])) → SqL K H a (ns.map V.int) → sp [.ref a] H (fun v _ => v = .bl true) fun _ _ _ => False)
    (hCX : ∀ H e s', CX [] H s₁ (fun _ _ _ => False) e s' → False) :
    codeAny (model P w) callerA (.call (.ref fa) ⟨[.ref a], []⟩) (fun r s' => r = .ok (.ret (.bool true)) ∧ OldK s₁.heap s'.heap ∧ s'.os = s₁.os ∧ AllBare s'.gens) s₁ := by
  have rv := vals_ints hi
  have lenV := hi.length
  obtain ⟨T, eT⟩ : ∃ T : List Addr, cs.map (·.2) = T := ⟨_, rfl⟩
  have tIn : ∀ p ∈ cs, p.2 ∈ T := fun p hp => by
    rw [← eT]
    exact List.mem_map.mpr ⟨p, hp, rfl⟩
  have tOut : ∀ b, b ∈ T → ∃ p ∈ cs, p.2 = b := fun b h => by
    rw [← eT] at h
    exact List.mem_map.mp h
  have tGet : ∀ b, b ∈ T → s₁.heap.get? b = some { cls := .none, data := .fields #[] } := fun b h => by
    obtain ⟨p, hp, rfl⟩ := tOut b h
    exact hT p hp
  have aOut : a ∉ T := fun z => by
    have q := ha.symm.trans (tGet a z)
    cases q
  obtain ⟨H, eH⟩ : ∃ H : Hp, hLaw K T a { cls := .type "list", data := .seq vs.toArray } (ns.map V.int) = H := ⟨_, rfl⟩
  have inv : ∀ {b : Addr} {u : HO}, H b = some u → (b ∈ T ∧ u = .tbl #[]) ∨ (b = a ∧ K.lookup a = none ∧ u = .frz { cls := .type "list", data := .seq vs.toArray } (.lst (ns.map V.int))) := fun h => by
    rw [← eH] at h
    exact hLaw_inv h
  have hH : ∀ p ∈ cs, H p.2 = some (.tbl #[]) := fun p hp => by
    rw [← eH]
    exact hLaw_tab (tIn p hp)
  have hS : SqL K H a (ns.map V.int) := by
    cases hk : K.lookup a with
    | none => exact .inl (.inr ⟨_, by rw [← eH]; exact (if_neg aOut).trans (if_pos ⟨rfl, hk⟩)⟩)
    | some o =>
      have e := (KX a o hk).symm.trans ha
      cases e
      exact .inr ⟨_, vs.toArray, _, hk, rfl, rfl, rfl, by rw [List.size_toArray, lenV]; exact hl, by simpa using rv⟩
  have hok : HOk P w H s₁.heap := fun b u e => by
    rcases inv e with ⟨h1, rfl⟩ | ⟨rfl, _, rfl⟩
    · exact tGet b h1
    · exact ⟨ha, by rw [List.length_map]; exact hl, vs, _, rv, ha⟩
  -- what is neither the script nor a table isn't tracked
  have off : ∀ {b : Addr} {o : Obj}, s₁.heap.get? b = some o → (∀ us n, o.data ≠ .seq us n) → o.data ≠ .fields #[] → H b = none := fun {b o} e h1 h2 => by
    cases q : H b with
    | none => rfl
    | some u =>
      rcases inv q with ⟨g1, _⟩ | ⟨rfl, _, _⟩
      · rw [tGet b g1] at e
        cases e
        exact absurd rfl h2
      · rw [ha] at e
        cases e
        exact absurd rfl (h1 _ _)
  have nsK : ∀ {b : Addr} {m : Str → Option Value}, s₁.heap.Ns b m → (hidT s₁.heap H).Ns b m := fun {b m} z => by
    obtain ⟨o, es, ep, e, d, r⟩ := z
    exact ⟨o, es, ep, hidT_get e (off e (fun us n y => by rw [d] at y; cases y) fun y => by rw [d] at y; cases y), d, r⟩
  have hKb : K.In (hidT s₁.heap H) := fun b o e => hidT_get (KX b o e) (by
    cases q : H b with
    | none => rfl
    | some u =>
      rcases inv q with ⟨g1, _⟩ | ⟨rfl, g2, _⟩
      · obtain ⟨p, hp, rfl⟩ := tOut b g1
        rw [nT p hp] at e
        cases e
      · rw [g2] at e
        cases e)
  have hM : L2.Mod K mg (hidT s₁.heap H) := ⟨hKb, nsK hns, ⟨mb, nsK hb, hbb⟩, let ⟨mc, h1, h2⟩ := hlim; ⟨mc, nsK h1, h2⟩⟩
  have TB : ∀ p ∈ cs, LamX.TabB (hidT s₁.heap H) mg p.1 p.2 := fun p hp => by
    have hTp := hT p hp
    refine ⟨?_, ?_, fun z => ?_⟩
    · obtain ⟨o, us, file, tf, flags, tg, inF, text, tt, e1, r1, r2, r3, r4⟩ := C p hp
      exact ⟨o, us, file, tf, flags, tg, inF, text, tt, hidT_get e1 (off e1 (fun _ _ z => by rw [r2] at z; cases z) fun z => by
        rw [r2] at z
        cases z
        simp at r3), r1, r2, r3, r4⟩
    · obtain ⟨bm, ob, b1, b2, b3, b4, b5, b6⟩ := hbm
      refine ⟨bm, ob, b1, b2, fun y => ?_, fun y => ?_, hidT_get b3 (off b3 (fun _ _ z => by rw [b6] at z; cases z) fun z => by rw [b6] at z; cases z), b4, b5, b6⟩
      · obtain ⟨o, es, ep, e, hd, _⟩ := hns
        rw [y, e] at b3
        cases b3
        rw [hd] at b6
        cases b6
      · rw [y, hTp] at b3
        cases b3
        cases b6
    · obtain ⟨o, es, ep, e, hd, _⟩ := hns
      rw [z, hTp] at e
      cases e
      cases hd
  have e0 : Env0 P w K mg (hidT s₁.heap H) callerA [] s₁ H := ⟨rfl, hM, fun b o e => of_hidT e, Nat.le_of_eq (hidT_size _ _), trivial, fun b hb => absurd (show b ∈ ([] : List Addr) from hb) (by simp), hok, .of_eq hg⟩
  refine codeAny_mono ((F _ hKb (nsK hns) TB).grun callerA [] s₁ H ⟨[.ref a], []⟩ [.ref a] [.ref a] _ _ rfl hr e0 (hbind s₁ (.ref a)) (.cons rfl .nil) (hsp H hH hS)) fun r s' h => ?_
  match r, h with
  | .error e, h => exact (hCX H e s' h).elim
  | .ok .next, h => exact False.elim h
  | .ok .brk, h => exact False.elim h
  | .ok .cont, h => exact False.elim h
  | .ok (.ret u), h =>
    obtain ⟨v, H', os, bare, un, hok', r', q'⟩ := h
    cases (show v = .bl true from q')
    cases (show u = Value.bool true from r')
    have noF : ∀ b : Addr, b ∉ frs ([] : List Env) := fun b z => nomatch (show b ∈ ([] : List Addr) from z)
    have key : ∀ b o, b ∉ T → s₁.heap.get? b = some o → s'.heap.get? b = some o := fun b o nb e => by
      cases q : H b with
      | none => exact un.keep b o e q (noF b) (fun z => nomatch z)
      | some u =>
        rcases inv q with ⟨g1, _⟩ | ⟨rfl, _, rfl⟩
        · exact absurd g1 nb
        · obtain ⟨e2, _⟩ := hok' b _ (un.frzs b _ _ q)
          rw [ha] at e
          cases e
          exact e2
    have grown : ∀ p ∈ cs, ∃ more : Array Value, s'.heap.get? p.2 = some { cls := .none, data := .fields more } := fun p hp => by
      obtain ⟨more, z⟩ := un.tbls p.2 #[] (hH p hp)
      exact ⟨_, hok' p.2 _ z⟩
    refine ⟨rfl, ⟨fun b o e => ?_, fun b o e => ?_⟩, os, bare⟩
    · by_cases hb : b ∈ T
      · obtain ⟨p, hp, rfl⟩ := tOut b hb
        obtain ⟨more, hm⟩ := grown p hp
        rw [hT p hp] at e
        cases e
        exact .inr (.inl ⟨((C p hp).tab (hT p hp)).isCodeTable, rfl, #[], more, rfl, by rw [Array.empty_append]; exact hm⟩)
      · exact .inl (key b o hb e)
    · by_cases hb : b ∈ T
      · obtain ⟨p, hp, rfl⟩ := tOut b hb
        obtain ⟨more, hm⟩ := grown p hp
        exact ⟨_, hm⟩
      · exact ⟨o, key b o hb e⟩
end
/-- what is known of the law's promise at the head's heap -/
def LawAtG (l : PySem.W.OpenLaw) (w : World) (K : PySem.W.Frag) (CX : CXT) (k n : Nat) (x : Str) (mg : Str → Option Value) (fa : Addr) (h : Heap) : Prop :=
  ∃ (fd : FuncData) (cs : List (Addr × Addr)) (sp : Sp), (∀ p ∈ cs, h.get? p.2 = some { cls := .none, data := .fields #[] }) ∧ (∀ p ∈ cs, K.lookup p.2 = none) ∧ (∀ p ∈ cs, PySem.W.CodeHd h p.1 p.2) ∧ (∀ (s : Shared) (u : Value), BindsTo s fd ⟨[u], []⟩ [(x, u)]) ∧
    (∀ (H : Hp) (a : Addr) (ns : List Int), ns.length ≤ n → (∀ p ∈ cs, H p.2 = some (.tbl #[])) → SqL K H a (ns.map V.int) → sp [.ref a] H (fun v _ => v = .bl true) fun _ _ _ => False) ∧
    ∀ base : Heap, K.In base → base.Ns mainGlobals mg → (∀ p ∈ cs, LamX.TabB base mg p.1 p.2) → FnG l.prog w K mg base CX k fa fd [x] sp
theorem walk_ofG {l : PySem.W.OpenLaw} {n k : Nat} {q : Program} {loose : List Str} {XP : (Str → Option Value) → Heap → Prop} {YP : World → Heap → Prop} {d : DefRec} {CX : World → CXT} {x : Str}
    (hn : l.most = some n) (hn2 : n ≤ sizeLine) (hdf : d.params.defaults = []) (hr : Room k callerA)
    (F : ∀ (w : World) (mg : Str → Option Value) (fa : Addr) (h : Heap), YP w h → h.Ns mainGlobals mg → mg d.name = some (.ref fa) → ∃ K : PySem.W.Frag, K.In h ∧ LawAtG l w K (CX w) k n x mg fa h)
    (hCX : ∀ (w : World) (H : Hp) (s : Shared) (e : Value) (s' : Shared), CX w [] H s (fun _ _ _ => False) e s' → False) :
    PySem.W.WalkO q loose XP YP l.row.toRowW d [] (fun f vs => PySem.call f vs) := by
  refine Att.attach_callB hn hdf fun w s₀ s₁ mg mb fa o pm cd doc a vs ns G Y ho hd hcd hmg hobj hints hlen hbits hg => ?_
  obtain ⟨K, KX, fd, cs, sp, hT, nT, C, hb, hsp, hF⟩ := F w mg fa _ Y G.T.g hmg
  exact law_callG KX G.T.g G.T.b G.T.builtins G.T.nolimit hg hT nT C G.T.bmain hobj hints (Nat.le_trans hlen hn2) hr hF hb (fun H hH hS => hsp H a ns hlen hH hS) fun H e s' => hCX w H s₁ e s'
end TCX
/-! isinstance of a kept exception and a tuple of classes; promises joined. -/
namespace TCX
open PySem PySem.Spec PyProof.Rows L2
section
variable {X : Cx}
def rIsVT (K : PySem.W.Frag) : List V → Hp → VK → Prop := fun xs H Q => ∃ (a D tp : Addr) (cs : List V) (us : List Value) (b : Bool), xs = [.ref a, .ref tp] ∧ H a = some (ExV (.ref D) none a) ∧ ExcC K D ∧ H tp = some (.tup cs) ∧ Paired ClsV cs us ∧ PySem.W.kitAny K (.ref D) us = some b ∧ Q (.bl b) H
theorem call_isVT : CallR X (.builtin "isinstance") (rIsVT X.K) := by
  intro pins s σ H xs us Q I r h
  obtain ⟨a, D, tp, cs, ws, b, rfl, hH, C, hT, k, e, q⟩ := h
  obtain ⟨u1, u2, rfl, r1, r2⟩ := vals2 r
  cases (show u2 = Value.ref tp from r2)
  cases (show u1 = Value.ref a from r1)
  obtain ⟨oe, J⟩ := inst_of I hH
  obtain ⟨_, its, rv, o, h1, h2, n, h3⟩ := (show ObjOk X.prog X.w H s.heap tp (.tup cs) from I.hok tp _ hT)
  have e3 := ClsV.all k rv
  subst e3
  obtain ⟨oc, od, dt, sl⟩ := o
  simp only at h2 h3
  subst h2 h3
  exact PySem.W.kia_tup (PySem.W.handS_kitx_exc C.hg C.hk C.hs C.hd C.ha C.hn C.ht C.hm) I.kIn J h1 e (fun z => nomatch z) fun tk => ⟨.bl b, H, I.tok tk, rfl, q⟩
end
section
variable {P : Program} {w : World} {K : PySem.W.Frag} {mg : Str → Option Value} {base : Heap} {k : Nat} {f : Addr} {fd : FuncData} {ps : List Str} {sp sq : Sp}
/-- a def that lets nothing out may be asked where something might -/
theorem lift0 (F : FnOk P w K mg base CX0 k f fd ps sp) : FnOk P w K mg base (L2.CX P w) k f fd ps sp := by
  refine ⟨F.len, fun A outer s H args us vs Q E hr he hb hv hs => codeAny_mono (F.run A outer s H args us vs Q E hr he hb hv hs) fun r s' hq => ?_⟩
  match r, hq with
  | .error u, hq => exact (show False from hq).elim
  | .ok (.ret u), hq => exact hq
  | .ok .next, hq => exact hq
  | .ok .brk, hq => exact hq
  | .ok .cont, hq => exact hq
/-- two promises of one def -/
theorem both {CX : CXT} (F : FnOk P w K mg base CX k f fd ps sp) (G : FnOk P w K mg base CX k f fd ps sq) : FnOk P w K mg base CX k f fd ps (fun vs H Q E => sp vs H Q E ∨ sq vs H Q E) := by
  refine ⟨fun vs H Q E h => h.elim (F.len vs H Q E) (G.len vs H Q E), fun A outer s H args us vs Q E hr he hb hv hs => ?_⟩
  rcases hs with h | h
  · exact F.run A outer s H args us vs Q E hr he hb hv h
  · exact G.run A outer s H args us vs Q E hr he hb hv h
end
end TCX
namespace TCX
open PySem PySem.Spec PyProof.Rows L2 HT
theorem same_new {H : Hp} {p : Addr} {o : HO} (h : H p = none) : Same H (upd H p o) := fun b x e => by
  rw [upd_ne (ne_of_none e h)]
  exact e
section
variable {X : Cx}
/-- t + u, whatever they hold: some tuple of both -/
def rCatS : R2 := fun x y H Q => ∃ a b xs ys, x = .ref a ∧ y = .ref b ∧ H a = some (.tup xs) ∧ H b = some (.tup ys) ∧ xs.length + ys.length ≤ sizeLine ∧ ∀ p H', Same H H' → H' p = some (.tup (xs ++ ys)) → Q (.ref p) H'
theorem op_catS : OpR X (binaryOp .Add) (rCatS) := by
  intro pins s σ H x y v u Q I rx ry h
  obtain ⟨a, b, xs, ys, rfl, rfl, ha, hb, hz, q⟩ := h
  refine op_catA pins s σ H _ _ v u Q I rx ry ⟨a, b, xs, ys, rfl, rfl, SqT.of ha, SqT.of hb, hz, fun e => ?_, fun _ e => ?_, fun _ _ p hp => ?_⟩
  · subst e
    exact q b H (fun _ _ z => z) hb
  · subst e
    exact q a H (fun _ _ z => z) (by rw [List.append_nil]; exact ha)
  · exact q p _ (same_new hp) upd_same
/-- t[lo:hi], whatever it is: some tuple of the part -/
def rSlS : V → Option Int → Option Int → Hp → VK → Prop := fun x lo hi H Q => ∃ a xs, x = .ref a ∧ H a = some (.tup xs) ∧ ∀ p H', Same H H' → H' p = some (.tup (cutV xs lo hi)) → Q (.ref p) H'
theorem sl_tupS : SlR X (rSlS) := by
  intro pins s σ H x v vl vu lo hi sl Q I rx hs pl pu h
  obtain ⟨a, xs, rfl, hx, q⟩ := h
  refine sl_tupA pins s σ H _ v vl vu lo hi sl Q I rx hs pl pu ⟨a, xs, rfl, SqT.of hx, fun e => ?_, fun _ p hp => ?_⟩
  · refine q a H (fun _ _ z => z) ?_
    unfold cutV
    rw [e.1, e.2]
    simpa using hx
  · exact q p _ (same_new hp) upd_same
end
theorem cut_take {xs : List V} {k : Nat} : cutV xs none (some (k : Int)) = xs.take k := by
  unfold cutV
  rw [sIx_nat, sIx_none]
  show xs.take (min k xs.length) = xs.take k
  by_cases h : k ≤ xs.length
  · rw [Nat.min_eq_left h]
  · rw [Nat.min_eq_right (by omega), List.take_length, List.take_of_length_le (by omega)]
theorem cut_drop {xs : List V} {k : Nat} : cutV xs (some (k : Int)) none = xs.drop k := by
  unfold cutV
  rw [sIx_nat, sIx_none]
  by_cases h : k ≤ xs.length
  · rw [Nat.min_eq_left h, List.take_of_length_le (by rw [List.length_drop]; omega)]
  · rw [Nat.min_eq_right (by omega), List.drop_length, List.drop_of_length_le (by omega)]
    exact List.take_nil
end TCX
/-! slices of a list with a step. -/
namespace TCX
open PySem PySem.Spec PyProof.Rows L2
theorem vals_at {xs : List V} {us : List Value} (h : Vals xs us) : ∀ i : Nat, (xs[i]? = none ∧ us[i]? = none) ∨ ∃ x u, xs[i]? = some x ∧ us[i]? = some u ∧ RelV x u := by
  induction h with
  | nil => exact fun i => .inl ⟨rfl, rfl⟩
  | cons r t ih =>
    intro i
    cases i with
    | zero => exact .inr ⟨_, _, rfl, rfl, r⟩
    | succ i => exact ih i
theorem vals_pick {xs : List V} {us : List Value} (h : Vals xs us) : ∀ is : List Nat, Vals (is.filterMap (xs[·]?)) (is.filterMap (us[·]?))
  | [] => .nil
  | i :: is => by
    rcases vals_at h i with ⟨e1, e2⟩ | ⟨x, u, e1, e2, r⟩
    · rw [List.filterMap_cons, List.filterMap_cons, e1, e2]
      exact vals_pick h is
    · rw [List.filterMap_cons, List.filterMap_cons, e1, e2]
      exact .cons r (vals_pick h is)
/-- the items of xs[lo:hi:st] -/
def stepV (xs : List V) (lo hi st : Option Int) : List V := (sliceRange (sliceBounds lo hi st xs.length).1 (sliceBounds lo hi st xs.length).2.1 (sliceBounds lo hi st xs.length).2.2).filterMap (xs[·]?)
section
variable {X : Cx} {e : Expr} {te : TE} {lo hi : Option Expr} {se : Expr} {tl th ts : TO} {pos p2 : Pos}
def tSl3 (K : PySem.W.Frag) (te : TE) (tl th ts : TO) : TE := fun σ H Q => te σ H fun x H1 => tl σ H1 fun l H2 => th σ H2 fun u H3 => ts σ H3 fun c H4 => ∃ a xs, x = .ref a ∧ SqL K H4 a xs ∧ c ≠ some 0 ∧ (stepV xs l u c).length ≤ sizeLine ∧ ∀ p, H4 p = none → Q (.ref p) (upd H4 p (.lst (stepV xs l u c)))
theorem pe_slice3 (he : PE X e te) (hl : PO X lo tl) (hu : PO X hi th) (hs : PO X (some se) ts) : PE X (.Subscript e (.Slice lo hi (some se) p2) pos) (tSl3 X.K te tl th ts) := by
  refine ⟨fun pins s σ H Q I h => ?_⟩
  refine Subscript_ (thn (he.run pins s σ H _ I h) fun v s1 ⟨x, H1, I1, r1, q1⟩ => ?_)
  refine wpAny_Slice (thn (hl.run pins s1 σ H1 _ I1 q1) fun vl s2 ⟨l, H2, I2, pl, q2⟩ => thn (hu.run pins s2 σ H2 _ I2 q2) fun vu s3 ⟨u, H3, I3, pu, q3⟩ => thn (hs.run pins s3 σ H3 _ I3 q3) fun vs s4 ⟨c, H4, I4, ps, q4⟩ => ?_)
  obtain ⟨a, xs, rfl, hx, hc, hz, q⟩ := q4
  have I5 : Inv X pins σ H4 { s4 with heap := s4.heap.push { cls := .type "slice", data := .fields #[vl, vu, vs] } } := I4.kept (t' := s4.toks) fun b ob q => Heap.get?_push_of_some _ q
  cases r1
  obtain ⟨its, r, ht, hz'⟩ := I5.list hx
  have hlen := r.length
  refine tail_any (ops := [.ref a, .ref s4.heap.objs.size]) (T := "list") ht.isList.typeIs slot_list_getitem.lookup ?_ (by with_unfolding_all rfl)
  refine wpAny_getItem_list_slice ht.isList (Heap.IsSliceOf.new ..) pl pu ps hc ?_ (by rw [List.size_toArray] <;> omega)
  have e : slicePick its.toArray l u c = ((sliceRange (sliceBounds l u c its.length).1 (sliceBounds l u c its.length).2.1 (sliceBounds l u c its.length).2.2).filterMap (its[·]?)).toArray := by
    unfold slicePick
    rw [List.size_toArray]
    simp only [List.getElem?_toArray]
  rw [e, ← hlen]
  refine ⟨.ref _, _, I5.laid (t' := s4.toks) (o := .lst (stepV xs l u c)) (fun b ob q => Heap.get?_push_of_some _ q) (Nat.le_refl _) ?_, rfl, q _ (I5.hok.fresh (Nat.le_refl _))⟩
  exact ⟨hz, _, 0, vals_pick r _, Heap.get?_push_size _ rfl⟩
end
end TCX
namespace TCX
open PySem PySem.Spec PyProof.Rows L2
theorem range_down (n : Nat) (hi : Nat) (h : hi ≤ n) : sliceRange ((n : Int) - 1) ((hi : Int) - 1) (-1) = (List.range (n - hi)).map fun k => n - 1 - k := by
  unfold sliceRange
  by_cases hn : hi < n
  · have e : ((n : Int) - 1 - ((hi : Int) - 1) - -1 - 1) / (- -1) = ((n - hi : Nat) : Int) := by
      rw [show (- -1 : Int) = 1 from rfl, Int.ediv_one]
      omega
    simp only [show ¬ ((-1 : Int) > 0) by decide, if_false, show ((n : Int) - 1 > (hi : Int) - 1) by omega, if_true, e, Int.toNat_natCast]
    refine List.map_congr_left fun k hk => ?_
    have := List.mem_range.mp hk
    omega
  · have e : n - hi = 0 := by omega
    simp only [show ¬ ((-1 : Int) > 0) by decide, if_false, show ¬ ((n : Int) - 1 > (hi : Int) - 1) by omega, e]
    rfl
theorem pick_down {α : Type} (xs : List α) : ∀ k : Nat, k ≤ xs.length → ((List.range k).map fun i => xs.length - 1 - i).filterMap (xs[·]?) = (xs.drop (xs.length - k)).reverse
  | 0, _ => by simp
  | k + 1, h => by
    rw [List.range_succ, List.map_append, List.filterMap_append, pick_down xs k (by omega)]
    have h1 : xs.length - 1 - k < xs.length := by omega
    have e : xs.length - (k + 1) = xs.length - 1 - k := by omega
    rw [e, List.drop_eq_getElem_cons h1, List.reverse_cons]
    have e2 : xs.length - 1 - k + 1 = xs.length - k := by omega
    rw [e2]
    congr 1
    simp [List.getElem?_eq_getElem h1]
/-- xs[::-1] -/
theorem step_rev (xs : List V) : stepV xs none none (some (-1)) = xs.reverse := by
  unfold stepV
  have e : sliceBounds none none (some (-1)) xs.length = ((xs.length : Int) - 1, ((0 : Nat) : Int) - 1, -1) := by
    unfold sliceBounds
    simp
  rw [e, range_down xs.length 0 (Nat.zero_le _), Nat.sub_zero, pick_down xs xs.length (Nat.le_refl _), Nat.sub_self]
  rfl
/-- xs[:0:-1] -/
theorem step_tail (xs : List V) : stepV xs none (some 0) (some (-1)) = (xs.drop 1).reverse := by
  unfold stepV
  cases xs with
  | nil => rfl
  | cons x xs =>
    have e : sliceBounds none (some 0) (some (-1)) (x :: xs).length = (((x :: xs).length : Int) - 1, ((1 : Nat) : Int) - 1, -1) := by
      unfold sliceBounds
      simp
      omega
    rw [e, range_down (x :: xs).length 1 (by simp), pick_down (x :: xs) _ (by omega)]
    have e2 : (x :: xs).length - ((x :: xs).length - 1) = 1 := by simp
    rw [e2]
end TCX
/-! dicts from whole numbers to whole numbers, and their pairing with functions. -/
namespace TCX
open PySem PySem.Spec PyProof.Rows L2
def addKey (ks : List Int) (r : Int) : List Int := if r ∈ ks then ks else ks ++ [r]
theorem addKey_len (ks : List Int) (r : Int) : (addKey ks r).length ≤ ks.length + 1 := by
  unfold addKey
  split
  · omega
  · rw [List.length_append, List.length_singleton]
    exact Nat.le_refl _
theorem mem_addKey {ks : List Int} {r s : Int} : s ∈ addKey ks r ↔ s ∈ ks ∨ s = r := by
  unfold addKey
  split
  · rename_i h
    exact ⟨.inl, fun z => z.elim id fun e => e ▸ h⟩
  · simp
theorem inl_ne {a b : Int} (h : a ≠ b) : (Sum.inl a : Key) ≠ Sum.inl b := fun e => h (Sum.inl.inj e)
theorem valV_out {kvs : List (Key × V)} {ks : List Int} {r : Int} (e : kvs.map (·.1) = ks.map (Sum.inl : Int → Key)) (h : r ∉ ks) : valV kvs (Sum.inl r : Key) = none := by
  cases z : valV kvs (Sum.inl r : Key) with
  | none => rfl
  | some v =>
    have m := valV_in z
    rw [e] at m
    obtain ⟨s, hs, es⟩ := List.mem_map.mp m
    exact absurd (Sum.inl.inj es ▸ hs) h
theorem keys_put {kvs : List (Key × V)} {ks : List Int} {r : Int} {v : V} (e : kvs.map (·.1) = ks.map (Sum.inl : Int → Key)) : (putK kvs (Sum.inl r : Key) v).map (·.1) = (addKey ks r).map (Sum.inl : Int → Key) := by
  unfold putK addKey
  by_cases h : r ∈ ks
  · have a : (kvs.any fun kv => decide (kv.1 = (Sum.inl r : Key))) = true := by
      have m : (Sum.inl r : Key) ∈ kvs.map (·.1) := by
        rw [e]
        exact List.mem_map.mpr ⟨r, h, rfl⟩
      obtain ⟨p, hp, ep⟩ := List.mem_map.mp m
      exact List.any_eq_true.mpr ⟨p, hp, decide_eq_true ep⟩
    rw [if_pos a, if_pos h, List.map_map, ← e]
    refine List.map_congr_left fun kv _ => ?_
    show (if kv.1 = (Sum.inl r : Key) then (kv.1, v) else kv).1 = kv.1
    split <;> rfl
  · have a : ¬ (kvs.any fun kv => decide (kv.1 = (Sum.inl r : Key))) = true := by
      rw [valV_any, valV_out e h]
      decide
    rw [if_neg a, if_neg h, List.map_append, List.map_append, e]
    rfl
theorem nd_addKey {ks : List Int} {r : Int} (h : ks.Nodup) : (addKey ks r).Nodup := by
  unfold addKey
  split
  · exact h
  · rename_i z
    rw [List.nodup_append]
    refine ⟨h, by simp, fun a ha b hb => ?_⟩
    rw [List.mem_singleton.mp hb]
    exact fun e => z (e ▸ ha)
theorem dget_in {H : Hp} {d : Addr} {kvs : List (Key × V)} {r : Int} {v : V} (e : H d = some (.dK kvs)) (h : valV kvs (Sum.inl r : Key) = some v) : DGet H d (.int r) (some v) := by
  have z := DGet.k (k := (Sum.inl r : Key)) e
  rw [h] at z
  exact z
theorem dget_out {H : Hp} {d : Addr} {kvs : List (Key × V)} {r : Int} (e : H d = some (.dK kvs)) (h : valV kvs (Sum.inl r : Key) = none) : DGet H d (.int r) none := by
  have z := DGet.k (k := (Sum.inl r : Key)) e
  rw [h] at z
  exact z
theorem len_keys {kvs : List (Key × V)} {ks : List Int} (e : kvs.map (·.1) = ks.map (Sum.inl : Int → Key)) : kvs.length = ks.length := by
  have := congrArg List.length e
  simpa using this
theorem key_at {kvs : List (Key × V)} {ks : List Int} {i : Nat} {k : Key} {v : V} (e : kvs.map (·.1) = ks.map (Sum.inl : Int → Key)) (h : kvs[i]? = some (k, v)) : ∃ r, ks[i]? = some r ∧ k = Sum.inl r := by
  have z : (kvs.map (·.1))[i]? = some k := by
    rw [List.getElem?_map, h]
    rfl
  rw [e, List.getElem?_map] at z
  cases q : ks[i]? with
  | none =>
    rw [q] at z
    cases z
  | some r =>
    rw [q] at z
    exact ⟨r, rfl, (Option.some.inj z).symm⟩
def IntD (H : Hp) (d : Addr) (ks : List Int) (t : Int → Int) : Prop := ∃ kvs, H d = some (.dK kvs) ∧ kvs.map (·.1) = ks.map (Sum.inl : Int → Key) ∧ (∀ r ∈ ks, valV kvs (Sum.inl r : Key) = some (.int (t r))) ∧ ks.Nodup ∧ ∀ r, r ∉ ks → t r = 0
theorem IntD.same {H H' : Hp} {d : Addr} {ks : List Int} {t : Int → Int} (e : Same H H') (h : IntD H d ks t) : IntD H' d ks t := by
  obtain ⟨kvs, h1, h2⟩ := h
  exact ⟨kvs, e _ _ h1, h2⟩
theorem IntD.upd {H : Hp} {d l : Addr} {o : HO} {ks : List Int} {t : Int → Int} (n : d ≠ l) (h : IntD H d ks t) : IntD (L2.upd H l o) d ks t := by
  obtain ⟨kvs, h1, h2⟩ := h
  exact ⟨kvs, by rw [upd_ne n]; exact h1, h2⟩
theorem IntD.imp {H : Hp} {d : Addr} {ks : List Int} {t t' : Int → Int} (h : IntD H d ks t) (e : ∀ r, t r = t' r) : IntD H d ks t' := by
  have : t = t' := funext e
  rw [← this]
  exact h
def setI (t : Int → Int) (r z : Int) : Int → Int := fun s => if s = r then z else t s
theorem putI_ok {H : Hp} {d : Addr} {kvs : List (Key × V)} {ks : List Int} {t : Int → Int} {r z : Int} (ek : kvs.map (·.1) = ks.map (Sum.inl : Int → Key))
    (hv : ∀ r ∈ ks, valV kvs (Sum.inl r : Key) = some (.int (t r))) (nd : ks.Nodup) (out : ∀ r, r ∉ ks → t r = 0) :
    IntD (upd H d (.dK (putK kvs (Sum.inl r : Key) (.int z)))) d (addKey ks r) (setI t r z) := by
  refine ⟨_, upd_same, keys_put ek, fun s hs => ?_, nd_addKey nd, fun s hs => ?_⟩
  · rw [valV_put]
    by_cases es : s = r
    · rw [es, if_pos rfl]
      show some (V.int z) = some (V.int (if r = r then z else t r))
      rw [if_pos rfl]
    · have hs' : s ∈ ks := (mem_addKey.mp hs).resolve_right es
      rw [if_neg (inl_ne es), hv s hs']
      show _ = some (V.int (if s = r then z else t s))
      rw [if_neg es]
  · have h1 : s ∉ ks := fun z => hs (mem_addKey.mpr (.inl z))
    have h2 : s ≠ r := fun z => hs (mem_addKey.mpr (.inr z))
    show (if s = r then z else t s) = 0
    rw [if_neg h2, out s h1]
theorem valV_get : ∀ {kvs : List (Key × V)} {i : Nat} {k : Key} {v : V}, (kvs.map (·.1)).Nodup → kvs[i]? = some (k, v) → valV kvs k = some v
  | [], i, k, v, _, h => by simp at h
  | p :: kvs, 0, k, v, _, h => by
    have e : p = (k, v) := by simpa using h
    rw [e]
    exact valV_pos rfl
  | p :: kvs, i + 1, k, v, nd, h => by
    have h' : kvs[i]? = some (k, v) := by simpa using h
    have n := List.nodup_cons.mp nd
    rw [valV_neg fun e => n.1 (by
      show p.1 ∈ _
      rw [e]
      exact List.mem_map.mpr ⟨_, List.mem_of_getElem? h', rfl⟩)]
    exact valV_get n.2 h'
theorem int_at {kvs : List (Key × V)} {ks : List Int} {t : Int → Int} {i : Nat} {x y : V} (e2 : kvs.map (·.1) = ks.map (Sum.inl : Int → Key)) (e3 : ∀ r ∈ ks, valV kvs (Sum.inl r : Key) = some (.int (t r))) (nd : ks.Nodup)
    (hx : (kvs[i]?.map fun kv => kV kv.1) = some x) (hy : (kvs[i]?.map Prod.snd) = some y) : ∃ r, ks[i]? = some r ∧ x = .int r ∧ y = .int (t r) := by
  cases e : kvs[i]? with
  | none =>
    rw [e] at hx
    cases hx
  | some kv =>
    obtain ⟨k, v⟩ := kv
    rw [e] at hx hy
    obtain ⟨r, hr, rfl⟩ := key_at e2 e
    have ndk : (kvs.map (·.1)).Nodup := by
      rw [e2]
      exact List.pairwise_map.mpr (nd.imp fun {a b} z => inl_ne z)
    have hv := valV_get ndk e
    rw [e3 r (List.mem_of_getElem? hr)] at hv
    refine ⟨r, hr, (Option.some.inj hx).symm, ?_⟩
    rw [Option.some.inj hv]
    exact (Option.some.inj hy).symm
/-- the pairing of a dict with a function -/
def pairI (ks : List Int) (t g : Int → Int) : Int := (ks.map fun r => t r * g r).sum
theorem pair_congr {ks : List Int} {t t' g : Int → Int} (h : ∀ r ∈ ks, t r = t' r) : pairI ks t g = pairI ks t' g := by
  unfold pairI
  congr 1
  exact List.map_congr_left fun r hr => by rw [h r hr]
theorem pair_set : ∀ {ks : List Int} {t g : Int → Int} {r z : Int}, ks.Nodup → r ∈ ks → pairI ks (setI t r z) g = pairI ks t g + (z - t r) * g r
  | [], _, _, _, _, _, h => by cases h
  | a :: ks, t, g, r, z, nd, h => by
    have n := List.nodup_cons.mp nd
    show setI t r z a * g a + pairI ks (setI t r z) g = (t a * g a + pairI ks t g) + (z - t r) * g r
    by_cases e : a = r
    · subst e
      rw [pair_congr (t := setI t a z) (t' := t) fun s hs => if_neg fun (e : s = a) => n.1 (e ▸ hs)]
      show (if a = a then z else t a) * g a + _ = _
      rw [if_pos rfl, Int.sub_mul]
      omega
    · have hr : r ∈ ks := (List.mem_cons.mp h).resolve_left fun z => e z.symm
      rw [pair_set n.2 hr]
      show (if a = r then z else t a) * g a + _ = _
      rw [if_neg e]
      omega
theorem pair_put {ks : List Int} {t g : Int → Int} {r c : Int} (nd : ks.Nodup) (out : ∀ s, s ∉ ks → t s = 0) : pairI (addKey ks r) (setI t r (t r + c)) g = pairI ks t g + c * g r := by
  unfold addKey
  split
  · rename_i h
    rw [pair_set nd h]
    congr 1
    congr 1
    omega
  · rename_i h
    have e : pairI (ks ++ [r]) (setI t r (t r + c)) g = pairI ks (setI t r (t r + c)) g + setI t r (t r + c) r * g r := by
      unfold pairI
      rw [List.map_append, List.sum_append]
      show _ + (setI t r (t r + c) r * g r + 0) = _
      rw [Int.add_zero]
    rw [e, pair_congr (t := setI t r (t r + c)) (t' := t) fun s hs => if_neg fun (e : s = r) => h (e ▸ hs)]
    show _ + (if r = r then t r + c else t r) * g r = _
    rw [if_pos rfl, out r h]
    simp
/-- one at a number, else 0 -/
def one (u : Int) : Int → Int := fun y => if y = u then 1 else 0
theorem pair_one : ∀ {ks : List Int} {t : Int → Int} {u : Int}, ks.Nodup → (∀ s, s ∉ ks → t s = 0) → pairI ks t (one u) = t u
  | [], t, u, _, out => by
    rw [out u (by simp)]
    rfl
  | a :: ks, t, u, nd, out => by
    have n := List.nodup_cons.mp nd
    show t a * one u a + pairI ks t (one u) = t u
    by_cases e : a = u
    · subst e
      have z : pairI ks t (one a) = 0 := by
        unfold pairI
        have : (ks.map fun r => t r * one a r) = ks.map fun _ => (0 : Int) := List.map_congr_left fun r hr => by
          unfold one
          rw [if_neg fun (e : r = a) => n.1 (e ▸ hr), Int.mul_zero]
        rw [this]
        clear this n nd out
        induction ks with
        | nil => rfl
        | cons b ks ih => simpa using ih
      rw [z]
      unfold one
      rw [if_pos rfl]
      omega
    · have z : pairI ks t (one u) = setI t a 0 u := by
        rw [pair_congr (t := t) (t' := setI t a 0) fun s hs => by
          unfold setI
          rw [if_neg fun (e : s = a) => n.1 (e ▸ hs)]]
        refine pair_one n.2 fun s hs => ?_
        unfold setI
        split
        · rfl
        · rename_i h
          exact out s fun m => (List.mem_cons.mp m).elim h hs
      rw [z]
      unfold setI one
      rw [if_neg e, if_neg fun x => e x.symm]
      omega
/-- a dict known by its pairing; its keys within bounds -/
def IntP (H : Hp) (d : Addr) (lo hi : Int) (X : (Int → Int) → Int) : Prop := ∃ ks t, IntD H d ks t ∧ (∀ g, pairI ks t g = X g) ∧ ∀ r ∈ ks, lo ≤ r ∧ r ≤ hi
theorem IntP.same {H H' : Hp} {d : Addr} {lo hi : Int} {X : (Int → Int) → Int} (e : Same H H') (h : IntP H d lo hi X) : IntP H' d lo hi X := by
  obtain ⟨ks, t, h1, h2⟩ := h
  exact ⟨ks, t, h1.same e, h2⟩
/-- as many keys as there are numbers between the bounds, at most -/
theorem nodup_len {lo : Int} : ∀ (n : Nat) {ks : List Int}, ks.Nodup → (∀ r ∈ ks, lo ≤ r ∧ r < lo + n) → ks.length ≤ n
  | 0, [], _, _ => Nat.le_refl _
  | 0, a :: ks, _, h => by
    have := h a (by simp)
    omega
  | n + 1, ks, nd, h => by
    have hl : (ks.filter fun r => decide (r ≠ lo + n)).length ≤ n := by
      refine nodup_len (lo := lo) n (nd.filter _) fun r hr => ?_
      obtain ⟨m, e⟩ := List.mem_filter.mp hr
      have := h r m
      have e' : r ≠ lo + n := by simpa using e
      omega
    have e : ks.length ≤ (ks.filter fun r => decide (r ≠ lo + n)).length + 1 := by
      clear hl h
      induction ks with
      | nil => simp
      | cons a ks ih =>
        have n2 := List.nodup_cons.mp nd
        by_cases ea : a = lo + n
        · have : (ks.filter fun r => decide (r ≠ lo + n)) = ks := List.filter_eq_self.mpr fun r hr => decide_eq_true fun e => n2.1 (by rw [ea, ← e]; exact hr)
          rw [List.filter_cons, if_neg (by rw [decide_eq_false (by simpa using ea)]; exact Bool.false_ne_true), this]
          exact Nat.le_refl _
        · rw [List.filter_cons, if_pos (decide_eq_true ea), List.length_cons, List.length_cons]
          exact Nat.succ_le_succ (ih n2.2)
    omega
end TCX
/-! the mathematics of many sizes joined from the left. -/
namespace TCX
/-- h at a, a + 2, .. : n of them, summed -/
def runS (h : Int → Int) (a : Int) : Nat → Int
  | 0 => 0
  | n + 1 => h a + runS h (a + 2) n
theorem runS_add (h : Int → Int) : ∀ (n m : Nat) (a : Int), runS h a (n + m) = runS h a n + runS h (a + 2 * n) m
  | 0, m, a => by
    rw [Nat.zero_add]
    show _ = 0 + runS h (a + 2 * ((0 : Nat) : Int)) m
    rw [Int.zero_add]
    congr 1
    omega
  | n + 1, m, a => by
    rw [show n + 1 + m = (n + m) + 1 by omega]
    show h a + runS h (a + 2) (n + m) = h a + runS h (a + 2) n + _
    rw [runS_add h n m (a + 2), show a + 2 + 2 * (n : Int) = a + 2 * ((n + 1 : Nat) : Int) by omega]
    omega
theorem runS_succ (h : Int → Int) (n : Nat) (a : Int) : runS h a (n + 1) = runS h a n + h (a + 2 * n) := by
  rw [runS_add h n 1 a]
  show _ + (_ + 0) = _
  rw [Int.add_zero]
theorem runS_congr {h h' : Int → Int} : ∀ (n : Nat) (a : Int), (∀ i : Nat, i < n → h (a + 2 * i) = h' (a + 2 * i)) → runS h a n = runS h' a n
  | 0, _, _ => rfl
  | n + 1, a, e => by
    show h a + runS h (a + 2) n = h' a + runS h' (a + 2) n
    have e0 := e 0 (by omega)
    rw [show a + 2 * ((0 : Nat) : Int) = a by omega] at e0
    have e1 : runS h (a + 2) n = runS h' (a + 2) n := runS_congr n (a + 2) fun i hi => by
      have z := e (i + 1) (by omega)
      rw [show a + 2 * ((i + 1 : Nat) : Int) = a + 2 + 2 * i by omega] at z
      exact z
    rw [e0, e1]
theorem runS_rev (h : Int → Int) : ∀ (n : Nat) (a : Int), runS (fun y => h (-y)) a n = runS h (-(a + 2 * n) + 2) n
  | 0, _ => rfl
  | n + 1, a => by
    rw [runS_succ, runS_rev h n a]
    show _ = h (-(a + 2 * ((n + 1 : Nat) : Int)) + 2) + runS h (-(a + 2 * ((n + 1 : Nat) : Int)) + 2 + 2) n
    rw [show -(a + 2 * ((n + 1 : Nat) : Int)) + 2 = -(a + 2 * n) by omega]
    omega
theorem runS_zero : ∀ (n : Nat) (a : Int), runS (fun _ => 0) a n = 0
  | 0, _ => rfl
  | n + 1, a => by
    show 0 + runS (fun _ => 0) (a + 2) n = 0
    rw [runS_zero n]
    rfl
theorem runS_addF (h h' : Int → Int) : ∀ (n : Nat) (a : Int), runS (fun y => h y + h' y) a n = runS h a n + runS h' a n
  | 0, _ => rfl
  | n + 1, a => by
    show h a + h' a + runS (fun y => h y + h' y) (a + 2) n = h a + runS h (a + 2) n + (h' a + runS h' (a + 2) n)
    rw [runS_addF h h' n]
    omega
theorem runS_neg (h : Int → Int) : ∀ (n : Nat) (a : Int), runS (fun y => - h y) a n = - runS h a n
  | 0, _ => rfl
  | n + 1, a => by
    show - h a + runS (fun y => - h y) (a + 2) n = - (h a + runS h (a + 2) n)
    rw [runS_neg h n]
    omega
/-- what two sizes join to: the first, and how many -/
def loJ (x s : Int) : Int := if x - s < 0 then -(x - s) else x - s
def manyE (x s : Int) : Nat := (if x ≤ s then x else s).toNat + 1
/-- the sum over what x and s join to -/
def opT (s : Int) (g : Int → Int) : Int → Int := fun x => runS g (loJ x s) (manyE x s)
/-- the sum over the offsets of s -/
def opU (s : Int) (g : Int → Int) : Int → Int := fun x => runS g (x - s) (s.toNat + 1)
def rowT (row : List Int) (g : Int → Int) : Int → Int := row.foldr opT g
def rowU (row : List Int) (g : Int → Int) : Int → Int := row.foldr opU g
/-! ### by offsets -/
def oddF (g : Int → Int) : Int → Int := fun x => if 0 ≤ x then g x else if x = -1 then 0 else - g (-x - 2)
theorem odd_anti (g : Int → Int) (y : Int) : oddF g (-2 - y) = - oddF g y := by
  unfold oddF
  by_cases h : 0 ≤ y
  · rw [if_neg (by omega), if_neg (by omega), if_pos h]
    congr 2
    omega
  · by_cases h1 : y = -1
    · subst h1
      rfl
    · rw [if_pos (by omega), if_neg h, if_neg h1]
      rw [Int.neg_neg]
      congr 1
      omega
theorem anti_run {h : Int → Int} (ha : ∀ y, h (-2 - y) = - h y) (n : Nat) (a : Int) : runS h a n = - runS h (-(a + 2 * n)) n := by
  have e : runS h a n = runS (fun y => - h (-2 - y)) a n := runS_congr n a fun i _ => by
    rw [ha, Int.neg_neg]
  rw [e, runS_neg (fun y => h (-2 - y))]
  congr 1
  have e2 : runS (fun y => h (-2 - y)) a n = runS (fun y => (fun z => h (z - 2)) (-y)) a n := runS_congr n a fun i _ => by
    show h _ = h _
    congr 1
    omega
  rw [e2, runS_rev (fun z => h (z - 2))]
  have sh : ∀ (n : Nat) (b : Int), runS (fun z => h (z - 2)) b n = runS h (b - 2) n := by
    intro n
    induction n with
    | zero => exact fun _ => rfl
    | succ n ih =>
      intro b
      show h (b - 2) + runS (fun z => h (z - 2)) (b + 2) n = h (b - 2) + runS h (b - 2 + 2) n
      rw [ih (b + 2), show b + 2 - 2 = b - 2 + 2 by omega]
  rw [sh]
  congr 1
  omega
theorem anti_half {h : Int → Int} (ha : ∀ y, h (-2 - y) = - h y) (m : Nat) : runS h (-(m : Int)) m = 0 := by
  have e := anti_run ha m (-(m : Int))
  rw [show -(-(m : Int) + 2 * (m : Int)) = -(m : Int) by omega] at e
  omega
theorem opU_odd {s : Int} (hs : 0 ≤ s) (g : Int → Int) (x : Int) : opU s (oddF g) x = oddF (opT s g) x := by
  have pos : ∀ x : Int, 0 ≤ x → opU s (oddF g) x = opT s g x := fun x hx => by
    have same : ∀ (a : Int) (n : Nat), 0 ≤ a → runS (oddF g) a n = runS g a n := fun a n h0 => runS_congr n a fun i _ => by
      unfold oddF
      rw [if_pos (by omega)]
    unfold opU opT loJ manyE
    by_cases h : x - s < 0
    · rw [if_pos h, if_pos (by omega)]
      have e : s.toNat + 1 = (s - x).toNat + (x.toNat + 1) := by omega
      rw [e, runS_add]
      have z := anti_half (odd_anti g) (s - x).toNat
      rw [show -(((s - x).toNat : Nat) : Int) = x - s by omega] at z
      rw [z, Int.zero_add, show x - s + 2 * (((s - x).toNat : Nat) : Int) = -(x - s) by omega]
      exact same _ _ (by omega)
    · rw [if_neg h]
      by_cases h2 : x ≤ s
      · rw [if_pos h2, show x = s by omega]
        exact same _ _ (by omega)
      · rw [if_neg h2]
        exact same _ _ (by omega)
  have anti : opU s (oddF g) x = - opU s (oddF g) (-2 - x) := by
    unfold opU
    rw [anti_run (odd_anti g)]
    congr 2
    omega
  by_cases h : 0 ≤ x
  · rw [pos x h]
    unfold oddF
    rw [if_pos h]
  · rw [anti]
    by_cases h1 : x = -1
    · subst h1
      have z : opU s (oddF g) (-1) = - opU s (oddF g) (-1) := anti
      show - opU s (oddF g) (-1) = 0
      omega
    · rw [pos _ (by omega)]
      unfold oddF
      rw [if_neg h, if_neg h1]
      congr 2
      omega
theorem rowU_odd : ∀ {row : List Int}, (∀ s ∈ row, 0 ≤ s) → ∀ g, rowU row (oddF g) = oddF (rowT row g)
  | [], _, g => rfl
  | s :: row, h, g => by
    funext x
    show opU s (rowU row (oddF g)) x = oddF (opT s (rowT row g)) x
    rw [rowU_odd (fun r hr => h r (List.mem_cons_of_mem _ hr)) g]
    exact opU_odd (h s (by simp)) _ x
theorem rowU_add : ∀ (row : List Int) (g g' : Int → Int), rowU row (fun y => g y + g' y) = fun y => rowU row g y + rowU row g' y
  | [], g, g' => rfl
  | s :: row, g, g' => by
    funext x
    show opU s (rowU row fun y => g y + g' y) x = _
    rw [rowU_add row g g']
    exact runS_addF _ _ _ _
theorem rowU_neg : ∀ (row : List Int) (g : Int → Int), rowU row (fun y => - g y) = fun y => - rowU row g y
  | [], g => rfl
  | s :: row, g => by
    funext x
    show opU s (rowU row fun y => - g y) x = _
    rw [rowU_neg row g]
    exact runS_neg _ _ _
theorem rowU_refl : ∀ {row : List Int}, (∀ s ∈ row, 0 ≤ s) → ∀ (g : Int → Int) (x : Int), rowU row (fun y => g (-y)) x = rowU row g (-x)
  | [], _, g, x => rfl
  | s :: row, h, g, x => by
    show opU s (rowU row fun y => g (-y)) x = opU s (rowU row g) (-x)
    have e : rowU row (fun y => g (-y)) = fun y => rowU row g (-y) := by
      funext y
      exact rowU_refl (fun r hr => h r (List.mem_cons_of_mem _ hr)) g y
    have h0 := h s (by simp)
    rw [e]
    unfold opU
    rw [runS_rev (rowU row g)]
    congr 1
    omega
/-- how often offsets add up to a size less how often to it and 2 more -/
theorem by_offsets {s : Int} {row : List Int} {u : Int} (h : ∀ r ∈ s :: row, 0 ≤ r) (hu : 0 ≤ u) : rowU (s :: row) (one u) 0 - rowU (s :: row) (one (u + 2)) 0 = rowT row (one u) s := by
  have e1 : rowU (s :: row) (one (u + 2)) 0 = rowU (s :: row) (one (-u - 2)) 0 := by
    have z := rowU_refl h (one (-u - 2)) 0
    rw [show (-(0 : Int)) = 0 from rfl] at z
    rw [← z]
    congr 1
    funext y
    unfold one
    by_cases hy : y = u + 2
    · rw [if_pos hy, if_pos (by omega)]
    · rw [if_neg hy, if_neg (by omega)]
  have e2 : oddF (one u) = fun y => one u y + - one (-u - 2) y := by
    funext y
    unfold oddF one
    by_cases h0 : 0 ≤ y
    · rw [if_pos h0, if_neg (show ¬ y = -u - 2 by omega)]
      omega
    · rw [if_neg h0, if_neg (show ¬ y = u by omega)]
      by_cases h1 : y = -1
      · rw [if_pos h1, if_neg (show ¬ y = -u - 2 by omega)]
        rfl
      · rw [if_neg h1]
        by_cases h2 : y = -u - 2
        · rw [if_pos h2, if_pos (by omega)]
          rfl
        · rw [if_neg h2, if_neg (by omega)]
          rfl
  have e3 : rowU (s :: row) (oddF (one u)) 0 = rowU (s :: row) (one u) 0 - rowU (s :: row) (one (-u - 2)) 0 := by
    rw [e2, rowU_add, rowU_neg]
    show _ + - _ = _ - _
    omega
  rw [e1, ← e3, rowU_odd h]
  show opT s (rowT row (one u)) 0 = _
  have h0 := h s (by simp)
  unfold opT loJ manyE
  rw [if_pos h0]
  show runS _ _ 1 = _
  have e : (if 0 - s < 0 then -(0 - s) else 0 - s) = s := by
    split <;> omega
  rw [e]
  show _ + 0 = _
  rw [Int.add_zero]
/-! ### from either end -/
def joinsB (x s y : Int) : Bool := decide ((x + s + y) % 2 = 0) && (decide (loJ x s ≤ y) && decide (y ≤ x + s))
theorem run_one : ∀ (n : Nat) (a u : Int), runS (one u) a n = if (u - a) % 2 = 0 ∧ a ≤ u ∧ u < a + 2 * n then 1 else 0
  | 0, a, u => by
    rw [if_neg (by omega)]
    rfl
  | n + 1, a, u => by
    show one u a + runS (one u) (a + 2) n = _
    rw [run_one n]
    unfold one
    by_cases h : a = u
    · rw [if_pos h, if_neg (by omega), if_pos (by omega)]
      rfl
    · rw [if_neg h]
      by_cases h2 : (u - (a + 2)) % 2 = 0 ∧ a + 2 ≤ u ∧ u < a + 2 + 2 * n
      · rw [if_pos h2, if_pos (by omega)]
        rfl
      · rw [if_neg h2, if_neg (by omega)]
        rfl
/-- the reading by functions that are summed -/
theorem opT_one {s x u : Int} (hs : 0 ≤ s) (hx : 0 ≤ x) (hu : 0 ≤ u) : opT s (one u) x = if (x + s + u) % 2 = 0 ∧ x ≤ s + u ∧ s ≤ x + u ∧ u ≤ x + s then 1 else 0 := by
  unfold opT
  rw [run_one]
  have e : (loJ x s = s - x ∧ (manyE x s : Int) = x + 1 ∧ x ≤ s) ∨ (loJ x s = x - s ∧ (manyE x s : Int) = s + 1 ∧ s ≤ x) := by
    unfold loJ manyE
    by_cases h : x ≤ s
    · refine .inl ⟨?_, ?_, h⟩
      · split <;> omega
      · rw [if_pos h]
        omega
    · refine .inr ⟨?_, ?_, by omega⟩
      · rw [if_neg (by omega)]
      · rw [if_neg h]
        omega
  by_cases h2 : (x + s + u) % 2 = 0 ∧ x ≤ s + u ∧ s ≤ x + u ∧ u ≤ x + s
  · rw [if_pos h2, if_pos (by rcases e with ⟨e1, e2, e3⟩ | ⟨e1, e2, e3⟩ <;> rw [e1, e2] <;> omega)]
  · rw [if_neg h2, if_neg (by rcases e with ⟨e1, e2, e3⟩ | ⟨e1, e2, e3⟩ <;> rw [e1, e2] <;> omega)]
theorem loJ_nn (x s : Int) : 0 ≤ loJ x s := by
  unfold loJ
  split <;> omega
theorem opT_congr {s x : Int} {g g' : Int → Int} (h : ∀ y, 0 ≤ y → g y = g' y) : opT s g x = opT s g' x := by
  have := loJ_nn x s
  exact runS_congr _ _ fun i _ => h _ (by omega)
theorem rowT_congr : ∀ (row : List Int) {g g' : Int → Int}, (∀ y, 0 ≤ y → g y = g' y) → ∀ x, 0 ≤ x → rowT row g x = rowT row g' x
  | [], _, _, h, x, hx => h x hx
  | s :: row, g, g', h, x, hx => opT_congr fun y hy => rowT_congr row h y hy
theorem rowT_zero : ∀ (row : List Int) (x : Int), rowT row (fun _ => 0) x = 0
  | [], _ => rfl
  | s :: row, x => by
    show opT s (rowT row fun _ => 0) x = 0
    have e : rowT row (fun _ => 0) = fun _ => 0 := by
      funext y
      exact rowT_zero row y
    rw [e]
    exact runS_zero _ _
theorem rowT_add : ∀ (row : List Int) (g g' : Int → Int), rowT row (fun y => g y + g' y) = fun y => rowT row g y + rowT row g' y
  | [], g, g' => rfl
  | s :: row, g, g' => by
    funext x
    show opT s (rowT row fun y => g y + g' y) x = _
    rw [rowT_add row g g']
    exact runS_addF _ _ _ _
/-- a sum of functions goes through -/
theorem rowT_run (row : List Int) (G : Int → Int → Int) (y : Int) : ∀ (n : Nat) (a : Int), rowT row (fun w => runS (fun z => G z w) a n) y = runS (fun z => rowT row (G z) y) a n
  | 0, a => rowT_zero row y
  | n + 1, a => by
    show rowT row (fun w => G a w + runS (fun z => G z w) (a + 2) n) y = _
    rw [rowT_add]
    show rowT row (fun w => G a w) y + rowT row (fun w => runS (fun z => G z w) (a + 2) n) y = _
    rw [rowT_run row G y n (a + 2)]
    rfl
theorem rowT_snoc (row : List Int) (s : Int) (g : Int → Int) : rowT (row ++ [s]) g = rowT row (opT s g) := by
  unfold rowT
  rw [List.foldr_append]
  rfl
theorem rowT_back : ∀ {row : List Int}, (∀ s ∈ row, 0 ≤ s) → ∀ {x y : Int}, 0 ≤ x → 0 ≤ y → rowT row (one y) x = rowT row.reverse (one x) y
  | [], _, x, y, _, _ => by
    show one y x = one x y
    unfold one
    by_cases h : x = y
    · rw [if_pos h, if_pos h.symm]
    · rw [if_neg h, if_neg fun e => h e.symm]
  | s :: row, h, x, y, hx, hy => by
    have h0 := h s (by simp)
    have hr : ∀ r ∈ row, 0 ≤ r := fun r hr => h r (List.mem_cons_of_mem _ hr)
    rw [List.reverse_cons, rowT_snoc]
    show runS (rowT row (one y)) (loJ x s) (manyE x s) = _
    have l0 := loJ_nn x s
    rw [runS_congr (h := rowT row (one y)) (h' := fun z => rowT row.reverse (one z) y) _ _ fun i _ => rowT_back hr (by omega) hy]
    rw [← rowT_run row.reverse (fun z w => one z w) y]
    refine rowT_congr _ (fun w hw => ?_) y hy
    have e : runS (fun z => one z w) (loJ x s) (manyE x s) = opT s (one w) x := runS_congr _ _ fun i _ => by
      unfold one
      by_cases e : w = loJ x s + 2 * (i : Int)
      · rw [if_pos e, if_pos e.symm]
      · rw [if_neg e, if_neg fun z => e z.symm]
    rw [e, opT_one h0 hx hw, opT_one h0 hw hx]
    by_cases c : (x + s + w) % 2 = 0 ∧ x ≤ s + w ∧ s ≤ x + w ∧ w ≤ x + s
    · rw [if_pos c, if_pos (by omega)]
    · rw [if_neg c, if_neg (by omega)]
end TCX
/-! name = {k: v for ..}, the name a local: the dict is stored while the comprehension's block still stands. -/
namespace TCA
open PySem PySem.Spec PyProof.Rows L2
section
variable {X : Cx}
theorem sw_dict {kx vx : Expr} {gs : List Comprehension} {scope : Scope} {pos py : Pos} {y : Str} {l : Nat} {env : Env} (hk : env.scope.kind = .function) (hy : env.scope.names.lookup y = some .local) (hl : (py.line == pos.line) = true)
    (ha : (scope.names.any fun (n, k) => n == y && (k == .local || k == .cell)) = false) : swapsWith (.DictComp kx vx gs scope pos) (some (.Name y py)) l env = pure true := by
  have e1 : env.kindOf y = some .local := hy
  have e2 : env.blockKind = .function := by
    unfold Env.blockKind
    rw [hk]
    rfl
  unfold swapsWith
  simp only [e2, e1, ha, Expr.pos, hl]
  rfl
theorem ps_setDc {i : Nat} {y : Str} {py : Pos} {kx vx tg iter : Expr} {ifs : List Expr} {scope : Scope} {own : List (Str × Nat)} {pos spos : Pos} {wi : TI} {g : TG} {tt : TT} {tk tv : TE} (hc : X.calm = true) (hN : X.N.Nodup) (hy : X.N[i]? = some y) (hyl : X.env.scope.names.lookup y = some .local)
    (hsw : swapsWith (.DictComp kx vx [⟨tg, iter, ifs, 0⟩] scope pos) (some (.Name y py)) spos.line X.env = pure true) (hi : PI X tg iter wi) (ok : BlkOk X.N X.env.scope scope own)
    (hg : ∀ (s : Shared) (H : Hp) (C : Addr) (cl : List (Str × Addr)) (fp : List Addr), PG (X.blk s H scope (compEnvC scope cl C X.env) fp) tg g)
    (ht : ∀ (s : Shared) (H : Hp) (C : Addr) (cl : List (Str × Addr)) (fp : List Addr), PTs (X.blk s H scope (compEnvC scope cl C X.env) fp) ifs tt)
    (hk : ∀ (s : Shared) (H : Hp) (C : Addr) (cl : List (Str × Addr)) (fp : List Addr), PE (X.blk s H scope (compEnvC scope cl C X.env) fp) kx tk)
    (hv : ∀ (s : Shared) (H : Hp) (C : Addr) (cl : List (Str × Addr)) (fp : List Addr), PE (X.blk s H scope (compEnvC scope cl C X.env) fp) vx tv)
    (hs : ∀ x, foldedSetIterable iter X.env x = pure x := by intro _; rfl) :
    PS X (.Assign [.Name y py] (.DictComp kx vx [⟨tg, iter, ifs, 0⟩] scope pos) spos) (tAsg (tDc wi g tt tk tv (own.map (·.2))) (gName i)) := by
  refine ⟨fun pins s σ H D I h => ?_⟩
  rw [exec_Assign_Name_used _ _ _ _ hsw]
  refine wpAny_bind (wpAny_standAt (wpAny_bind ?_))
  show wpAny _ X.A (do let _ ← comprehension (.DictComp kx vx [⟨tg, iter, ifs, 0⟩] scope pos) scope X.env (firstIterPos [⟨tg, iter, ifs, 0⟩] pos) newDict false (eval iter X.env) (some (assign (.Name y py) X.env))) _ _ s
  have h' : tDc wi g tt tk tv (own.map (·.2)) σ H (fun x H1 => gName i x σ H1 D.nx) := h
  have core := dc_core (Qf := fun _ s' => SP X pins D .next s') (pos := pos) (pos' := firstIterPos [⟨tg, iter, ifs, 0⟩] pos) (use := some (assign (.Name y py) X.env)) hc hN I hi ok hg ht hk hv hs h' fun d C s' m H' I' q hn fp => by
    show wpAny _ _ (assign (.Name y py) X.env (.ref d)) _ _ _
    refine wpAny_assign_Name (store_ok2 (v := V.ref d) I' hN hy (.inl hyl) rfl (fun s2 I2 ⟨a, sb, ha⟩ => ?_) (.inr hyl))
    obtain ⟨f0, f1, f2, f3, f4, f5⟩ := fp
    have hCa : C ≠ a := by
      rcases ha with z | z
      · rw [z]
        exact f1
      · exact fun e => f4 y a z e.symm
    exact ⟨m, hn.sameBut sb hCa, fun h3 sb3 => ⟨_, H', I2.turned (t' := s2.toks) (fun b o hb e => (sb3.2 b hb).trans e) f0 f1 f3 f4 f5, q⟩⟩
  exact wpAny_bind (thn core fun _ s' hq => wpAny_pure (wpAny_pure hq))
/-! a for over a list or a tuple, whichever it is -/
theorem seqL_at {K : PySem.W.Frag} {H H' : Hp} {a : Addr} {xs : List V} (e : ∀ u, H a = some u → H' a = some u) (h : SqL K H a xs) : SqL K H' a xs := by
  rcases h with (h | ⟨o, h⟩) | h
  · exact .inl (.inl (e _ h))
  · exact .inl (.inr ⟨o, e _ h⟩)
  · exact .inr h
theorem seqT_at {K : PySem.W.Frag} {H H' : Hp} {a : Addr} {xs : List V} (e : ∀ u, H a = some u → H' a = some u) (h : SqT K H a xs) : SqT K H' a xs := by
  rcases h with (h | ⟨o, h⟩) | h
  · exact .inl (.inl (e _ h))
  · exact .inl (.inr ⟨o, e _ h⟩)
  · exact .inr h
def iSeq (K : PySem.W.Frag) (tl : TE) : TI := fun σ H R => tl σ H fun x H1 => ∃ a xs, x = .ref a ∧ (SqL K H1 a xs ∨ SqT K H1 a xs) ∧ ∀ (J : It) (G : Hp → Prop), (∀ H', (∀ u, H1 a = some u → H' a = some u) → G H') → Walk J xs.length G (YAt xs) → R J H1
theorem pi_seq {tg l : Expr} {tl : TE} (hl : PE X l tl) : PI X tg l (iSeq X.K tl) := by
  refine ⟨fun pins s σ H R I h => thn (hl.run pins s σ H _ I h) fun v s1 ⟨x, H1, I1, r1, q1⟩ => ?_⟩
  obtain ⟨a, xs, ex, hq, q⟩ := q1
  subst ex
  cases r1
  have own : ∀ b ∈ [s1.heap.objs.size], FpOk X pins H1 b := fun b hb => by
    rw [List.mem_singleton.mp hb]
    exact I1.fpOk (Nat.le_refl _) (I1.hok.fresh (Nat.le_refl _))
  rcases hq with hq | hq
  · obtain ⟨its, _, pl, _⟩ := I1.list hq
    exact wpAny_pyIter_list pl.isList ⟨s1.heap.objs.size, [s1.heap.objs.size], _, _, H1, rfl, I1.kept (t' := s1.toks) fun b o e => Heap.get?_push_of_some _ e, turn_list a _, ⟨_, Heap.get?_push_size _ rfl, rfl, rfl⟩, own, q _ _ (fun H' e => seqL_at e hq) walk_list⟩
  · obtain ⟨its, _, pl, _⟩ := I1.tuple hq
    exact wpAny_pyIter_tuple (show s1.heap.IsTuple a its.toArray from pl) ⟨s1.heap.objs.size, [s1.heap.objs.size], _, _, H1, rfl, I1.kept (t' := s1.toks) fun b o e => Heap.get?_push_of_some _ e, turn_tuple a _, ⟨_, Heap.get?_push_size _ rfl, rfl, rfl⟩, own, q _ _ (fun H' e => seqT_at e hq) walk_tup⟩
end
end TCA
namespace TC
open PySem PySem.Spec PyProof.Rows L2 TCA TCX
/-- whether v is a whole number from 0 to hi -/
def Sml (K : PySem.W.Frag) (hi : Int) (H : Hp) (v : V) (b : Bool) : Prop := (∃ n : Int, v = .int n ∧ b = (decide (0 ≤ n) && decide (n ≤ hi))) ∨ (b = false ∧ NotInt K H v)
theorem Sml.same {K : PySem.W.Frag} {hi : Int} {H H' : Hp} {v : V} {b : Bool} (h : Sml K hi H v b) (s : Same H H') : Sml K hi H' v b := by
  rcases h with h | ⟨e, h⟩
  · exact .inl h
  · exact .inr ⟨e, h.same s⟩
theorem Sml.int {K : PySem.W.Frag} {hi : Int} {H : Hp} {n : Int} (h0 : 0 ≤ n) (h1 : n ≤ hi) : Sml K hi H (.int n) true := .inl ⟨n, rfl, by rw [decide_eq_true h0, decide_eq_true h1]; rfl⟩
theorem Sml.yes {K : PySem.W.Frag} {hi : Int} {H : Hp} {v : V} (h : Sml K hi H v true) : ∃ n : Int, v = .int n ∧ 0 ≤ n ∧ n ≤ hi := by
  rcases h with ⟨n, rfl, e⟩ | ⟨e, _⟩
  · have := He.ba e.symm
    exact ⟨n, rfl, of_decide_eq_true this.1, of_decide_eq_true this.2⟩
  · cases e
/-- whether v is a row of sizes -/
def RowV (K : PySem.W.Frag) (H : Hp) (v : V) (b : Bool) : Prop := (b = false ∧ ∃ t, TyX K H v t ∧ PySem.W.kitOne K t (.type "list") = some false) ∨
  ∃ (a : Addr) (xs : List V) (bs : List Bool), v = .ref a ∧ H a = some (.lst xs) ∧ Paired (Sml K 12 H) xs bs ∧ b = ((decide (1 ≤ xs.length) && decide (xs.length ≤ 10)) && bs.all id)
theorem psml_same {K : PySem.W.Frag} {hi : Int} {H H' : Hp} (s : Same H H') {xs : List V} {bs : List Bool} (h : Paired (Sml K hi H) xs bs) : Paired (Sml K hi H') xs bs := by
  induction h with
  | nil => exact .nil
  | cons r _ ih => exact .cons (r.same s) ih
theorem RowV.same {K : PySem.W.Frag} {H H' : Hp} {v : V} {b : Bool} (h : RowV K H v b) (s : Same H H') : RowV K H' v b := by
  rcases h with ⟨e, t, h1, h2⟩ | ⟨a, xs, bs, e1, h1, h2, e2⟩
  · exact .inl ⟨e, t, TyX.same h1 s, h2⟩
  · exact .inr ⟨a, xs, bs, e1, s _ _ h1, psml_same s h2, e2⟩
/-- a row of sizes, told -/
structure Row (H : Hp) (a : Addr) (rs : List Int) : Prop where
  at_ : H a = some (.lst (rs.map V.int))
  ne : 1 ≤ rs.length
  le : rs.length ≤ 10
  sz : ∀ s ∈ rs, 0 ≤ s ∧ s ≤ 12
theorem Row.same {H H' : Hp} {a : Addr} {rs : List Int} (h : Row H a rs) (s : Same H H') : Row H' a rs := ⟨s _ _ h.at_, h.ne, h.le, h.sz⟩
theorem RowV.yes {K : PySem.W.Frag} {H : Hp} {v : V} (h : RowV K H v true) : ∃ a rs, v = .ref a ∧ Row H a rs := by
  rcases h with ⟨e, _⟩ | ⟨a, xs, bs, rfl, h1, h2, e⟩
  · cases e
  · obtain ⟨e1, e2⟩ := He.ba e.symm
    obtain ⟨e3, e4⟩ := He.ba e1
    have key : ∀ {xs : List V} {bs : List Bool}, Paired (Sml K 12 H) xs bs → bs.all id = true → ∃ rs : List Int, xs = rs.map V.int ∧ ∀ s ∈ rs, 0 ≤ s ∧ s ≤ 12 := by
      intro xs bs h
      induction h with
      | nil => exact fun _ => ⟨[], rfl, fun s hs => by cases hs⟩
      | @cons x b xs bs r _ ih =>
        intro hb
        have hb' : b = true ∧ bs.all id = true := by simpa using hb
        obtain ⟨rs, rfl, h3⟩ := ih hb'.2
        rw [hb'.1] at r
        obtain ⟨n, rfl, n0, n1⟩ := r.yes
        exact ⟨n :: rs, rfl, fun s hs => (List.mem_cons.mp hs).elim (fun e => e ▸ ⟨n0, n1⟩) (h3 s)⟩
    obtain ⟨rs, rfl, h3⟩ := key h2 e2
    rw [List.length_map] at e3 e4
    exact ⟨a, rs, rfl, h1, of_decide_eq_true e3, of_decide_eq_true e4, h3⟩
theorem Row.rowV {K : PySem.W.Frag} {H : Hp} {a : Addr} {rs : List Int} (h : Row H a rs) : RowV K H (.ref a) true := by
  have key : ∀ rs : List Int, (∀ s ∈ rs, 0 ≤ s ∧ s ≤ 12) → Paired (Sml K 12 H) (rs.map V.int) (rs.map fun _ => true) := by
    intro rs
    induction rs with
    | nil => exact fun _ => .nil
    | cons s rs ih => exact fun h => .cons (Sml.int (h s (by simp)).1 (h s (by simp)).2) (ih fun r hr => h r (List.mem_cons_of_mem _ hr))
  refine .inr ⟨a, _, _, rfl, h.at_, key rs h.sz, ?_⟩
  rw [List.length_map, decide_eq_true h.ne, decide_eq_true h.le]
  simp
section
variable {P : Program} {w : World} {K : PySem.W.Frag} {mg : Str → Option Value} {base : Heap} {f : Addr} {fd : FuncData} {CR CS : Addr}
/-! ### need_row -/
def spNeedRow (K : PySem.W.Frag) (CR CS : Addr) : Sp := fun vs H Q E => ∃ (r t : V) (b1 b2 : Bool), vs = [r, t] ∧ RowV K H r b1 ∧ Sml K 120 H t b2 ∧ (b1 = false → E (.ref CR) none H) ∧ (b1 = true → b2 = false → E (.ref CS) none H) ∧ (b1 = true → b2 = true → Q .non H)
abbrev nNeedRow : List Str := ["row", "to", "size"]
theorem scNeedRow : FnScope nNeedRow ["row", "to"] (defScope sNeedRow) := ⟨rfl, rfl, rfl, by decide +kernel, rfl, by decide +kernel, by decide +kernel⟩
theorem ok_needRow {fW : Addr} {fdW : FuncData} {t1 t2 t3 : Tok} (F : FnP K "need_row" sNeedRow f fd) (GW : FnOk P w K mg base CX0 1 fW fdW ["thing"] (spWhole K)) (bW : L2.Binds K fdW ["thing"] []) (kW : PySem.W.keepIn K (.ref fW) = true) (gW : mg "is_whole" = some (.ref fW))
    (XNoRow : XTxt K mg "NoRow" CR) (XNoSize : XTxt K mg "NoSize" CS) (g10 : mg "MOST_OF_ROW" = some (.int 10 t1)) (g12 : mg "HIGHEST_OF_ROW" = some (.int 12 t2)) (g120 : mg "HIGHEST_END" = some (.int 120 t3)) (gisinstance : mg "isinstance" = none) (glist : mg "list" = none) (glen : mg "len" = none) :
    FnOk P w K mg base (L2.CX P w) 2 f fd ["row", "to"] (spNeedRow K CR CS) := by
  refine F.ok scNeedRow (fun vs H Q E h => ?_) (fun cdv A outer s H vs Q E hr h => ?_)
  · obtain ⟨_, _, _, _, rfl, _⟩ := h
    rfl
  · obtain ⟨r, t, b1, b2, rfl, hrow, ht, q1, q2, q3⟩ := h
    refine ⟨_, pss_cons (ps_if (PW.pt (pw_or (pt_not (pt_val (pe_callB call_isi (by rfl) gisinstance (by decide +kernel) (pa_cons (pv 0) (pa_cons (pe_bltn (v := .ty "list") (by rfl) glist (by decide +kernel) rfl) pa_nil))))) (pw_or1 (pt_not (pt_chain op_le op_le pe_int (pe_callB call_len_seq (by rfl) glen PySem.boot_len (pa_cons (pv 0) pa_nil)) (pe_glob (v := .int 10) (by rfl) g10 ⟨_, rfl⟩)))))) (pss_one (ps_raise rfl (takes_of rfl rfl rfl rfl) (pmk_own PySem.F.excBase_ValueError XNoRow.e XNoRow.g XNoRow.k (raises_own XNoRow.b XNoRow.t) rfl))) pss_nil)
      (pss_cons (ps_for (passes_of rfl) rfl (pi_list (pv 0)) (pg_name (i := 2) scNeedRow.nd rfl (.inl rfl))
        (pss_one (ps_if (PW.pt (pw_or (pt_not (pt_val (pe_call GW hr (by rfl) gW kW bW .nil pass0 (pa_cons (pv 2) pa_nil)))) (pw_or1 (pt_not (pt_chain op_le op_le pe_int (pv 2) (pe_glob (v := .int 12) (by rfl) g12 ⟨_, rfl⟩)))))) (pss_one (ps_raise rfl (takes_of rfl rfl rfl rfl) (pmk_own PySem.F.excBase_ValueError XNoRow.e XNoRow.g XNoRow.k (raises_own XNoRow.b XNoRow.t) rfl))) pss_nil)))
      (pss_one (ps_if (PW.pt (pw_or (pt_not (pt_val (pe_call GW hr (by rfl) gW kW bW .nil pass0 (pa_cons (pv 1) pa_nil)))) (pw_or1 (pt_not (pt_chain op_le op_le pe_int (pv 1) (pe_glob (v := .int 120) (by rfl) g120 ⟨_, rfl⟩)))))) (pss_one (ps_raise rfl (takes_of rfl rfl rfl rfl) (pmk_own PySem.F.excBase_ValueError XNoSize.e XNoSize.g XNoSize.k (raises_own XNoSize.b XNoSize.t) rfl))) pss_nil))), ?_⟩
    rcases hrow with ⟨rfl, ty, h1, h2⟩ | ⟨a, xs, bs, rfl, ha, hp, hb1⟩
    · exact ⟨_, rfl, _, _, _, _, false, rfl, .ty "list", h1, h2, false, rfl, iteT (iteT (q1 rfl))⟩
    · refine ⟨_, rfl, _, _, _, _, true, rfl, .ty "list", .base (.lst ha), kit_ty (by decide +kernel), true, rfl, iteF ?_⟩
      refine ⟨_, rfl, a, _, rfl, .inl (SqL.of ha), 1, xs.length, rfl, rfl, _, rfl, iteB (fun z1 => ?_) fun z1 => ?_⟩
      · refine ⟨xs.length, 10, rfl, rfl, _, rfl, ?_⟩
        by_cases z2 : (xs.length : Int) ≤ 10
        · rw [decide_eq_true z2]
          refine iteF ?_
          have z1' : (1 : Int) ≤ xs.length := of_decide_eq_true z1
          have eb : b1 = bs.all id := by
            rw [hb1, decide_eq_true (by omega), decide_eq_true (by omega)]
            rfl
          clear hb1
          refine ⟨_, rfl, a, rfl, ⟨_, SqL.of ha⟩, for_list (K := K) (a := a) (xs := xs) (fun i σ H' => (∃ y, σ = [some (.ref a), some t, y]) ∧ H' = H ∧ (bs.take i).all id = true) ⟨⟨none, rfl⟩, rfl, rfl⟩ (fun i σ H' _ z => by rw [z.2.1]; exact SqL.of ha) (fun i x σ H' hx z => ?_) (fun σ H' z => ?_)⟩
          · obtain ⟨⟨y, rfl⟩, rfl, hb⟩ := z
            obtain ⟨b, hbi, hs⟩ := paired_at hp i x hx
            have bad : b = false → E (.ref CR) none H' := fun e => q1 (by rw [eb]; subst e; exact all_false hbi)
            rcases hs with ⟨n, rfl, e⟩ | ⟨e, hn⟩
            · refine ⟨_, rfl, .inl ⟨n, rfl, true, rfl, iteF ?_⟩⟩
              refine ⟨_, rfl, 0, n, rfl, rfl, _, rfl, iteB (fun y1 => ?_) fun y1 => ?_⟩
              · refine ⟨n, 12, rfl, rfl, _, rfl, ?_⟩
                rw [y1, Bool.true_and] at e
                cases b with
                | true =>
                  rw [← e]
                  exact iteF ⟨⟨_, rfl⟩, rfl, all_take hb hbi rfl⟩
                | false =>
                  rw [← e]
                  exact iteT (bad rfl)
              · rw [y1, Bool.false_and] at e
                exact ⟨_, rfl, iteT (bad e)⟩
            · exact ⟨_, rfl, .inr ⟨x, rfl, hn, false, rfl, iteT (iteT (bad e))⟩⟩
          · obtain ⟨⟨y, rfl⟩, rfl, hb⟩ := z
            rw [paired_len hp, List.take_length] at hb
            rw [hb] at eb
            rcases ht with ⟨n, rfl, e⟩ | ⟨e, hn⟩
            · refine ⟨_, rfl, .inl ⟨n, rfl, true, rfl, iteF ?_⟩⟩
              refine ⟨_, rfl, 0, n, rfl, rfl, _, rfl, iteB (fun y1 => ?_) fun y1 => ?_⟩
              · refine ⟨n, 120, rfl, rfl, _, rfl, ?_⟩
                rw [y1, Bool.true_and] at e
                cases b2 with
                | true =>
                  rw [← e]
                  exact iteF (q3 eb rfl)
                | false =>
                  rw [← e]
                  exact iteT (q2 eb rfl)
              · rw [y1, Bool.false_and] at e
                exact ⟨_, rfl, iteT (q2 eb e)⟩
            · exact ⟨_, rfl, .inr ⟨t, rfl, hn, false, rfl, iteT (iteT (q2 eb e))⟩⟩
        · rw [decide_eq_false z2]
          exact iteT (q1 (by rw [hb1, decide_eq_false (show ¬ xs.length ≤ 10 by omega), Bool.and_false, Bool.false_and]))
      · have z1' : ¬ (1 : Int) ≤ xs.length := of_decide_eq_false z1
        exact ⟨_, rfl, iteT (q1 (by rw [hb1, decide_eq_false (show ¬ 1 ≤ xs.length by omega), Bool.false_and, Bool.false_and]))⟩
/-! ### ends_of, _law_joints -/
def spEnds : Sp := fun vs H Q _ => ∃ x s : Int, vs = [.int x, .int s] ∧ 0 ≤ x ∧ x ≤ 1000 ∧ 0 ≤ s ∧ s ≤ 1000 ∧ ∀ l, H l = none → Q (.ref l) (upd H l (.lst (upV (loJ x s) (manyE x s))))
abbrev nEnds : List Str := ["one", "other"]
theorem scEnds : FnScope nEnds ["one", "other"] (defScope sEnds) := ⟨rfl, rfl, rfl, by decide +kernel, rfl, by decide +kernel, by decide +kernel⟩
theorem ok_ends (F : FnP K "ends_of" sEnds f fd) (gl : mg "list" = none) (gr : mg "range" = none) (ga : mg "abs" = none) : FnOk P w K mg base CX0 1 f fd ["one", "other"] spEnds := by
  refine F.ok scEnds (fun vs H Q E h => ?_) (fun cdv A outer s H vs Q E hr h => ?_)
  · obtain ⟨_, _, rfl, _⟩ := h
    rfl
  · obtain ⟨x, s, rfl, x0, x1, s0, s1, q⟩ := h
    refine ⟨_, PSs.nox (pss_one (ps_ret (pe_list2 rfl (by rfl) gl (by rfl) gr (pa_cons (pe_callB call_abs (by rfl) ga (by decide +kernel) (pa_cons (pe_op op_sub (pv 0) (pv 1)) pa_nil)) (pa_cons (pe_op op_add (pe_op op_add (pv 0) (pv 1)) pe_int) (pa_cons pe_int pa_nil)))))), ?_⟩
    refine ⟨_, rfl, _, rfl, x, s, rfl, rfl, x - s, rfl, _, rfl, _, rfl, x, s, rfl, rfl, _, 1, rfl, rfl, _, _, manyE x s, rfl, ?_, ?_, ?_, ?_, size2 ?_ ?_, fun p hp => ?_⟩
    · split <;> omega
    · split <;> omega
    · omega
    · omega
    · split <;> omega
    · unfold manyE
      split <;> split <;> omega
    · exact q p hp
abbrev nJoints : List Str := ["_law_one", "_law_other"]
theorem scJoints : FnScope nJoints ["_law_one", "_law_other"] (defScope sJoints) := ⟨rfl, rfl, rfl, by decide +kernel, rfl, by decide +kernel, by decide +kernel⟩
theorem ok_joints (F : FnP K "_law_joints" sJoints f fd) (gl : mg "list" = none) (gr : mg "range" = none) (ga : mg "abs" = none) : FnOk P w K mg base CX0 1 f fd ["_law_one", "_law_other"] spEnds := by
  refine F.ok scJoints (fun vs H Q E h => ?_) (fun cdv A outer s H vs Q E hr h => ?_)
  · obtain ⟨_, _, rfl, _⟩ := h
    rfl
  · obtain ⟨x, s, rfl, x0, x1, s0, s1, q⟩ := h
    refine ⟨_, PSs.nox (pss_one (ps_ret (pe_list2 rfl (by rfl) gl (by rfl) gr (pa_cons (pe_callB call_abs (by rfl) ga (by decide +kernel) (pa_cons (pe_op op_sub (pv 0) (pv 1)) pa_nil)) (pa_cons (pe_op op_add (pe_op op_add (pv 0) (pv 1)) pe_int) (pa_cons pe_int pa_nil)))))), ?_⟩
    refine ⟨_, rfl, _, rfl, x, s, rfl, rfl, x - s, rfl, _, rfl, _, rfl, x, s, rfl, rfl, _, 1, rfl, rfl, _, _, manyE x s, rfl, ?_, ?_, ?_, ?_, size2 ?_ ?_, fun p hp => ?_⟩
    · split <;> omega
    · split <;> omega
    · omega
    · omega
    · split <;> omega
    · unfold manyE
      split <;> split <;> omega
    · exact q p hp
end
end TC
/-! the mathematics of labels and their places. -/
namespace TCX
/-- c is among what x and s join to -/
def inJ (x s c : Int) : Prop := ∃ i : Nat, i < manyE x s ∧ c = loJ x s + 2 * (i : Int)
instance (x s c : Int) : Decidable (inJ x s c) := inferInstanceAs (Decidable (∃ i : Nat, i < manyE x s ∧ c = loJ x s + 2 * (i : Int)))
/-- what there is ahead of c of g, among what x and s join to -/
def lessS (g : Int → Int) (x s c : Int) : Int := runS (fun y => if y < c then g y else 0) (loJ x s) (manyE x s)
def labB : List Int → Int → List Int → Int → Prop
  | [], x, [], n => x = n
  | s :: r, x, c :: l, n => inJ x s c ∧ labB r c l n
  | [], _, _ :: _, _ => False
  | _ :: _, _, [], _ => False
def rankL : List Int → Int → List Int → Int → Int
  | s :: r, x, c :: l, n => lessS (rowT r (one n)) x s c + rankL r c l n
  | _, _, _, _ => 0
theorem runS_nn {h : Int → Int} (h0 : ∀ y, 0 ≤ h y) : ∀ (n : Nat) (a : Int), 0 ≤ runS h a n
  | 0, _ => Int.le_refl _
  | n + 1, a => by
    show 0 ≤ h a + runS h (a + 2) n
    have h1 := h0 a
    have h2 := runS_nn h0 n (a + 2)
    omega
theorem runS_ge {h : Int → Int} (h0 : ∀ y, 0 ≤ h y) : ∀ (n : Nat) (a : Int) (i : Nat), i < n → h (a + 2 * i) ≤ runS h a n
  | 0, _, i, hi => absurd hi (by omega)
  | n + 1, a, 0, hi => by
    show _ ≤ h a + runS h (a + 2) n
    have h2 := runS_nn h0 n (a + 2)
    rw [show a + 2 * ((0 : Nat) : Int) = a by omega]
    omega
  | n + 1, a, i + 1, hi => by
    show _ ≤ h a + runS h (a + 2) n
    have h1 := h0 a
    have h2 := runS_ge h0 n (a + 2) i (by omega)
    rw [show a + 2 * ((i + 1 : Nat) : Int) = a + 2 + 2 * (i : Int) by omega]
    omega
theorem one_nn (n y : Int) : 0 ≤ one n y := by
  unfold one
  split <;> omega
theorem rowT_nn (n : Int) : ∀ (r : List Int) (x : Int), 0 ≤ rowT r (one n) x
  | [], x => one_nn n x
  | s :: r, x => runS_nn (rowT_nn n r) _ _
theorem inJ_nn {x s c : Int} (h : inJ x s c) : 0 ≤ c := by
  obtain ⟨i, _, rfl⟩ := h
  have := loJ_nn x s
  omega
theorem inJ_le {x s c : Int} (hx : 0 ≤ x) (hs : 0 ≤ s) (h : inJ x s c) : c ≤ x + s := by
  obtain ⟨i, hi, rfl⟩ := h
  unfold manyE at hi
  unfold loJ
  split at hi <;> split <;> omega
/-- a label's way is counted -/
theorem lab_pos {n : Int} : ∀ {r : List Int} {x : Int} {l : List Int}, labB r x l n → 0 < rowT r (one n) x
  | [], x, [], h => by
    have h : x = n := h
    show 0 < one n x
    unfold one
    rw [if_pos h]
    decide
  | s :: r, x, c :: l, h => by
    obtain ⟨⟨i, hi, e⟩, h2⟩ := h
    have z := lab_pos h2
    have y := runS_ge (rowT_nn n r) (manyE x s) (loJ x s) i hi
    rw [← e] at y
    exact Int.lt_of_lt_of_le z y
  | [], _, _ :: _, h => absurd h id
  | _ :: _, _, [], h => absurd h id
theorem lab_len {n : Int} : ∀ {r : List Int} {x : Int} {l : List Int}, labB r x l n → l.length = r.length
  | [], x, [], h => rfl
  | s :: r, x, c :: l, h => by
    obtain ⟨_, h2⟩ := h
    rw [List.length_cons, List.length_cons, lab_len h2]
  | [], _, _ :: _, h => absurd h id
  | _ :: _, _, [], h => absurd h id
theorem runS_none {h : Int → Int} : ∀ (n : Nat) (a : Int), (∀ i : Nat, i < n → h (a + 2 * i) = 0) → runS h a n = 0 := fun n a e => by
  rw [← runS_zero n a]
  exact runS_congr n a e
/-- the sum of those below c, as a run -/
theorem less_run (g : Int → Int) (x s : Int) (i : Nat) (hi : i ≤ manyE x s) : lessS g x s (loJ x s + 2 * (i : Int)) = runS g (loJ x s) i := by
  unfold lessS
  obtain ⟨m, e⟩ : ∃ m, manyE x s = i + m := ⟨manyE x s - i, by omega⟩
  rw [e, runS_add]
  have e1 : runS (fun y => if y < loJ x s + 2 * (i : Int) then g y else 0) (loJ x s) i = runS g (loJ x s) i := runS_congr _ _ fun k hk => by
    rw [if_pos (by omega)]
  have e2 : runS (fun y => if y < loJ x s + 2 * (i : Int) then g y else 0) (loJ x s + 2 * (i : Int)) m = 0 := runS_none _ _ fun k hk => by
    rw [if_neg (by omega)]
  rw [e1, e2, Int.add_zero]
/-! ### how many, at most; where none -/
theorem runS_le {h : Int → Int} {B : Int} (hb : ∀ y, h y ≤ B) : ∀ (n : Nat) (a : Int), runS h a n ≤ n * B
  | 0, _ => by
    show (0 : Int) ≤ _
    simp
  | n + 1, a => by
    show h a + runS h (a + 2) n ≤ _
    have h1 := hb a
    have h2 := runS_le hb n (a + 2)
    rw [show ((n + 1 : Nat) : Int) = (n : Int) + 1 by omega, Int.add_mul, Int.one_mul]
    omega
theorem rowT_le {n : Int} : ∀ {r : List Int}, (∀ s ∈ r, 0 ≤ s ∧ s ≤ 12) → ∀ x, rowT r (one n) x ≤ 13 ^ r.length
  | [], _, x => by
    show one n x ≤ 1
    unfold one
    split <;> omega
  | s :: r, h, x => by
    have h1 := h s (by simp)
    have h2 := rowT_le (n := n) (fun y hy => h y (List.mem_cons_of_mem _ hy))
    have z := runS_le h2 (manyE x s) (loJ x s)
    have m : (manyE x s : Int) ≤ 13 := by
      unfold manyE
      split <;> omega
    have p : (0 : Int) ≤ 13 ^ r.length := Int.pow_nonneg (by decide)
    have y := Int.mul_le_mul_of_nonneg_right m p
    show runS (rowT r (one n)) (loJ x s) (manyE x s) ≤ 13 ^ (r.length + 1)
    rw [Int.pow_succ, Int.mul_comm (13 ^ r.length)]
    omega
/-- nothing comes to n from x beyond the sum, or to a number of the other kind -/
theorem rowT_none {n : Int} : ∀ {r : List Int} {x : Int}, 0 ≤ x → (∀ s ∈ r, 0 ≤ s) → (x + r.sum < n ∨ (x + r.sum - n) % 2 = 1) → rowT r (one n) x = 0
  | [], x, _, _, h => by
    show one n x = 0
    unfold one
    rw [if_neg]
    simp only [List.sum_nil] at h
    omega
  | s :: r, x, hx, hs, h => by
    have s0 := hs s (by simp)
    rw [List.sum_cons] at h
    refine runS_none _ _ fun i hi => ?_
    have l0 := loJ_nn x s
    refine rowT_none (by omega) (fun y hy => hs y (List.mem_cons_of_mem _ hy)) ?_
    have c : inJ x s (loJ x s + 2 * (i : Int)) := ⟨i, hi, rfl⟩
    have c1 := inJ_le hx s0 c
    rcases h with h | h
    · exact .inl (by omega)
    · refine .inr ?_
      have e : loJ x s = x - s ∨ loJ x s = s - x := by
        unfold loJ
        split <;> omega
      rcases e with e | e <;> rw [e] <;> omega
end TCX
namespace TC
open PySem PySem.Spec PyProof.Rows L2 TCA TCX
/-- a dict known by its pairing; its keys within bounds, its counts above 0 -/
def IntQ (H : Hp) (d : Addr) (lo hi : Int) (X : (Int → Int) → Int) : Prop := ∃ ks t, IntD H d ks t ∧ (∀ g, pairI ks t g = X g) ∧ ∀ r ∈ ks, (lo ≤ r ∧ r ≤ hi) ∧ 0 < t r
theorem IntQ.same {H H' : Hp} {d : Addr} {lo hi : Int} {X : (Int → Int) → Int} (e : Same H H') (h : IntQ H d lo hi X) : IntQ H' d lo hi X := by
  obtain ⟨ks, t, h1, h2⟩ := h
  exact ⟨ks, t, h1.same e, h2⟩
theorem pos_put {ks : List Int} {t : Int → Int} {r c : Int} (h : ∀ s ∈ ks, 0 < t s) (out : ∀ s, s ∉ ks → t s = 0) (hc : 0 < c) : ∀ s ∈ addKey ks r, 0 < setI t r (t r + c) s := fun s hs => by
  unfold setI
  by_cases e : s = r
  · rw [if_pos e]
    by_cases m : r ∈ ks
    · have := h r m
      omega
    · rw [out r m]
      omega
  · rw [if_neg e]
    exact h s ((mem_addKey.mp hs).resolve_right e)
theorem got {H : Hp} {p : Addr} {ks : List Int} {t : Int → Int} {r : Int} (h : IntD H p ks t) : ∃ o, DGet H p (.int r) o ∧ o.getD (.int 0) = .int (t r) := by
  obtain ⟨kvs, p1, p2, p3, p4, p5⟩ := h
  by_cases hk : r ∈ ks
  · exact ⟨_, dget_in p1 (p3 _ hk), rfl⟩
  · refine ⟨none, dget_out p1 (valV_out p2 hk), ?_⟩
    rw [p5 _ hk]
    rfl
theorem IntD.nd {H : Hp} {p : Addr} {ks : List Int} {t : Int → Int} (h : IntD H p ks t) : ks.Nodup ∧ ∀ s, s ∉ ks → t s = 0 := by
  obtain ⟨kvs, p1, p2, p3, p4, p5⟩ := h
  exact ⟨p4, p5⟩
theorem IntD.ne {H : Hp} {p l : Addr} {ks : List Int} {t : Int → Int} {xs : List V} (h : IntD H p ks t) (hl : H l = some (.lst xs)) : p ≠ l := fun e => by
  obtain ⟨kvs, p1, _⟩ := h
  rw [e, hl] at p1
  cases p1
theorem up_at {a : Int} {n i : Nat} {x : V} (h : (upV a n)[i]? = some x) : i < n ∧ x = .int (a + 2 * i) := by
  unfold upV at h
  rw [List.getElem?_map] at h
  by_cases hi : i < n
  · rw [List.getElem?_range hi] at h
    refine ⟨hi, ?_⟩
    have e := (Option.some.inj h).symm
    rw [e]
    show V.int (a + ((i : Nat) : Int) * 2) = V.int (a + 2 * (i : Int))
    rw [Int.mul_comm]
  · rw [List.getElem?_eq_none (by rw [List.length_range]; omega)] at h
    cases h
theorem pair_take {ks : List Int} {t g : Int → Int} {i : Nat} {r : Int} (h : ks[i]? = some r) : pairI (ks.take (i + 1)) t g = pairI (ks.take i) t g + t r * g r := by
  unfold pairI
  rw [List.take_add_one, h, List.map_append, List.sum_append]
  show _ + (t r * g r + 0) = _
  rw [Int.add_zero]
/-- a dict of one entry -/
theorem one_dict {H : Hp} {d : Addr} {n lo hi : Int} (h : H d = some (.dK [((Sum.inl n : Key), V.int 1)])) (h0 : lo ≤ n) (h1 : n ≤ hi) : IntQ H d lo hi fun g => g n := by
  refine ⟨[n], setI (fun _ => 0) n 1, ⟨_, h, rfl, fun r hr => ?_, by simp, fun r hr => ?_⟩, fun g => ?_, fun r hr => ?_⟩
  · rw [List.mem_singleton.mp hr, valV_pos rfl]
    show some (V.int 1) = some (V.int (if n = n then 1 else 0))
    rw [if_pos rfl]
  · unfold setI
    rw [if_neg fun e => hr (by rw [e]; simp)]
  · show (if n = n then 1 else 0) * g n + 0 = g n
    rw [if_pos rfl]
    omega
  · rw [List.mem_singleton.mp hr]
    refine ⟨⟨h0, h1⟩, ?_⟩
    show 0 < (if n = n then (1 : Int) else 0)
    rw [if_pos rfl]
    decide
theorem IntQ.le {H : Hp} {d : Addr} {lo hi lo' hi' : Int} {X : (Int → Int) → Int} (h : IntQ H d lo hi X) (h0 : lo' ≤ lo) (h1 : hi ≤ hi') : IntQ H d lo' hi' X := by
  obtain ⟨ks, t, a, b, c⟩ := h
  exact ⟨ks, t, a, b, fun r hr => ⟨⟨Int.le_trans h0 (c r hr).1.1, Int.le_trans (c r hr).1.2 h1⟩, (c r hr).2⟩⟩
section
variable {P : Program} {w : World} {K : PySem.W.Frag} {mg : Str → Option Value} {base : Heap} {f : Addr} {fd : FuncData}
/-! ### ways_to -/
abbrev back (rs : List Int) : List Int := (rs.drop 1).reverse
def spWays : Sp := fun vs H Q _ => ∃ (a : Addr) (rs : List Int) (n : Int), vs = [.ref a, .int n] ∧ Row H a rs ∧ 0 ≤ n ∧ n ≤ 120 ∧
  ∀ (W : Addr) (ds : List Addr) H', Same H H' → H' W = some (.lst (ds.map V.ref).reverse) → ds.length = rs.length → (∀ (i : Nat) (d : Addr), ds[i]? = some d → IntQ H' d 0 1000 fun g => rowT ((back rs).take i) g n) → Q (.ref W) H'
abbrev nWays : List Str := ["row", "to", "ways", "size", "ahead", "found", "end", "count", "far"]
theorem scWays : FnScope nWays ["row", "to"] (defScope sWays) := ⟨rfl, rfl, rfl, by decide +kernel, rfl, by decide +kernel, by decide +kernel⟩
theorem ok_ways {fE : Addr} {fdE : FuncData} (F : FnP K "ways_to" sWays f fd) (GE : FnOk P w K mg base CX0 1 fE fdE ["one", "other"] spEnds) (bE : L2.Binds K fdE ["one", "other"] []) (kE : PySem.W.keepIn K (.ref fE) = true) (gE : mg "ends_of" = some (.ref fE)) :
    FnOk P w K mg base CX0 2 f fd ["row", "to"] spWays := by
  refine F.ok scWays (fun vs H Q E h => ?_) (fun cdv A outer s H vs Q E hr h => ?_)
  · obtain ⟨_, _, _, rfl, _⟩ := h
    rfl
  · obtain ⟨a, rs, n, rfl, hrow, n0, n1, q⟩ := h
    have hu := hu_of hr
    refine ⟨_, PSs.nox (C8.pss_cut (ps_set (i := 2) scWays.nd rfl (.inl rfl) (pe_lst (pa_cons (pe_disp (pps_cons (pv 1) pe_int pps_nil) (by rfl) (by rfl) (fun z => by cases z) (by decide)) pa_nil)))
      (pss_cons (ps_for PassesOwn.never rfl (pi_list (pe_slice3 (pv 0) po_none (po_some pe_int) (po_some (pe_un un_neg pe_int)))) (pg_name (i := 3) scWays.nd rfl (.inl rfl))
        (pss_cons (ps_set (i := 4) scWays.nd rfl (.inl rfl) (pe_ix ix_list (pv 2) (pe_un un_neg pe_int) (fun _ _ => rfl)))
        (pss_cons (ps_set (i := 5) scWays.nd rfl (.inl rfl) pe_dnewK)
        (C8.pss_cut (ps_lock (ps_for PassesOwn.never rfl (pi_items (pv 4)) (pg_tup rfl (pgs_cons (pg_name (i := 6) scWays.nd rfl (.inl rfl)) (pgs_cons (pg_name (i := 7) scWays.nd rfl (.inl rfl)) pgs_nil)))
          (pss_one (ps_for PassesOwn.never rfl (pi_list (pe_call GE hr (by rfl) gE kE bE .nil pass0 (pa_cons (pv 6) (pa_cons (pv 3) pa_nil)))) (pg_name (i := 8) scWays.nd rfl (.inl rfl))
            (pss_one (ps_dput hu (pv 5) (pv 8) (pe_op op_add (pe_dget2 hu (pv 5) (pv 8) pe_int ⟨rfl, rfl, rfl, rfl⟩) (pv 7)) rfl))))))
        (pss_one (ps_expr (pe_bm PySem.F.plainAttrs_list PySem.F.slot_list_append PySem.F.type_list_append mt_append (pv 2) (pa_cons (pv 5) pa_nil))))))))
      (pss_one (ps_ret (pe_slice3 (pv 2) po_none po_none (po_some (pe_un un_neg pe_int))))))), ?_⟩
    have hlen : (back rs).length + 1 = rs.length := by
      have := hrow.ne
      rw [List.length_reverse, List.length_drop]
      omega
    have hsz : ∀ s ∈ back rs, 0 ≤ s ∧ s ≤ 12 := fun s hs => hrow.sz s (List.mem_of_mem_drop (List.mem_reverse.mp hs))
    -- the first dict
    refine ⟨fun σ H' => ∃ (W d : Addr), σ = [some (.ref a), some (.int n), some (.ref W), none, none, none, none, none, none] ∧ H' W = some (.lst [.ref d]) ∧ Same H H' ∧ H W = none ∧ IntQ H' d 0 120 (fun g => g n), ?_, fun σ H1 hM => ?_⟩
    · intro d hd
      have s1 := same_upd (o := .dK [((Sum.inl n : Key), V.int 1)]) hd
      refine ⟨_, rfl, upd_same, [(Sum.inl n, .int 1)], rfl, by show 1 ≤ 15; decide, ?_⟩
      have e1 : upd (upd H d (.dK [])) d (.dK (mergeK [] [((Sum.inl n : Key), V.int 1)])) = upd H d (.dK [((Sum.inl n : Key), V.int 1)]) := by
        funext b
        by_cases hb : b = d
        · rw [hb, upd_same, upd_same]
          rfl
        · rw [upd_ne hb, upd_ne hb, upd_ne hb]
      rw [e1]
      refine ⟨by show 1 ≤ sizeLine; decide, fun W hW => ?_⟩
      have s2 := same_upd (o := .lst [.ref d]) hW
      exact ⟨W, d, rfl, upd_same, s1.trans s2, s1.free hW, one_dict (s2 _ _ upd_same) n0 n1⟩
    obtain ⟨W, d0, rfl, hW1, s1, hWn, hd0⟩ := hM
    have ha1 := s1 _ _ hrow.at_
    have est : stepV (rs.map V.int) none (some 0) (some (-1)) = (back rs).map V.int := by
      rw [step_tail, ← List.map_drop, ← List.map_reverse]
    refine ⟨_, rfl, 0, rfl, 1, rfl, -1, rfl, a, _, rfl, SqL.of ha1, by decide, ?_, fun sl hsl => ?_⟩
    · rw [est, List.length_map, sizeLine_eq]
      have := hrow.le
      omega
    rw [est]
    have s2 := same_upd (o := .lst ((back rs).map V.int)) hsl
    have hWsl : W ≠ sl := fun e => by
      rw [← e, hW1] at hsl
      cases hsl
    refine ⟨sl, rfl, ⟨_, SqL.of upd_same⟩, for_list (K := K) (a := sl) (xs := (back rs).map V.int) (fun j σ H' => ∃ (v3 v4 v5 v6 v7 v8 : Option V) (ds : List Addr), σ = [some (.ref a), some (.int n), some (.ref W), v3, v4, v5, v6, v7, v8] ∧ H' W = some (.lst (ds.map V.ref)) ∧ ds.length = j + 1 ∧ H' sl = some (.lst ((back rs).map V.int)) ∧ Same H H' ∧ ∀ (i : Nat) (d : Addr), ds[i]? = some d → IntQ H' d 0 (120 + 12 * (i : Int)) fun g => rowT ((back rs).take i) g n)
      ⟨none, none, none, none, none, none, [d0], rfl, s2 _ _ hW1, rfl, upd_same, s1.trans s2, fun i d hi => ?_⟩ (fun j σ H' _ hP => ?_) (fun j x σ H' hx hP => ?_) (fun σ H' hP => ?_)⟩
    · match i, hi with
      | 0, hi =>
        cases hi
        exact IntQ.le (hd0.same s2) (Int.le_refl _) (by omega)
      | i + 1, hi => cases hi
    · obtain ⟨_, _, _, _, _, _, _, _, _, _, z, _⟩ := hP
      exact SqL.of z
    rotate_left
    · -- what is told
      obtain ⟨v3, v4, v5, v6, v7, v8, ds, rfl, hW, hds, hsl', sm, hI⟩ := hP
      refine ⟨_, rfl, 1, rfl, -1, rfl, W, _, rfl, SqL.of hW, by decide, ?_, fun R hR => ?_⟩
      · rw [step_rev, List.length_reverse, List.length_map, hds, List.length_map, sizeLine_eq]
        have := hrow.le
        omega
      rw [step_rev]
      have s3 := same_upd (o := .lst (ds.map V.ref).reverse) hR
      refine q R ds _ (sm.trans s3) upd_same (by rw [hds, List.length_map, hlen]) fun i d hi => IntQ.le ((hI i d hi).same s3) (Int.le_refl _) ?_
      have := (List.getElem?_eq_some_iff.mp hi).1
      have := hrow.le
      rw [hds, List.length_map] at *
      omega
    -- a size more
    obtain ⟨v3, v4, v5, v6, v7, v8, ds, rfl, hW, hds, hsl', sm, hI⟩ := hP
    obtain ⟨sz, hj, rfl⟩ : ∃ sz : Int, (back rs)[j]? = some sz ∧ x = .int sz := by
      rw [List.getElem?_map] at hx
      cases e : (back rs)[j]? with
      | none =>
        rw [e] at hx
        cases hx
      | some z =>
        rw [e] at hx
        exact ⟨z, rfl, (Option.some.inj hx).symm⟩
    obtain ⟨z0, z1⟩ := hsz sz (List.mem_of_getElem? hj)
    have hjl : j < (back rs).length := (List.getElem?_eq_some_iff.mp hj).1
    have j9 : j ≤ 9 := by
      have := hrow.le
      omega
    obtain ⟨d, hd⟩ : ∃ d, ds[j]? = some d := ⟨_, List.getElem?_eq_getElem (by omega)⟩
    refine ⟨_, rfl, 1, rfl, W, _, -1, .ref d, rfl, rfl, SqL.of hW, ?_, ?_⟩
    · have e0 : ds = ds.take j ++ [d] := by
        have z := List.take_add_one (l := ds) (i := j)
        rw [← hds, List.take_length, hd] at z
        exact z
      rw [e0, List.map_append]
      exact atI_last _ _
    intro p hp
    have sp := same_upd (o := .dK []) hp
    obtain ⟨ks, t, hID, hpair, hks⟩ := hI j d hd
    obtain ⟨kv, a1, a2, a3, a4, a5⟩ := id hID
    have lk := len_keys a2
    have npd : p ≠ d := (ne_of_none a1 hp).symm
    have npW : p ≠ W := (ne_of_none hW hp).symm
    refine ⟨fun σ G => ∃ (v6 v7 v8 : Option V), σ = [some (.ref a), some (.int n), some (.ref W), some (.int sz), some (.ref d), some (.ref p), v6, v7, v8] ∧ (∀ b o, H' b = some o → G b = some o) ∧ IntQ G p 0 (120 + 12 * ((j + 1 : Nat) : Int)) (fun g => rowT ((back rs).take (j + 1)) g n), ?_, fun σ G hM => ?_⟩
    · refine ⟨d, .dK kv, sp _ _ a1, trivial, fun o1 => ?_⟩
      refine ⟨_, rfl, d, o1, kv, rfl, upd_same, ?_⟩
      refine for_it (walk_items (d := d) (o := o1) (kvs := kv)) (fun i σ G => ∃ (v6 v7 v8 : Option V) (ks' : List Int) (t' : Int → Int), σ = [some (.ref a), some (.int n), some (.ref W), some (.int sz), some (.ref d), some (.ref p), v6, v7, v8] ∧ G d = some (.frz o1 (.dK kv)) ∧ (∀ b o, H' b = some o → b ≠ d → G b = some o) ∧
          IntD G p ks' t' ∧ (∀ g, pairI ks' t' g = pairI (ks.take i) t (opT sz g)) ∧ ∀ r ∈ ks', (0 ≤ r ∧ r ≤ 120 + 12 * ((j + 1 : Nat) : Int)) ∧ 0 < t' r)
        ⟨_, _, _, [], fun _ => 0, rfl, upd_same, fun b o e hb => by rw [upd_ne hb]; exact sp _ _ e, ⟨[], by rw [upd_ne npd, upd_same], rfl, (fun r hr => by cases hr), List.nodup_nil, fun r _ => rfl⟩, fun g => rfl, (fun r hr => by cases hr)⟩ (fun i σ G _ hP => ?_) (fun i x σ G G2 hi hP hy => ?_) (fun σ G hP => ?_)
      · obtain ⟨_, _, _, _, _, _, z, _⟩ := hP
        exact z
      · obtain ⟨T, x, y, rfl, hT, rfl, hx', hy'⟩ := hy
        obtain ⟨w6, w7, w8, ks', t', rfl, hf, keep, hI', hpr, hks'⟩ := hP
        obtain ⟨r, hr', rfl, rfl⟩ := int_at a2 a3 a4 hx' hy'
        have rk : r ∈ ks := List.mem_of_getElem? hr'
        obtain ⟨⟨r0, r1⟩, r2⟩ := hks r rk
        have sT := same_upd (o := .tup [.int r, .int (t r)]) hT
        refine ⟨T, _, rfl, SqT.of upd_same, rfl, _, _, rfl, _, _, rfl, rfl, ?_⟩
        refine ⟨_, rfl, _, rfl, r, sz, rfl, r0, by omega, z0, by omega, fun l hl => ?_⟩
        have sl' := same_upd (o := .lst (upV (loJ r sz) (manyE r sz))) hl
        have npl : p ≠ l := fun e => by
          obtain ⟨_, z, _⟩ := hI'.same sT
          rw [e, hl] at z
          cases z
        have ndl : d ≠ l := fun e => by
          have z := sT _ _ hf
          rw [e, hl] at z
          cases z
        have bnd : loJ r sz + 2 * ((manyE r sz : Nat) : Int) ≤ r + sz + 2 := by
          unfold loJ manyE
          split <;> split <;> omega
        have l0 := loJ_nn r sz
        refine ⟨l, rfl, ⟨_, SqL.of upd_same⟩, for_list (K := K) (a := l) (xs := upV (loJ r sz) (manyE r sz)) (fun m σ G3 => ∃ (v8 : Option V) (ks' : List Int) (t' : Int → Int), σ = [some (.ref a), some (.int n), some (.ref W), some (.int sz), some (.ref d), some (.ref p), some (.int r), some (.int (t r)), v8] ∧ G3 d = some (.frz o1 (.dK kv)) ∧ G3 l = some (.lst (upV (loJ r sz) (manyE r sz))) ∧ (∀ b o, H' b = some o → b ≠ d → G3 b = some o) ∧
            IntD G3 p ks' t' ∧ (∀ g, pairI ks' t' g = pairI (ks.take i) t (opT sz g) + t r * runS g (loJ r sz) m) ∧ ∀ r ∈ ks', (0 ≤ r ∧ r ≤ 120 + 12 * ((j + 1 : Nat) : Int)) ∧ 0 < t' r)
          ⟨_, ks', t', rfl, (sT.trans sl') _ _ hf, upd_same, fun b o e hb => (sT.trans sl') _ _ (keep b o e hb), hI'.same (sT.trans sl'), fun g => ?_, hks'⟩ (fun m σ G3 _ hP => ?_) (fun m x σ G3 hx hP => ?_) (fun σ G3 hP => ?_)⟩
        · rw [hpr g]
          show _ = _ + t r * 0
          rw [Int.mul_zero, Int.add_zero]
        · obtain ⟨_, _, _, _, _, z, _⟩ := hP
          exact SqL.of z
        · obtain ⟨w8, ks', t', rfl, hf, hl3, keep, hI', hpr, hks'⟩ := hP
          obtain ⟨hm, rfl⟩ := up_at hx
          obtain ⟨o, dg, eo⟩ := got (r := loJ r sz + 2 * (m : Int)) hI'
          obtain ⟨kvp, p1, p2, p3, p4, p5⟩ := id hI'
          refine ⟨_, rfl, p, rfl, .inl ⟨_, .inl p1⟩, _, rfl, o, dg, ?_⟩
          rw [eo]
          have few : kvp.length < sizeLine := by
            have : ks'.length ≤ 1000 := nodup_len (lo := 0) 1000 p4 fun s hs => by
              have := hks' s hs
              omega
            rw [len_keys p2, sizeLine_eq]
            omega
          refine ⟨_, rfl, t' (loJ r sz + 2 * (m : Int)), t r, rfl, rfl, _, rfl, _, rfl, p, _, rfl, DPut.k (k := Sum.inl (loJ r sz + 2 * (m : Int))) p1 few, ?_⟩
          refine ⟨_, addKey ks' (loJ r sz + 2 * (m : Int)), setI t' (loJ r sz + 2 * (m : Int)) (t' (loJ r sz + 2 * (m : Int)) + t r), rfl, by rw [upd_ne npd.symm]; exact hf, by rw [upd_ne npl.symm]; exact hl3, fun b o e hb => ?_, putI_ok (H := G3) (d := p) (r := loJ r sz + 2 * (m : Int)) p2 p3 p4 p5, fun g => ?_, fun s hs => ?_⟩
          · rw [upd_ne (ne_of_none e hp)]
            exact keep b o e hb
          · rw [pair_put p4 p5, hpr g, runS_succ, Int.mul_add, Int.add_assoc]
          · refine ⟨?_, pos_put (fun r hr => (hks' r hr).2) p5 r2 s hs⟩
            rcases mem_addKey.mp hs with h | h
            · exact (hks' s h).1
            · rw [h]
              omega
        · obtain ⟨w8, ks', t', rfl, hf, hl3, keep, hI', hpr, hks'⟩ := hP
          refine ⟨_, _, _, ks', t', rfl, hf, keep, hI', fun g => ?_, hks'⟩
          rw [hpr g, upV_length, pair_take hr']
          rfl
      · obtain ⟨w6, w7, w8, ks', t', rfl, hf, keep, hI', hpr, hks'⟩ := hP
        refine ⟨hf, _, _, _, rfl, fun b o e => ?_, ks', t', hI'.upd npd, fun g => ?_, hks'⟩
        · by_cases hb : b = d
          · rw [hb, upd_same]
            rw [hb, a1] at e
            exact e
          · rw [upd_ne hb]
            exact keep b o e hb
        · rw [hpr g, lk, List.take_length, hpair, List.take_add_one, hj]
          show _ = rowT ((back rs).take j ++ [sz]) g n
          rw [rowT_snoc]
    obtain ⟨w6, w7, w8, rfl, keep, hIP⟩ := hM
    have hWG := keep _ _ hW
    refine ⟨_, rfl, .inl ⟨rfl, _, SqL.of hWG⟩, _, rfl, W, _, _, rfl, rfl, hWG, ?_, _, _, _, _, _, _, ds ++ [p], rfl, ?_, ?_, ?_, ?_, fun i d' hi => ?_⟩
    · rw [List.length_map, hds, sizeLine_eq]
      omega
    · rw [upd_same, List.map_append]
      rfl
    · rw [List.length_append, hds]
      rfl
    · rw [upd_ne hWsl.symm]
      exact keep _ _ hsl'
    · intro b o e
      have hb : b ≠ W := fun z => by
        rw [z, hWn] at e
        cases e
      rw [upd_ne hb]
      exact keep _ _ (sm _ _ e)
    · have stay : ∀ {d' : Addr} {hi : Int} {X : (Int → Int) → Int}, IntQ G d' 0 hi X → IntQ (upd G W (.lst (ds.map V.ref ++ [.ref p]))) d' 0 hi X := fun {d' hi X} h => by
        obtain ⟨ks, t, b1, b2⟩ := h
        exact ⟨ks, t, b1.upd (IntD.ne b1 hWG), b2⟩
      by_cases hi2 : i < ds.length
      · rw [List.getElem?_append_left hi2] at hi
        exact stay ((hI i d' hi).same keep)
      · have ei : i = ds.length := by
          have := (List.getElem?_eq_some_iff.mp hi).1
          rw [List.length_append] at this
          have : i < ds.length + 1 := this
          omega
        rw [ei, List.getElem?_append_right (Nat.le_refl _), Nat.sub_self] at hi
        cases hi
        rw [ei, hds]
        exact stay hIP
end
end TC
namespace TCX
open PySem PySem.Spec PyProof.Rows L2
/-- a promise kept as it is said: the unifier does not open it -/
structure Box (sp : Sp) (vs : List V) (H : Hp) (Q : VK) (E : XK) : Prop where
  out : sp vs H Q E
theorem boxed {P : Program} {w : World} {K : PySem.W.Frag} {mg : Str → Option Value} {base : Heap} {CX : CXT} {k : Nat} {f : Addr} {fd : FuncData} {ps : List Str} {sp : Sp} (F : FnOk P w K mg base CX k f fd ps sp) : FnOk P w K mg base CX k f fd ps (Box sp) :=
  ⟨fun vs H Q E h => F.len vs H Q E h.out, fun A outer s H args us vs Q E hr he hb hv hs => F.run A outer s H args us vs Q E hr he hb hv hs.out⟩
end TCX
/-! enumerate(list, start=k); zip(list, tuple). -/
namespace TCX
open PySem PySem.Spec PyProof.Rows L2
section
variable {M : Model} {A : Around} {E : Value → Shared → Prop} {s : Shared} {env : Env}
/-- a built-in class called with keywords -/
theorem callWith_typeK {pos : Pos} {T : String} {e : Expr} {rest : List Expr} {kws : List Keyword} {Q : Value → Shared → Prop}
    (h : wpAny M A (spliced (backTo pos (starEach (e :: rest) env))) (fun vs s1 => wpAny M A (evalAll ((backToKw pos (keywordEach kws env)).map (·.2)))
      (fun kvs s2 => wpAny M A (call (.type T) vs (((backToKw pos (keywordEach kws env)).filterMap (·.1)).zip kvs)) Q E s2) E s1) E s)
    (he : backTo pos (starEach (e :: rest) env) = (false, eval e env) :: backTo pos (starEach rest env))
    (hplain : (backTo pos (starEach (e :: rest) env)).any (·.1) = false)
    (hall : (backToKw pos (keywordEach kws env)).all (·.1.isSome) = true)
    (hkw : (backToKw pos (keywordEach kws env)).any (·.1.isNone) = false) :
    wpAny M A (callWith pos (.type T) [] (backTo pos (starEach (e :: rest) env)) (backToKw pos (keywordEach kws env))) Q E s := by
  unfold callWith
  rw [he] at h
  have h2 := h
  refine wpAny_bind (wpAny_holding (wpAny_mono (Q := fun a s1 => wpAny M A (call (.type T) a.pos a.kw) Q E s1) ?_ (fun a s1 h1 => wpAny_bind (wpAny_standAt ?_)) fun _ _ x => x))
  · rw [he]
    exact evalArgs_kwB hall h
  · simp only [hplain, hkw, Bool.or_false]
    refine wpAny_bind (wpAny_pure ?_)
    exact wpAny_bind (wpAny_mono h1 (fun r s2 hr => wpAny_bind (wpAny_holding (wpAny_point (wpAny_pure hr)))) fun _ _ x => x)
end
/-- the list at a of xs, each item in a new pair behind a number from k on -/
def Iek (K : PySem.W.Frag) (a : Addr) (xs : List V) (k : Int) : It :=
  ⟨fun i H => i < xs.length ∧ SqL K H a xs, fun i H v H' => ∃ T x, v = .ref T ∧ H T = none ∧ H' = upd H T (.tup [.int (k + (i : Nat)), x]) ∧ xs[i]? = some x, fun i H => xs.length ≤ i ∧ SqL K H a xs⟩
theorem turn_enumK {P : Program} {w : World} {K : PySem.W.Frag} {elts : List Expr} {kk : Nat} {tpos : Pos} (a e it : Addr) (xs : List V) (k : Int) :
    Turn P w K (.Tuple elts kk tpos) (Iek K a xs k) [e, it] e (fun i h => (∃ old, IsEnum h e it (k + ((i : Nat) : Int)) old) ∧ h.IsListIter it a i ∧ e ≠ it ∧ a ≠ it ∧ e ≠ a ∧ i ≤ xs.length) where
  mem := by simp
  obj := fun i h st b hb => by
    obtain ⟨⟨old, he⟩, ⟨o, ho, hc, hd⟩, _⟩ := st
    have e' : b = e ∨ b = it := by simpa using hb
    rcases e' with z | z
    · rw [z]; exact ⟨_, he, fun v q => nomatch q⟩
    · rw [z]; exact ⟨o, ho, fun v q => by rw [hd] at q; cases q⟩
  keep := fun i h h' st k => let ⟨⟨old, he⟩, hi, hne⟩ := st; ⟨⟨old, k e (by simp) _ he⟩, hi.at fun o q => k it (by simp) o q, hne⟩
  item := by
    intro X hP hw hK hc i pins s σ H E I hf st hg
    subst hP hw hK
    obtain ⟨⟨old, he⟩, hit, hne, hai, hea, hle⟩ := st
    obtain ⟨hlt, hq⟩ := hg
    obtain ⟨its, rv, p, hz⟩ := I.list hq
    have hl := rv.length
    have hel : e < s.heap.objs.size := Heap.lt_size he
    have hil : it < s.heap.objs.size := by obtain ⟨_, q, _⟩ := hit; exact Heap.lt_size q
    have hh : X.A.in1.handled = none := I.ok.hd hc
    have D := Draws.list (prog := X.prog) (w := X.w) hh it a hai its.toArray
    refine wpAny_pyNext_enum_itemC D he ⟨hit, p.isList⟩ (by simp; omega) hne (by simp; exact ⟨hne, hea⟩) fun u h' tk hu ho hst hT hsz hk => ?_
    obtain ⟨hit', _⟩ := hst
    have hu2 : its[i]? = some u := by simpa using hu
    have hx : xs[i]? = some xs[i] := List.getElem?_eq_getElem hlt
    obtain ⟨u2, hu3, ru⟩ := rv.get hx
    have eu : u2 = u := Option.some.inj (hu3.symm.trans hu2)
    subst eu
    refine ⟨_, rfl, wpAny_letOwnedTupleGo_enum (s := { s with heap := h', toks := tk + 1 }) ho fun h'' he' sb => ?_⟩
    have hT2 : h''.get? s.heap.objs.size = some { cls := .type "tuple", data := .seq #[.int (k + (i : Int)) tk, u2] } := (sb.2 _ (Nat.ne_of_gt hel)).trans hT
    have new : ObjOk X.prog X.w (upd H s.heap.objs.size (.tup [.int (k + (i : Nat)), xs[i]])) h'' s.heap.objs.size (.tup [.int (k + (i : Nat)), xs[i]]) :=
      ⟨by show 2 ≤ sizeLine; decide, [.int (k + (i : Int)) tk, u2], .cons ⟨_, rfl⟩ (.cons ru .nil), ⟨_, hT2, rfl, _, rfl⟩⟩
    have I1 : Inv X pins σ (upd H s.heap.objs.size (.tup [.int (k + (i : Nat)), xs[i]])) { s with heap := h'', toks := tk + 1 } :=
      I.turnedNew (ch := [e, it]) (fun b ob hb q => (sb.2 b (fun z => hb (by simp [z]))).trans (hk b ob (fun z => hb (by simp [z])) (fun z => hb (by simp [z])) q)) hf (Nat.le_refl _) new
    refine ⟨.ref s.heap.objs.size, _, I1, rfl, ⟨_, xs[i], rfl, I.hok.fresh (Nat.le_refl _), rfl, hx⟩, ⟨⟨u2, ?_⟩, hit'.at fun o q => (sb.2 it (Ne.symm hne)).trans q, hne, hai, hea, hlt⟩, fun b hb => ?_⟩
    · have e1 : k + ((i + 1 : Nat) : Int) = k + (i : Int) + 1 := by omega
      rw [e1]; exact he'
    · have hb' : b < s.heap.objs.size := by
        have e' : b = e ∨ b = it := by simpa using hb
        rcases e' with z | z
        · rw [z]; exact hel
        · rw [z]; exact hil
      rw [upd_ne (Nat.ne_of_lt hb')]
      exact (hf b hb).1
  done := by
    intro X hP hw hK hc i pins s σ H E I hf st hg
    subst hP hw hK
    obtain ⟨⟨old, he⟩, hit, hne, hai, hea, hle⟩ := st
    obtain ⟨hge, hq⟩ := hg
    obtain ⟨its, rv, p, hz⟩ := I.list hq
    obtain ⟨f0, f1, f2, f3, f4, f5⟩ := hf it (by simp)
    have hl := rv.length
    have hh : X.A.in1.handled = none := I.ok.hd hc
    have D := Draws.list (prog := X.prog) (w := X.w) hh it a hai its.toArray
    have ei : i = its.toArray.size := by simp; omega
    subst ei
    exact wpAny_pyNext_enum_endD D he ⟨hit, p.isList⟩ fun h' eb => ⟨rfl, I.turned (t' := s.toks) (fun b o hb q => eb b o hb q) f0 f1 f3 f4 f5⟩
  self := fun A i s Q E st h => let ⟨⟨_, he⟩, _⟩ := st; wpAny_pyIter_enum he h
def iEnumK (K : PySem.W.Frag) (ta tk : TA) : TI := fun σ H R => ta σ H fun vs H1 => tk σ H1 fun zs H2 => ∃ a xs k, vs = [.ref a] ∧ zs = [.int k] ∧ 0 ≤ k ∧ k ≤ 1000 ∧ SqL K H2 a xs ∧ R (Iek K a xs k) H2
theorem pi_enumK {X : Cx} {e ke : Expr} {ta tk : TA} {p pos tpos kp : Pos} {elts : List Expr} {kk : Nat} (hg : Gl X "enumerate") (hm : X.mg "enumerate" = none) (ha : PA X [e] ta) (hk : PK X [⟨some "start", ke, kp⟩] tk)
    (he : backTo pos (starEach [e] X.env) = (false, eval e X.env) :: backTo pos (starEach [] X.env) := by rfl) (hpl : (backTo pos (starEach [e] X.env)).any (·.1) = false := by rfl) :
    PI X (.Tuple elts kk tpos) (.Call (.Name "enumerate" p) [e] [⟨some "start", ke, kp⟩] pos) (iEnumK X.K ta tk) := by
  refine ⟨fun pins s σ H R I h => ?_⟩
  refine wpAny_Call_Name_kw (ld_blt I hg hm boot_enumerate ?_)
  refine callWith_typeK (thn (ha.run pos pins s σ H _ I h) fun us s1 ⟨vs, H1, I1, r1, q1⟩ => thn (hk.run pos pins s1 σ H1 _ I1 q1) fun ws s2 ⟨zs, H2, I2, r2, q2⟩ => ?_) he hpl rfl rfl
  obtain ⟨a, xs, k, ex, ez, k0, k1, hq, q⟩ := q2
  subst ex
  subst ez
  cases r1 with
  | cons r rr =>
    cases rr
    cases r
    cases r2 with
    | cons r rr =>
      cases rr
      obtain ⟨t, rfl⟩ := r
      obtain ⟨its, rv, p', hz⟩ := I2.list hq
      have hal : a < s2.heap.objs.size := p'.lt
      refine enum_begins_start (begins_list a its.toArray) p'.isList (by omega) (by omega) fun h' he hit hsz hkk => wpAny_pyIter_enum he ?_
      have I3 : Inv X pins σ H2 { s2 with heap := h' } := I2.kept (t' := s2.toks) hkk
      refine ⟨s2.heap.objs.size + 1, [s2.heap.objs.size + 1, s2.heap.objs.size], _, _, H2, rfl, I3, turn_enumK a (s2.heap.objs.size + 1) s2.heap.objs.size xs k, ⟨⟨.none, by simpa using he⟩, ⟨_, hit, rfl, rfl⟩, Nat.succ_ne_self _, Nat.ne_of_lt hal, Nat.ne_of_gt (Nat.lt_succ_of_lt hal), Nat.zero_le _⟩, fun b hb => ?_, q⟩
      have e' : b = s2.heap.objs.size + 1 ∨ b = s2.heap.objs.size := by simpa using hb
      have hle : s2.heap.objs.size ≤ b := by
        rcases e' with z | z
        · rw [z]; exact Nat.le_add_right _ _
        · rw [z]; exact Nat.le_refl _
      exact I2.fpOk hle (I2.hok.fresh hle)
/-! ### zip of a list and a tuple -/
def Izm (K : PySem.W.Frag) (a b : Addr) (xs ys : List V) : It :=
  ⟨fun i H => i < xs.length ∧ i < ys.length ∧ SqL K H a xs ∧ SqT K H b ys, fun i H v H' => ∃ T x y, v = .ref T ∧ H T = none ∧ H' = upd H T (.tup [x, y]) ∧ xs[i]? = some x ∧ ys[i]? = some y,
    fun i H => (i = xs.length ∨ i = ys.length) ∧ SqL K H a xs ∧ SqT K H b ys⟩
theorem turn_zipM {P : Program} {w : World} {K : PySem.W.Frag} {elts : List Expr} {kk : Nat} {tpos : Pos} {a b z TI TO i1 i2 : Addr} (D : ZipApart z TI TO i1 i2 a b) (xs ys : List V) :
    Turn P w K (.Tuple elts kk tpos) (Izm K a b xs ys) [z, TI, TO, i1, i2] z (fun i h => IsZip h z TI TO .none ∧ IsPair h TI (.ref i1) (.ref i2) ∧ (∃ x y, IsPair h TO x y) ∧ h.IsListIter i1 a i ∧ h.IsTupleIter i2 b i ∧ i ≤ xs.length ∧ i ≤ ys.length ∧ a ≠ i1 ∧ b ≠ i2) where
  mem := by simp
  obj := fun i h st c hc => by
    obtain ⟨hz, hTI, ⟨x, y, hTO⟩, ⟨o1, e1, _, d1⟩, ⟨o2, e2, _, d2⟩, _⟩ := st
    have e' : c = z ∨ c = TI ∨ c = TO ∨ c = i1 ∨ c = i2 := by simpa using hc
    rcases e' with q | q | q | q | q
    · rw [q]; exact ⟨_, hz, fun v q => nomatch q⟩
    · rw [q]; exact ⟨_, hTI, fun v q => nomatch q⟩
    · rw [q]; exact ⟨_, hTO, fun v q => nomatch q⟩
    · rw [q]; exact ⟨o1, e1, fun v q => by rw [d1] at q; cases q⟩
    · rw [q]; exact ⟨o2, e2, fun v q => by rw [d2] at q; cases q⟩
  keep := fun i h h' st k => by
    obtain ⟨hz, hTI, ⟨x, y, hTO⟩, h1, h2, hr⟩ := st
    exact ⟨k z (by simp) _ hz, k TI (by simp) _ hTI, ⟨x, y, k TO (by simp) _ hTO⟩, h1.at fun o q => k i1 (by simp) o q, h2.at fun o q => k i2 (by simp) o q, hr⟩
  item := by
    intro X hP hw hK hc i pins s σ H E I hf st hg
    subst hP hw hK
    obtain ⟨hz, hTI, ⟨x0, y0, hTO⟩, h1, h2, l1, l2, n1, n2⟩ := st
    obtain ⟨hlx, hly, hqx, hqy⟩ := hg
    obtain ⟨its, rv, p, _⟩ := I.list hqx
    obtain ⟨its2, rv2, p2, _⟩ := I.tuple hqy
    have e1 := rv.length
    have e2 := rv2.length
    have hx : xs[i]? = some xs[i] := List.getElem?_eq_getElem hlx
    have hy : ys[i]? = some ys[i] := List.getElem?_eq_getElem hly
    obtain ⟨u, hu, ru⟩ := rv.get hx
    obtain ⟨u2, hu2, ru2⟩ := rv2.get hy
    have hzl : z < s.heap.objs.size := Heap.lt_size hz
    have hh : X.A.in1.handled = none := I.ok.hd hc
    have D1 := Draws.list (prog := X.prog) (w := X.w) hh i1 a n1 its.toArray
    have D2 := Draws.tuple (prog := X.prog) (w := X.w) hh i2 b n2 its2.toArray
    have S : ZipSep2 z TI TO i1 i2 [i1, a] [i2, b] := ⟨D.TIz, D.TOz, D.TITO, D.TIi1, by simp, by simp; exact ⟨D.i1z.symm, D.l1z.symm⟩, by simp; exact ⟨D.TOi1, D.l1TO.symm⟩, D.TIi2, by simp, by simp; exact ⟨D.i2z.symm, D.l2z.symm⟩, by simp; exact ⟨D.TOi2, D.l2TO.symm⟩, by simp; exact ⟨D.i12, D.l2i1.symm⟩, by simp; exact ⟨D.i12.symm, D.l1i2.symm⟩⟩
    refine wpAny_pyNext_zipD2_item S D1 D2 hz hTI hTO ⟨h1, p.isList⟩ ⟨h2, p2⟩ (by simp; omega) (by simp; omega) fun x1 x2 h' tk y1 y2 z' TO' st1 st2 hT hsz hk => ?_
    obtain ⟨h1', _⟩ := st1
    obtain ⟨h2', _⟩ := st2
    have hu' : its[i]? = some x1 := by simpa using y1
    have hu2' : its2[i]? = some x2 := by simpa using y2
    have eu : u = x1 := Option.some.inj (hu.symm.trans hu')
    have eu2 : u2 = x2 := Option.some.inj (hu2.symm.trans hu2')
    subst eu
    subst eu2
    refine ⟨_, rfl, wpAny_letOwnedTupleGo_zip (s := { s with heap := h', toks := tk }) z' fun h'' z'' sb => ?_⟩
    have hT2 : h''.get? s.heap.objs.size = some { cls := .type "tuple", data := .seq #[u, u2] } := (sb.2 _ (Nat.ne_of_gt hzl)).trans hT
    have new : ObjOk X.prog X.w (upd H s.heap.objs.size (.tup [xs[i], ys[i]])) h'' s.heap.objs.size (.tup [xs[i], ys[i]]) :=
      ⟨by show 2 ≤ sizeLine; decide, [u, u2], .cons ru (.cons ru2 .nil), ⟨_, hT2, rfl, _, rfl⟩⟩
    have I1 : Inv X pins σ (upd H s.heap.objs.size (.tup [xs[i], ys[i]])) { s with heap := h'', toks := tk } :=
      I.turnedNew (t' := tk) (ch := [z, TI, TO, i1, i2]) (fun c o hb q => (sb.2 c (fun q' => hb (by simp [q']))).trans (hk c o (fun q' => hb (by simp [q'])) (fun q' => hb (by simp [q'])) (fun q' => hb (by simp [q'])) (fun q' => hb (by simp [q'])) q)) hf (Nat.le_refl _) new
    refine ⟨.ref s.heap.objs.size, _, I1, rfl, ⟨_, xs[i], ys[i], rfl, I.hok.fresh (Nat.le_refl _), rfl, hx, hy⟩, ⟨z'', ?_, ⟨u, u2, ?_⟩, ?_, ?_, hlx, hly, n1, n2⟩, fun c hcm => ?_⟩
    · exact (sb.2 _ D.TIz).trans (hk _ _ D.TIz D.TITO D.TIi1 D.TIi2 hTI)
    · exact (sb.2 _ D.TOz).trans TO'
    · exact h1'.at fun o q => (sb.2 _ D.i1z).trans q
    · exact h2'.at fun o q => (sb.2 _ D.i2z).trans q
    · have hlt : c < s.heap.objs.size := by
        have e' : c = z ∨ c = TI ∨ c = TO ∨ c = i1 ∨ c = i2 := by simpa using hcm
        rcases e' with q | q | q | q | q
        · rw [q]; exact hzl
        · rw [q]; exact Heap.lt_size hTI
        · rw [q]; exact Heap.lt_size hTO
        · rw [q]; obtain ⟨_, e1, _⟩ := h1; exact Heap.lt_size e1
        · rw [q]; obtain ⟨_, e2, _⟩ := h2; exact Heap.lt_size e2
      rw [upd_ne (Nat.ne_of_lt hlt)]
      exact (hf c hcm).1
  done := by
    intro X hP hw hK hc i pins s σ H E I hf st hg
    subst hP hw hK
    obtain ⟨hz, hTI, ⟨x0, y0, hTO⟩, h1, h2, l1, l2, n1, n2⟩ := st
    obtain ⟨hend, hqx, hqy⟩ := hg
    obtain ⟨its, rv, p, _⟩ := I.list hqx
    obtain ⟨its2, rv2, p2, _⟩ := I.tuple hqy
    have e1 := rv.length
    have e2 := rv2.length
    have hh : X.A.in1.handled = none := I.ok.hd hc
    have D1 := Draws.list (prog := X.prog) (w := X.w) hh i1 a n1 its.toArray
    have D2 := Draws.tuple (prog := X.prog) (w := X.w) hh i2 b n2 its2.toArray
    have S : ZipSep2 z TI TO i1 i2 [i1, a] [i2, b] := ⟨D.TIz, D.TOz, D.TITO, D.TIi1, by simp, by simp; exact ⟨D.i1z.symm, D.l1z.symm⟩, by simp; exact ⟨D.TOi1, D.l1TO.symm⟩, D.TIi2, by simp, by simp; exact ⟨D.i2z.symm, D.l2z.symm⟩, by simp; exact ⟨D.TOi2, D.l2TO.symm⟩, by simp; exact ⟨D.i12, D.l2i1.symm⟩, by simp; exact ⟨D.i12.symm, D.l1i2.symm⟩⟩
    exact wpAny_pyNext_zipD2_end S D1 D2 hz hTI hTO ⟨h1, p.isList⟩ ⟨h2, p2⟩ (by simp; omega) (by simp; omega) (by simp; omega) fun h' tk hk => ⟨rfl, I.turnedL (t' := tk) (ch := [z, TI, TO, i1, i2]) (fun c o hb q =>
      hk c o (fun q' => hb (by simp [q'])) (fun q' => hb (by simp [q'])) (fun q' => hb (by simp [q'])) (fun q' => hb (by simp [q'])) q) hf⟩
  self := fun A i s Q E st h => wpAny_pyIter_zip st.1 h
def iZipM (K : PySem.W.Frag) (ta : TA) : TI := fun σ H R => ta σ H fun vs H1 => ∃ a b xs ys, vs = [.ref a, .ref b] ∧ SqL K H1 a xs ∧ SqT K H1 b ys ∧ R (Izm K a b xs ys) H1
theorem pi_zipM {X : Cx} {e e2 : Expr} {ta : TA} {p pos tpos : Pos} {elts : List Expr} {kk : Nat} (hg : Gl X "zip") (hm : X.mg "zip" = none) (ha : PA X [e, e2] ta)
    (hs : starEach [e, e2] X.env = (false, eval e X.env) :: starEach [e2] X.env := by rfl) (hpl : (backTo pos (starEach [e2] X.env)).any (·.1) = false := by rfl) :
    PI X (.Tuple elts kk tpos) (.Call (.Name "zip" p) [e, e2] [] pos) (iZipM X.K ta) := by
  refine ⟨fun pins s σ H R I h => ?_⟩
  refine Call_ (ld_blt I hg hm PyProof.Rows.boot_zip (PyProof.Rows.callWith_type1 (thn (ha.run pos pins s σ H _ I h) fun us s1 ⟨vs, H1, I1, r1, q1⟩ => ?_) hs hpl))
  obtain ⟨a, b, xs, ys, ex, hqx, hqy, q⟩ := q1
  subst ex
  cases r1 with
  | cons r rr =>
    cases rr with
    | cons r' rr =>
      cases rr
      cases r
      cases r'
      have fresh5 : ∀ c, c ∈ [s1.heap.objs.size + 4, s1.heap.objs.size + 2, s1.heap.objs.size + 3, s1.heap.objs.size, s1.heap.objs.size + 1] → FpOk X pins H1 c := fun c hcm => by
        have e' : c = s1.heap.objs.size + 4 ∨ c = s1.heap.objs.size + 2 ∨ c = s1.heap.objs.size + 3 ∨ c = s1.heap.objs.size ∨ c = s1.heap.objs.size + 1 := by simpa using hcm
        have hle : s1.heap.objs.size ≤ c := by
          rcases e' with z | z | z | z | z
          · rw [z]; exact Nat.le_add_right _ _
          · rw [z]; exact Nat.le_add_right _ _
          · rw [z]; exact Nat.le_add_right _ _
          · rw [z]; exact Nat.le_refl _
          · rw [z]; exact Nat.le_add_right _ _
        exact I1.fpOk hle (I1.hok.fresh hle)
      obtain ⟨its, rv, p1, _⟩ := I1.list hqx
      obtain ⟨its2, rv2, p2, _⟩ := I1.tuple hqy
      obtain ⟨o2, ho2, _⟩ := id p2
      have al := p1.lt
      have bl := Heap.lt_size ho2
      refine zip_begins2 (begins_list a its.toArray) (begins_tuple b its2.toArray) p1.isList p2 fun h' hz hTI hTO h1 h2 hsz hk => wpAny_pyIter_zip hz ?_
      have I2 : Inv X pins σ H1 { s1 with heap := h' } := I1.kept (t' := s1.toks) hk
      exact ⟨s1.heap.objs.size + 4, [s1.heap.objs.size + 4, s1.heap.objs.size + 2, s1.heap.objs.size + 3, s1.heap.objs.size, s1.heap.objs.size + 1], _, _, H1, rfl, I2, turn_zipM (PySem.W.ktu_apart s1.heap.objs.size a b al bl) xs ys, ⟨hz, hTI, ⟨_, _, hTO⟩, ⟨_, h1, rfl, rfl⟩, ⟨_, h2, rfl, rfl⟩, Nat.zero_le _, Nat.zero_le _, Nat.ne_of_lt al, Nat.ne_of_lt (Nat.lt_succ_of_lt bl)⟩, fresh5, q⟩
end TCX
namespace TC
open PySem PySem.Spec PyProof.Rows L2 TCA TCX
theorem row_cons {H : Hp} {a : Addr} {rs : List Int} (h : Row H a rs) : ∃ r0 rest, rs = r0 :: rest := by
  match rs, h.ne with
  | r0 :: rest, _ => exact ⟨r0, rest, rfl⟩
theorem IntD.val {H : Hp} {p : Addr} {ks : List Int} {t : Int → Int} (h : IntD H p ks t) (u : Int) : pairI ks t (one u) = t u := by
  obtain ⟨n1, n2⟩ := IntD.nd h
  exact pair_one n1 n2
theorem row_inj {H : Hp} {a : Addr} {rs rs' : List Int} (h : Row H a rs) (h' : Row H a rs') : rs = rs' := by
  have e := h.at_.symm.trans h'.at_
  have e1 : rs.map V.int = rs'.map V.int := HO.lst.inj (Option.some.inj e)
  have inj : ∀ {l m : List Int}, l.map V.int = m.map V.int → l = m := by
    intro l
    induction l with
    | nil =>
      intro m e
      cases m with
      | nil => rfl
      | cons b m => cases e
    | cons a l ih =>
      intro m e
      cases m with
      | nil => cases e
      | cons b m =>
        simp only [List.map_cons, List.cons.injEq, V.int.injEq] at e
        rw [e.1, ih e.2]
  exact inj e1
/-- an own class over IndexError -/
structure ITxt (K : PySem.W.Frag) (mg : Str → Option Value) (x : Str) (C : Addr) : Prop where
  g : mg x = some (.ref C)
  e : PySem.W.excIn K C iBase "IndexError.__new__" = true
  k : PySem.W.keepIn K (.ref C) = true
  b : PySem.W.subIn K (.ref C) (.type "BaseException") = some true
  t : PySem.W.typeIn K (.ref C) = some (.type "type")
theorem walk_enumK {K : PySem.W.Frag} {a : Addr} {xs : List V} {k : Int} : Walk (Iek K a xs k) xs.length (fun H => SqL K H a xs) (fun i H v H' => ∃ T x, v = .ref T ∧ H T = none ∧ H' = upd H T (.tup [.int (k + (i : Nat)), x]) ∧ xs[i]? = some x) :=
  ⟨fun i _ hi q => ⟨hi, q⟩, fun _ q => ⟨Nat.le_refl _, q⟩, fun _ _ _ _ _ _ y => y⟩
theorem walk_zipM {K : PySem.W.Frag} {a b : Addr} {xs ys : List V} (e : xs.length = ys.length) : Walk (Izm K a b xs ys) xs.length (fun H => SqL K H a xs ∧ SqT K H b ys) (fun i H v H' => ∃ T x y, v = .ref T ∧ H T = none ∧ H' = upd H T (.tup [x, y]) ∧ xs[i]? = some x ∧ ys[i]? = some y) :=
  ⟨fun i _ hi q => ⟨hi, by omega, q.1, q.2⟩, fun _ q => ⟨.inl rfl, q.1, q.2⟩, fun _ _ _ _ _ _ y => y⟩
/-! ### the ways on, as they lie -/
def WayP (H : Hp) (d : Addr) (r : List Int) (n : Int) : Prop := ∃ ks t, IntD H d ks t ∧ (∀ u, 0 ≤ u → t u = rowT r (one n) u) ∧ ∀ u, 0 ≤ u → (u ∈ ks ↔ 0 < rowT r (one n) u)
theorem WayP.same {H H' : Hp} {d : Addr} {r : List Int} {n : Int} (h : WayP H d r n) (s : Same H H') : WayP H' d r n := by
  obtain ⟨ks, t, h1, h2⟩ := h
  exact ⟨ks, t, h1.same s, h2⟩
theorem WayP.isd {H : Hp} {d : Addr} {r : List Int} {n : Int} (h : WayP H d r n) : IsD H d := by
  obtain ⟨ks, t, ⟨kv, a1, _⟩, _⟩ := h
  exact .inl ⟨_, .inl a1⟩
theorem WayP.get {H : Hp} {d : Addr} {r : List Int} {n u : Int} (h : WayP H d r n) (hu : 0 ≤ u) : ∃ o, DGet H d (.int u) o ∧ o.getD (.int 0) = .int (rowT r (one n) u) ∧ o.isSome = decide (0 < rowT r (one n) u) := by
  obtain ⟨ks, t, hI, h2, h3⟩ := h
  obtain ⟨kvs, p1, p2, p3, p4, p5⟩ := id hI
  by_cases hk : u ∈ ks
  · refine ⟨_, dget_in p1 (p3 _ hk), ?_, ?_⟩
    · rw [← h2 u hu]
      rfl
    · rw [decide_eq_true ((h3 u hu).mp hk)]
      rfl
  · refine ⟨none, dget_out p1 (valV_out p2 hk), ?_, ?_⟩
    · rw [← h2 u hu, p5 _ hk]
      rfl
    · rw [decide_eq_false fun z => hk ((h3 u hu).mpr z)]
      rfl
def WaysP (H : Hp) (W : Addr) (rs : List Int) (n : Int) : Prop := ∃ ds : List Addr, H W = some (.lst (ds.map V.ref)) ∧ ds.length = rs.length ∧ ∀ (i : Nat) (d : Addr), ds[i]? = some d → WayP H d (rs.drop (i + 1)) n
theorem WaysP.same {H H' : Hp} {W : Addr} {rs : List Int} {n : Int} (h : WaysP H W rs n) (s : Same H H') : WaysP H' W rs n := by
  obtain ⟨ds, h1, h2, h3⟩ := h
  exact ⟨ds, s _ _ h1, h2, fun i d hi => (h3 i d hi).same s⟩
theorem WaysP.upd {H : Hp} {W L : Addr} {rs : List Int} {n : Int} {xs : List V} {o : HO} (h : WaysP H W rs n) (hne : W ≠ L) (hL : H L = some (.lst xs)) : WaysP (L2.upd H L o) W rs n := by
  obtain ⟨ds, h1, h2, h3⟩ := h
  refine ⟨ds, by rw [upd_ne hne]; exact h1, h2, fun i d hi => ?_⟩
  obtain ⟨ks, t, g1, g2⟩ := h3 i d hi
  exact ⟨ks, t, g1.upd (IntD.ne g1 hL), g2⟩
theorem WaysP.at {H : Hp} {W : Addr} {rs : List Int} {n : Int} (h : WaysP H W rs n) (i : Nat) (hi : i < rs.length) : ∃ xs d, H W = some (.lst xs) ∧ atI xs (i : Int) = some (.ref d) ∧ WayP H d (rs.drop (i + 1)) n := by
  obtain ⟨ds, h1, h2, h3⟩ := h
  obtain ⟨d, hd⟩ : ∃ d, ds[i]? = some d := ⟨_, List.getElem?_eq_getElem (by omega)⟩
  refine ⟨_, d, h1, atI_nat ?_, h3 i d hd⟩
  rw [List.getElem?_map, hd]
  rfl
/-- the reading of a dict's pairing from the other end -/
theorem back_val {rs : List Int} {n u : Int} {k : Nat} (hs : ∀ s ∈ rs, 0 ≤ s) (n0 : 0 ≤ n) (u0 : 0 ≤ u) (hk : k + 1 ≤ rs.length) : rowT ((back rs).take (rs.length - 1 - k)) (one u) n = rowT (rs.drop (k + 1)) (one n) u := by
  have e : rs.drop (k + 1) = ((back rs).take (rs.length - 1 - k)).reverse := by
    unfold back
    rw [List.take_reverse, List.reverse_reverse, List.drop_drop, List.length_drop]
    congr 1
    omega
  rw [e]
  refine rowT_back (fun s h => hs s ?_) n0 u0
  exact List.mem_of_mem_drop (List.mem_reverse.mp (List.mem_of_mem_take h))
theorem ways_told {H : Hp} {W : Addr} {ds : List Addr} {rs : List Int} {n : Int} (hs : ∀ s ∈ rs, 0 ≤ s) (n0 : 0 ≤ n) (hW : H W = some (.lst (ds.map V.ref).reverse)) (hl : ds.length = rs.length)
    (hI : ∀ (i : Nat) (d : Addr), ds[i]? = some d → IntQ H d 0 1000 fun g => rowT ((back rs).take i) g n) : WaysP H W rs n := by
  refine ⟨ds.reverse, by rw [hW, List.map_reverse], by rw [List.length_reverse, hl], fun i d hi => ?_⟩
  have hil : i < ds.length := by
    have := (List.getElem?_eq_some_iff.mp hi).1
    rw [List.length_reverse] at this
    exact this
  rw [List.getElem?_reverse hil] at hi
  obtain ⟨ks, t, hID, hp, hk⟩ := hI _ d hi
  have val : ∀ u, 0 ≤ u → t u = rowT (rs.drop (i + 1)) (one n) u := fun u u0 => by
    rw [← IntD.val hID u, hp, hl]
    exact back_val hs n0 u0 (by omega)
  refine ⟨ks, t, hID, val, fun u u0 => ⟨fun m => ?_, fun z => ?_⟩⟩
  · rw [← val u u0]
    exact (hk u m).2
  · refine Classical.byContradiction fun m => ?_
    rw [← val u u0, (IntD.nd hID).2 u m] at z
    exact absurd z (by decide)
theorem drop_at {rs : List Int} {j : Nat} {s : Int} (h : rs[j]? = some s) : rs.drop j = s :: rs.drop (j + 1) := by
  obtain ⟨hl, e⟩ := List.getElem?_eq_some_iff.mp h
  rw [← e]
  exact List.drop_eq_getElem_cons hl
section
variable {P : Program} {w : World} {K : PySem.W.Frag} {mg : Str → Option Value} {base : Heap} {f : Addr} {fd : FuncData} {CR CS CP : Addr}
theorem iteNF {c A B : Prop} [Decidable c] (hc : c) (h : B) : if (!decide c) = true then A else B := by
  rw [decide_eq_true hc]
  exact h
/-! ### label_at -/
def spLabelAt (K : PySem.W.Frag) (CR CS CP : Addr) : Sp := fun vs H Q E => ∃ (r p t : V) (b1 b2 : Bool), vs = [r, p, t] ∧ RowV K H r b1 ∧ Sml K 120 H t b2 ∧ (b1 = false → E (.ref CR) none H) ∧ (b1 = true → b2 = false → E (.ref CS) none H) ∧
  (b1 = true → b2 = true → ∀ (a : Addr) (r0 : Int) (rest : List Int) (n : Int), r = .ref a → Row H a (r0 :: rest) → t = .int n → ((∃ m, p = .int m) ∨ (NotInt K H p ∧ ∀ m, p ≠ .int m)) ∧
    (∀ H', Same H H' → (∀ m, p = .int m → ¬ (0 ≤ m ∧ m < rowT rest (one n) r0)) → E (.ref CP) none H') ∧
    ∀ m, p = .int m → 0 ≤ m → m < rowT rest (one n) r0 → ∀ (l : List Int) (T : Addr) H', Same H H' → H' T = some (.tup (l.map V.int)) → labB rest r0 l n → rankL rest r0 l n = m → Q (.ref T) H')
abbrev nLabelAt : List Str := ["row", "place", "to", "ways", "label", "far", "at", "size", "end", "count"]
theorem scLabelAt : FnScope nLabelAt ["row", "place", "to"] (defScope sLabelAt) := ⟨rfl, rfl, rfl, by decide +kernel, rfl, by decide +kernel, by decide +kernel⟩
theorem ok_labelAt {fN fY fW fE : Addr} {fdN fdY fdW fdE : FuncData} (F : FnP K "label_at" sLabelAt f fd) (GN0 : FnOk P w K mg base (L2.CX P w) 2 fN fdN ["row", "to"] (spNeedRow K CR CS)) (bN : L2.Binds K fdN ["row", "to"] []) (kN : PySem.W.keepIn K (.ref fN) = true) (gN : mg "need_row" = some (.ref fN))
    (GY : FnOk P w K mg base CX0 2 fY fdY ["row", "to"] spWays) (bY : L2.Binds K fdY ["row", "to"] []) (kY : PySem.W.keepIn K (.ref fY) = true) (gY : mg "ways_to" = some (.ref fY))
    (GW : FnOk P w K mg base CX0 1 fW fdW ["thing"] (spWhole K)) (bW : L2.Binds K fdW ["thing"] []) (kW : PySem.W.keepIn K (.ref fW) = true) (gW : mg "is_whole" = some (.ref fW))
    (GE : FnOk P w K mg base CX0 1 fE fdE ["one", "other"] spEnds) (bE : L2.Binds K fdE ["one", "other"] []) (kE : PySem.W.keepIn K (.ref fE) = true) (gE : mg "ends_of" = some (.ref fE))
    (XP : ITxt K mg "NoPlace" CP) (genum : mg "enumerate" = none) (gtuple : mg "tuple" = none) :
    FnOk P w K mg base (L2.CX P w) 3 f fd ["row", "place", "to"] (spLabelAt K CR CS CP) := by
  refine F.ok scLabelAt (fun vs H Q E h => ?_) (fun cdv A outer s H vs Q E hr h => ?_)
  · obtain ⟨_, _, _, _, _, rfl, _⟩ := h
    rfl
  · obtain ⟨r, p, t, b1, b2, rfl, hrow, ht, q1, q2, q3⟩ := h
    have hu := hu_of hr
    have GN := boxed GN0
    have hr1 := hr.mono (show 1 ≤ 2 by decide)
    refine ⟨_, pss_cons (ps_expr (pe_call GN hr (by rfl) gN kN bN .nil (passes_call (takes_of rfl rfl rfl rfl) fun _ _ _ _ z => z) (pa_cons (pv 0) (pa_cons (pv 2) pa_nil))))
      (pss_cons (ps_set (i := 3) scLabelAt.nd rfl (.inl rfl) (pe_call GY hr (by rfl) gY kY bY .nil pass0 (pa_cons (pv 0) (pa_cons (pv 2) pa_nil))))
      (pss_cons (ps_if (PW.pt (pw_or (pt_not (pt_val (pe_call GW hr1 (by rfl) gW kW bW .nil pass0 (pa_cons (pv 1) pa_nil)))) (pw_or1 (pt_not (pt_chain op_le op_lt pe_int (pv 1) (pe_dget2 hu (pe_ix ix_list (pv 3) pe_int (fun _ _ => rfl)) (pe_ix ix_list (pv 0) pe_int (fun _ _ => rfl)) pe_int ⟨rfl, rfl, rfl, rfl⟩)))))) (pss_one (ps_raise rfl (takes_of rfl rfl rfl rfl) (pmk_own PySem.F.excBase_IndexError XP.e XP.g XP.k (raises_own XP.b XP.t) rfl))) pss_nil)
      (pss_cons (ps_par (i := 4) (j := 5) (by rfl) scLabelAt.nd rfl rfl (by decide) rfl rfl (pa_cons (pe_lst pa_nil) (pa_cons (pe_ix ix_list (pv 0) pe_int (fun _ _ => rfl)) pa_nil)) (by rfl))
      (pss_cons (ps_for (passes_of rfl) rfl (pi_enumK (by rfl) genum (pa_cons (pe_slice sl_list (pv 0) (po_some pe_int) po_none) pa_nil) (pk_cons pe_int pk_nil)) (pg_tup rfl (pgs_cons (pg_name (i := 6) scLabelAt.nd rfl (.inl rfl)) (pgs_cons (pg_name (i := 7) scLabelAt.nd rfl (.inl rfl)) pgs_nil)))
        (C8.pss_cut (ps_for (passes_of rfl) rfl (pi_list (pe_call GE hr1 (by rfl) gE kE bE .nil pass0 (pa_cons (pv 5) (pa_cons (pv 7) pa_nil)))) (pg_name (i := 8) scLabelAt.nd rfl (.inl rfl))
          (pss_cons (ps_set (i := 9) scLabelAt.nd rfl (.inl rfl) (pe_dget2 hu (pe_ix ix_list (pv 3) (pv 6) (fun _ _ => rfl)) (pv 8) pe_int ⟨rfl, rfl, rfl, rfl⟩))
          (pss_cons (ps_if (pt_cmpR op_lt (pv 1) (pv 9) (nomark _)) (pss_one ps_break) pss_nil)
          (pss_one (ps_aug (i := 1) scLabelAt.nd rfl (.inl rfl) (pv 9) ip_sub)))))
        (pss_cons (ps_set (i := 5) scLabelAt.nd rfl (.inl rfl) (pv 8))
        (pss_one (ps_expr (pe_bm PySem.F.plainAttrs_list PySem.F.slot_list_append PySem.F.type_list_append mt_append (pv 4) (pa_cons (pv 5) pa_nil)))))))
      (pss_one (ps_ret (pe_callTy call_tuple_of (by rfl) gtuple (by decide +kernel) (pa_cons (pv 4) pa_nil)))))))), ?_⟩
    refine ⟨_, rfl, _, rfl, ⟨r, t, b1, b2, rfl, hrow, ht, q1, q2, fun e1 e2 => ?_⟩⟩
    subst e1 e2
    obtain ⟨a, rs, rfl, hR⟩ := hrow.yes
    obtain ⟨n, rfl, n0, n1⟩ := ht.yes
    obtain ⟨r0, rest, rfl⟩ := row_cons hR
    obtain ⟨hp, qE, qQ⟩ := q3 rfl rfl a r0 rest n rfl hR rfl
    clear q1 q2 q3 hrow ht
    have hsz : ∀ s ∈ rest, 0 ≤ s ∧ s ≤ 12 := fun s hs => hR.sz s (List.mem_cons_of_mem _ hs)
    have hs0 : ∀ s ∈ r0 :: rest, 0 ≤ s := fun s hs => (hR.sz s hs).1
    have r01 := hR.sz r0 (by simp)
    refine ⟨_, rfl, _, rfl, a, r0 :: rest, n, rfl, hR, n0, n1, fun W ds H1 s1 hW0 hl hI => ?_⟩
    have hW : WaysP H1 W (r0 :: rest) n := ways_told hs0 n0 hW0 hl hI
    clear hW0 hl hI ds
    obtain ⟨xs0, d0, hx0, ha0, hd0⟩ := hW.at 0 (by simp)
    have bad : (∀ m, p = .int m → ¬ (0 ≤ m ∧ m < rowT rest (one n) r0)) → E (.ref CP) none H1 := qE H1 s1
    rcases hp with ⟨m, rfl⟩ | ⟨hn, hn2⟩
    rotate_left
    · exact ⟨_, rfl, .inr ⟨p, rfl, hn.same s1, false, rfl, iteT (iteT (bad fun m e => absurd e (hn2 m)))⟩⟩
    refine ⟨_, rfl, .inl ⟨m, rfl, true, rfl, iteF ?_⟩⟩
    refine ⟨_, rfl, 0, m, rfl, rfl, _, rfl, iteB (fun y1 => ?_) fun y1 => ?_⟩
    rotate_left
    · exact ⟨_, rfl, iteT (bad fun m' e => by cases e; have := of_decide_eq_false y1; omega)⟩
    have m0 : 0 ≤ m := of_decide_eq_true y1
    obtain ⟨o, dg, eo, _⟩ := hd0.get (u := r0) r01.1
    refine ⟨_, rfl, W, _, 0, _, rfl, rfl, SqL.of hx0, ha0, d0, rfl, hd0.isd, _, rfl, a, _, 0, .int r0, rfl, rfl, SqL.of (s1 _ _ hR.at_), atI_nat (j := 0) rfl, o, dg, ?_⟩
    rw [eo]
    refine ⟨m, _, rfl, rfl, _, rfl, ?_⟩
    by_cases z2 : m < rowT rest (one n) r0
    rotate_left
    · refine iteNT z2 (bad fun m' e => ?_)
      cases e
      exact fun z => z2 z.2
    refine iteNF z2 ?_
    refine ⟨by show 0 ≤ sizeLine; decide, fun L hL => ?_⟩
    have s2 := same_upd (o := .lst []) hL
    have WL : W ≠ L := ne_of_none hx0 hL
    have hW2 := hW.same s2
    have aL : a ≠ L := ne_of_none (s1 _ _ hR.at_) hL
    refine ⟨_, rfl, a, _, 0, .int r0, rfl, rfl, SqL.of ((s1.trans s2) _ _ hR.at_), atI_nat (j := 0) rfl, ?_⟩
    refine ⟨_, _, rfl, _, rfl, 1, rfl, a, _, rfl, SqL.of ((s1.trans s2) _ _ hR.at_), fun sl hsl => ?_⟩
    have ecut : cutV ((r0 :: rest).map V.int) (some 1) none = rest.map V.int := cut_drop (xs := (r0 :: rest).map V.int) (k := 1)
    rw [ecut]
    have s3 := same_upd (o := .lst (rest.map V.int)) hsl
    refine ⟨sl, _, 1, rfl, rfl, by decide, by decide, SqL.of upd_same, ?_⟩
    have l10 : rest.length + 1 ≤ 10 := hR.le
    have slL : sl ≠ L := fun e => by
      rw [e, upd_same] at hsl
      cases hsl
    refine for_it (walk_enumK (K := K) (a := sl) (xs := rest.map V.int) (k := 1)) (fun j σ H' => ∃ (x pl : Int) (l : List Int) (v6 v7 v8 v9 : Option V), σ = [some (.ref a), some (.int pl), some (.int n), some (.ref W), some (.ref L), some (.int x), v6, v7, v8, v9] ∧ Same H H' ∧ H' L = some (.lst (l.map V.int)) ∧ H' sl = some (.lst (rest.map V.int)) ∧ WaysP H' W (r0 :: rest) n ∧ H L = none ∧
        0 ≤ x ∧ x ≤ 12 + 12 * (j : Int) ∧ l.length = j ∧ 0 ≤ pl ∧ pl < rowT (rest.drop j) (one n) x ∧ ∀ l2, labB (rest.drop j) x l2 n → rankL (rest.drop j) x l2 n = pl → labB rest r0 (l ++ l2) n ∧ rankL rest r0 (l ++ l2) n = m)
      ⟨r0, m, [], none, none, none, none, rfl, (s1.trans s2).trans s3, s3 _ _ upd_same, upd_same, hW2.same s3, s1.free hL, r01.1, by omega, rfl, m0, z2, fun l2 h1 h2 => ⟨h1, h2⟩⟩ (fun j σ H' _ hP => ?_) (fun j v σ H' H'' hj hP hy => ?_) (fun σ H' hP => ?_)
    · obtain ⟨_, _, _, _, _, _, _, _, _, _, z, _⟩ := hP
      exact SqL.of z
    rotate_left
    · obtain ⟨x, pl, l, v6, v7, v8, v9, rfl, sm, hLl, hsl', hW', hLn, x0, x1, hl, p0, p1, hall⟩ := hP
      rw [List.length_map, List.drop_length] at p1 hall
      have ex : x = n ∧ pl = 0 := by
        have p1' : pl < one n x := p1
        unfold one at p1'
        split at p1'
        · exact ⟨by assumption, by omega⟩
        · omega
      obtain ⟨rfl, rfl⟩ := ex
      obtain ⟨g1, g2⟩ := hall [] rfl rfl
      rw [List.append_nil] at g1 g2
      exact ⟨_, rfl, L, _, rfl, .inl ⟨SqL.of hLl, fun T hT => qQ m rfl m0 z2 l T _ (sm.trans (same_upd hT)) upd_same g1 g2⟩⟩
    obtain ⟨T, v, rfl, hT, rfl, hv⟩ := hy
    obtain ⟨x, pl, l, v6, v7, v8, v9, rfl, sm, hLl, hsl', hW', hLn, x0, x1, hl, p0, p1, hall⟩ := hP
    obtain ⟨sz, hj', rfl⟩ : ∃ sz : Int, rest[j]? = some sz ∧ v = .int sz := by
      rw [List.getElem?_map] at hv
      cases e : rest[j]? with
      | none =>
        rw [e] at hv
        cases hv
      | some z =>
        rw [e] at hv
        exact ⟨z, rfl, (Option.some.inj hv).symm⟩
    obtain ⟨z0, z1⟩ := hsz sz (List.mem_of_getElem? hj')
    have hjl : j < rest.length := (List.getElem?_eq_some_iff.mp hj').1
    rw [drop_at hj'] at p1 hall
    have sT := same_upd (o := .tup [.int (1 + (j : Nat)), .int sz]) hT
    refine ⟨T, _, rfl, SqT.of upd_same, rfl, _, _, rfl, _, _, rfl, rfl, ?_⟩
    have hL2 := sT _ _ hLl
    have hsl2 := sT _ _ hsl'
    have hWT := hW'.same sT
    have smT := sm.trans sT
    generalize upd H' T (.tup [.int (1 + (j : Nat)), .int sz]) = G at hL2 hsl2 hWT smT ⊢
    refine ⟨fun σ G' => ∃ (i : Nat) (v9 : Option V), i < manyE x sz ∧ σ = [some (.ref a), some (.int (pl - runS (rowT (rest.drop (j + 1)) (one n)) (loJ x sz) i)), some (.int n), some (.ref W), some (.ref L), some (.int x), some (.int (1 + (j : Nat))), some (.int sz), some (.int (loJ x sz + 2 * (i : Int))), v9] ∧
      Same G G' ∧ 0 ≤ pl - runS (rowT (rest.drop (j + 1)) (one n)) (loJ x sz) i ∧ pl - runS (rowT (rest.drop (j + 1)) (one n)) (loJ x sz) i < rowT (rest.drop (j + 1)) (one n) (loJ x sz + 2 * (i : Int)), ?_, fun σ G' hM => ?_⟩
    · refine ⟨_, rfl, _, rfl, x, sz, rfl, x0, by omega, z0, by omega, fun le hle => ?_⟩
      have s4 := same_upd (o := .lst (upV (loJ x sz) (manyE x sz))) hle
      obtain ⟨xsW, d, hxW, haW, hdW⟩ := hWT.at (1 + j) (by show 1 + j < rest.length + 1; omega)
      have ed : (r0 :: rest).drop (1 + j + 1) = rest.drop (j + 1) := by
        rw [show 1 + j + 1 = (j + 1) + 1 by omega]
        rfl
      rw [ed] at hdW
      have eat : ((1 + j : Nat) : Int) = 1 + (j : Int) := by omega
      rw [eat] at haW
      refine ⟨le, rfl, ⟨_, SqL.of upd_same⟩, for_list (K := K) (a := le) (xs := upV (loJ x sz) (manyE x sz)) (fun i σ G' => ∃ (v8 v9 : Option V), σ = [some (.ref a), some (.int (pl - runS (rowT (rest.drop (j + 1)) (one n)) (loJ x sz) i)), some (.int n), some (.ref W), some (.ref L), some (.int x), some (.int (1 + (j : Nat))), some (.int sz), v8, v9] ∧
        Same G G' ∧ G' le = some (.lst (upV (loJ x sz) (manyE x sz))) ∧ 0 ≤ pl - runS (rowT (rest.drop (j + 1)) (one n)) (loJ x sz) i)
        ⟨v8, v9, ?_, s4, upd_same, ?_⟩ (fun i σ G' _ hP => ?_) (fun i v σ G' hv hP => ?_) (fun σ G' hP => ?_)⟩
      · have e0 : pl - runS (rowT (rest.drop (j + 1)) (one n)) (loJ x sz) 0 = pl := Int.sub_zero pl
        rw [e0]
        rfl
      · show 0 ≤ pl - 0
        omega
      · obtain ⟨_, _, _, _, z, _⟩ := hP
        exact SqL.of z
      · obtain ⟨v8, v9, rfl, sG, hle', pn⟩ := hP
        obtain ⟨hi, rfl⟩ := up_at hv
        have l0 := loJ_nn x sz
        obtain ⟨o, dg, eo, _⟩ := (hdW.same sG).get (u := loJ x sz + 2 * (i : Int)) (by omega)
        refine ⟨_, rfl, _, rfl, W, _, _, _, rfl, rfl, SqL.of (sG _ _ hxW), haW, d, rfl, (hdW.same sG).isd, _, rfl, o, dg, ?_⟩
        rw [eo]
        refine ⟨_, rfl, _, rfl, _, _, rfl, rfl, _, rfl, iteB (fun y => ?_) fun y => ?_⟩
        · exact ⟨i, _, hi, rfl, sG, pn, of_decide_eq_true y⟩
        · have y' := of_decide_eq_false y
          refine ⟨_, rfl, _, rfl, _, _, rfl, rfl, ⟨some (.int (loJ x sz + 2 * (i : Int))), some (.int (rowT (rest.drop (j + 1)) (one n) (loJ x sz + 2 * (i : Int)))), ?_, sG, hle', ?_⟩⟩
          · rw [runS_succ]
            have ee : pl - runS (rowT (rest.drop (j + 1)) (one n)) (loJ x sz) i - rowT (rest.drop (j + 1)) (one n) (loJ x sz + 2 * (i : Int)) = pl - (runS (rowT (rest.drop (j + 1)) (one n)) (loJ x sz) i + rowT (rest.drop (j + 1)) (one n) (loJ x sz + 2 * (i : Int))) := by omega
            rw [← ee]
            rfl
          · rw [runS_succ]
            omega
      · obtain ⟨v8, v9, rfl, sG, hle', pn⟩ := hP
        rw [upV_length] at pn
        have p1' : pl < runS (rowT (rest.drop (j + 1)) (one n)) (loJ x sz) (manyE x sz) := p1
        omega
    obtain ⟨i, w9, hi, rfl, sG, pn, pw⟩ := hM
    have hLG := sG _ _ hL2
    have c : inJ x sz (loJ x sz + 2 * (i : Int)) := ⟨i, hi, rfl⟩
    have c0 := inJ_nn c
    have c1 := inJ_le x0 z0 c
    refine ⟨_, rfl, ?_⟩
    refine ⟨_, rfl, .inl ⟨rfl, _, SqL.of hLG⟩, _, rfl, L, _, _, rfl, rfl, hLG, ?_, _, _, l ++ [loJ x sz + 2 * (i : Int)], _, _, _, _, rfl, ?_, ?_, ?_, (hWT.same sG).upd WL hLG, hLn, c0, ?_, ?_, pn, pw, fun l2 h1 h2 => ?_⟩
    · rw [List.length_map, sizeLine_eq]
      omega
    · intro b o e
      rw [upd_ne fun z => by rw [z, hLn] at e; cases e]
      exact sG _ _ (smT _ _ e)
    · rw [upd_same, List.map_append]
      rfl
    · rw [upd_ne slL]
      exact sG _ _ hsl2
    · omega
    · rw [List.length_append, hl]
      rfl
    · rw [List.append_assoc]
      refine hall ((loJ x sz + 2 * (i : Int)) :: l2) ⟨c, h1⟩ ?_
      show lessS _ _ _ _ + rankL _ _ _ _ = _
      rw [less_run _ _ _ _ (by omega), h2]
      omega
end
end TC
namespace TC
open PySem PySem.Spec PyProof.Rows L2 TCA TCX
/-- what a spoilt label is made of -/
def Flt (x : V) : Prop := (∃ n, x = .int n) ∨ x = .non ∨ (∃ b, x = .bl b) ∨ ∃ z, x = .str z
theorem Flt.no {K : PySem.W.Frag} {H : Hp} {x : V} (h : Flt x) : (∃ n, x = .int n) ∨ (NotInt K H x ∧ ∀ n, x ≠ .int n) := by
  rcases h with h | rfl | ⟨b, rfl⟩ | ⟨z, rfl⟩
  · exact .inl h
  · exact .inr ⟨⟨_, false, false, .base .non, kit_ty (by decide +kernel), kit_ty (by decide +kernel), rfl⟩, fun n e => by cases e⟩
  · exact .inr ⟨⟨_, true, true, .base (.bl b), kit_ty (by decide +kernel), kit_ty (by decide +kernel), rfl⟩, fun n e => by cases e⟩
  · exact .inr ⟨⟨_, false, false, .base (.str z), kit_ty (by decide +kernel), kit_ty (by decide +kernel), rfl⟩, fun n e => by cases e⟩
/-- v is no tuple, or a tuple of such things -/
def LabV (K : PySem.W.Frag) (H : Hp) (v : V) (o : Option (List V)) : Prop := (o = none ∧ ∃ t, TyX K H v t ∧ PySem.W.kitOne K t (.type "tuple") = some false) ∨ ∃ (a : Addr) (vs : List V), v = .ref a ∧ H a = some (.tup vs) ∧ o = some vs ∧ ∀ x ∈ vs, Flt x
theorem LabV.same {K : PySem.W.Frag} {H H' : Hp} {v : V} {o : Option (List V)} (h : LabV K H v o) (s : Same H H') : LabV K H' v o := by
  rcases h with ⟨e, t, h1, h2⟩ | ⟨a, vs, e1, h1, h2⟩
  · exact .inl ⟨e, t, TyX.same h1 s, h2⟩
  · exact .inr ⟨a, vs, e1, s _ _ h1, h2⟩
def GoodL (rest : List Int) (r0 n : Int) (o : Option (List V)) : Prop := ∃ l : List Int, o = some (l.map V.int) ∧ labB rest r0 l n
theorem map_inj : ∀ {l m : List Int}, l.map V.int = m.map V.int → l = m := by
  intro l
  induction l with
  | nil =>
    intro m e
    cases m with
    | nil => rfl
    | cons b m => cases e
  | cons a l ih =>
    intro m e
    cases m with
    | nil => cases e
    | cons b m =>
      simp only [List.map_cons, List.cons.injEq, V.int.injEq] at e
      rw [e.1, ih e.2]
theorem inV_up {x s c : Int} : inV (.int c) (upV (loJ x s) (manyE x s)) = decide (inJ x s c) := by
  by_cases h : inJ x s c
  · rw [decide_eq_true h]
    obtain ⟨i, hi, e⟩ := h
    unfold inV
    refine List.any_eq_true.mpr ⟨.int c, ?_, ?_⟩
    · unfold upV
      refine List.mem_map.mpr ⟨i, List.mem_range.mpr hi, ?_⟩
      show V.int (loJ x s + (i : Int) * 2) = V.int c
      rw [e, Int.mul_comm]
    · simp [eqV]
  · rw [decide_eq_false h]
    unfold inV
    refine List.any_eq_false.mpr fun y hy => ?_
    obtain ⟨i, hi⟩ := List.mem_iff_getElem?.mp hy
    obtain ⟨hi2, rfl⟩ := up_at hi
    intro e
    refine h ⟨i, hi2, ?_⟩
    have e2 : (c == loJ x s + 2 * (i : Int)) = true := by
      first
        | exact e
        | (have := e; simp [eqV] at this; simp [this])
    exact eq_of_beq e2
theorem flat_up (a : Int) (n : Nat) : (upV a n).all flatV = true := by
  unfold upV
  rw [List.all_map]
  exact List.all_eq_true.mpr fun _ _ => rfl
section
variable {P : Program} {w : World} {K : PySem.W.Frag} {mg : Str → Option Value} {base : Heap} {f : Addr} {fd : FuncData} {CR CS CP : Addr}
/-! ### place_of -/
def spPlaceOf (K : PySem.W.Frag) (CR CS CP : Addr) : Sp := fun vs H Q E => ∃ (r v t : V) (b1 b2 : Bool), vs = [r, v, t] ∧ RowV K H r b1 ∧ Sml K 120 H t b2 ∧ (b1 = false → E (.ref CR) none H) ∧ (b1 = true → b2 = false → E (.ref CS) none H) ∧
  (b1 = true → b2 = true → ∀ (a : Addr) (r0 : Int) (rest : List Int) (n : Int), r = .ref a → Row H a (r0 :: rest) → t = .int n → ∃ o, LabV K H v o ∧
    (¬ GoodL rest r0 n o → ∀ H', Same H H' → E (.ref CP) none H') ∧
    ∀ l, o = some (l.map V.int) → labB rest r0 l n → ∀ H', Same H H' → Q (.int (rankL rest r0 l n)) H')
abbrev nPlaceOf : List Str := ["row", "label", "to", "ways", "place", "far", "at", "size", "chosen", "ends", "end"]
theorem scPlaceOf : FnScope nPlaceOf ["row", "label", "to"] (defScope sPlaceOf) := ⟨rfl, rfl, rfl, by decide +kernel, rfl, by decide +kernel, by decide +kernel⟩
theorem ok_placeOf {fN fY fW fE : Addr} {fdN fdY fdW fdE : FuncData} (F : FnP K "place_of" sPlaceOf f fd) (GN0 : FnOk P w K mg base (L2.CX P w) 2 fN fdN ["row", "to"] (spNeedRow K CR CS)) (bN : L2.Binds K fdN ["row", "to"] []) (kN : PySem.W.keepIn K (.ref fN) = true) (gN : mg "need_row" = some (.ref fN))
    (GY : FnOk P w K mg base CX0 2 fY fdY ["row", "to"] spWays) (bY : L2.Binds K fdY ["row", "to"] []) (kY : PySem.W.keepIn K (.ref fY) = true) (gY : mg "ways_to" = some (.ref fY))
    (GW : FnOk P w K mg base CX0 1 fW fdW ["thing"] (spWhole K)) (bW : L2.Binds K fdW ["thing"] []) (kW : PySem.W.keepIn K (.ref fW) = true) (gW : mg "is_whole" = some (.ref fW))
    (GE : FnOk P w K mg base CX0 1 fE fdE ["one", "other"] spEnds) (bE : L2.Binds K fdE ["one", "other"] []) (kE : PySem.W.keepIn K (.ref fE) = true) (gE : mg "ends_of" = some (.ref fE))
    (XP : ITxt K mg "NoPlace" CP) (genum : mg "enumerate" = none) (gtuple : mg "tuple" = none) (gisinstance : mg "isinstance" = none) (glen : mg "len" = none) (gsum : mg "sum" = none) :
    FnOk P w K mg base (L2.CX P w) 3 f fd ["row", "label", "to"] (spPlaceOf K CR CS CP) := by
  refine F.ok scPlaceOf (fun vs H Q E h => ?_) (fun cdv A outer s H vs Q E hr h => ?_)
  · obtain ⟨_, _, _, _, _, rfl, _⟩ := h
    rfl
  · obtain ⟨r, v, t, b1, b2, rfl, hrow, ht, q1, q2, q3⟩ := h
    have hu := hu_of hr
    have GN := boxed GN0
    have hr1 := hr.mono (show 1 ≤ 2 by decide)
    refine ⟨_, pss_cons (ps_expr (pe_call GN hr (by rfl) gN kN bN .nil (passes_call (takes_of rfl rfl rfl rfl) fun _ _ _ _ z => z) (pa_cons (pv 0) (pa_cons (pv 2) pa_nil))))
      (pss_cons (ps_set (i := 3) scPlaceOf.nd rfl (.inr rfl) (pe_call GY hr (by rfl) gY kY bY .nil pass0 (pa_cons (pv 0) (pa_cons (pv 2) pa_nil))))
      (pss_cons (ps_if (PW.pt (pw_or (pt_cmp (pc_dnotin hu (pe_ix ix_list (pv 0) pe_int (fun _ _ => rfl)) (pe_ix ix_list (pv 3) pe_int (fun _ _ => rfl)))) (pw_or (pt_not (pt_val (pe_callB call_isi (by rfl) gisinstance (by decide +kernel) (pa_cons (pv 1) (pa_cons (pe_bltn (v := .ty "tuple") (by rfl) gtuple (by decide +kernel) rfl) pa_nil))))) (pw_or1 (pt_cmpR op_ne (pe_callB call_len_seq (by rfl) glen PySem.boot_len (pa_cons (pv 1) pa_nil)) (pe_op op_sub (pe_callB call_len_seq (by rfl) glen PySem.boot_len (pa_cons (pv 0) pa_nil)) pe_int) (nomark _)))))) (pss_one (ps_raise rfl (takes_of rfl rfl rfl rfl) (pmk_own PySem.F.excBase_IndexError XP.e XP.g XP.k (raises_own XP.b XP.t) rfl))) pss_nil)
      (pss_cons (ps_par (i := 4) (j := 5) (by rfl) scPlaceOf.nd rfl rfl (by decide) rfl rfl (pa_cons pe_int (pa_cons (pe_ix ix_list (pv 0) pe_int (fun _ _ => rfl)) pa_nil)) (by rfl))
      (pss_cons (ps_for (passes_of rfl) rfl (pi_enumK (by rfl) genum (pa_cons (pe_slice sl_list (pv 0) (po_some pe_int) po_none) pa_nil) (pk_cons pe_int pk_nil)) (pg_tup rfl (pgs_cons (pg_name (i := 6) scPlaceOf.nd rfl (.inr rfl)) (pgs_cons (pg_name (i := 7) scPlaceOf.nd rfl (.inl rfl)) pgs_nil)))
        (pss_cons (ps_set (i := 8) scPlaceOf.nd rfl (.inr rfl) (pe_ix ix_tup (pv 1) (pe_op op_sub (pv 6) pe_int) (fun _ _ => rfl)))
        (pss_cons (ps_set (i := 9) scPlaceOf.nd rfl (.inl rfl) (pe_call GE hr1 (by rfl) gE kE bE .nil pass0 (pa_cons (pv 5) (pa_cons (pv 7) pa_nil))))
        (pss_cons (ps_if (PW.pt (pw_or (pt_not (pt_val (pe_call GW hr1 (by rfl) gW kW bW .nil pass0 (pa_cons (pv 8) pa_nil)))) (pw_or (pt_cmpR op_notIn_seq (pv 8) (pv 9) (by with_unfolding_all rfl)) (pw_or1 (pt_cmp (pc_dnotin hu (pv 8) (pe_ix ix_list (pv 3) (pv 6) (fun _ _ => rfl)))))))) (pss_one (ps_raise rfl (takes_of rfl rfl rfl rfl) (pmk_own PySem.F.excBase_IndexError XP.e XP.g XP.k (raises_own XP.b XP.t) rfl))) pss_nil)
        (pss_cons (ps_aug (i := 4) scPlaceOf.nd rfl (.inl rfl) (pe_callB (cr_sum rfl) (by rfl) gsum (by decide +kernel) (pa_cons (pe_lc (own := [("end", 10)]) (g := gName 10) (tt := tTest (tOp (rI0 fun i j => .bl (decide (i < j))) (tVar 10) (tVar 8))) (te := tDGet2 (tOp (rIxL K) (tVar 3) (tVar 6)) (tVar 10) (tC (.int 0))) (by rfl) scPlaceOf.nd (pi_list (pv 9))
          (blkOk_by (N := nPlaceOf) (sc := defScope sPlaceOf) (by decide +kernel)) (fun _ _ _ _ _ => pg_name (i := 10) scPlaceOf.nd rfl (.inl rfl)) (fun _ _ _ _ _ => pts_one (pt_cmpR op_lt (pv 10) (pv 8) (nomark _))) (fun _ _ _ _ _ => (pe_dget2 hu (pe_ix ix_list (pv 3) (pv 6) (fun _ _ => rfl)) (pv 10) pe_int ⟨rfl, rfl, rfl, rfl⟩))) pa_nil)) ip_add)
        (pss_one (ps_set (i := 5) scPlaceOf.nd rfl (.inl rfl) (pv 8))))))))
      (pss_one (ps_ret (pv 4))))))), ?_⟩
    refine ⟨_, rfl, _, rfl, ⟨r, t, b1, b2, rfl, hrow, ht, q1, q2, fun e1 e2 => ?_⟩⟩
    subst e1 e2
    obtain ⟨a, rs, rfl, hR⟩ := hrow.yes
    obtain ⟨n, rfl, n0, n1⟩ := ht.yes
    obtain ⟨r0, rest, rfl⟩ := row_cons hR
    obtain ⟨o, hv, qE, qQ⟩ := q3 rfl rfl a r0 rest n rfl hR rfl
    clear q1 q2 q3 hrow ht
    have hsz : ∀ s ∈ rest, 0 ≤ s ∧ s ≤ 12 := fun s hs => hR.sz s (List.mem_cons_of_mem _ hs)
    have hs0 : ∀ s ∈ r0 :: rest, 0 ≤ s := fun s hs => (hR.sz s hs).1
    have r01 := hR.sz r0 (by simp)
    have l10 : rest.length + 1 ≤ 10 := hR.le
    refine ⟨_, rfl, _, rfl, a, r0 :: rest, n, rfl, hR, n0, n1, fun W ds H1 s1 hW0 hl hI => ?_⟩
    have hW : WaysP H1 W (r0 :: rest) n := ways_told hs0 n0 hW0 hl hI
    clear hW0 hl hI ds
    obtain ⟨xs0, d0, hx0, ha0, hd0⟩ := hW.at 0 (by simp)
    have bad : ¬ GoodL rest r0 n o → E (.ref CP) none H1 := fun h => qE h H1 s1
    obtain ⟨o1, dg, _, eo⟩ := hd0.get (u := r0) r01.1
    refine ⟨_, rfl, a, _, 0, .int r0, rfl, rfl, SqL.of (s1 _ _ hR.at_), atI_nat (j := 0) rfl, _, rfl, W, _, 0, _, rfl, rfl, SqL.of hx0, ha0, d0, o1, rfl, dg, ?_⟩
    rw [eo]
    by_cases w0 : 0 < rowT ((r0 :: rest).drop (0 + 1)) (one n) r0
    rotate_left
    · rw [decide_eq_false w0]
      refine ⟨_, rfl, iteT (iteT (bad fun ⟨l, _, h2⟩ => w0 (lab_pos h2)))⟩
    rw [decide_eq_true w0]
    refine ⟨_, rfl, iteF ?_⟩
    rcases hv with ⟨rfl, ty, h1, h2⟩ | ⟨b, vs, rfl, hb, rfl, hf⟩
    · exact ⟨_, rfl, _, _, _, _, false, rfl, .ty "tuple", TyX.same h1 s1, h2, false, rfl, iteT (iteT (bad fun ⟨l, e, _⟩ => by cases e))⟩
    refine ⟨_, rfl, _, _, _, _, true, rfl, .ty "tuple", .base (.tup (s1 _ _ hb)), kit_ty (by decide +kernel), true, rfl, iteF ?_⟩
    refine ⟨_, rfl, b, _, rfl, .inr (SqT.of (s1 _ _ hb)), _, rfl, a, _, rfl, .inl (SqL.of (s1 _ _ hR.at_)), _, 1, rfl, rfl, rfl, _, rfl, ?_⟩
    by_cases hlen : vs.length = rest.length
    rotate_left
    · refine iteNT (ine ?_) (bad fun ⟨l, e, h2⟩ => hlen ?_)
      · rw [List.length_map, List.length_cons]
        omega
      · rw [Option.some.inj e, List.length_map]
        exact lab_len h2
    have elen : V.int (vs.length : Int) = V.int ((((r0 :: rest).map V.int).length : Int) - 1) := by
      rw [List.length_map, List.length_cons, hlen]
      congr 1
      omega
    refine iteNF elen ?_
    refine ⟨_, rfl, a, _, 0, .int r0, rfl, rfl, SqL.of (s1 _ _ hR.at_), atI_nat (j := 0) rfl, _, _, rfl, ?_⟩
    refine ⟨_, rfl, 1, rfl, a, _, rfl, SqL.of (s1 _ _ hR.at_), fun sl hsl => ?_⟩
    have ecut : cutV ((r0 :: rest).map V.int) (some 1) none = rest.map V.int := cut_drop (xs := (r0 :: rest).map V.int) (k := 1)
    rw [ecut]
    have s3 := same_upd (o := .lst (rest.map V.int)) hsl
    refine ⟨sl, _, 1, rfl, rfl, by decide, by decide, SqL.of upd_same, ?_⟩
    refine for_it (walk_enumK (K := K) (a := sl) (xs := rest.map V.int) (k := 1)) (fun j σ H' => ∃ (x acc : Int) (v6 v7 v8 v9 v10 : Option V), σ = [some (.ref a), some (.ref b), some (.int n), some (.ref W), some (.int acc), some (.int x), v6, v7, v8, v9, v10] ∧ Same H H' ∧ H' sl = some (.lst (rest.map V.int)) ∧ WaysP H' W (r0 :: rest) n ∧
        0 ≤ x ∧ x ≤ 12 + 12 * (j : Int) ∧ 0 < rowT (rest.drop j) (one n) x ∧ (∀ l : List Int, vs = l.map V.int → labB rest r0 l n → labB (rest.drop j) x (l.drop j) n ∧ rankL rest r0 l n = acc + rankL (rest.drop j) x (l.drop j) n) ∧
        ∀ l2 : List Int, vs.drop j = l2.map V.int → labB (rest.drop j) x l2 n → GoodL rest r0 n (some vs))
      ⟨r0, 0, none, none, none, none, none, rfl, s1.trans s3, upd_same, hW.same s3, r01.1, by omega, w0, fun l e h => ⟨h, by rw [Int.zero_add]; rfl⟩, fun l2 e h => ⟨l2, by rw [← e]; rfl, h⟩⟩ (fun j σ H' _ hP => ?_) (fun j v σ H' H'' hj hP hy => ?_) (fun σ H' hP => ?_)
    · obtain ⟨_, _, _, _, _, _, _, _, _, z, _⟩ := hP
      exact SqL.of z
    rotate_left
    · obtain ⟨x, acc, v6, v7, v8, v9, v10, rfl, sm, hsl', hW', x0, x1, xw, hA, hB⟩ := hP
      rw [List.length_map] at hA hB xw
      rw [List.drop_length] at hA hB xw
      have ex : x = n := by
        have xw' : 0 < one n x := xw
        unfold one at xw'
        split at xw'
        · assumption
        · omega
      have hd : vs.drop rest.length = ([] : List Int).map V.int := List.drop_of_length_le (by omega)
      obtain ⟨l, e, h2⟩ := hB [] hd ex
      obtain ⟨_, er⟩ := hA l (Option.some.inj e) h2
      have e0 : rankL rest r0 l n = acc := by
        rw [er]
        have : ∀ y z, rankL [] y z n = 0 := fun y z => by cases z <;> rfl
        rw [this, Int.add_zero]
      rw [← e0]
      exact ⟨_, rfl, qQ l e h2 _ sm⟩
    obtain ⟨T, v, rfl, hT, rfl, hv⟩ := hy
    obtain ⟨x, acc, v6, v7, v8, v9, v10, rfl, sm, hsl', hW', x0, x1, xw, hA, hB⟩ := hP
    obtain ⟨sz, hj', rfl⟩ : ∃ sz : Int, rest[j]? = some sz ∧ v = .int sz := by
      rw [List.getElem?_map] at hv
      cases e : rest[j]? with
      | none =>
        rw [e] at hv
        cases hv
      | some z =>
        rw [e] at hv
        exact ⟨z, rfl, (Option.some.inj hv).symm⟩
    obtain ⟨z0, z1⟩ := hsz sz (List.mem_of_getElem? hj')
    have hjl : j < rest.length := (List.getElem?_eq_some_iff.mp hj').1
    rw [drop_at hj'] at xw hA hB
    have sT := same_upd (o := .tup [.int (1 + (j : Nat)), .int sz]) hT
    refine ⟨T, _, rfl, SqT.of upd_same, rfl, _, _, rfl, _, _, rfl, rfl, ?_⟩
    have hsl2 := sT _ _ hsl'
    have hWT := hW'.same sT
    have smT := sm.trans sT
    generalize upd H' T (.tup [.int (1 + (j : Nat)), .int sz]) = G at hsl2 hWT smT ⊢
    obtain ⟨y, hy⟩ : ∃ y, vs[j]? = some y := ⟨_, List.getElem?_eq_getElem (by omega)⟩
    have hyj : atI vs (1 + (j : Int) - 1) = some y := by
      rw [show 1 + (j : Int) - 1 = (j : Int) by omega]
      exact atI_nat hy
    refine ⟨_, rfl, _, rfl, _, 1, rfl, rfl, b, _, _, y, rfl, rfl, SqT.of (smT _ _ hb), hyj, ?_⟩
    refine ⟨_, rfl, _, rfl, x, sz, rfl, x0, by omega, z0, by omega, fun le hle => ?_⟩
    have s4 := same_upd (o := .lst (upV (loJ x sz) (manyE x sz))) hle
    have sm4 := smT.trans s4
    have bad4 : ¬ GoodL rest r0 n (some vs) → E (.ref CP) none (upd G le (.lst (upV (loJ x sz) (manyE x sz)))) := fun h => qE h _ sm4
    have good_at : ∀ l : List Int, vs = l.map V.int → ∃ c, y = .int c ∧ l.drop j = c :: l.drop (j + 1) := fun l e => by
      rw [e, List.getElem?_map] at hy
      cases ez : l[j]? with
      | none =>
        rw [ez] at hy
        cases hy
      | some c =>
        rw [ez] at hy
        exact ⟨c, (Option.some.inj hy).symm, drop_at ez⟩
    rcases (hf y (List.mem_of_getElem? hy)).no (K := K) (H := upd G le (.lst (upV (loJ x sz) (manyE x sz)))) with ⟨c, rfl⟩ | ⟨hn, hn2⟩
    rotate_left
    · exact ⟨_, rfl, .inr ⟨y, rfl, hn, false, rfl, iteT (iteT (bad4 fun ⟨l, e, h2⟩ => by
        obtain ⟨c, ec, _⟩ := good_at l (Option.some.inj e)
        exact hn2 c ec))⟩⟩
    have good_c : GoodL rest r0 n (some vs) → inJ x sz c ∧ 0 < rowT (rest.drop (j + 1)) (one n) c := fun ⟨l, e, h2⟩ => by
      obtain ⟨c', ec, ed⟩ := good_at l (Option.some.inj e)
      cases ec
      obtain ⟨h3, _⟩ := hA l (Option.some.inj e) h2
      rw [ed] at h3
      exact ⟨h3.1, lab_pos h3.2⟩
    refine ⟨_, rfl, .inl ⟨c, rfl, true, rfl, iteF ?_⟩⟩
    refine ⟨_, rfl, _, rfl, le, _, rfl, .inl (SqL.of upd_same), rfl, flat_up _ _, _, rfl, ?_⟩
    show if (!inV (.int c) (upV (loJ x sz) (manyE x sz))) = true then _ else _
    rw [inV_up]
    by_cases cj : inJ x sz c
    rotate_left
    · exact iteNT cj (iteT (bad4 fun h => cj (good_c h).1))
    refine iteNF cj ?_
    have c0 := inJ_nn cj
    have c1 := inJ_le x0 z0 cj
    obtain ⟨xsW, d, hxW, haW, hdW⟩ := (hWT.same s4).at (1 + j) (by show 1 + j < rest.length + 1; omega)
    have ed : (r0 :: rest).drop (1 + j + 1) = rest.drop (j + 1) := by
      rw [show 1 + j + 1 = (j + 1) + 1 by omega]
      rfl
    rw [ed] at hdW
    have eat : ((1 + j : Nat) : Int) = 1 + (j : Int) := by omega
    rw [eat] at haW
    obtain ⟨o2, dg2, _, eo2⟩ := hdW.get (u := c) c0
    refine ⟨_, rfl, _, rfl, _, rfl, W, _, _, _, rfl, rfl, SqL.of hxW, haW, d, o2, rfl, dg2, ?_⟩
    rw [eo2]
    by_cases cw : 0 < rowT (rest.drop (j + 1)) (one n) c
    rotate_left
    · rw [decide_eq_false cw]
      exact ⟨_, rfl, iteT (bad4 fun h => cw (good_c h).2)⟩
    rw [decide_eq_true cw]
    refine ⟨_, rfl, iteF ?_⟩
    refine ⟨_, rfl, _, rfl, le, rfl, ⟨_, SqL.of upd_same⟩, fun D hD => ?_⟩
    have DW : W ≠ D := ne_of_none hxW hD
    refine lc_list (K := K) (a := le) (xs := upV (loJ x sz) (manyE x sz)) (fun i H2 => ∃ ns : List Int, H2 D = some (.lst (ns.map V.int)) ∧ ns.length ≤ i ∧ ns.sum = runS (fun y => if y < c then rowT (rest.drop (j + 1)) (one n) y else 0) (loJ x sz) i ∧ ∀ b o, upd G le (.lst (upV (loJ x sz) (manyE x sz))) b = some o → H2 b = some o)
      ⟨[], upd_same, Nat.zero_le _, rfl, same_upd hD⟩ (fun i H2 _ hP => ?_) (fun i v H2 hv hP => ?_) (fun H2 hP => ?_)
    · obtain ⟨_, _, _, _, z⟩ := hP
      exact SqL.of (z _ _ upd_same)
    · obtain ⟨ns, hDl, hnl, hns, keep⟩ := hP
      obtain ⟨hi, rfl⟩ := up_at hv
      have l0 := loJ_nn x sz
      refine ⟨rfl, _, rfl, _, rfl, _, _, rfl, rfl, _, rfl, iteB (fun y => ?_) fun y => ?_⟩
      · obtain ⟨o3, dg3, eo3, _⟩ := (hdW.same keep).get (u := loJ x sz + 2 * (i : Int)) (by omega)
        refine ⟨_, rfl, _, rfl, W, _, _, _, rfl, rfl, SqL.of (keep _ _ hxW), haW, d, rfl, (hdW.same keep).isd, _, rfl, o3, dg3, ?_⟩
        rw [eo3]
        refine ⟨_, hDl, ?_, ns ++ [rowT (rest.drop (j + 1)) (one n) (loJ x sz + 2 * (i : Int))], ?_, ?_, ?_, fun b o e => ?_⟩
        · rw [List.length_map, sizeLine_eq]
          have : manyE x sz ≤ 13 := by
            unfold manyE
            split <;> omega
          omega
        · rw [upd_same, List.map_append]
          rfl
        · rw [List.length_append]
          exact Nat.succ_le_succ hnl
        · rw [runS_succ, List.sum_append, hns]
          show _ + (_ + 0) = _
          rw [Int.add_zero, if_pos (of_decide_eq_true y)]
        · rw [upd_ne (ne_of_none e hD)]
          exact keep b o e
      · refine ⟨ns, hDl, Nat.le_succ_of_le hnl, ?_, keep⟩
        rw [runS_succ, hns, if_neg (of_decide_eq_false y), Int.add_zero]
    · obtain ⟨ns, hDl, hnl, hns, keep⟩ := hP
      rw [upV_length] at hns
      refine ⟨D, ns, rfl, SqL.of hDl, _, _, rfl, rfl, ?_⟩
      refine ⟨_, rfl, c, _, _, _, _, _, _, rfl, sm4.trans keep, keep _ _ (s4 _ _ hsl2), (hWT.same s4).same keep, c0, by omega, cw, fun l e h => ?_, fun l2 e h => ?_⟩
      · obtain ⟨c', ec, ed'⟩ := good_at l e
        cases ec
        obtain ⟨h3, h4⟩ := hA l e h
        rw [ed'] at h3 h4
        refine ⟨h3.2, ?_⟩
        rw [h4, hns]
        show acc + (lessS _ _ _ _ + _) = acc + runS _ _ _ + _
        unfold lessS
        omega
      · refine hB (c :: l2) ?_ ⟨cj, h⟩
        obtain ⟨hl', e'⟩ := List.getElem?_eq_some_iff.mp hy
        rw [List.drop_eq_getElem_cons hl', e', e]
        rfl
end
end TC
namespace TC
open PySem PySem.Spec PyProof.Rows L2 TCA TCX
theorem SameBut.free {p c q : Addr} {H H' : Hp} {ms : List Int} {n : Int} (s : SameBut p H H') (pen : PenAt H' p c ms n) (h : H' q = none) : H q = none := by
  cases e : H q with
  | none => rfl
  | some o =>
    have z := s q o (PenAt.ne pen h) e
    rw [h] at z
    cases z
theorem pickI (vs : List Int) {d : Int} (h0 : 0 ≤ d) (h1 : d < vs.length) : ∃ v, v ∈ vs ∧ atI (vs.map V.int) d = some (.int v) := by
  have hk : d.toNat < vs.length := by omega
  refine ⟨vs[d.toNat], List.getElem_mem hk, ?_⟩
  have z := atI_nat (xs := vs.map V.int) (j := d.toNat) (v := .int vs[d.toNat]) (by rw [List.getElem?_map]; simp [hk])
  have e : ((d.toNat : Nat) : Int) = d := by omega
  rw [e] at z
  exact z
section
variable {P : Program} {w : World} {K : PySem.W.Frag} {mg : Str → Option Value} {base : Heap} {f : Addr} {fd : FuncData}
/-! ### _law_row -/
def spRow : Sp := fun vs H Q _ => ∃ (p c : Addr) (ms : List Int) (n m g : Int), vs = [.ref p, .int m, .int g] ∧ PenAt H p c ms n ∧ 0 ≤ n ∧ n ≤ 500000 ∧ 1 ≤ m ∧ m ≤ 10 ∧ 0 ≤ g ∧ g ≤ 12 ∧
  ∀ (l : Addr) (rs : List Int) (n' : Int) H', H l = none → rs.length = m.toNat → (∀ s ∈ rs, 0 ≤ s ∧ s ≤ 12) → n ≤ n' → n' ≤ n + 30 → PenAt H' p c ms n' → SameBut p H H' → H' l = some (.lst (rs.map V.int)) → Q (.ref l) H'
abbrev nRow : List Str := ["_law_pen_here", "_law_many", "_law_great", "_law_k"]
theorem scRow : FnScope nRow ["_law_pen_here", "_law_many", "_law_great"] (defScope sRow) := ⟨rfl, rfl, rfl, by decide +kernel, rfl, by decide +kernel, by decide +kernel⟩
theorem ok_row {fD : Addr} {fdD : FuncData} (F : FnP K "_law_row" sRow f fd) (GD : FnOk P w K mg base CX0 1 fD fdD ["_law_pen_here", "_law_many"] spDraw) (bD : L2.Binds K fdD ["_law_pen_here", "_law_many"] []) (kD : PySem.W.keepIn K (.ref fD) = true) (gD : mg "_law_draw" = some (.ref fD)) (gr : mg "range" = none) :
    FnOk P w K mg base CX0 2 f fd ["_law_pen_here", "_law_many", "_law_great"] spRow := by
  refine F.ok scRow (fun vs H Q E h => ?_) (fun cdv A outer s H vs Q E hr h => ?_)
  · obtain ⟨_, _, _, _, _, _, rfl, _⟩ := h
    rfl
  · obtain ⟨p, c, ms, n, m, g, rfl, pen, n0, n1, m0, m1, g0, g1, q⟩ := h
    refine ⟨_, PSs.nox (pss_one (ps_ret (pe_lc (own := [("_law_k", 3)]) (g := gName 3) (tt := tYes) (te := tOp (rIxL K) (tLst (tCons (tCall spDraw [] E0 (tCons (tVar 0) (tCons (tOp (rI0 fun i j => .int (i + j)) (tVar 2) (tC (.int 1))) tNil))) (tCons (tCall spDraw [] E0 (tCons (tVar 0) (tCons (tC (.int 3)) tNil))) (tCons (tVar 2) tNil)))) (tOp (rI CDiv fun i j => .int (i / j)) (tCall spDraw [] E0 (tCons (tVar 0) (tCons (tC (.int 9)) tNil))) (tC (.int 4)))) (by rfl) scRow.nd (pi_range1 (by rfl) gr (pa_cons (pv 1) pa_nil))
          (blkOk_by (N := nRow) (sc := defScope sRow) (by decide +kernel)) (fun _ _ _ _ _ => pg_name (i := 3) scRow.nd rfl (.inl rfl)) (fun _ _ _ _ _ => pts_nil) (fun _ _ _ _ _ => (pe_ix ix_list (pe_lst (pa_cons (pe_call GD hr (by rfl) gD kD bD .nil pass0 (pa_cons (pv 0) (pa_cons (pe_op op_add (pv 2) pe_int) pa_nil))) (pa_cons (pe_call GD hr (by rfl) gD kD bD .nil pass0 (pa_cons (pv 0) (pa_cons pe_int pa_nil))) (pa_cons (pv 2) pa_nil)))) (pe_op op_fdiv (pe_call GD hr (by rfl) gD kD bD .nil pass0 (pa_cons (pv 0) (pa_cons pe_int pa_nil))) pe_int) (fun _ _ => rfl)))))), ?_⟩
    refine ⟨_, rfl, m, rfl, by omega, by omega, fun D hD => lc_range (lo := 0) (n := m.toNat) (fun i H' => ∃ (rs : List Int) (n' : Int), H' D = some (.lst (rs.map V.int)) ∧ rs.length = i ∧ (∀ s ∈ rs, 0 ≤ s ∧ s ≤ 12) ∧ n ≤ n' ∧ n' ≤ n + 3 * (i : Int) ∧ PenAt H' p c ms n' ∧ SameBut p H H')
      ⟨[], n, upd_same, rfl, (fun s hs => by cases hs), Int.le_refl _, by omega, pen.new hD, Same.but (same_upd hD)⟩ (fun i H' hi hP => ?_) (fun H' hP => ?_)⟩
    · obtain ⟨rs, n', hDl, lr, hs, e0, e1, pen', sb⟩ := hP
      have Dp : D ≠ p := PenAt.ne pen hD
      have i10 : i < 10 := by omega
      refine ⟨rfl, ?_⟩
      have big : g + 1 < 2 ^ 1000 := Int.lt_of_lt_of_le (show g + 1 < 1000 by omega) (by decide +kernel)
      refine ⟨_, rfl, _, rfl, g, 1, rfl, rfl, p, c, ms, n', g + 1, rfl, pen', by omega, by omega, by omega, big, fun d1 n2 H2 a0 a1 a2 a3 p2 s2 => ?_⟩
      refine ⟨_, rfl, p, c, ms, n2, 3, rfl, p2, by omega, by omega, by decide, by decide, fun d2 n3 H3 b0 b1 b2 b3 p3 s3 => ?_⟩
      refine ⟨_, rfl, by show 3 ≤ sizeLine; decide, fun l hl => ?_⟩
      have s4 := same_upd (o := .lst (([d1, d2, g] : List Int).map V.int)) hl
      refine ⟨_, rfl, p, c, ms, n3, 9, rfl, p3.same s4, by omega, by omega, by decide, by decide, fun d3 n4 H4 c0 c1 c2 c3 p4 s5 => ?_⟩
      obtain ⟨v, hv, ev⟩ := pickI [d1, d2, g] (d := d3 / 4) (by omega) (show d3 / 4 < (3 : Int) by omega)
      have v01 : 0 ≤ v ∧ v ≤ 12 := by
        simp only [List.mem_cons, List.not_mem_nil, or_false] at hv
        rcases hv with rfl | rfl | rfl <;> omega
      have s25 : SameBut p H' H4 := SameBut.trans (SameBut.trans s2 s3) (SameBut.trans (Same.but s4) s5)
      refine ⟨d3, 4, rfl, rfl, ⟨by decide, by decide⟩, l, _, _, _, rfl, rfl, SqL.of (s5 _ _ (PenAt.ne p3 hl) upd_same), ev, _, s25 _ _ Dp hDl, ?_, rs ++ [v], n4, ?_, ?_, fun s hs' => ?_, by omega, ?_, ?_, ?_⟩
      · rw [List.length_map, lr, sizeLine_eq]
        omega
      · rw [upd_same, List.map_append]
        rfl
      · rw [List.length_append, lr]
        rfl
      · rcases List.mem_append.mp hs' with h | h
        · exact hs s h
        · rw [List.mem_singleton.mp h]
          exact v01
      · have : (((i + 1 : Nat)) : Int) = (i : Int) + 1 := by omega
        omega
      · obtain ⟨lf, y1, y2, y3⟩ := p4
        have Dc : D ≠ c := fun e => by
          obtain ⟨_, _, z, _⟩ := pen
          rw [← e, hD] at z
          cases z
        exact ⟨lf, by rw [upd_ne Dp.symm]; exact y1, by rw [upd_ne Dc.symm]; exact y2, y3⟩
      · intro b o hb e
        rw [upd_ne (ne_of_none e hD)]
        exact s25 _ _ hb (sb _ _ hb e)
    · obtain ⟨rs, n', hDl, lr, hs, e0, e1, pen', sb⟩ := hP
      exact q D rs n' H' hD lr hs e0 (by omega) pen' sb hDl
end
end TC
namespace TC
open PySem PySem.Spec PyProof.Rows L2 TCA TCX
/-! ### K40Q: counted, counted_by_offsets (from K37) -/
/-- a dict of one entry -/
theorem one_dictP {H : Hp} {d : Addr} {n lo hi : Int} (h : H d = some (.dK [((Sum.inl n : Key), V.int 1)])) (h0 : lo ≤ n) (h1 : n ≤ hi) : IntP H d lo hi fun g => g n := by
  refine ⟨[n], setI (fun _ => 0) n 1, ⟨_, h, rfl, fun r hr => ?_, by simp, fun r hr => ?_⟩, fun g => ?_, fun r hr => ?_⟩
  · rw [List.mem_singleton.mp hr, valV_pos rfl]
    show some (V.int 1) = some (V.int (if n = n then 1 else 0))
    rw [if_pos rfl]
  · unfold setI
    rw [if_neg fun e => hr (by rw [e]; simp)]
  · show (if n = n then 1 else 0) * g n + 0 = g n
    rw [if_pos rfl]
    omega
  · rw [List.mem_singleton.mp hr]
    exact ⟨h0, h1⟩
theorem IntP.le {H : Hp} {d : Addr} {lo hi lo' hi' : Int} {X : (Int → Int) → Int} (h : IntP H d lo hi X) (h0 : lo' ≤ lo) (h1 : hi ≤ hi') : IntP H d lo' hi' X := by
  obtain ⟨ks, t, a, b, c⟩ := h
  exact ⟨ks, t, a, b, fun r hr => ⟨Int.le_trans h0 (c r hr).1, Int.le_trans (c r hr).2 h1⟩⟩

section
variable {P : Program} {w : World} {K : PySem.W.Frag} {mg : Str → Option Value} {base : Heap} {f : Addr} {fd : FuncData} {CR CS : Addr}
/-! ### counted -/
def spCounted (K : PySem.W.Frag) (CR CS : Addr) : Sp := fun vs H Q E => ∃ (r t : V) (b1 b2 : Bool), vs = [r, t] ∧ RowV K H r b1 ∧ Sml K 120 H t b2 ∧ (b1 = false → E (.ref CR) none H) ∧ (b1 = true → b2 = false → E (.ref CS) none H) ∧
  (b1 = true → b2 = true → ∀ (a : Addr) (r0 : Int) (rest : List Int) (n : Int), r = .ref a → Row H a (r0 :: rest) → t = .int n → ∀ H', Same H H' → Q (.int (rowT rest (one n) r0)) H')
abbrev nCounted : List Str := ["row", "to"]
theorem scCounted : FnScope nCounted ["row", "to"] (defScope sCounted) := ⟨rfl, rfl, rfl, by decide +kernel, rfl, by decide +kernel, by decide +kernel⟩
theorem ok_counted {fN fY : Addr} {fdN fdY : FuncData} (F : FnP K "counted" sCounted f fd) (GN0 : FnOk P w K mg base (L2.CX P w) 2 fN fdN ["row", "to"] (spNeedRow K CR CS)) (bN : L2.Binds K fdN ["row", "to"] []) (kN : PySem.W.keepIn K (.ref fN) = true) (gN : mg "need_row" = some (.ref fN))
    (GY : FnOk P w K mg base CX0 2 fY fdY ["row", "to"] spWays) (bY : L2.Binds K fdY ["row", "to"] []) (kY : PySem.W.keepIn K (.ref fY) = true) (gY : mg "ways_to" = some (.ref fY)) :
    FnOk P w K mg base (L2.CX P w) 3 f fd ["row", "to"] (spCounted K CR CS) := by
  refine F.ok scCounted (fun vs H Q E h => ?_) (fun cdv A outer s H vs Q E hr h => ?_)
  · obtain ⟨_, _, _, _, rfl, _⟩ := h
    rfl
  · obtain ⟨r, t, b1, b2, rfl, hrow, ht, q1, q2, q3⟩ := h
    have hu := hu_of hr
    have GN := boxed GN0
    refine ⟨_, pss_cons (ps_expr (pe_call GN hr (by rfl) gN kN bN .nil (passes_call (takes_of rfl rfl rfl rfl) fun _ _ _ _ z => z) (pa_cons (pv 0) (pa_cons (pv 1) pa_nil))))
      (pss_one (ps_ret (pe_dget2 hu (pe_ix ix_list (pe_call (lift0 GY) hr (by rfl) gY kY bY .nil (passes_call (takes_of rfl rfl rfl rfl) fun _ _ _ _ z => z) (pa_cons (pv 0) (pa_cons (pv 1) pa_nil))) pe_int (fun _ _ => rfl)) (pe_ix ix_list (pv 0) pe_int (fun _ _ => rfl)) pe_int ⟨rfl, rfl, rfl, rfl⟩))), ?_⟩
    refine ⟨_, rfl, _, rfl, ⟨r, t, b1, b2, rfl, hrow, ht, q1, q2, fun e1 e2 => ?_⟩⟩
    subst e1 e2
    obtain ⟨a, rs, rfl, hR⟩ := hrow.yes
    obtain ⟨n, rfl, n0, n1⟩ := ht.yes
    obtain ⟨r0, rest, rfl⟩ := row_cons hR
    refine ⟨_, rfl, _, rfl, a, r0 :: rest, n, rfl, hR, n0, n1, fun W ds H1 s1 hW hl hI => ?_⟩
    have hl1 : ds.length = rest.length + 1 := hl
    obtain ⟨d, hd⟩ : ∃ d, ds[rest.length]? = some d := ⟨_, List.getElem?_eq_getElem (by omega)⟩
    obtain ⟨ks, tt, hID, hpair, hks⟩ := hI _ d hd
    obtain ⟨o, dg, eo⟩ := got (r := r0) hID
    obtain ⟨kv, a1, _⟩ := id hID
    have hat : atI (ds.map V.ref).reverse 0 = some (.ref d) := by
      refine atI_nat (j := 0) ?_
      rw [List.getElem?_reverse (by rw [List.length_map]; omega), List.length_map, List.getElem?_map, show ds.length - 1 - 0 = rest.length by omega, hd]
      rfl
    refine ⟨W, _, 0, _, rfl, rfl, SqL.of hW, hat, d, rfl, .inl ⟨_, .inl a1⟩, _, rfl, a, _, 0, .int r0, rfl, rfl, SqL.of (s1 _ _ hR.at_), atI_nat (j := 0) rfl, o, dg, ?_⟩
    rw [eo]
    have ev : tt r0 = rowT rest (one n) r0 := by
      rw [← IntD.val hID r0, hpair]
      show rowT ((rest.reverse).take rest.length) (one r0) n = _
      rw [← List.length_reverse, List.take_length]
      have hs : ∀ s ∈ rest, 0 ≤ s := fun s hs => (hR.sz s (List.mem_cons_of_mem _ hs)).1
      exact (rowT_back hs (hR.sz r0 (by simp)).1 n0).symm
    rw [ev]
    exact q3 rfl rfl a r0 rest n rfl hR rfl H1 s1
/-! ### counted_by_offsets -/
abbrev nByOff : List Str := ["row", "to", "counts", "size", "found", "total", "count", "offset"]
theorem scByOff : FnScope nByOff ["row", "to"] (defScope sByOff) := ⟨rfl, rfl, rfl, by decide +kernel, rfl, by decide +kernel, by decide +kernel⟩
theorem rowU_snoc (row : List Int) (s : Int) (g : Int → Int) : rowU (row ++ [s]) g = rowU row (opU s g) := by
  unfold rowU
  rw [List.foldr_append]
  rfl
theorem ok_byOff {fN : Addr} {fdN : FuncData} (F : FnP K "counted_by_offsets" sByOff f fd) (GN0 : FnOk P w K mg base (L2.CX P w) 2 fN fdN ["row", "to"] (spNeedRow K CR CS)) (bN : L2.Binds K fdN ["row", "to"] []) (kN : PySem.W.keepIn K (.ref fN) = true) (gN : mg "need_row" = some (.ref fN)) (gr : mg "range" = none) :
    FnOk P w K mg base (L2.CX P w) 3 f fd ["row", "to"] (spCounted K CR CS) := by
  refine F.ok scByOff (fun vs H Q E h => ?_) (fun cdv A outer s H vs Q E hr h => ?_)
  · obtain ⟨_, _, _, _, rfl, _⟩ := h
    rfl
  · obtain ⟨r, t, b1, b2, rfl, hrow, ht, q1, q2, q3⟩ := h
    have hu := hu_of hr
    have GN := boxed GN0
    refine ⟨_, pss_cons (ps_expr (pe_call GN hr (by rfl) gN kN bN .nil (passes_call (takes_of rfl rfl rfl rfl) fun _ _ _ _ z => z) (pa_cons (pv 0) (pa_cons (pv 1) pa_nil))))
      (C8.pss_cut (ps_set (i := 2) scByOff.nd rfl (.inl rfl) (pe_disp (pps_cons pe_int pe_int pps_nil) (by rfl) (by rfl) (fun z => by cases z) (by decide)))
      (pss_cons (ps_for (passes_of rfl) rfl (pi_list (pv 0)) (pg_name (i := 3) scByOff.nd rfl (.inl rfl))
        (pss_cons (ps_set (i := 4) scByOff.nd rfl (.inl rfl) pe_dnewK)
        (C8.pss_cut (ps_lock (ps_for (passes_of rfl) rfl (pi_items (pv 2)) (pg_tup rfl (pgs_cons (pg_name (i := 5) scByOff.nd rfl (.inl rfl)) (pgs_cons (pg_name (i := 6) scByOff.nd rfl (.inl rfl)) pgs_nil)))
          (pss_one (ps_for (passes_of rfl) rfl (pi_range3 (by rfl) gr (pa_cons (pe_un un_neg (pv 3)) (pa_cons (pe_op op_add (pv 3) pe_int) (pa_cons pe_int pa_nil)))) (pg_name (i := 7) scByOff.nd rfl (.inl rfl))
            (pss_one (ps_dput hu (pv 4) (pe_op op_add (pv 5) (pv 7)) (pe_op op_add (pe_dget2 hu (pv 4) (pe_op op_add (pv 5) (pv 7)) pe_int ⟨rfl, rfl, rfl, rfl⟩) (pv 6)) rfl))))))
        (pss_one (ps_set (i := 2) scByOff.nd rfl (.inl rfl) (pv 4))))))
      (pss_one (ps_ret (pe_op op_sub (pe_dget2 hu (pv 2) (pv 1) pe_int ⟨rfl, rfl, rfl, rfl⟩) (pe_dget2 hu (pv 2) (pe_op op_add (pv 1) pe_int) pe_int ⟨rfl, rfl, rfl, rfl⟩)))))), ?_⟩
    refine ⟨_, rfl, _, rfl, ⟨r, t, b1, b2, rfl, hrow, ht, q1, q2, fun e1 e2 => ?_⟩⟩
    subst e1 e2
    obtain ⟨a, rs, rfl, hR⟩ := hrow.yes
    obtain ⟨n, rfl, n0, n1⟩ := ht.yes
    refine ⟨fun σ H' => ∃ d : Addr, σ = [some (.ref a), some (.int n), some (.ref d), none, none, none, none, none] ∧ Same H H' ∧ IntP H' d 0 0 (fun g => g 0), ?_, fun σ H1 hM => ?_⟩
    · intro d hd
      refine ⟨upd_same, [(Sum.inl 0, .int 1)], rfl, by show 1 ≤ 15; decide, ?_⟩
      have e1 : upd (upd H d (.dK [])) d (.dK (mergeK [] [((Sum.inl 0 : Key), V.int 1)])) = upd H d (.dK [((Sum.inl 0 : Key), V.int 1)]) := by
        funext b
        by_cases hb : b = d
        · rw [hb, upd_same, upd_same]
          rfl
        · rw [upd_ne hb, upd_ne hb, upd_ne hb]
      rw [e1]
      exact ⟨d, rfl, same_upd hd, one_dictP upd_same (Int.le_refl _) (Int.le_refl _)⟩
    obtain ⟨d0, rfl, s1, hd0⟩ := hM
    refine ⟨_, rfl, a, rfl, ⟨_, SqL.of (s1 _ _ hR.at_)⟩, for_list (K := K) (a := a) (xs := rs.map V.int) (fun j σ H' => ∃ (d : Addr) (v3 v4 v5 v6 v7 : Option V), σ = [some (.ref a), some (.int n), some (.ref d), v3, v4, v5, v6, v7] ∧ Same H H' ∧ IntP H' d (-(12 * (j : Int))) (12 * (j : Int)) fun g => rowU (rs.take j) g 0)
      ⟨d0, none, none, none, none, none, rfl, s1, IntP.le hd0 (by omega) (by omega)⟩ (fun j σ H' _ hP => ?_) (fun j x σ H' hx hP => ?_) (fun σ H' hP => ?_)⟩
    · obtain ⟨_, _, _, _, _, _, _, z, _⟩ := hP
      exact SqL.of (z _ _ hR.at_)
    rotate_left
    · obtain ⟨d, v3, v4, v5, v6, v7, rfl, sm, hI⟩ := hP
      rw [List.length_map, List.take_length] at hI
      obtain ⟨ks, tt, hID, hpair, hks⟩ := hI
      obtain ⟨kv, a1, _⟩ := id hID
      obtain ⟨o, dg, eo⟩ := got (r := n) hID
      obtain ⟨o2, dg2, eo2⟩ := got (r := n + 2) hID
      refine ⟨_, rfl, d, rfl, .inl ⟨_, .inl a1⟩, _, rfl, o, dg, _, rfl, d, rfl, .inl ⟨_, .inl a1⟩, _, rfl, n, 2, rfl, rfl, o2, dg2, ?_⟩
      rw [eo, eo2]
      refine ⟨_, _, rfl, rfl, ?_⟩
      obtain ⟨r0, rest, rfl⟩ := row_cons hR
      rw [← IntD.val hID n, ← IntD.val hID (n + 2), hpair, hpair]
      show Q (.int (rowU (r0 :: rest) (one n) 0 - rowU (r0 :: rest) (one (n + 2)) 0)) H'
      rw [by_offsets (fun s hs => (hR.sz s hs).1) n0]
      exact q3 rfl rfl a r0 rest n rfl hR rfl H' sm
    obtain ⟨d, v3, v4, v5, v6, v7, rfl, sm, hI⟩ := hP
    obtain ⟨sz, hj, rfl⟩ : ∃ sz : Int, rs[j]? = some sz ∧ x = .int sz := by
      rw [List.getElem?_map] at hx
      cases e : rs[j]? with
      | none =>
        rw [e] at hx
        cases hx
      | some z =>
        rw [e] at hx
        exact ⟨z, rfl, (Option.some.inj hx).symm⟩
    obtain ⟨z0, z1⟩ := hR.sz sz (List.mem_of_getElem? hj)
    have j9 : j ≤ 9 := by
      have := (List.getElem?_eq_some_iff.mp hj).1
      have := hR.le
      omega
    intro p hp
    have sp := same_upd (o := .dK []) hp
    obtain ⟨ks, t, hID, hpair, hks⟩ := hI
    obtain ⟨kv, a1, a2, a3, a4, a5⟩ := id hID
    have lk := len_keys a2
    have npd : p ≠ d := (ne_of_none a1 hp).symm
    refine ⟨fun σ G => ∃ (v5 v6 v7 : Option V), σ = [some (.ref a), some (.int n), some (.ref d), some (.int sz), some (.ref p), v5, v6, v7] ∧ (∀ b o, H' b = some o → G b = some o) ∧ IntP G p (-(12 * ((j + 1 : Nat) : Int))) (12 * ((j + 1 : Nat) : Int)) (fun g => rowU (rs.take (j + 1)) g 0), ?_, fun σ G hM => ?_⟩
    · refine ⟨d, .dK kv, sp _ _ a1, trivial, fun o1 => ?_⟩
      refine ⟨_, rfl, d, o1, kv, rfl, upd_same, ?_⟩
      refine for_it (walk_items (d := d) (o := o1) (kvs := kv)) (fun i σ G => ∃ (v5 v6 v7 : Option V) (ks' : List Int) (t' : Int → Int), σ = [some (.ref a), some (.int n), some (.ref d), some (.int sz), some (.ref p), v5, v6, v7] ∧ G d = some (.frz o1 (.dK kv)) ∧ (∀ b o, H' b = some o → b ≠ d → G b = some o) ∧
          IntD G p ks' t' ∧ (∀ g, pairI ks' t' g = pairI (ks.take i) t (opU sz g)) ∧ ∀ r ∈ ks', -(12 * ((j + 1 : Nat) : Int)) ≤ r ∧ r ≤ 12 * ((j + 1 : Nat) : Int))
        ⟨_, _, _, [], fun _ => 0, rfl, upd_same, fun b o e hb => by rw [upd_ne hb]; exact sp _ _ e, ⟨[], by rw [upd_ne npd, upd_same], rfl, (fun r hr => by cases hr), List.nodup_nil, fun r _ => rfl⟩, fun g => rfl, (fun r hr => by cases hr)⟩ (fun i σ G _ hP => ?_) (fun i x σ G G2 hi hP hy => ?_) (fun σ G hP => ?_)
      · obtain ⟨_, _, _, _, _, _, z, _⟩ := hP
        exact z
      · obtain ⟨T, x, y, rfl, hT, rfl, hx', hy'⟩ := hy
        obtain ⟨w5, w6, w7, ks', t', rfl, hf, keep, hI', hpr, hks'⟩ := hP
        obtain ⟨r, hr', rfl, rfl⟩ := int_at a2 a3 a4 hx' hy'
        have rk : r ∈ ks := List.mem_of_getElem? hr'
        obtain ⟨r0, r1⟩ := hks r rk
        have sT := same_upd (o := .tup [.int r, .int (t r)]) hT
        refine ⟨T, _, rfl, SqT.of upd_same, rfl, _, _, rfl, _, _, rfl, rfl, ?_⟩
        refine ⟨_, rfl, sz, rfl, _, rfl, sz, 1, rfl, rfl, -sz, sz + 1, 2, sz.toNat + 1, rfl, ⟨by decide, by decide, small2 (by omega) (by omega) (by omega) (by omega), size2 (by omega) (by omega)⟩, ?_⟩
        refine for_rangeC (lo := -sz) (c := 2) (n := sz.toNat + 1) (fun m σ G3 => ∃ (v7 : Option V) (ks' : List Int) (t' : Int → Int), σ = [some (.ref a), some (.int n), some (.ref d), some (.int sz), some (.ref p), some (.int r), some (.int (t r)), v7] ∧ G3 d = some (.frz o1 (.dK kv)) ∧ (∀ b o, H' b = some o → b ≠ d → G3 b = some o) ∧
            IntD G3 p ks' t' ∧ (∀ g, pairI ks' t' g = pairI (ks.take i) t (opU sz g) + t r * runS g (r - sz) m) ∧ ∀ r ∈ ks', -(12 * ((j + 1 : Nat) : Int)) ≤ r ∧ r ≤ 12 * ((j + 1 : Nat) : Int))
          ⟨_, ks', t', rfl, sT _ _ hf, fun b o e hb => sT _ _ (keep b o e hb), hI'.same sT, fun g => ?_, hks'⟩ (fun m σ G3 hm hP => ?_) (fun σ G3 hP => ?_)
        · rw [hpr g]
          show _ = _ + t r * 0
          rw [Int.mul_zero, Int.add_zero]
        · obtain ⟨w7, ks', t', rfl, hf, keep, hI', hpr, hks'⟩ := hP
          have ek : r + (-sz + (m : Nat) * 2) = r - sz + 2 * (m : Int) := by omega
          obtain ⟨o, dg, eo⟩ := got (r := r + (-sz + (m : Nat) * 2)) hI'
          obtain ⟨kvp, p1, p2, p3, p4, p5⟩ := id hI'
          refine ⟨_, rfl, p, rfl, .inl ⟨_, .inl p1⟩, _, rfl, _, rfl, r, -sz + (m : Nat) * 2, rfl, rfl, o, dg, ?_⟩
          rw [eo]
          have few : kvp.length < sizeLine := by
            have : ks'.length ≤ 1000 := nodup_len (lo := -500) 1000 p4 fun s hs => by
              have := hks' s hs
              omega
            rw [len_keys p2, sizeLine_eq]
            omega
          refine ⟨_, rfl, t' (r + (-sz + (m : Nat) * 2)), t r, rfl, rfl, _, rfl, _, rfl, _, rfl, r, -sz + (m : Nat) * 2, rfl, rfl, p, _, rfl, DPut.k (k := Sum.inl (r + (-sz + (m : Nat) * 2))) p1 few, ?_⟩
          refine ⟨_, addKey ks' (r + (-sz + (m : Nat) * 2)), setI t' (r + (-sz + (m : Nat) * 2)) (t' (r + (-sz + (m : Nat) * 2)) + t r), rfl, by rw [upd_ne npd.symm]; exact hf, fun b o e hb => ?_, putI_ok (H := G3) (d := p) (r := r + (-sz + (m : Nat) * 2)) p2 p3 p4 p5, fun g => ?_, fun s hs => ?_⟩
          · rw [upd_ne (ne_of_none e hp)]
            exact keep b o e hb
          · rw [pair_put p4 p5, hpr g, runS_succ, Int.mul_add, Int.add_assoc, ek]
          · rcases mem_addKey.mp hs with h | h
            · exact hks' s h
            · rw [h]
              omega
        · obtain ⟨w7, ks', t', rfl, hf, keep, hI', hpr, hks'⟩ := hP
          refine ⟨_, _, _, ks', t', rfl, hf, keep, hI', fun g => ?_, hks'⟩
          rw [hpr g, pair_take hr']
          rfl
      · obtain ⟨w5, w6, w7, ks', t', rfl, hf, keep, hI', hpr, hks'⟩ := hP
        refine ⟨hf, _, _, _, rfl, fun b o e => ?_, ks', t', hI'.upd npd, fun g => ?_, hks'⟩
        · by_cases hb : b = d
          · rw [hb, upd_same]
            rw [hb, a1] at e
            exact e
          · rw [upd_ne hb]
            exact keep b o e hb
        · rw [hpr g, lk, List.take_length, hpair, List.take_add_one, hj]
          show _ = rowU (rs.take j ++ [sz]) g 0
          rw [rowU_snoc]
    obtain ⟨w5, w6, w7, rfl, keep, hIP⟩ := hM
    exact ⟨_, rfl, p, _, _, _, _, _, rfl, fun b o e => keep _ _ (sm _ _ e), hIP⟩
end
end TC
/-! the mathematics of rows in other orders, cut, and counted whole. -/
namespace TCX
theorem runS_shift (h : Int → Int) (c : Int) : ∀ (n : Nat) (a : Int), runS (fun y => h (y + c)) a n = runS h (a + c) n
  | 0, _ => rfl
  | n + 1, a => by
    show h (a + c) + runS (fun y => h (y + c)) (a + 2) n = h (a + c) + runS h (a + c + 2) n
    rw [runS_shift h c n (a + 2), show a + 2 + c = a + c + 2 by omega]
theorem runS_swap (g : Int → Int) (m : Nat) : ∀ (n : Nat) (a b : Int), runS (fun y => runS g (y + b) m) a n = runS (fun y => runS g (y + a) n) b m
  | 0, a, b => (runS_zero m b).symm
  | n + 1, a, b => by
    show runS g (a + b) m + runS (fun y => runS g (y + b) m) (a + 2) n = runS (fun y => g (y + a) + runS g (y + a + 2) n) b m
    rw [runS_swap g m n (a + 2) b, runS_addF (fun y => g (y + a)) (fun y => runS g (y + a + 2) n), runS_shift g a m b, show b + a = a + b by omega]
    congr 2
    funext y
    rw [show y + (a + 2) = y + a + 2 by omega]
theorem opU_comm (s t : Int) (g : Int → Int) : opU s (opU t g) = opU t (opU s g) := by
  funext x
  have e1 : opU s (opU t g) x = runS (fun y => runS g (y + (x - s)) (s.toNat + 1)) (-t) (t.toNat + 1) := runS_swap g (t.toNat + 1) (s.toNat + 1) (x - s) (-t)
  have e2 : opU t (opU s g) x = runS (fun y => runS g (y + x - s) (s.toNat + 1)) (-t) (t.toNat + 1) := by
    have z := runS_shift (fun y => runS g (y - s) (s.toNat + 1)) x (t.toNat + 1) (-t)
    rw [show -t + x = x - t by omega] at z
    exact z.symm
  rw [e1, e2]
  congr 1
  funext y
  rw [show y + (x - s) = y + x - s by omega]
theorem rowU_perm {l m : List Int} (h : l.Perm m) (g : Int → Int) : rowU l g = rowU m g := by
  unfold rowU
  induction h with
  | nil => rfl
  | cons x _ ih =>
    show opU x _ = opU x _
    rw [ih]
  | swap x y l => exact opU_comm y x _
  | trans _ _ h1 h2 => exact h1.trans h2
theorem opU_zero (g : Int → Int) : opU 0 g = g := by
  funext x
  show g (x - 0) + 0 = g x
  rw [Int.sub_zero, Int.add_zero]
/-- how many ways lead through a row to n -/
def cnt : List Int → Int → Int
  | [], _ => 0
  | s :: rest, n => rowT rest (one n) s
theorem cnt_off {row : List Int} (ne : row ≠ []) (h : ∀ r ∈ row, 0 ≤ r) {n : Int} (n0 : 0 ≤ n) : cnt row n = rowU row (one n) 0 - rowU row (one (n + 2)) 0 := by
  cases row with
  | nil => exact absurd rfl ne
  | cons s rest => exact (by_offsets h n0).symm
theorem cnt_perm {l m : List Int} (p : l.Perm m) (h : ∀ r ∈ l, 0 ≤ r) {n : Int} (n0 : 0 ≤ n) : cnt l n = cnt m n := by
  by_cases ne : l = []
  · rw [ne] at p ⊢
    rw [List.Perm.nil_eq p]
  · have ne' : m ≠ [] := fun e => ne (by rw [e] at p; exact List.Perm.eq_nil p)
    rw [cnt_off ne h n0, cnt_off ne' (fun r hr => h r (p.mem_iff.mpr hr)) n0, rowU_perm p, rowU_perm p]
theorem cnt_zero {l : List Int} (ne : l ≠ []) (h : ∀ r ∈ l, 0 ≤ r) {n : Int} (n0 : 0 ≤ n) : cnt (0 :: l) n = cnt l n := by
  have h' : ∀ r ∈ 0 :: l, 0 ≤ r := fun r hr => by
    rcases List.mem_cons.mp hr with rfl | m
    · exact Int.le_refl _
    · exact h r m
  rw [cnt_off (by simp) h' n0, cnt_off ne h n0]
  have e : ∀ g, rowU (0 :: l) g = rowU l g := fun g => opU_zero _
  rw [e, e]
/-! ### linear -/
theorem runS_mul (c : Int) (h : Int → Int) : ∀ (n : Nat) (a : Int), runS (fun y => c * h y) a n = c * runS h a n
  | 0, _ => by
    show (0 : Int) = c * 0
    omega
  | n + 1, a => by
    show c * h a + runS (fun y => c * h y) (a + 2) n = c * (h a + runS h (a + 2) n)
    rw [runS_mul c h n, Int.mul_add]
theorem rowT_mul (c : Int) : ∀ (row : List Int) (g : Int → Int), rowT row (fun y => c * g y) = fun x => c * rowT row g x
  | [], _ => rfl
  | s :: row, g => by
    funext x
    show opT s (rowT row fun y => c * g y) x = _
    rw [rowT_mul c row g]
    exact runS_mul c _ _ _
theorem rowT_sum (row : List Int) (c : Int → Int) (x : Int) : ∀ ns : List Int, rowT row (fun y => (ns.map fun z => c z * one z y).sum) x = (ns.map fun z => c z * rowT row (one z) x).sum
  | [] => rowT_zero row x
  | z :: ns => by
    show rowT row (fun y => c z * one z y + (ns.map fun z => c z * one z y).sum) x = c z * rowT row (one z) x + _
    rw [rowT_add]
    dsimp only
    rw [rowT_mul, rowT_sum row c x ns]
    rfl
/-- the sizes to which so much may come -/
def keysN (S : Int) : List Int := (List.range ((S / 2).toNat + 1)).map fun i => S % 2 + 2 * ((i : Nat) : Int)
theorem keysN_mem {S y : Int} (S0 : 0 ≤ S) : y ∈ keysN S ↔ 0 ≤ y ∧ y ≤ S ∧ (S - y) % 2 = 0 := by
  unfold keysN
  constructor
  · intro h
    obtain ⟨i, hi, rfl⟩ := List.mem_map.mp h
    have := List.mem_range.mp hi
    omega
  · rintro ⟨h1, h2, h3⟩
    exact List.mem_map.mpr ⟨(y / 2).toNat, List.mem_range.mpr (by omega), by omega⟩
theorem keysN_nd (S : Int) : (keysN S).Nodup := by
  unfold keysN
  refine List.Pairwise.map _ (fun i j hij e => hij ?_) (List.nodup_range (n := _))
  omega
theorem sum_hit (c : Int → Int) (y : Int) : ∀ {ns : List Int}, ns.Nodup → (ns.map fun z => c z * one z y).sum = if y ∈ ns then c y else 0
  | [], _ => rfl
  | z :: ns, h => by
    obtain ⟨h1, h2⟩ := List.nodup_cons.mp h
    show c z * one z y + (ns.map fun z => c z * one z y).sum = _
    rw [sum_hit c y h2]
    unfold one
    by_cases e : y = z
    · subst e
      rw [if_pos rfl, if_neg h1, if_pos (by simp)]
      omega
    · rw [if_neg e]
      by_cases m : y ∈ ns
      · rw [if_pos m, if_pos (List.mem_cons_of_mem _ m)]
        omega
      · rw [if_neg m, if_neg fun w => (List.mem_cons.mp w).elim e m]
        omega
theorem rowT_reach : ∀ {row : List Int} {x : Int} {g g' : Int → Int}, (∀ s ∈ row, 0 ≤ s) → 0 ≤ x → (∀ y, 0 ≤ y → y ≤ x + row.sum → (x + row.sum - y) % 2 = 0 → g y = g' y) → rowT row g x = rowT row g' x
  | [], x, g, g', _, hx, h => h x hx (by simp) (by simp)
  | s :: row, x, g, g', h0, hx, h => by
    show runS (rowT row g) (loJ x s) (manyE x s) = runS (rowT row g') (loJ x s) (manyE x s)
    have hs := h0 s (by simp)
    refine runS_congr _ _ fun i hi => ?_
    have l0 := loJ_nn x s
    have e : loJ x s + 2 * (i : Int) ≤ x + s ∧ (x + s - (loJ x s + 2 * (i : Int))) % 2 = 0 := by
      unfold manyE at hi
      unfold loJ
      split at hi <;> split <;> omega
    refine rowT_reach (fun t ht => h0 t (List.mem_cons_of_mem _ ht)) (by omega) fun y y0 y1 y2 => h y y0 ?_ ?_
    · rw [List.sum_cons]
      omega
    · rw [List.sum_cons]
      omega
theorem rowT_expand {row : List Int} {x : Int} (g : Int → Int) (h : ∀ s ∈ row, 0 ≤ s) (hx : 0 ≤ x) (hS : 0 ≤ x + row.sum) : rowT row g x = ((keysN (x + row.sum)).map fun z => g z * rowT row (one z) x).sum := by
  rw [← rowT_sum]
  refine rowT_reach h hx fun y y0 y1 y2 => ?_
  rw [sum_hit g y (keysN_nd _), if_pos ((keysN_mem hS).mpr ⟨y0, y1, y2⟩)]
/-! ### all of them -/
theorem runS_dim : ∀ (n : Nat) (a : Int), runS (fun y => y + 1) a n = (n : Int) * (a + (n : Int))
  | 0, a => by
    show (0 : Int) = 0 * _
    rw [Int.zero_mul]
  | n + 1, a => by
    show a + 1 + runS (fun y => y + 1) (a + 2) n = _
    rw [runS_dim n (a + 2)]
    have e : ((n + 1 : Nat) : Int) = (n : Int) + 1 := by omega
    rw [e]
    generalize (n : Int) = m
    grind
theorem opT_dim {s x : Int} (hs : 0 ≤ s) (hx : 0 ≤ x) : opT s (fun y => y + 1) x = (s + 1) * (x + 1) := by
  unfold opT
  rw [runS_dim]
  unfold loJ manyE
  by_cases h : x ≤ s
  · rw [if_pos h]
    have e : ((x.toNat + 1 : Nat) : Int) = x + 1 := by omega
    rw [e]
    by_cases h2 : x - s < 0
    · rw [if_pos h2]
      grind
    · rw [if_neg h2]
      have : x = s := by omega
      subst this
      grind
  · rw [if_neg h, if_neg (by omega)]
    have e : ((s.toNat + 1 : Nat) : Int) = s + 1 := by omega
    rw [e]
    grind
def prodW (row : List Int) : Int := row.foldl (fun p s => p * (s + 1)) 1
def prodR : List Int → Int
  | [] => 1
  | s :: row => (s + 1) * prodR row
theorem rowT_dim : ∀ {row : List Int}, (∀ s ∈ row, 0 ≤ s) → ∀ x, 0 ≤ x → rowT row (fun y => y + 1) x = prodR row * (x + 1)
  | [], _, x, _ => by
    show x + 1 = 1 * (x + 1)
    omega
  | s :: row, h, x, hx => by
    show opT s (rowT row fun y => y + 1) x = (s + 1) * prodR row * (x + 1)
    rw [opT_congr (g' := fun y => prodR row * (y + 1)) fun y hy => rowT_dim (fun t ht => h t (List.mem_cons_of_mem _ ht)) y hy]
    unfold opT
    rw [runS_mul]
    have z := opT_dim (h s (by simp)) hx
    unfold opT at z
    rw [z]
    grind
theorem sum_nn : ∀ {row : List Int}, (∀ s ∈ row, 0 ≤ s) → 0 ≤ row.sum
  | [], _ => Int.le_refl _
  | s :: row, h => by
    rw [List.sum_cons]
    have := h s (by simp)
    have := sum_nn fun t ht => h t (List.mem_cons_of_mem _ ht)
    omega
/-- all counts, each as often as its size has offsets -/
theorem cnt_all {row : List Int} (ne : row ≠ []) (h : ∀ s ∈ row, 0 ≤ s) : ((keysN row.sum).map fun n => cnt row n * (n + 1)).sum = prodR row := by
  cases row with
  | nil => exact absurd rfl ne
  | cons s rest =>
    have hs := h s (by simp)
    have hr : ∀ t ∈ rest, 0 ≤ t := fun t ht => h t (List.mem_cons_of_mem _ ht)
    have S0 := sum_nn h
    rw [List.sum_cons] at S0
    have e := rowT_expand (fun y => y + 1) hr hs S0
    rw [rowT_dim hr s hs] at e
    show ((keysN (s :: rest).sum).map fun n => rowT rest (one n) s * (n + 1)).sum = (s + 1) * prodR rest
    rw [List.sum_cons, Int.mul_comm (s + 1), e]
    congr 1
    exact List.map_congr_left fun z _ => Int.mul_comm _ _
/-! ### cut -/
theorem rowT_app (r q : List Int) (g : Int → Int) : rowT (r ++ q) g = rowT r (rowT q g) := by
  unfold rowT
  rw [List.foldr_append]
/-- the counts of both parts that join -/
theorem cnt_cut {A B : List Int} (nA : A ≠ []) (nB : B ≠ []) (hA : ∀ s ∈ A, 0 ≤ s) (hB : ∀ s ∈ B, 0 ≤ s) {n : Int} (n0 : 0 ≤ n) :
    cnt (A ++ B) n = ((keysN A.sum).map fun x => ((keysN B.sum).map fun y => cnt A x * cnt B y * opT y (one n) x).sum).sum := by
  cases A with
  | nil => exact absurd rfl nA
  | cons s r =>
    cases B with
    | nil => exact absurd rfl nB
    | cons t q =>
      have hs := hA s (by simp)
      have ht := hB t (by simp)
      have hr : ∀ z ∈ r, 0 ≤ z := fun z hz => hA z (List.mem_cons_of_mem _ hz)
      have hq : ∀ z ∈ q, 0 ≤ z := fun z hz => hB z (List.mem_cons_of_mem _ hz)
      have SA := sum_nn hA
      have SB := sum_nn hB
      rw [List.sum_cons] at SA SB
      show rowT (r ++ t :: q) (one n) s = ((keysN (s :: r).sum).map fun x => ((keysN (t :: q).sum).map fun y => rowT r (one x) s * rowT q (one y) t * opT y (one n) x).sum).sum
      rw [rowT_app, rowT_expand _ hr hs SA, List.sum_cons, List.sum_cons]
      congr 1
      refine List.map_congr_left fun x hx => ?_
      have x0 := ((keysN_mem SA).mp hx).1
      have e1 : rowT (t :: q) (one n) x = cnt (x :: t :: q) n := rfl
      have hx3 : ∀ z ∈ x :: t :: q, 0 ≤ z := fun z hz => by
        rcases List.mem_cons.mp hz with rfl | m
        · exact x0
        · exact hB z m
      have p : (x :: t :: q).Perm (t :: (q ++ [x])) := by
        refine (List.Perm.swap t x q).trans (List.Perm.cons t ?_)
        exact (List.perm_append_singleton x q).symm
      rw [e1, cnt_perm p hx3 n0]
      show rowT (q ++ [x]) (one n) t * _ = _
      rw [rowT_snoc, rowT_expand _ hq ht SB]
      have e3 : ∀ (l : List Int) (f : Int → Int) (c : Int), (l.map f).sum * c = (l.map fun y => f y * c).sum := fun l f c => by
        induction l with
        | nil => exact Int.zero_mul c
        | cons a l ih =>
          rw [List.map_cons, List.sum_cons, List.map_cons, List.sum_cons, Int.add_mul, ih]
      rw [e3]
      congr 1
      refine List.map_congr_left fun y hy => ?_
      have y0 := ((keysN_mem SB).mp hy).1
      have e4 : opT x (one n) y = opT y (one n) x := by
        rw [opT_one x0 y0 n0, opT_one y0 x0 n0]
        by_cases c : (y + x + n) % 2 = 0 ∧ y ≤ x + n ∧ x ≤ y + n ∧ n ≤ y + x
        · rw [if_pos c, if_pos (by omega)]
        · rw [if_neg c, if_neg (by omega)]
      rw [e4]
      grind
end TCX
/-! the mathematics of all labels, rising. -/
namespace TCX
def upI : Int → Nat → List Int
  | _, 0 => []
  | a, m + 1 => a :: upI (a + 2) m
theorem upI_mem : ∀ {m : Nat} {a y : Int}, y ∈ upI a m ↔ ∃ i : Nat, i < m ∧ y = a + 2 * (i : Int)
  | 0, a, y => by
    constructor
    · intro h
      cases h
    · rintro ⟨i, h, _⟩
      omega
  | m + 1, a, y => by
    show y ∈ a :: upI (a + 2) m ↔ _
    rw [List.mem_cons, upI_mem]
    constructor
    · rintro (h | ⟨i, h1, h2⟩)
      · exact ⟨0, by omega, by omega⟩
      · exact ⟨i + 1, by omega, by omega⟩
    · rintro ⟨i, h1, h2⟩
      cases i with
      | zero => exact .inl (by omega)
      | succ i => exact .inr ⟨i, by omega, by omega⟩
theorem upI_len : ∀ (m : Nat) (a : Int), (upI a m).length = m
  | 0, _ => rfl
  | m + 1, a => by
    show (upI (a + 2) m).length + 1 = _
    rw [upI_len]
theorem upI_get : ∀ {m : Nat} {a : Int} {i : Nat}, i < m → (upI a m)[i]? = some (a + 2 * (i : Int))
  | 0, _, _, h => absurd h (by omega)
  | m + 1, a, 0, _ => by
    show some a = _
    congr 1
    omega
  | m + 1, a, i + 1, h => by
    show (upI (a + 2) m)[i]? = _
    rw [upI_get (by omega)]
    congr 1
    omega
/-- all labels that lead from x to n, rising -/
def labs : List Int → Int → Int → List (List Int)
  | [], x, n => if x = n then [[]] else []
  | s :: r, x, n => (upI (loJ x s) (manyE x s)).flatMap fun c => (labs r c n).map (c :: ·)
theorem blk_len {F : Int → List (List Int)} : ∀ (m : Nat) (a : Int), (((upI a m).flatMap F).length : Int) = runS (fun y => ((F y).length : Int)) a m
  | 0, _ => rfl
  | m + 1, a => by
    show ((F a ++ (upI (a + 2) m).flatMap F).length : Int) = _ + _
    rw [List.length_append, Int.natCast_add, blk_len m (a + 2)]
theorem labs_len : ∀ (r : List Int) (x n : Int), ((labs r x n).length : Int) = rowT r (one n) x
  | [], x, n => by
    show ((if x = n then [[]] else [] : List (List Int)).length : Int) = one n x
    unfold one
    split <;> rfl
  | s :: r, x, n => by
    show (((upI (loJ x s) (manyE x s)).flatMap fun c => (labs r c n).map (c :: ·)).length : Int) = runS (rowT r (one n)) (loJ x s) (manyE x s)
    rw [blk_len]
    refine runS_congr _ _ fun i _ => ?_
    rw [List.length_map]
    exact labs_len r _ n
theorem labs_lab : ∀ {r : List Int} {x n : Int} {l : List Int}, l ∈ labs r x n → labB r x l n
  | [], x, n, l, h => by
    unfold labs at h
    by_cases e : x = n
    · rw [if_pos e] at h
      rw [List.mem_singleton.mp h]
      exact e
    · rw [if_neg e] at h
      cases h
  | s :: r, x, n, l, h => by
    obtain ⟨c, hc, hl⟩ := List.mem_flatMap.mp h
    obtain ⟨l', hl', rfl⟩ := List.mem_map.mp hl
    exact ⟨upI_mem.mp hc, labs_lab hl'⟩
theorem blk_get {F : Int → List (List Int)} : ∀ {m : Nat} {a : Int} {k : Nat} {l : List Int}, ((upI a m).flatMap F)[k]? = some l →
    ∃ (i k' : Nat), i < m ∧ (F (a + 2 * (i : Int)))[k']? = some l ∧ (k : Int) = runS (fun y => if y < a + 2 * (i : Int) then ((F y).length : Int) else 0) a m + (k' : Int)
  | 0, a, k, l, h => by cases h
  | m + 1, a, k, l, h => by
    have h' : (F a ++ (upI (a + 2) m).flatMap F)[k]? = some l := h
    by_cases z : k < (F a).length
    · rw [List.getElem?_append_left z] at h'
      refine ⟨0, k, by omega, by rw [show a + 2 * ((0 : Nat) : Int) = a by omega]; exact h', ?_⟩
      rw [runS_none (m + 1) a fun i _ => by
        rw [if_neg (by omega)]]
      omega
    · rw [List.getElem?_append_right (by omega)] at h'
      obtain ⟨i, k', h1, h2, h3⟩ := blk_get h'
      have ea : a + 2 * ((i + 1 : Nat) : Int) = a + 2 + 2 * (i : Int) := by omega
      refine ⟨i + 1, k', by omega, by rw [ea]; exact h2, ?_⟩
      rw [ea]
      show _ = (if a < a + 2 + 2 * (i : Int) then ((F a).length : Int) else 0) + runS (fun y => if y < a + 2 + 2 * (i : Int) then ((F y).length : Int) else 0) (a + 2) m + (k' : Int)
      rw [if_pos (by omega)]
      omega
/-- the k-th label has the rank k -/
theorem labs_rank : ∀ {r : List Int} {x n : Int} {k : Nat} {l : List Int}, (labs r x n)[k]? = some l → rankL r x l n = (k : Int)
  | [], x, n, k, l, h => by
    unfold labs at h
    by_cases e : x = n
    · rw [if_pos e] at h
      cases k with
      | zero => exact rfl
      | succ k => cases h
    · rw [if_neg e] at h
      cases h
  | s :: r, x, n, k, l, h => by
    obtain ⟨i, k', h1, h2, h3⟩ := blk_get h
    rw [List.getElem?_map] at h2
    obtain ⟨l', hl', rfl⟩ := Option.map_eq_some_iff.mp h2
    have ih := labs_rank hl'
    show lessS (rowT r (one n)) x s (loJ x s + 2 * (i : Int)) + rankL r (loJ x s + 2 * (i : Int)) l' n = _
    rw [ih, h3]
    congr 1
    unfold lessS
    refine runS_congr _ _ fun j _ => ?_
    rw [List.length_map, labs_len]
/-! ### built from the left -/
def lastD (x : Int) (l : List Int) : Int := l.getLast?.getD x
theorem lastD_snoc (x c : Int) (l : List Int) : lastD x (l ++ [c]) = c := by
  unfold lastD
  simp
def stepL (x t : Int) (p : Int → Bool) (F : List (List Int)) : List (List Int) := F.flatMap fun l => ((upI (loJ (lastD x l) t) (manyE (lastD x l) t)).filter p).map fun c => l ++ [c]
/-- what the list so far stands for -/
def InvL (rest : List Int) (x n : Int) (k : Nat) (F : List (List Int)) : Prop :=
  F.flatMap (fun l => (labs (rest.drop k) (lastD x l) n).map (l ++ ·)) = labs rest x n ∧ (∀ l ∈ F, l.length = k ∧ 0 < rowT (rest.drop k) (one n) (lastD x l)) ∧ ∀ l ∈ F, ∀ c ∈ l, 0 ≤ c ∧ c ≤ 12 + 12 * (k : Int)
theorem inv_start {rest : List Int} {x n : Int} (h : 0 < rowT rest (one n) x) : InvL rest x n 0 [[]] := by
  refine ⟨?_, fun l hl => ?_, fun l hl c hc => ?_⟩
  · show (labs rest x n).map ([] ++ ·) ++ [] = labs rest x n
    rw [List.append_nil]
    exact List.map_id _
  · rw [List.mem_singleton.mp hl]
    exact ⟨rfl, h⟩
  · rw [List.mem_singleton.mp hl] at hc
    cases hc
theorem flat_filter {α β : Type} (p : α → Bool) (f : α → List β) : ∀ {l : List α}, (∀ a ∈ l, p a = false → f a = []) → (l.filter p).flatMap f = l.flatMap f
  | [], _ => rfl
  | a :: l, h => by
    have ih := flat_filter p f (l := l) fun b hb => h b (List.mem_cons_of_mem _ hb)
    cases e : p a with
    | true =>
      rw [List.filter_cons_of_pos e, List.flatMap_cons, List.flatMap_cons, ih]
    | false =>
      rw [List.filter_cons_of_neg (by rw [e]; exact Bool.false_ne_true), List.flatMap_cons, h a (by simp) e, List.nil_append, ih]
theorem flat_flat {α β γ : Type} (f : α → List β) (g : β → List γ) : ∀ l : List α, (l.flatMap f).flatMap g = l.flatMap fun a => (f a).flatMap g
  | [] => rfl
  | a :: l => by
    rw [List.flatMap_cons, List.flatMap_append, List.flatMap_cons, flat_flat f g l]
theorem flat_map {α β γ : Type} (f : α → β) (g : β → List γ) : ∀ l : List α, (l.map f).flatMap g = l.flatMap fun a => g (f a)
  | [] => rfl
  | a :: l => by
    rw [List.map_cons, List.flatMap_cons, List.flatMap_cons, flat_map f g l]
theorem flat_congr {α β : Type} {f g : α → List β} : ∀ {l : List α}, (∀ a ∈ l, f a = g a) → l.flatMap f = l.flatMap g
  | [], _ => rfl
  | a :: l, h => by
    rw [List.flatMap_cons, List.flatMap_cons, h a (by simp), flat_congr fun b hb => h b (List.mem_cons_of_mem _ hb)]
theorem map_flat {α β γ : Type} (f : α → List β) (g : β → γ) : ∀ l : List α, (l.flatMap f).map g = l.flatMap fun a => (f a).map g
  | [] => rfl
  | a :: l => by
    rw [List.flatMap_cons, List.map_append, List.flatMap_cons, map_flat f g l]
theorem inv_step {rest : List Int} {x n t : Int} {k : Nat} {F : List (List Int)} {p : Int → Bool} (h : InvL rest x n k F) (hk : rest[k]? = some t) (hs : ∀ s ∈ rest, 0 ≤ s ∧ s ≤ 12) (x0 : 0 ≤ x ∧ x ≤ 12) (hp : ∀ c, 0 ≤ c → (p c = true ↔ 0 < rowT (rest.drop (k + 1)) (one n) c)) : InvL rest x n (k + 1) (stepL x t p F) := by
  obtain ⟨h1, h2, h3⟩ := h
  have ed : rest.drop k = t :: rest.drop (k + 1) := by
    obtain ⟨hl, e⟩ := List.getElem?_eq_some_iff.mp hk
    rw [← e]
    exact List.drop_eq_getElem_cons hl
  have t0 := hs t (List.mem_of_getElem? hk)
  have lst : ∀ l ∈ F, 0 ≤ lastD x l ∧ lastD x l ≤ 12 + 12 * (k : Int) := fun l hl => by
    unfold lastD
    cases e : l.getLast? with
    | none => exact ⟨x0.1, by show x ≤ _; omega⟩
    | some c =>
      have m := List.mem_of_getLast? e
      exact h3 l hl c m
  refine ⟨?_, fun l hl => ?_, fun l hl c hc => ?_⟩
  · rw [← h1]
    unfold stepL
    rw [flat_flat]
    refine flat_congr fun l hl => ?_
    rw [flat_map, ed]
    show _ = ((upI (loJ (lastD x l) t) (manyE (lastD x l) t)).flatMap fun c => (labs (rest.drop (k + 1)) c n).map (c :: ·)).map (l ++ ·)
    rw [map_flat, flat_filter]
    · refine flat_congr fun c hc => ?_
      rw [lastD_snoc, List.map_map]
      refine List.map_congr_left fun m _ => ?_
      show l ++ [c] ++ m = l ++ (c :: m)
      rw [List.append_assoc]
      rfl
    · intro c hc pc
      obtain ⟨i, _, ec⟩ := upI_mem.mp hc
      have l0 := loJ_nn (lastD x l) t
      have z : ¬ 0 < rowT (rest.drop (k + 1)) (one n) c := fun z => by
        rw [(hp c (by omega)).mpr z] at pc
        cases pc
      rw [lastD_snoc]
      have e := labs_len (rest.drop (k + 1)) c n
      have : (labs (rest.drop (k + 1)) c n).length = 0 := by omega
      rw [List.length_eq_zero_iff.mp this]
      rfl
  · obtain ⟨l', hl', hcm⟩ := List.mem_flatMap.mp hl
    obtain ⟨c, hc2, rfl⟩ := List.mem_map.mp hcm
    obtain ⟨m1, m2⟩ := List.mem_filter.mp hc2
    obtain ⟨i, _, ec⟩ := upI_mem.mp m1
    have l0 := loJ_nn (lastD x l') t
    refine ⟨by rw [List.length_append, (h2 l' hl').1]; rfl, ?_⟩
    rw [lastD_snoc]
    exact (hp c (by omega)).mp m2
  · obtain ⟨l', hl', hcm⟩ := List.mem_flatMap.mp hl
    obtain ⟨c', hc2, rfl⟩ := List.mem_map.mp hcm
    obtain ⟨m1, m2⟩ := List.mem_filter.mp hc2
    obtain ⟨i, hi, ec⟩ := upI_mem.mp m1
    have l0 := loJ_nn (lastD x l') t
    have l1 := lst l' hl'
    rcases List.mem_append.mp hc with m | m
    · have := h3 l' hl' c m
      omega
    · rw [List.mem_singleton.mp m]
      have e : c' ≤ lastD x l' + t := inJ_le l1.1 t0.1 ⟨i, hi, ec⟩
      omega
theorem flat_single {α : Type} : ∀ l : List α, l.flatMap (fun a => [a]) = l
  | [] => rfl
  | a :: l => by
    rw [List.flatMap_cons, flat_single l]
    rfl
theorem inv_end {rest : List Int} {x n : Int} {F : List (List Int)} (h : InvL rest x n rest.length F) : F = labs rest x n := by
  obtain ⟨h1, h2, _⟩ := h
  rw [← h1]
  have e : F.flatMap (fun l => (labs (rest.drop rest.length) (lastD x l) n).map (l ++ ·)) = F.flatMap fun l => [l] := flat_congr fun l hl => by
    have z := (h2 l hl).2
    rw [List.drop_length] at z ⊢
    have z' : 0 < one n (lastD x l) := z
    have e : lastD x l = n := by
      unfold one at z'
      split at z'
      · assumption
      · omega
    unfold labs
    rw [if_pos e]
    show [l ++ []] = [l]
    rw [List.append_nil]
  rw [e]
  exact (flat_single F).symm
/-- few sizes have few labels -/
theorem few_labs {rest : List Int} {x n : Int} (l2 : rest.length ≤ 2) (hs : ∀ s ∈ rest, 0 ≤ s ∧ s ≤ 12) (x0 : 0 ≤ x ∧ x ≤ 12) (n0 : 0 ≤ n) : (labs rest x n).length ≤ 13 := by
  have e := labs_len rest x n
  have o1 : ∀ {s y : Int}, 0 ≤ s → 0 ≤ y → rowT [s] (one n) y ≤ 1 := fun {s y} h1 h2 => by
    show opT s (one n) y ≤ 1
    rw [opT_one h1 h2 n0]
    split <;> omega
  have z : rowT rest (one n) x ≤ 13 := by
    match rest, l2 with
    | [], _ =>
      show one n x ≤ 13
      unfold one
      split <;> omega
    | [s], _ =>
      have := o1 (hs s (by simp)).1 x0.1
      omega
    | [s, t], _ =>
      have h1 := hs s (by simp)
      have h2 := hs t (by simp)
      show runS (rowT [t] (one n)) (loJ x s) (manyE x s) ≤ 13
      have b : ∀ (m : Nat) (a : Int), 0 ≤ a → runS (rowT [t] (one n)) a m ≤ (m : Int) := fun m => by
        induction m with
        | zero => exact fun _ _ => Int.le_refl _
        | succ m ih =>
          intro a a0
          show rowT [t] (one n) a + runS (rowT [t] (one n)) (a + 2) m ≤ _
          have h3 := o1 h2.1 a0
          have h4 := ih (a + 2) (by omega)
          omega
      have h3 := b (manyE x s) (loJ x s) (loJ_nn x s)
      have h4 : ((manyE x s : Nat) : Int) ≤ 13 := by
        unfold manyE
        split <;> omega
      omega
  omega
end TCX
/-! [.. for x in t for y in x], of tuples: the walks. -/
namespace TCX
open PySem PySem.Spec PyProof.Rows L2
section
variable {K : PySem.W.Frag} {g g1 : TG} {tt tt1 : TT} {te : TE} {vs vs1 : List Nat} {σ σ2 : L2.St} {D : Addr}
/-- what the inner walk owes -/
def Inn (g1 : TG) (tt1 : TT) (te : TE) (vs1 : List Nat) (σ2 : L2.St) (D : Addr) (Nx : Hp → Prop) (J1 : L2.It) (H4 : Hp) : Prop := ∃ W1 : Nat → Nat → Hp → Prop, (∃ m, W1 0 m H4) ∧ ∀ j k H, W1 j k H →
      (J1.stop j H ∧ Nx H) ∨ (J1.go j H ∧ ∃ Nx1 : Hp → Prop, (∀ H', Nx1 H' → ∃ k', k' < k ∧ W1 (j + 1) k' H') ∧ ∀ x H', J1.yld j H x H' → g1 x (wipe σ2 vs1) H' fun σ3 H5 => wipe σ3 vs1 = wipe σ2 vs1 ∧ tt1 σ3 H5 fun b H6 =>
        if b = true then te σ3 H6 fun y H7 => ∃ acc, H7 D = some (.lst acc) ∧ acc.length < sizeLine ∧ Nx1 (upd H7 D (.lst (acc ++ [y]))) else Nx1 H6)
theorem inn_tup {b : Addr} {ys : List V} {Nx : Hp → Prop} {H4 : Hp} (R : Nat → Hp → Prop) (h0 : R 0 H4) (hl : ∀ j H, j ≤ ys.length → R j H → SqT K H b ys)
    (hs : ∀ j x H, ys[j]? = some x → R j H → g1 x (wipe σ2 vs1) H fun σ3 H5 => wipe σ3 vs1 = wipe σ2 vs1 ∧ tt1 σ3 H5 fun b H6 =>
      if b = true then te σ3 H6 fun y H7 => ∃ acc, H7 D = some (.lst acc) ∧ acc.length < sizeLine ∧ R (j + 1) (upd H7 D (.lst (acc ++ [y]))) else R (j + 1) H6)
    (hd : ∀ H, R ys.length H → Nx H) : Inn g1 tt1 te vs1 σ2 D Nx (Itt K b) H4 := by
  refine ⟨fun i m H => m = ys.length - i ∧ i ≤ ys.length ∧ R i H, ⟨ys.length, by simp, Nat.zero_le _, h0⟩, ?_⟩
  rintro i m H ⟨rfl, hi, p⟩
  have q := hl i H hi p
  by_cases hlt : i < ys.length
  · refine .inr ⟨⟨ys, ys[i], q, by simp [hlt]⟩, R (i + 1), fun H' p' => ⟨ys.length - (i + 1), by omega, rfl, hlt, p'⟩, fun x H' y => ?_⟩
    obtain ⟨e, y⟩ := y
    subst e
    exact hs i x _ (y ys q) p
  · have e : i = ys.length := by omega
    subst e
    exact .inl ⟨⟨ys, q, Nat.le_refl _⟩, hd H p⟩
/-- the outer walk -/
theorem out_tup {a : Addr} {xs : List V} {wi1 : TI} {H1 : Hp} {Qd : Hp → Prop} (R : Nat → Hp → Prop) (h0 : R 0 (upd H1 D (.lst []))) (hl : ∀ i H, i ≤ xs.length → R i H → SqT K H a xs)
    (hs : ∀ i x H, xs[i]? = some x → R i H → g x (wipe σ vs) H fun σ2 H2 => wipe σ2 vs = wipe σ vs ∧ tt σ2 H2 fun b H3 =>
      if b = true then wi1 σ2 H3 fun J1 H4 => Inn g1 tt1 te vs1 σ2 D (R (i + 1)) J1 H4 else R (i + 1) H3)
    (hd : ∀ H, R xs.length H → Qd H) :
    ∃ W : Nat → Nat → Hp → Prop, (∃ m, W 0 m (upd H1 D (.lst []))) ∧ ∀ i m H, W i m H →
      ((Itt K a).stop i H ∧ Qd H) ∨ ((Itt K a).go i H ∧ ∃ Nx : Hp → Prop, (∀ H', Nx H' → ∃ m', m' < m ∧ W (i + 1) m' H') ∧ ∀ x H', (Itt K a).yld i H x H' → g x (wipe σ vs) H' fun σ2 H2 => wipe σ2 vs = wipe σ vs ∧ tt σ2 H2 fun b H3 =>
        if b = true then wi1 σ2 H3 fun J1 H4 => ∃ W1 : Nat → Nat → Hp → Prop, (∃ m, W1 0 m H4) ∧ ∀ j k H, W1 j k H →
          (J1.stop j H ∧ Nx H) ∨ (J1.go j H ∧ ∃ Nx1 : Hp → Prop, (∀ H', Nx1 H' → ∃ k', k' < k ∧ W1 (j + 1) k' H') ∧ ∀ x H', J1.yld j H x H' → g1 x (wipe σ2 vs1) H' fun σ3 H5 => wipe σ3 vs1 = wipe σ2 vs1 ∧ tt1 σ3 H5 fun b H6 =>
            if b = true then te σ3 H6 fun y H7 => ∃ acc, H7 D = some (.lst acc) ∧ acc.length < sizeLine ∧ Nx1 (upd H7 D (.lst (acc ++ [y]))) else Nx1 H6)
        else Nx H3) := by
  refine ⟨fun i m H => m = xs.length - i ∧ i ≤ xs.length ∧ R i H, ⟨xs.length, by simp, Nat.zero_le _, h0⟩, ?_⟩
  rintro i m H ⟨rfl, hi, p⟩
  have q := hl i H hi p
  by_cases hlt : i < xs.length
  · refine .inr ⟨⟨xs, xs[i], q, by simp [hlt]⟩, R (i + 1), fun H' p' => ⟨xs.length - (i + 1), by omega, rfl, hlt, p'⟩, fun x H' y => ?_⟩
    obtain ⟨e, y⟩ := y
    subst e
    exact hs i x _ (y xs q) p
  · have e : i = xs.length := by omega
    subst e
    exact .inl ⟨⟨xs, q, Nat.le_refl _⟩, hd H p⟩
end
end TCX
/-! [.. for x in t for y in x], of lists: the walks. -/
namespace TCX
open PySem PySem.Spec PyProof.Rows L2
section
variable {K : PySem.W.Frag} {g g1 : TG} {tt tt1 : TT} {te : TE} {vs vs1 : List Nat} {σ σ2 : L2.St} {D : Addr}
theorem inn_lst {b : Addr} {ys : List V} {Nx : Hp → Prop} {H4 : Hp} (R : Nat → Hp → Prop) (h0 : R 0 H4) (hl : ∀ j H, j ≤ ys.length → R j H → SqL K H b ys)
    (hs : ∀ j x H, ys[j]? = some x → R j H → g1 x (wipe σ2 vs1) H fun σ3 H5 => wipe σ3 vs1 = wipe σ2 vs1 ∧ tt1 σ3 H5 fun b H6 =>
      if b = true then te σ3 H6 fun y H7 => ∃ acc, H7 D = some (.lst acc) ∧ acc.length < sizeLine ∧ R (j + 1) (upd H7 D (.lst (acc ++ [y]))) else R (j + 1) H6)
    (hd : ∀ H, R ys.length H → Nx H) : Inn g1 tt1 te vs1 σ2 D Nx (Itl K b) H4 := by
  refine ⟨fun i m H => m = ys.length - i ∧ i ≤ ys.length ∧ R i H, ⟨ys.length, by simp, Nat.zero_le _, h0⟩, ?_⟩
  rintro i m H ⟨rfl, hi, p⟩
  have q := hl i H hi p
  by_cases hlt : i < ys.length
  · refine .inr ⟨⟨ys, ys[i], q, by simp [hlt]⟩, R (i + 1), fun H' p' => ⟨ys.length - (i + 1), by omega, rfl, hlt, p'⟩, fun x H' y => ?_⟩
    obtain ⟨e, y⟩ := y
    subst e
    exact hs i x _ (y ys q) p
  · have e : i = ys.length := by omega
    subst e
    exact .inl ⟨⟨ys, q, Nat.le_refl _⟩, hd H p⟩
/-- the outer walk -/
theorem out_lst {a : Addr} {xs : List V} {wi1 : TI} {H1 : Hp} {Qd : Hp → Prop} (R : Nat → Hp → Prop) (h0 : R 0 (upd H1 D (.lst []))) (hl : ∀ i H, i ≤ xs.length → R i H → SqL K H a xs)
    (hs : ∀ i x H, xs[i]? = some x → R i H → g x (wipe σ vs) H fun σ2 H2 => wipe σ2 vs = wipe σ vs ∧ tt σ2 H2 fun b H3 =>
      if b = true then wi1 σ2 H3 fun J1 H4 => Inn g1 tt1 te vs1 σ2 D (R (i + 1)) J1 H4 else R (i + 1) H3)
    (hd : ∀ H, R xs.length H → Qd H) :
    ∃ W : Nat → Nat → Hp → Prop, (∃ m, W 0 m (upd H1 D (.lst []))) ∧ ∀ i m H, W i m H →
      ((Itl K a).stop i H ∧ Qd H) ∨ ((Itl K a).go i H ∧ ∃ Nx : Hp → Prop, (∀ H', Nx H' → ∃ m', m' < m ∧ W (i + 1) m' H') ∧ ∀ x H', (Itl K a).yld i H x H' → g x (wipe σ vs) H' fun σ2 H2 => wipe σ2 vs = wipe σ vs ∧ tt σ2 H2 fun b H3 =>
        if b = true then wi1 σ2 H3 fun J1 H4 => ∃ W1 : Nat → Nat → Hp → Prop, (∃ m, W1 0 m H4) ∧ ∀ j k H, W1 j k H →
          (J1.stop j H ∧ Nx H) ∨ (J1.go j H ∧ ∃ Nx1 : Hp → Prop, (∀ H', Nx1 H' → ∃ k', k' < k ∧ W1 (j + 1) k' H') ∧ ∀ x H', J1.yld j H x H' → g1 x (wipe σ2 vs1) H' fun σ3 H5 => wipe σ3 vs1 = wipe σ2 vs1 ∧ tt1 σ3 H5 fun b H6 =>
            if b = true then te σ3 H6 fun y H7 => ∃ acc, H7 D = some (.lst acc) ∧ acc.length < sizeLine ∧ Nx1 (upd H7 D (.lst (acc ++ [y]))) else Nx1 H6)
        else Nx H3) := by
  refine ⟨fun i m H => m = xs.length - i ∧ i ≤ xs.length ∧ R i H, ⟨xs.length, by simp, Nat.zero_le _, h0⟩, ?_⟩
  rintro i m H ⟨rfl, hi, p⟩
  have q := hl i H hi p
  by_cases hlt : i < xs.length
  · refine .inr ⟨⟨xs, xs[i], q, by simp [hlt]⟩, R (i + 1), fun H' p' => ⟨xs.length - (i + 1), by omega, rfl, hlt, p'⟩, fun x H' y => ?_⟩
    obtain ⟨e, y⟩ := y
    subst e
    exact hs i x _ (y xs q) p
  · have e : i = xs.length := by omega
    subst e
    exact .inl ⟨⟨xs, q, Nat.le_refl _⟩, hd H p⟩
end
end TCX
namespace TCX
open PySem PySem.Spec PyProof.Rows L2
/-! dicts whose keys are tuples of tuples -/
mutual
/-- the value v is the key k: a whole number, a text, or a tracked tuple of such -/
inductive NKey (H : Hp) : NestedKey → V → Prop
  | int (i : Int) : NKey H (.num i) (.int i)
  | str (x : Str) : NKey H (.text x) (.str x)
  | tup {b : Addr} {vs : List V} {ks : List NestedKey} : H b = some (.tup vs) → NKeys H ks vs → NKey H (.tup ks) (.ref b)
inductive NKeys (H : Hp) : List NestedKey → List V → Prop
  | nil : NKeys H [] []
  | cons {k : NestedKey} {v : V} {ks : List NestedKey} {vs : List V} : NKey H k v → NKeys H ks vs → NKeys H (k :: ks) (v :: vs)
end
mutual
theorem NKey.keeps {H H' : Hp} (ht : ∀ b xs, H b = some (.tup xs) → H' b = some (.tup xs)) : ∀ {k : NestedKey} {v : V}, NKey H k v → NKey H' k v
  | .num _, _, h => by cases h; exact .int _
  | .text _, _, h => by cases h; exact .str _
  | .none, _, h => by cases h
  | .tup ks, _, h => by
    cases h with
    | tup h1 h2 => exact .tup (ht _ _ h1) (NKeys.keeps ht h2)
theorem NKeys.keeps {H H' : Hp} (ht : ∀ b xs, H b = some (.tup xs) → H' b = some (.tup xs)) : ∀ {ks : List NestedKey} {vs : List V}, NKeys H ks vs → NKeys H' ks vs
  | [], _, h => by cases h; exact .nil
  | k :: ks, _, h => by
    cases h with
    | cons h1 h2 => exact .cons (NKey.keeps ht h1) (NKeys.keeps ht h2)
end
mutual
theorem NKey.is {P : Program} {w : World} {H : Hp} {h : Heap} (ok : HOk P w H h) : ∀ {k : NestedKey} {v : V} {u : Value}, NKey H k v → RelV v u → NestedIs h k u
  | .num i, _, u, hk, r => by
    cases hk
    obtain ⟨t, e⟩ := (show ∃ t, u = Value.int i t from r)
    subst e
    exact .int _ _
  | .text x, _, u, hk, r => by
    cases hk
    obtain ⟨t, e⟩ := (show ∃ t, u = Value.str x t from r)
    subst e
    exact .text _ _
  | .none, _, _, hk, _ => by cases hk
  | .tup ks, _, u, hk, r => by
    cases hk with
    | @tup b vs _ h1 h2 =>
      obtain rfl : u = Value.ref b := r
      obtain ⟨_, its, rr, o, g1, g2, n, g3⟩ := (show ObjOk P w H h b (.tup vs) from ok b _ h1)
      exact .tup g1 g2 g3 (by simpa using NKeys.is ok h2 rr)
theorem NKeys.is {P : Program} {w : World} {H : Hp} {h : Heap} (ok : HOk P w H h) : ∀ {ks : List NestedKey} {vs : List V} {us : List Value}, NKeys H ks vs → Vals vs us → NestedAll h ks us
  | [], _, _, hk, r => by
    cases hk
    cases r
    exact .nil
  | k :: ks, _, _, hk, r => by
    cases hk with
    | cons h1 h2 =>
      cases r with
      | cons r1 r2 => exact .cons (NKey.is ok h1 r1) (NKeys.is ok h2 r2)
end
section
variable (P : Program) (w : World)
/-- a dict object with these entries -/
def NdO (a : Addr) (xs : List (NestedKey × Addr × Value)) : HO := .ext fun h => ∃ o es ep, h.get? a = some o ∧ o.ExactDict ∧ o.data = .dict es ep ∧ es.toList = xs.map (entryOfKey (nestedKind P w)) ∧ (xs.map (·.1)).Nodup
abbrev KN (H : Hp) : List (NestedKey × V) → List (NestedKey × Addr × Value) → Prop := Paired fun p q => p.1 = q.1 ∧ (NKey H q.1 (.ref q.2.1) ∧ q.1.depth ≤ 8) ∧ RelV p.2 q.2.2
/-- at d stands a dict of these pairs -/
def NDictAt (H : Hp) (d : Addr) (kvs : List (NestedKey × V)) : Prop := ∃ xs, H d = some (NdO P w d xs) ∧ KN H kvs xs ∧ kvs.length ≤ sizeLine ∧ (d == sysModules) = false
end
section
variable {P : Program} {w : World}
theorem KN.val {H : Hp} {kvs : List (NestedKey × V)} {xs : List (NestedKey × Addr × Value)} (r : KN H kvs xs) (k : NestedKey) : RelO (valV kvs k) ((atKey xs k).map (·.2)) := by
  induction r with
  | nil => exact True.intro
  | @cons p q ps qs h t ih =>
    obtain ⟨h1, _, h2⟩ := h
    by_cases e : p.1 = k
    · have e' : q.1 = k := h1.symm.trans e
      have b : atKey (q :: qs) k = some q.2 := by simp [atKey, List.find?_cons, e']
      rw [valV_pos e, b]; exact h2
    · have e' : ¬ q.1 = k := fun z => e (h1.trans z)
      have b : atKey (q :: qs) k = atKey qs k := by simp [atKey, List.find?_cons, e']
      rw [valV_neg e, b]; exact ih
theorem KN.repl {H : Hp} {kvs : List (NestedKey × V)} {xs : List (NestedKey × Addr × Value)} (r : KN H kvs xs) (k : NestedKey) {y : V} {u : Value} (ry : RelV y u) :
    KN H (kvs.map fun kv => if kv.1 = k then (kv.1, y) else kv) (xs.map (putAt k u)) := by
  induction r with
  | nil => exact .nil
  | @cons p q ps qs h t ih =>
    rw [List.map_cons, List.map_cons]
    refine .cons ?_ ih
    obtain ⟨h1, h2, h3⟩ := h
    unfold putAt
    by_cases e : p.1 = k
    · rw [if_pos e, if_pos (h1.symm.trans e)]; exact ⟨h1, h2, ry⟩
    · rw [if_neg e, if_neg (fun z => e (h1.trans z))]; exact ⟨h1, h2, h3⟩
theorem KN.put {H : Hp} {kvs : List (NestedKey × V)} {xs : List (NestedKey × Addr × Value)} (r : KN H kvs xs) (k : NestedKey) {b : Addr} {y : V} {u : Value} (hb : NKey H k (.ref b)) (hd : k.depth ≤ 8) (ry : RelV y u) :
    KN H (putK kvs k y) (storedH xs k b u) := by
  have e : (kvs.any fun kv => decide (kv.1 = k)) = (atKey xs k).isSome := by
    rw [valV_any, (r.val k).isSome_eq, Option.isSome_map]
  unfold putK storedH
  rw [e]
  by_cases q : (atKey xs k).isSome = true
  · rw [if_pos q, if_pos q]; exact r.repl k ry
  · rw [if_neg q, if_neg q]; exact Paired.snoc r ⟨rfl, ⟨hb, hd⟩, ry⟩
theorem KN.keeps {H H' : Hp} {kvs : List (NestedKey × V)} {xs : List (NestedKey × Addr × Value)} (r : KN H kvs xs) (ht : ∀ b ys, H b = some (.tup ys) → H' b = some (.tup ys)) : KN H' kvs xs :=
  Paired.mapP r fun _ _ z => ⟨z.1, ⟨z.2.1.1.keeps ht, z.2.1.2⟩, z.2.2⟩
theorem NDictAt.keeps {H H' : Hp} {d : Addr} {kvs : List (NestedKey × V)} (h : NDictAt P w H d kvs) (hd : ∀ o, H d = some o → H' d = some o) (ht : ∀ b ys, H b = some (.tup ys) → H' b = some (.tup ys)) : NDictAt P w H' d kvs := by
  obtain ⟨xs, h1, h2, h3, h4⟩ := h
  exact ⟨xs, hd _ h1, KN.keeps h2 ht, h3, h4⟩
theorem nd_of {H : Hp} {h : Heap} {d : Addr} {kvs : List (NestedKey × V)} (ok : HOk P w H h) (e : NDictAt P w H d kvs) : ∃ xs, H d = some (NdO P w d xs) ∧ KN H kvs xs ∧ h.DictOfH (nestedKind P w) d xs ∧ kvs.length ≤ sizeLine ∧ (d == sysModules) = false := by
  obtain ⟨xs, h1, h2, h3, h4⟩ := e
  obtain ⟨⟨o, es, ep, g1, g2, g3, g4, g5⟩, _⟩ := (show ObjOk P w H h d (NdO P w d xs) from ok d _ h1)
  refine ⟨xs, h1, h2, ⟨o, es, ep, g1, g2, g3, g4, fun x hx => ?_, g5⟩, h3, h4⟩
  have all : ∀ {l : List (NestedKey × V)} {m : List (NestedKey × Addr × Value)}, KN H l m → ∀ x ∈ m, (nestedKind P w).is h x.1 x.2.1 := by
    intro l m q
    induction q with
    | nil => intro x hx; exact nomatch hx
    | @cons p q ps qs hq t ih =>
      intro x hx
      rcases List.mem_cons.mp hx with e | hx
      · subst e
        exact ⟨NKey.is ok hq.2.1.1 rfl, hq.2.1.2⟩
      · exact ih x hx
  exact all h2 x hx
/-- what the dict at a holds at the key y -/
def DGetN (P : Program) (w : World) (H : Hp) (a : Addr) (y : V) (r : Option V) : Prop := ∃ kvs k b, NDictAt P w H a kvs ∧ y = .ref b ∧ NKey H k (.ref b) ∧ k.depth ≤ 8 ∧ r = valV kvs k
end
section
variable {X : Cx} {pins : List (Addr × Obj)} {σ : L2.St} {H : Hp} {s : Shared} {a : Addr} {y v : V} {u r : Value} {o : Option V} {A : Around} {E : Value → Shared → Prop}
theorem nroom (hu : A.units + 64 < cLine) : (nestedKind X.prog X.w).room A.in1 := by
  show A.units + 1 + 8 < cLine
  omega
theorem n_getItem {Q : Value → Shared → Prop} (hu : A.units + 64 < cLine) (I : Inv X pins σ H s) (g : DGetN X.prog X.w H a y (some v)) (ry : RelV y u) (h : ∀ w' s', Inv X pins σ H s' → RelV v w' → Q w' s') :
    wpAny (model X.prog X.w) A (getItem (.ref a) u) Q E s := by
  obtain ⟨kvs, k, b, e, ey, hk, h8, l⟩ := g
  subst ey
  cases (show u = Value.ref b from ry)
  obtain ⟨xs, _, rel, dd, z, hd⟩ := nd_of I.hok e
  obtain ⟨w', hw, rw'⟩ := RelO.some_of (v := v) (o := (atKey xs k).map (·.2)) (by rw [l]; exact KN.val rel k)
  obtain ⟨p, hp, hp2⟩ := Option.map_eq_some_iff.mp hw
  refine wpAny_getItem_heap (knd := nestedKind X.prog X.w) (nroom hu) ⟨NKey.is I.hok hk rfl, h8⟩ dd hp ?_
  rw [hp2]
  exact h w' _ (I.tok _) rw'
theorem n_in {Q : Value → Shared → Prop} (hu : A.units + 64 < cLine) (I : Inv X pins σ H s) (g : DGetN X.prog X.w H a y o) (ry : RelV y u) (h : ∀ s', Inv X pins σ H s' → Q (.bool o.isSome) s') :
    wpAny (model X.prog X.w) A (compareOp .In u (.ref a)) Q E s := by
  obtain ⟨kvs, k, b, e, ey, hk, h8, l⟩ := g
  subst ey
  cases (show u = Value.ref b from ry)
  obtain ⟨xs, _, rel, dd, z, hd⟩ := nd_of I.hok e
  refine wpAny_in_heap (knd := nestedKind X.prog X.w) (nroom hu) ⟨NKey.is I.hok hk rfl, h8⟩ hd dd ?_
  have q := (KN.val rel k).isSome_eq
  rw [Option.isSome_map] at q
  rw [← q, ← l]
  exact h _ (I.tok _)
theorem n_notIn {Q : Value → Shared → Prop} (hu : A.units + 64 < cLine) (I : Inv X pins σ H s) (g : DGetN X.prog X.w H a y o) (ry : RelV y u) (h : ∀ s', Inv X pins σ H s' → Q (.bool (!o.isSome)) s') :
    wpAny (model X.prog X.w) A (compareOp .NotIn u (.ref a)) Q E s := by
  obtain ⟨kvs, k, b, e, ey, hk, h8, l⟩ := g
  subst ey
  cases (show u = Value.ref b from ry)
  obtain ⟨xs, _, rel, dd, z, hd⟩ := nd_of I.hok e
  refine wpAny_notIn_heap (knd := nestedKind X.prog X.w) (nroom hu) ⟨NKey.is I.hok hk rfl, h8⟩ hd dd ?_
  have q := (KN.val rel k).isSome_eq
  rw [Option.isSome_map] at q
  rw [← q, ← l]
  exact h _ (I.tok _)
/-- a[y] = v: the heap behind it -/
def DPutN (P : Program) (w : World) (H : Hp) (a : Addr) (y v : V) (Q : Hp → Prop) : Prop := ∃ kvs k b, NDictAt P w H a kvs ∧ y = .ref b ∧ NKey H k (.ref b) ∧ k.depth ≤ 8 ∧ kvs.length < sizeLine ∧
  ∀ H', (∀ c, c ≠ a → H' c = H c) → NDictAt P w H' a (putK kvs k v) → Q H'
theorem nd_ok {P : Program} {w : World} {H' : Hp} {h' : Heap} {xs : List (NestedKey × Addr × Value)} (dd : h'.DictOfH (nestedKind P w) a xs) : ObjOk P w H' h' a (NdO P w a xs) := by
  obtain ⟨q, es, ep, hq, h2, h3, h4, _, h5⟩ := dd
  refine ⟨⟨q, es, ep, hq, h2, h3, h4, h5⟩, ⟨q, hq⟩, fun h1 h2' p k => ?_⟩
  obtain ⟨q, es, ep, hq, h2, h3, h4, h5⟩ := p
  exact ⟨q, es, ep, k _ hq, h2, h3, h4, h5⟩
theorem n_setItem {R : Hp → Prop} {Q : Unit → Shared → Prop} (hu : A.units + 64 < cLine) (I : Inv X pins σ H s) (g : DPutN X.prog X.w H a y v R) (ry : RelV y u) (rv : RelV v r) (h : ∀ H' s', Inv X pins σ H' s' → R H' → Q () s') :
    wpAny (model X.prog X.w) A (setItem (.ref a) u r) Q E s := by
  obtain ⟨kvs, k, b, e, ey, hk, h8, l, q⟩ := g
  subst ey
  cases (show u = Value.ref b from ry)
  obtain ⟨xs, hx, rel, dd, z, hd⟩ := nd_of I.hok e
  have hz : xs.length ≤ sizeLine := by rw [← Paired.length rel]; exact z
  have hl : (putK kvs k v).length ≤ sizeLine := by have := length_putK kvs k v; omega
  refine wpAny_setItem_heap (knd := nestedKind X.prog X.w) (hsz := hz) (nroom hu) ⟨NKey.is I.hok hk rfl, h8⟩ dd fun h' dd' hs => ?_
  have he : ∃ q, h'.get? a = some q := let ⟨q, _, _, hq, _⟩ := dd'; ⟨q, hq⟩
  have nt : ∀ c ys, H c = some (.tup ys) → c ≠ a := fun c ys ec => ne_of ec hx (fun z => nomatch z)
  have I' := d_write (t' := s.toks) (ob := NdO X.prog X.w a (storedH xs k b r)) I (by rw [hx]; exact True.intro) hs he (nd_ok dd')
  refine h _ _ (I'.tok _) (q _ (fun c hc => upd_ne hc) ⟨storedH xs k b r, upd_same, (KN.put rel k hk h8 rv).keeps fun c ys ec => ?_, hl, hd⟩)
  rw [upd_ne (nt c ys ec)]
  exact ec
end
/-! ### rules -/
/-- {} of such keys -/
def tDNewN (P : Program) (w : World) : TE := fun _ H Q => ∀ p H', H p = none → (∀ c, c ≠ p → H' c = H c) → NDictAt P w H' p [] → Q (.ref p) H'
def tDGetN (P : Program) (w : World) (td ty : TE) : TE := fun σ H Q => td σ H fun x H1 => ty σ H1 fun y H2 => ∃ a v, x = .ref a ∧ DGetN P w H2 a y (some v) ∧ Q v H2
def tDInN (P : Program) (w : World) (ty td : TE) : TE := fun σ H Q => ty σ H fun y H1 => td σ H1 fun x H2 => ∃ a o, x = .ref a ∧ DGetN P w H2 a y o ∧ Q (.bl o.isSome) H2
def tDNotInN (P : Program) (w : World) (ty td : TE) : TE := fun σ H Q => ty σ H fun y H1 => td σ H1 fun x H2 => ∃ a o, x = .ref a ∧ DGetN P w H2 a y o ∧ Q (.bl (!o.isSome)) H2
def sDPutN (P : Program) (w : World) (td ty tv : TE) : TS := fun D σ H => tv σ H fun v H1 => td σ H1 fun x H2 => ty σ H2 fun y H3 => ∃ a, x = .ref a ∧ DPutN P w H3 a y v fun H4 => D.nx σ H4
section
variable {X : Cx} {o i e value : Expr} {pos pos' tpos : Pos} {td ty tv : TE}
theorem pe_dnewN : PE X (.Dict [] [] pos) (tDNewN X.prog X.w) := ⟨fun pins s σ H Q I h => by
  have hn := I.hok.fresh (Nat.le_refl s.heap.objs.size)
  have nd : (s.heap.objs.size == sysModules) = false := beq_eq_false_iff_ne.mpr (Ne.symm (Nat.ne_of_lt I.big))
  refine wpAny_Dict_empty ⟨.ref s.heap.objs.size, _, I.laid (a := s.heap.objs.size) (o := NdO X.prog X.w s.heap.objs.size []) (t' := s.toks) (fun _ _ q => Heap.get?_push_of_some _ q) (Nat.le_refl _) ?_, rfl, h _ _ hn (fun c hc => upd_ne hc) ⟨[], upd_same, .nil, Nat.zero_le _, nd⟩⟩
  exact ⟨⟨_, #[], 0, Heap.get?_push_size _ rfl, ⟨rfl, rfl, rfl⟩, rfl, rfl, List.nodup_nil⟩, ⟨_, Heap.get?_push_size _ rfl⟩, fun h1 h2' p k => by
    obtain ⟨q, es, ep, hq, h2, h3, h4, h5⟩ := p
    exact ⟨q, es, ep, k _ hq, h2, h3, h4, h5⟩⟩⟩
theorem ndict_typeIs {pins : List (Addr × Obj)} {σ : L2.St} {H : Hp} {s : Shared} {a : Addr} {y : V} {o : Option V} (I : Inv X pins σ H s) (g : DGetN X.prog X.w H a y o) : s.TypeIs (.ref a) "dict" := by
  obtain ⟨kvs, k, b, e, _⟩ := g
  obtain ⟨xs, _, _, dd, _⟩ := nd_of I.hok e
  exact dd.typeIs
theorem pe_dgetN (hu : X.A.units + 64 < cLine) (ho : PE X o td) (hi : PE X i ty) (hs : NoSl i) : PE X (.Subscript o i pos) (tDGetN X.prog X.w td ty) := by
  refine ⟨fun pins s σ H Q I h => ?_⟩
  refine subD_of PySem.F.slot_dict_getitem.lookup hs (thn (ho.run pins s σ H _ I h) fun u s1 ⟨x, H1, I1, rx, q1⟩ => thn (hi.run pins s1 σ H1 _ I1 q1) fun iv s2 ⟨y, H2, I2, ry, a, v, ex, g, q2⟩ => ?_)
  subst ex
  obtain rfl : u = Value.ref a := rx
  exact ⟨ndict_typeIs I2 g, n_getItem hu I2 g ry fun w' s3 I3 rw' => ⟨v, H2, I3, rw', q2⟩⟩
theorem pc_dinN (hu : X.A.units + 64 < cLine) (hi : PE X i ty) (ho : PE X o td) : PC X .In i o (tDInN X.prog X.w ty td) := by
  refine ⟨fun pins s σ H Q I h => ?_⟩
  refine thn (hi.run pins s σ H _ I h) fun iv s1 ⟨y, H1, I1, ry, q1⟩ => thn (ho.run pins s1 σ H1 _ I1 q1) fun u s2 ⟨x, H2, I2, rx, a, ov, ex, g, q2⟩ => ?_
  subst ex
  obtain rfl : u = Value.ref a := rx
  exact n_in hu I2 g ry fun s3 I3 => ⟨.bl ov.isSome, H2, I3, rfl, q2⟩
theorem pc_dnotinN (hu : X.A.units + 64 < cLine) (hi : PE X i ty) (ho : PE X o td) : PC X .NotIn i o (tDNotInN X.prog X.w ty td) := by
  refine ⟨fun pins s σ H Q I h => ?_⟩
  refine thn (hi.run pins s σ H _ I h) fun iv s1 ⟨y, H1, I1, ry, q1⟩ => thn (ho.run pins s1 σ H1 _ I1 q1) fun u s2 ⟨x, H2, I2, rx, a, ov, ex, g, q2⟩ => ?_
  subst ex
  obtain rfl : u = Value.ref a := rx
  exact n_notIn hu I2 g ry fun s3 I3 => ⟨.bl (!ov.isSome), H2, I3, rfl, q2⟩
theorem ps_dputN (hu : X.A.units + 64 < cLine) (ho : PE X o td) (hi : PE X i ty) (hv : PE X value tv) (hs : swapsWith value (some (.Subscript o i pos')) pos.line X.env = pure false) :
    PS X (.Assign [.Subscript o i pos'] value pos) (sDPutN X.prog X.w td ty tv) := by
  refine ⟨fun pins s σ H D I h => ?_⟩
  refine wpAny_Assign_Subscript (thn (hv.run pins s σ H _ I h) fun r s1 ⟨v, H1, I1, rv, q1⟩ => thn (ho.run pins s1 σ H1 _ I1 q1) fun u s2 ⟨x, H2, I2, rx, q2⟩ => thn (hi.run pins s2 σ H2 _ I2 q2) fun iv s3 ⟨y, H3, I3, ry, a, ex, g⟩ => ?_) hs
  subst ex
  obtain rfl : u = Value.ref a := rx
  exact n_setItem hu I3 g ry rv fun H4 s4 I4 q4 => ⟨σ, H4, I4, q4⟩
end
end TCX
namespace TCX
open PySem PySem.Spec PyProof.Rows L2
section
variable {X : Cx} {pins : List (Addr × Obj)} {σ : L2.St} {H : Hp} {s : Shared}
/-- two dicts with the same keys, their values alike to the deep -/
theorem hits_deep {κ : Type} [DecidableEq κ] (I : Inv X pins σ H s) (hu : X.A.in1.units + 60 < cLine) {kvs : List (κ × V)} {vb : List (κ × Value)} (rb : KV kvs vb) {ks : List (κ × V)} {va : List (κ × Value)} (ra : KV ks va) :
    (∀ p ∈ ks, ∃ y d e, valV kvs p.1 = some y ∧ Dp X.K H p.2 d ∧ Dp X.K H y e ∧ d.canLay0 = true ∧ e.canLay0 = true ∧ d.depth ≤ 60 ∧ PyData.eqv d e = true) → PySem.W.KeqHits X.A.in1 s vb va true := by
  unfold KV at ra
  induction ra with
  | nil => intro _; exact .nil
  | @cons p q ps qs h t ih =>
    intro hp
    obtain ⟨h1, h2⟩ := h
    obtain ⟨y, d, e, ey, hd, he, cd, ce, dp, eq⟩ := hp p List.mem_cons_self
    have rr : RelO (some y) (valueAt vb p.1) := by rw [← ey]; exact rb.val p.1
    obtain ⟨u, hy, ry⟩ := rr.some_of
    obtain ⟨k, v⟩ := q
    have h1' : p.1 = k := h1
    rw [h1'] at hy
    obtain ⟨as, r1⟩ := Dp.reads I d p.2 v hd h2
    obtain ⟨bs, r2⟩ := Dp.reads I e y u he ry
    have z := SeqAt.eqAt_reads d e X.A.in1 s v u as bs r1 r2 cd ce (by
      have : min d.depth e.depth ≤ d.depth := Nat.min_le_left _ _
      omega)
    rw [eq] at z
    show PySem.W.KeqHits X.A.in1 s vb ((k, v) :: qs) (true && true)
    exact .hit hy z (ih fun p' hm => hp p' (List.mem_cons_of_mem _ hm))
def rEqDD (K : PySem.W.Frag) : R2 := fun x y H Q => ∃ a b ks ls, x = .ref a ∧ y = .ref b ∧ H a = some (.dK ks) ∧ H b = some (.dK ls) ∧ ks.length = ls.length ∧ (∀ p ∈ ks, ∃ y d e, valV ls p.1 = some y ∧ Dp K H p.2 d ∧ Dp K H y e ∧ d.canLay0 = true ∧ e.canLay0 = true ∧ d.depth ≤ 60 ∧ PyData.eqv d e = true) ∧ Q (.bl true) H
theorem op_eqDD (hu : X.A.units + 64 < cLine) : OpR X (compareOp .Eq) (rEqDD X.K) := by
  intro pins s σ H x y v u Q I rx ry h
  obtain ⟨a, b, ks, ls, rfl, rfl, ea, eb, hlen, hp, q⟩ := h
  obtain rfl : v = Value.ref a := rx
  obtain rfl : u = Value.ref b := ry
  obtain ⟨_, ya, va, ra, da⟩ := (show ObjOk X.prog X.w H s.heap a (.dK ks) from I.hok a _ ea)
  obtain ⟨_, yb, vb, rb, db⟩ := (show ObjOk X.prog X.w H s.heap b (.dK ls) from I.hok b _ eb)
  have hl : va.length = vb.length := by rw [← ra.length, ← rb.length]; exact hlen
  have hu1 : X.A.in1.units + 60 < cLine := by
    show X.A.units + 1 + 60 < cLine
    omega
  exact PySem.W.keq_eq (knd := mixKind X.prog X.w) (r := true) ya yb da db (by omega) (fun _ => hits_deep I hu1 rb ra hp) (fin_bl I q (by simp [hl]))
end
end TCX
/-! sorted(d): a dict whose keys are data of one kind (tuples, tuples of tuples) -/
namespace TCX
open PySem PySem.Spec PyProof.Rows L2 PySem.W
/-- what stands where, as data -/
abbrev VD := V × PyData
section
variable {X : Cx} {pins : List (Addr × Obj)} {σ : L2.St} {H : Hp} {s : Shared}
theorem reads_all (I : Inv X pins σ H s) : ∀ {bs : List VD} {us : List Value}, Vals (bs.map (·.1)) us → (∀ b ∈ bs, Dp X.K H b.1 b.2) → EachIs (fun u (b : VD) => RelV b.1 u) us bs ∧ EachIs (fun u (b : VD) => ∃ as, Reads s.heap u b.2 as) us bs
  | [], _, r, _ => by
    cases r
    exact ⟨.nil, .nil⟩
  | b :: bs, _, r, h => by
    cases r with
    | cons r1 r2 =>
      obtain ⟨z1, z2⟩ := reads_all I r2 fun b hb => h b (List.mem_cons_of_mem _ hb)
      exact ⟨.cons r1 z1, .cons (Dp.reads I _ _ _ (h b List.mem_cons_self) r1) z2⟩
theorem vals_each : ∀ {bs : List VD} {us : List Value}, EachIs (fun u (b : VD) => RelV b.1 u) us bs → Vals (bs.map (·.1)) us
  | _, _, .nil => .nil
  | _, _, .cons h t => .cons h (vals_each t)
theorem vals_ix : ∀ {xs : List V} {us : List Value}, us.length = xs.length → (∀ (i : Nat) (x : V) (u : Value), xs[i]? = some x → us[i]? = some u → RelV x u) → Vals xs us
  | [], [], _, _ => .nil
  | [], _ :: _, h, _ => by cases h
  | _ :: _, [], h, _ => by cases h
  | x :: xs, u :: us, h, r => .cons (r 0 x u rfl rfl) (vals_ix (Nat.succ.inj h) fun i x' u' e1 e2 => r (i + 1) x' u' e1 e2)
theorem sortedRaw {d : Addr} {es : Array DictEntry} {ep : Nat} {bs : List VD} {Q : VK} {E : Value → Shared → Prop} (I : Inv X pins σ H s) (cm : X.calm = true) (hu : X.A.units + 64 < cLine) (lo : (d == sysModules) = false) (raw : s.heap.DictRaw d es ep)
    (sz : es.size = bs.length) (ks : ∀ i (hi : i < es.size) b, bs[i]? = some b → RelV b.1 es[i].key) (hd : ∀ b ∈ bs, Dp X.K H b.1 b.2) (al : AllAlike (bs.map (·.2))) (so : Sortable (bs.map (·.2))) (len : bs.length ≤ 10000) (dep : ∀ b ∈ bs, b.2.depth ≤ 8)
    (q : ∀ p, H p = none → Q (.ref p) (upd H p (.lst ((bs.mergeSort (dataLe false (·.2))).map (·.1))))) :
    wpAny (model X.prog X.w) X.A (call (.builtin "sorted") [Value.ref d]) (fun u s' => ∃ v H', Inv X pins σ H' s' ∧ RelV v u ∧ Q v H') E s := by
  have fits : ∀ {n : Nat}, n = bs.length → n ≤ sizeLine := fun {n} e => by
    rw [e]
    exact Nat.le_trans len (by decide)
  refine Calls.call_function_entry kind_sorted plain_sorted entry_sorted (args_sorted1 _) ?_
  unfold Builtin.«sorted»
  refine wpAny_bind (m := checkCount "sorted" 1 1 _) (wpAny_pure (wpAny_bind ?_))
  refine PySem.W.kdu_collect (A := X.A.in1) (KdlSrc.rawDict (es := es) (ep := ep) lo) (I.ok.hd cm) raw (fits sz) fun g tk got gk gg => ?_
  have gl : got.toList.length = bs.length := by
    rw [Array.length_toList, gg.1, sz]
  have I2 : Inv X pins σ H { s with heap := g, toks := tk } := I.kept gk
  have vv : Vals (bs.map (·.1)) got.toList := vals_ix (by rw [gl, List.length_map]) fun i x u e1 e2 => by
    rw [Array.getElem?_toList] at e2
    obtain ⟨hi, rfl⟩ := gg.2 i u e2
    rw [List.getElem?_map] at e1
    obtain ⟨b, e3, rfl⟩ := Option.map_eq_some_iff.mp e1
    exact ks i hi b e3
  obtain ⟨e1, e2⟩ := reads_all I2 vv hd
  refine wpAny_bind (wpAny_newList ?_ (fits gl))
  have lay := Heap.get?_push_size g (o := seqObj "list" got.toList.toArray 0) rfl
  show wpAny _ _ _ _ _ { s with heap := g.push (seqObj "list" got.toList.toArray 0), toks := tk }
  refine wpAny_bind (wpAny_holding (wpAny_call_entry slot_list_sort ⟨_, lay, rfl⟩ entry_list_sort ?_ (args_list_sort _)))
  have e3 : EachIs (fun u (b : VD) => ∃ as, Reads (sortingHeap (g.push (seqObj "list" got.toList.toArray 0)) g.objs.size got.toList) u b.2 as) got.toList bs := e2.mono fun _ _ ⟨as, r⟩ => ⟨as, PyProof.Rows.Reads.keeps (fun b o e => sortingHeap_old (Nat.ne_of_lt (Heap.lt_size e)) (Heap.get?_push_of_some _ e)) r⟩
  have e4 := sortVals_data (h' := sortingHeap (g.push (seqObj "list" got.toList.toArray 0)) g.objs.size got.toList) (enc := fun b : VD => b.2) false e1 e3 al
  refine list_sort_vals lay (SortsAt.data (s := { s with heap := sortingHeap (g.push (seqObj "list" got.toList.toArray 0)) g.objs.size got.toList, toks := tk }) (each_map (R := fun u dd => ∃ as, Reads (sortingHeap (g.push (seqObj "list" got.toList.toArray 0)) g.objs.size got.toList) u dd as) (fun b : VD => b.2) e3) al so (bound_map fun b hb => ?_)) (fits gl) ⟨_, rfl, ?_⟩
  · have := dep b hb
    show X.A.units + 2 + b.2.depth < cLine
    omega
  obtain ⟨c, at1⟩ := sortedHeap_at (vs := got.toList) (out := (sortVals (dataKind (sortingHeap (g.push (seqObj "list" got.toList.toArray 0)) g.objs.size got.toList) (bs.map fun b : VD => b.2)) false got.toList got.toList).toArray) lay
  have inl := fits (show ((bs.mergeSort (dataLe false (fun b : VD => b.2))).map (·.1)).length = bs.length by rw [List.length_map, List.length_mergeSort])
  refine wpAny_pure ⟨_, rfl, .ref g.objs.size, upd H g.objs.size (.lst ((bs.mergeSort (dataLe false (fun b : VD => b.2))).map (·.1))), I2.laid (t' := tk) (fun b x e => ?_) (Nat.le_refl _)
      (show ObjOk X.prog X.w _ _ _ (.lst ((bs.mergeSort (dataLe false (fun b : VD => b.2))).map (·.1))) from ⟨inl, _, c, vals_each e4, at1⟩), rfl, q _ (I2.hok.fresh (Nat.le_refl _))⟩
  have less := Heap.lt_size e
  rw [sortedHeap_old (Nat.ne_of_lt less) (by rw [size_push']; exact Nat.lt_succ_of_lt less)]
  exact Heap.get?_push_of_some _ e
end
/-- sorted items stay as they stand -/
theorem sort_stays {bs : List VD} (h : bs.Pairwise fun x y => dataLt y.2 x.2 = false) : bs.mergeSort (dataLe false (·.2)) = bs :=
  List.mergeSort_of_pairwise (h.imp fun {a b} z => by
    show (!dataLt b.2 a.2) = true
    rw [z]
    rfl)
/-- sorted(d), the keys tuples of tuples, already in order: a new list of the keys -/
def rSortedN (P : Program) (w : World) (K : PySem.W.Frag) : List V → Hp → VK → Prop := fun vs H Q => ∃ (d : Addr) (xs : List (NestedKey × Addr × Value)) (bs : List VD), vs = [.ref d] ∧ H d = some (NdO P w d xs) ∧ (d == sysModules) = false ∧
  xs.map (fun z => V.ref z.2.1) = bs.map (·.1) ∧ (∀ b ∈ bs, Dp K H b.1 b.2) ∧ AllAlike (bs.map (·.2)) ∧ Sortable (bs.map (·.2)) ∧ bs.length ≤ 10000 ∧ (∀ b ∈ bs, b.2.depth ≤ 8) ∧ (bs.Pairwise fun x y => dataLt y.2 x.2 = false) ∧
  ∀ p, H p = none → Q (.ref p) (upd H p (.lst (bs.map (·.1))))
theorem cr_sortedN {X : Cx} (cm : X.calm = true) (hu : X.A.units + 64 < cLine) : CallR X (.builtin "sorted") (rSortedN X.prog X.w X.K) := by
  intro pins s σ H vs us Q I r h
  obtain ⟨d, xs, bs, rfl, e, lo, ek, hd, al, so, len, dep, srt, q⟩ := h
  obtain ⟨u0, rfl, ru⟩ := vals1 r
  cases ru
  obtain ⟨⟨o, es, ep, ho, hx, hdt, he, _⟩, _⟩ := I.hok d _ e
  have sz : es.size = xs.length := by
    rw [← Array.length_toList, he, List.length_map]
  have lx : xs.length = bs.length := by
    have := congrArg List.length ek
    rwa [List.length_map, List.length_map] at this
  refine sortedRaw I cm hu lo ⟨o, ho, hx, hdt⟩ (sz.trans lx) (fun i hi b hb => ?_) hd al so len dep (fun p hp => by rw [sort_stays srt]; exact q p hp)
  obtain ⟨z, hz⟩ : ∃ z, xs[i]? = some z := ⟨_, List.getElem?_eq_getElem (by omega)⟩
  have q1 : es.toList[i]? = some (entryOfKey (nestedKind X.prog X.w) z) := by rw [he, List.getElem?_map, hz]; rfl
  rw [Array.getElem?_toList, Array.getElem?_eq_getElem hi] at q1
  have q2 : es[i].key = .ref z.2.1 := by
    rw [Option.some.inj q1]
    rfl
  have q3 := congrArg (fun l => l[i]?) ek
  simp only [List.getElem?_map, hz, hb, Option.map_some] at q3
  rw [← Option.some.inj q3, q2]
  rfl
def dKey : Key → PyData
  | .inl i => .int i
  | .inr x => .str x
theorem dp_key {K : PySem.W.Frag} {H : Hp} : ∀ k : List Key, DpAll K H (k.map kV) (k.map dKey)
  | [] => .nil
  | .inl i :: k => .cons (.int i) (dp_key k)
  | .inr x :: k => .cons (.str x) (dp_key k)
def dKeys (k : List Key) : PyData := .tuple (k.map dKey)
/-- sorted(d), the keys flat tuples, already in order: a new list of the keys -/
def rSortedT : List V → Hp → VK → Prop := fun vs H Q => ∃ (d : Addr) (kvs : List (List Key × V)), vs = [.ref d] ∧ H d = some (.dT kvs) ∧
  AllAlike (kvs.map fun z => dKeys z.1) ∧ Sortable (kvs.map fun z => dKeys z.1) ∧ kvs.length ≤ 10000 ∧ (∀ z ∈ kvs, (dKeys z.1).depth ≤ 8) ∧ (kvs.Pairwise fun x y => dataLt (dKeys y.1) (dKeys x.1) = false) ∧
  ∀ (as : List Addr) p, as.length = kvs.length → (∀ (i : Nat) (a : Addr) (z : List Key × V), as[i]? = some a → kvs[i]? = some z → H a = some (.tup (z.1.map kV))) → H p = none → Q (.ref p) (upd H p (.lst (as.map V.ref)))
theorem paired_len {α β : Type} {R : α → β → Prop} : ∀ {xs : List α} {ys : List β}, Paired R xs ys → xs.length = ys.length
  | _, _, .nil => rfl
  | _, _, .cons _ t => congrArg (· + 1) (paired_len t)
theorem paired_ix {α β : Type} {R : α → β → Prop} : ∀ {xs : List α} {ys : List β}, Paired R xs ys → ∀ (i : Nat) x y, xs[i]? = some x → ys[i]? = some y → R x y
  | _, _, .nil, i, x, y, e, _ => by cases e
  | _, _, .cons h t, 0, x, y, e, e' => by
    cases e
    cases e'
    exact h
  | _, _, .cons h t, i + 1, x, y, e, e' => paired_ix t i x y e e'
theorem cr_sortedT {X : Cx} (cm : X.calm = true) (hu : X.A.units + 64 < cLine) : CallR X (.builtin "sorted") rSortedT := by
  intro pins s σ H vs us Q I r h
  obtain ⟨d, kvs, rfl, e, al, so, len, dep, srt, q⟩ := h
  obtain ⟨u0, rfl, ru⟩ := vals1 r
  cases ru
  obtain ⟨_, lo, xs, kt, dh⟩ := dt_of I.hok e
  obtain ⟨es, ep, raw, sz, at_⟩ := dh.raw
  have lx := paired_len kt
  let bs : List VD := (kvs.zip xs).map fun z => (V.ref z.2.2.1, dKeys z.1.1)
  have lb : bs.length = kvs.length := by
    show ((kvs.zip xs).map _).length = _
    rw [List.length_map, List.length_zip, ← lx, Nat.min_self]
  have at2 : ∀ (i : Nat) (b : VD), bs[i]? = some b → ∃ z x, kvs[i]? = some z ∧ xs[i]? = some x ∧ b = (V.ref x.2.1, dKeys z.1) := fun i b hb => by
    have hb' : ((kvs.zip xs).map fun z => (V.ref z.2.2.1, dKeys z.1.1))[i]? = some b := hb
    rw [List.getElem?_map] at hb'
    obtain ⟨z, hz, rfl⟩ := Option.map_eq_some_iff.mp hb'
    obtain ⟨h1, h2⟩ := List.getElem?_zip_eq_some.mp hz
    exact ⟨z.1, z.2, h1, h2, rfl⟩
  have e2 : bs.map (·.2) = kvs.map fun z => dKeys z.1 := by
    show ((kvs.zip xs).map _).map _ = _
    rw [List.map_map]
    have : (kvs.zip xs).map (fun z => dKeys z.1.1) = ((kvs.zip xs).map (·.1)).map fun z => dKeys z.1 := by
      rw [List.map_map]
      rfl
    rw [show (((fun b : VD => b.2) ∘ fun z : (List Key × V) × (List Key × Addr × Value) => ((V.ref z.2.2.1, dKeys z.1.1) : VD))) = fun z => dKeys z.1.1 from rfl, this, List.map_fst_zip (by omega)]
  have sb : bs.Pairwise fun x y => dataLt y.2 x.2 = false := by
    have z : (bs.map (·.2)).Pairwise fun x y => dataLt y x = false := by
      rw [e2]
      exact List.pairwise_map.mpr srt
    exact List.pairwise_map.mp z
  refine sortedRaw I cm hu lo raw (by rw [sz, ← lx, lb]) (fun i hi b hb => ?_) (fun b hb => ?_) (by rw [e2]; exact al) (by rw [e2]; exact so) (by omega) (fun b hb => ?_) (fun p hp => ?_)
  · obtain ⟨z, x, h1, h2, rfl⟩ := at2 i b hb
    obtain ⟨y, h3, h4, _⟩ := at_ i hi
    rw [h2] at h3
    cases h3
    rw [h4]
    rfl
  · obtain ⟨i, hb⟩ := List.getElem?_of_mem hb
    obtain ⟨z, x, h1, h2, rfl⟩ := at2 i b hb
    obtain ⟨_, h3, _⟩ := paired_ix kt i z x h1 h2
    exact .tup (SqT.of h3) (dp_key _)
  · obtain ⟨i, hb⟩ := List.getElem?_of_mem hb
    obtain ⟨z, x, h1, h2, rfl⟩ := at2 i b hb
    exact dep z (List.mem_of_getElem? h1)
  · rw [sort_stays sb]
    have e3 : bs.map (·.1) = (xs.map (·.2.1)).map V.ref := by
      show ((kvs.zip xs).map _).map _ = _
      rw [List.map_map, List.map_map]
      have : (kvs.zip xs).map (fun z => V.ref z.2.2.1) = ((kvs.zip xs).map (·.2)).map fun x => V.ref x.2.1 := by
        rw [List.map_map]
        rfl
      rw [show (((fun b : VD => b.1) ∘ fun z : (List Key × V) × (List Key × Addr × Value) => ((V.ref z.2.2.1, dKeys z.1.1) : VD))) = fun z => V.ref z.2.2.1 from rfl, this, List.map_snd_zip (by omega)]
      rfl
    rw [e3]
    refine q _ p (by rw [List.length_map]; exact lx.symm) (fun i a z h1 h2 => ?_) hp
    rw [List.getElem?_map] at h1
    obtain ⟨x, h3, rfl⟩ := Option.map_eq_some_iff.mp h1
    exact (paired_ix kt i z x h2 h3).2.1
end TCX
/-! Dicts whose keys are tuples: their items walked, comprehensions that make such dicts. -/
namespace TCX
open PySem PySem.Spec PyProof.Rows L2
section
variable {X : Cx} {pins : List (Addr × Obj)} {σ : L2.St} {H : Hp} {s : Shared} {d : Addr} {o : Obj}
/-- the entries of a locked dict of tuple keys, with their values -/
theorem frzTV {kvs : List (List Key × V)} (I : Inv X pins σ H s) (h : H d = some (.frz o (.dT kvs))) :
    (d == sysModules) = false ∧ ∃ (es : Array DictEntry) (ep : Nat), o.data = .dict es ep ∧ s.heap.DictRaw d es ep ∧ es.size = kvs.length ∧
      ∀ (i : Nat) (k : List Key) (v : V), kvs[i]? = some (k, v) → ∃ (hi : i < es.size) (q : Addr), es[i].key = .ref q ∧ H q = some (.tup (k.map kV)) ∧ RelV v es[i].val := by
  have hok := I.hok d _ h
  obtain ⟨g0, z, hs, xs, pr, o', es, ep, ho, hx, hdt, he, _⟩ := hok
  rw [g0] at ho
  cases ho
  have sz : es.size = kvs.length := by
    have l1 : es.size = xs.length := size_of_entries he
    have l2 : kvs.length = xs.length := Paired.length pr
    omega
  refine ⟨hs, es, ep, hdt, ⟨o, g0, hx, hdt⟩, sz, fun i k v e => ?_⟩
  obtain ⟨b, hb, e1, e2, e3⟩ := paired_get pr e
  have q := entry_at he i
  rw [hb] at q
  obtain ⟨hi, q2⟩ := Array.getElem?_eq_some_iff.mp q
  exact ⟨hi, b.2.1, by rw [q2] <;> rfl, e2, by rw [q2]; exact e3⟩
end
/-- for (k, v) of a locked dict of tuple keys: each time a new pair of the key's own tuple and its value -/
def Itit (d : Addr) (o : Obj) (kvs : List (List Key × V)) : It where
  go := fun i H => H d = some (.frz o (.dT kvs)) ∧ i < kvs.length
  yld := fun i H x H' => ∃ (T : Addr) (k : List Key) (v : V) (q : Addr), kvs[i]? = some (k, v) ∧ x = .ref T ∧ H T = none ∧ H q = some (.tup (k.map kV)) ∧ H' = upd H T (.tup [.ref q, v])
  stop := fun i H => H d = some (.frz o (.dT kvs)) ∧ kvs.length ≤ i
theorem turn_itemsT {P : Program} {w : World} {K : PySem.W.Frag} {d : Addr} {o : Obj} {kvs : List (List Key × V)} {elts : List Expr} {kk : Nat} {tpos : Pos} {ep : Nat} {es : Array DictEntry} (J : Addr) (dat : o.data = .dict es ep) (sz : es.size = kvs.length) :
    Turn P w K (.Tuple elts kk tpos) (Itit d o kvs) [J] J (fun i h => ∃ u1 u2, IsItemIter h J d i es.size ep u1 u2) := by
  have same : ∀ {es' : Array DictEntry} {ep' : Nat}, o.data = .dict es' ep' → es' = es ∧ ep' = ep := fun z => by
    rw [dat] at z
    cases z
    exact ⟨rfl, rfl⟩
  refine ⟨by simp, fun i h st b hb => ?_, fun i h h' st k => ?_, ?_, ?_, fun A i s Q E st h => ?_⟩
  · obtain rfl : b = J := by simpa using hb
    obtain ⟨u1, u2, e⟩ := st
    exact ⟨_, e, fun v z => nomatch z⟩
  · obtain ⟨u1, u2, e⟩ := st
    exact ⟨u1, u2, k J (by simp) _ e⟩
  · intro X h1 h2 h3 calm i pins s σ H E I fp st go
    subst h1 h2 h3
    obtain ⟨hd, hi⟩ := go
    obtain ⟨ns, es2, ep2, dat2, raw, _, ent⟩ := frzTV I hd
    obtain ⟨rfl, rfl⟩ := same dat2
    obtain ⟨⟨k, v⟩, hkv⟩ : ∃ p, kvs[i]? = some p := ⟨kvs[i], List.getElem?_eq_getElem hi⟩
    obtain ⟨hi2, q, ek, eq, ev⟩ := ent i k v hkv
    obtain ⟨u1, u2, hit⟩ := st
    have lt : J < s.heap.objs.size := Heap.lt_size hit
    refine wpAny_pyNext_items_item_raw hit raw hi2 fun g1 out new1 _ kp => ⟨_, rfl, wpAny_letOwnedTupleGo_items (s := { s with heap := g1 }) out fun g2 hit2 sb => ?_⟩
    have new2 := (sb.2 _ (Nat.ne_of_gt lt)).trans new1
    have ok2 : ObjOk X.prog X.w (upd H s.heap.objs.size (.tup [.ref q, v])) g2 s.heap.objs.size (.tup [.ref q, v]) :=
      ⟨by show 2 ≤ sizeLine; decide, [es2[i].key, es2[i].val], .cons ek (.cons ev .nil), ⟨_, new2, rfl, _, rfl⟩⟩
    have I2 := I.turnedNew (t' := s.toks) (ch := [J]) (fun b ob hb e => (sb.2 b (by simpa using hb)).trans (kp b ob (by simpa using hb) e)) fp (Nat.le_refl _) ok2
    refine ⟨.ref s.heap.objs.size, _, I2, rfl, ⟨_, k, v, q, hkv, rfl, I.hok.fresh (Nat.le_refl _), eq, rfl⟩, ⟨_, _, hit2⟩, fun b hb => ?_⟩
    obtain rfl : b = J := by simpa using hb
    rw [upd_ne (Nat.ne_of_lt lt)]
    exact (fp b (by simp)).1
  · intro X h1 h2 h3 calm i pins s σ H E I fp st stop
    subst h1 h2 h3
    obtain ⟨hd, hi⟩ := stop
    obtain ⟨f0, f1, f2, f3, f4, f5⟩ := fp J (by simp)
    obtain ⟨ns, es2, ep2, dat2, raw, _, ent⟩ := frzTV I hd
    obtain ⟨rfl, rfl⟩ := same dat2
    obtain ⟨u1, u2, hit⟩ := st
    exact wpAny_pyNext_items_end_raw (I.ok.hd calm) hit raw (by omega) fun g eb => ⟨rfl, I.turned (t' := s.toks) (fun b ob hb e => eb b ob hb e) f0 f1 f3 f4 f5⟩
  · obtain ⟨_, _, e⟩ := st
    exact PySem.W.kcp_self e h
/-- d.items() of a locked dict of tuple keys -/
def iItemsT (td : TE) : TI := fun σ H R => td σ H fun x H1 => ∃ d o kvs, x = .ref d ∧ H1 d = some (.frz o (.dT kvs)) ∧ R (Itit d o kvs) H1
theorem pi_itemsT {X : Cx} {e : Expr} {td : TE} {apos cpos : Pos} {elts : List Expr} {kk : Nat} {tpos : Pos} (he : PE X e td) (hb : attributeBase e "items" X.env (eval e X.env) = eval e X.env := by rfl) (hl : (apos.endLine == cpos.line) = true := by rfl) :
    PI X (.Tuple elts kk tpos) (.Call (.Attribute e "items" apos) [] [] cpos) (iItemsT td) := by
  refine ⟨fun pins s σ H R I h => wpAny_Call_method (T := "dict") (id := "dict.items") hb rfl hl F.plainAttrs_dict F.slot_dict_items F.type_dict_items (thn (he.run pins s σ H _ I h) fun u s1 z => ?_)⟩
  obtain ⟨x, H1, I1, rx, d, o, kvs, ex, hd, q⟩ := z
  subst ex
  obtain rfl : u = Value.ref d := rx
  obtain ⟨ns, es, ep, dat, raw, sz, _⟩ := frzTV I1 hd
  obtain ⟨ob, ho, hx, hdat⟩ := id raw
  refine ⟨⟨ob, ho, hx.1⟩, fun ob' ho' => ?_, ?_⟩
  · cases ho'
    exact ⟨ob, ho, hx.2.1⟩
  have I2 : Inv X pins σ H1 { s1 with heap := s1.heap.push { cls := .type "dict_items", data := .fields #[.ref d] } } := I1.kept (t' := s1.toks) fun b ob q => Heap.get?_push_of_some _ q
  have raw2 : (s1.heap.push { cls := .type "dict_items", data := .fields #[.ref d] }).DictRaw d es ep := ⟨ob, Heap.get?_push_of_some _ ho, hx, hdat⟩
  have fin : wpAny (model X.prog X.w) X.A (pyIter (.ref s1.heap.objs.size)) (PIE X pins σ (.Tuple elts kk tpos) R) X.xe { s1 with heap := s1.heap.push { cls := .type "dict_items", data := .fields #[.ref d] } } :=
    wpAny_pyIter_items_raw (d := d) ⟨_, Heap.get?_push_size _ rfl, rfl, rfl⟩ raw2 (pi_one (tk := s1.toks) I2 _ (turn_itemsT _ dat sz) ⟨.none, .none, Heap.get?_push_size _ rfl⟩ q)
  exact method_meetsIn F.slot_dict_items F.entry_dict_items rfl (PySem.evalArgs_none ⟨rfl, ⟨ob, ho, hx.1⟩, F.args_dict_items_1 _, _, meets_dict_items_raw d ns, ⟨es, ep, raw⟩, fin⟩)
end TCX
/-! Dicts whose keys are tuples: == and != of two that hold the same, values() walked and summed, clear(). -/
namespace TCX
open PySem PySem.Spec PyProof.Rows L2 PySem.W
section
variable {prog : Program} {w : World} {K : Type} [DecidableEq K] {knd : HeapKind prog w K} {A : Around} {E : Value → Shared → Prop} {s : Shared}
theorem samePairsH {nm : String} {a b : Addr} {ka kb : List (K × Addr × Value)} {Q : Bool → Shared → Prop} (hu : knd.room A) (ha : (a == sysModules) = false) (hb : (b == sysModules) = false)
    (da : s.heap.DictOfH knd a ka) (db : s.heap.DictOfH knd b kb) (hl : ka.length = kb.length) (hits : ∀ x ∈ ka, ∃ p, atKey kb x.1 = some p ∧ SeqAt.EqAt A s x.2.2 p.2 true) (h : Q true s) :
    wpAny (model prog w) A (Builtin.Dict.samePairs nm a b) Q E s := by
  obtain ⟨oa, es, ep, hoa, _, hda, hea, hia, hna⟩ := da
  obtain ⟨ob, es', ep', hob, _, hdb, heb, hib, hnb⟩ := db
  have hla := size_of_entries hea
  have hlb := size_of_entries heb
  have hsz : es.size = es'.size := by omega
  unfold Builtin.Dict.samePairs Builtin.Dict.showsAll
  rw [if_neg (show ¬ (a == sysModules) = true by rw [ha]; exact Bool.false_ne_true), if_neg (show ¬ (b == sysModules) = true by rw [hb]; exact Bool.false_ne_true)]
  refine wpAny_bind (wpAny_pure (wpAny_bind (wpAny_pure ?_)))
  refine wpAny_bind (wpAny_dictEntries hoa hda ?_)
  dsimp only
  refine wpAny_bind (wpAny_dictEntries hob hdb ?_)
  rw [if_neg (by rw [hsz]; simp)]
  refine wpAny_bind (wpAny_dictEpoch hoa hda ?_)
  refine wpAny_bind ?_
  rw [Std.Legacy.Range.forIn_eq_forIn_range']
  simp only [Std.Legacy.Range.size, Nat.sub_zero, Nat.add_sub_cancel, Nat.div_one]
  refine wpAny_forIn_list _
    (fun rest q s' => s' = s ∧ q = (none, ()) ∧ ∃ i, rest = List.range' i (es.size - i) ∧ i ≤ es.size)
    _ ?_ ?_ _ _ ⟨rfl, rfl, 0, by simp, Nat.zero_le _⟩
  · rintro x rest q s' ⟨rfl, rfl, i, hr, hi⟩
    have hlt : i < es.size := by
      rcases Nat.lt_or_ge i es.size with h | h
      · exact h
      · rw [Nat.sub_eq_zero_of_le h] at hr; simp at hr
    obtain ⟨rfl, hrest⟩ : x = i ∧ rest = List.range' (i + 1) (es.size - (i + 1)) := by
      have e : es.size - i = (es.size - (i + 1)) + 1 := by omega
      rw [e, List.range'_succ] at hr
      injection hr with h1 h2
      exact ⟨h1, h2⟩
    refine wpAny_bind (wpAny_dictEntries hoa hda ?_)
    rw [Array.getElem?_eq_getElem hlt]
    have hlt' : x < ka.length := by rw [← hla]; exact hlt
    have ez : es[x] = entryOfKey knd ka[x] := by
      have q := entry_at hea x
      rw [Array.getElem?_eq_getElem hlt, List.getElem?_eq_getElem hlt'] at q
      exact Option.some.inj q
    have hm := List.getElem_mem hlt'
    obtain ⟨p, hp, heq⟩ := hits _ hm
    show wpAny _ _ (holding [es[x].key, es[x].val] _ >>= _) _ _ _
    rw [ez]
    generalize ka[x] = z at hm hp heq
    obtain ⟨k, az, v⟩ := z
    refine wpAny_bind (wpAny_holding (wpAny_bind (wpAny_dictFind_heap (knd := knd) (k := k) (a := az) hu (hia _ hm) hob hdb heb hib hnb ?_ ?_)))
    · intro hno
      rw [atKey_none_of_get hno] at hp
      cases hp
    · intro j p' hj
      rw [atKey_of_get hnb hj] at hp
      obtain rfl := Option.some.inj hp
      have ej := entry_at heb j
      rw [hj] at ej
      have hjlt : j < es'.size := (Array.getElem?_eq_some_iff.mp ej).1
      refine wpAny_bind (wpAny_dictEntries hob hdb ?_)
      rw [ej]
      refine wpAny_holding (heq prog w _ _ ?_)
      show wpAny _ _ (if (!true) = true then _ else _) _ _ _
      rw [if_neg (by decide)]
      refine wpAny_bind (wpAny_dictEpoch hoa hda ?_)
      rw [if_neg (by simp)]
      exact wpAny_pure ⟨rfl, rfl, x + 1, hrest, hlt⟩
  · rintro q s' ⟨rfl, rfl, i, hr, hi⟩
    exact wpAny_pure h
theorem neH {a b : Addr} {ka kb : List (K × Addr × Value)} {Q : Value → Shared → Prop} (hu : knd.room A.in1) (hu0 : A.units < cLine) (ha : (a == sysModules) = false) (hb : (b == sysModules) = false)
    (da : s.heap.DictOfH knd a ka) (db : s.heap.DictOfH knd b kb) (hl : ka.length = kb.length) (hits : ∀ x ∈ ka, ∃ p, atKey kb x.1 = some p ∧ SeqAt.EqAt A.in1 s x.2.2 p.2 true) (h : Q (.bool false) s) :
    wpAny (model prog w) A (compareOp .NotEq (.ref a) (.ref b)) Q E s := by
  refine wpAny_richCompare_same_room (op := .NotEq) da.typeIs db.typeIs PySem.F.slot_dict_ne (wpAny_call_entry PySem.F.slot_dict_ne da.typeIs PySem.F.entry_dict_ne ?_ (PySem.F.args_dict_ne_2 _ _)) hu0
  show wpAny _ _ (Builtin.Dict.dictSlotArgs "__ne__" ⟨[.ref a, .ref b], []⟩ >>= _) _ _ s
  refine wpAny_bind ?_
  unfold Builtin.Dict.dictSlotArgs
  refine wpAny_bind (wpAny_notOrdered_dict da.typeIs ?_)
  show wpAny _ _ (pure (Value.ref a, Value.ref b)) _ _ s
  refine wpAny_pure ?_
  refine wpAny_bind (wpAny_isInstance (T := "dict") db.typeIs PySem.F.sub_dict_dict ?_)
  simp only [Bool.not_true, Bool.false_eq_true, if_false]
  refine wpAny_bind (wpAny_pure (wpAny_bind (wpAny_pure ?_)))
  refine wpAny_bind (samePairsH hu ha hb da db hl hits ?_)
  refine wpAny_pure ⟨_, rfl, ?_, ?_⟩
  · exact fun x => nomatch x
  · simpa using h
end
section
variable {X : Cx}
/-- != of two dicts of tuple keys with flat values that hold the same -/
def rNeTT : R2 := fun x y H Q => ∃ a b ks ls, x = .ref a ∧ y = .ref b ∧ H a = some (.dT ks) ∧ H b = some (.dT ls) ∧ ks.length = ls.length ∧ (∀ p ∈ ks, valV ls p.1 = some p.2 ∧ flatB p.2 = true) ∧ Q (.bl false) H
theorem op_neTT (hu : X.A.units + 64 < cLine) : OpR X (compareOp .NotEq) rNeTT := by
  intro pins s σ H x y v u Q I rx ry h
  obtain ⟨a, b, ks, ls, rfl, rfl, ea, eb, hlen, hp, q⟩ := h
  obtain rfl : v = Value.ref a := rx
  obtain rfl : u = Value.ref b := ry
  obtain ⟨_, ya, va, ra, da⟩ := dt_of I.hok ea
  obtain ⟨_, yb, vb, rb, db⟩ := dt_of I.hok eb
  have l1 : ks.length = va.length := Paired.length ra
  have l2 : ls.length = vb.length := Paired.length rb
  refine neH (knd := tupleKind (mixKind X.prog X.w)) ?_ (by omega) ya yb da db (by omega) (fun z hz => ?_) (fin_bl I q rfl)
  · exact tupleKind_room_in1 (by omega)
  · obtain ⟨i, hi⟩ := List.getElem?_of_mem hz
    have lt : i < ks.length := by
      have := (List.getElem?_eq_some_iff.mp hi).1
      omega
    obtain ⟨z', hz', e1, e2, e3⟩ := paired_get ra (List.getElem?_eq_getElem lt)
    rw [hi] at hz'
    obtain rfl := Option.some.inj hz'
    obtain ⟨h1, h2⟩ := hp _ (List.getElem_mem lt)
    have rr := KT.val rb z.1
    rw [← e1, h1] at rr
    obtain ⟨y, hy, ry⟩ := rr.some_of
    rw [Option.map_eq_some_iff] at hy
    obtain ⟨p, hp1, hp2⟩ := hy
    refine ⟨p, by rw [← e1]; exact hp1, ?_⟩
    rw [hp2]
    exact eqAt_same e3 ry h2
end
/-! ### values() -/
/-- the values of a locked dict of tuple keys -/
def Itdt (d : Addr) (o : Obj) (kvs : List (List Key × V)) : It :=
  ⟨fun i H => H d = some (.frz o (.dT kvs)) ∧ i < kvs.length, fun i H x H' => H' = H ∧ ∃ k, kvs[i]? = some (k, x), fun i H => H d = some (.frz o (.dT kvs)) ∧ kvs.length ≤ i⟩
theorem turn_valsT {P : Program} {w : World} {K : PySem.W.Frag} {tg : Expr} {d : Addr} {o : Obj} {kvs : List (List Key × V)} {ep : Nat} {es : Array DictEntry} (J : Addr) (dat : o.data = .dict es ep) (sz : es.size = kvs.length) :
    Turn P w K tg (Itdt d o kvs) [J] J (fun i h => h.IsValIter J d i es.size ep) where
  mem := by simp
  obj := fun i h st b hb => by
    have e : b = J := by simpa using hb
    subst e
    obtain ⟨oi, e, c, dd⟩ := st
    exact ⟨oi, e, fun v z => by rw [dd] at z; cases z⟩
  keep := fun i h h' st k => st.at fun oi e => k J (by simp) oi e
  item := by
    intro X hP hw hK hc i pins s σ H E I hf st hg
    subst hP hw hK
    obtain ⟨hd, hi⟩ := hg
    obtain ⟨f0, f1, f2, f3, f4, f5⟩ := hf J (by simp)
    obtain ⟨ns, es2, ep2, dat2, raw, _, ent⟩ := frzTV I hd
    obtain ⟨rfl, rfl⟩ := dict_ep dat dat2
    obtain ⟨⟨k, v⟩, hkv⟩ : ∃ p, kvs[i]? = some p := ⟨kvs[i], List.getElem?_eq_getElem hi⟩
    obtain ⟨hi2, q, ek, eq, ev⟩ := ent i k v hkv
    refine wpAny_pyNext_values_item_raw st raw hi2 fun h' st' sb => ?_
    have I1 : Inv X pins σ H { s with heap := h' } := I.turned (t' := s.toks) (fun b ob hb e => (sb.2 b hb).trans e) f0 f1 f3 f4 f5
    obtain ⟨oi, e, c, dd⟩ := id st'
    exact ⟨_, rfl, go_of (s := { s with heap := h' }) e c dd (by decide) ⟨v, H, I1, ev, ⟨rfl, k, hkv⟩, st', fun b hb => (hf b hb).1⟩⟩
  done := by
    intro X hP hw hK hc i pins s σ H E I hf st hg
    subst hP hw hK
    obtain ⟨hd, hi⟩ := hg
    obtain ⟨f0, f1, f2, f3, f4, f5⟩ := hf J (by simp)
    obtain ⟨ns, es2, ep2, dat2, raw, _, ent⟩ := frzTV I hd
    obtain ⟨rfl, rfl⟩ := dict_ep dat dat2
    exact wpAny_pyNext_values_end_raw (I.ok.hd hc) st raw (by omega) fun g eb => ⟨rfl, I.turned (t' := s.toks) (fun b ob hb e => eb b ob hb e) f0 f1 f3 f4 f5⟩
  self := fun A i s Q E st h => wpAny_pyIter_valiter st h
def iValsT (td : TE) : TI := fun σ H R => td σ H fun x H1 => ∃ d o kvs, x = .ref d ∧ H1 d = some (.frz o (.dT kvs)) ∧ R (Itdt d o kvs) H1
section
variable {X : Cx} {tg e : Expr} {td : TE} {apos cpos : Pos}
theorem pi_valuesT (he : PE X e td) (hbase : attributeBase e "values" X.env (eval e X.env) = eval e X.env := by rfl) (hline : (apos.endLine == cpos.line) = true := by rfl) : PI X tg (.Call (.Attribute e "values" apos) [] [] cpos) (iValsT td) := by
  refine ⟨fun pins s σ H R I h => wpAny_Call_method (T := "dict") (id := "dict.values") hbase rfl hline F.plainAttrs_dict F.slot_dict_values F.type_dict_values (thn (he.run pins s σ H _ I h) fun u s1 z => ?_)⟩
  obtain ⟨x, H1, I1, rx, d, o, kvs, ex, hd, q⟩ := z
  subst ex
  obtain rfl : u = Value.ref d := rx
  obtain ⟨ns, es, ep, dat, raw, sz, _⟩ := frzTV I1 hd
  obtain ⟨ob, ho, hx, hdat⟩ := id raw
  refine ⟨⟨ob, ho, hx.1⟩, fun ob' ho' => ?_, ?_⟩
  · cases ho'
    exact ⟨ob, ho, hx.2.1⟩
  have I2 : Inv X pins σ H1 { s1 with heap := s1.heap.push { cls := .type "dict_values", data := .fields #[.ref d] } } := I1.kept (t' := s1.toks) fun b ob q => Heap.get?_push_of_some _ q
  have raw2 : (s1.heap.push { cls := .type "dict_values", data := .fields #[.ref d] }).DictRaw d es ep := ⟨ob, Heap.get?_push_of_some _ ho, hx, hdat⟩
  have fin : wpAny (model X.prog X.w) X.A (pyIter (.ref s1.heap.objs.size)) (PIE X pins σ tg R) X.xe { s1 with heap := s1.heap.push { cls := .type "dict_values", data := .fields #[.ref d] } } :=
    wpAny_pyIter_values_raw (d := d) ⟨_, Heap.get?_push_size _ rfl, rfl, rfl⟩ raw2 (pi_one (tk := s1.toks) I2 _ (turn_valsT _ dat sz) ⟨_, Heap.get?_push_size _ rfl, rfl, rfl⟩ q)
  exact method_meetsIn F.slot_dict_values F.entry_dict_values rfl (PySem.evalArgs_none ⟨rfl, ⟨ob, ho, hx.1⟩, F.args_dict_values_1 _, _, meets_dict_values_raw d ns, ⟨es, ep, raw⟩, fin⟩)
end
theorem walk_valuesT {d : Addr} {o : Obj} {kvs : List (List Key × V)} : Walk (Itdt d o kvs) kvs.length (fun H => H d = some (.frz o (.dT kvs))) (fun i H x H' => H' = H ∧ ∃ k, kvs[i]? = some (k, x)) :=
  ⟨fun _ _ hi q => ⟨q, hi⟩, fun _ q => ⟨q, Nat.le_refl _⟩, fun _ _ _ _ _ _ y => y⟩
/-! ### clear() -/
def rTClear : V → List V → Hp → VK → Prop := fun x vs H Q => ∃ (a : Addr) (kvs : List (List Key × V)), x = .ref a ∧ vs = [] ∧ H a = some (.dT kvs) ∧ Q .non (upd H a (.dT []))
theorem mtt_clear {X : Cx} : MtR X "dict.clear" rTClear := by
  intro pins s σ H x vs v us Q I rx rv h
  obtain ⟨a, kvs, ex, ev, e, q⟩ := h
  subst ex
  subst ev
  obtain rfl : v = Value.ref a := rx
  have hus := rv.zero
  subst hus
  obtain ⟨z, hd, xs, rel, dd⟩ := dt_of I.hok e
  obtain ⟨es, ep, raw, sz, _⟩ := Heap.DictOfH.raw dd
  have l1 : kvs.length = xs.length := Paired.length rel
  refine call_meetsIn PySem.F.slot_dict_clear dd.typeIs PySem.F.entry_dict_clear (PySem.F.args_dict_clear_1 _) (meets_dict_clear_raw a) ⟨es, ep, raw, by omega, fun h' dd' hs => ?_⟩
  obtain ⟨q', hq', hx', hdat'⟩ := dd'
  refine ⟨.non, _, d_write (t' := s.toks) (ob := .dT []) I (by rw [e]; exact True.intro) hs ⟨q', hq'⟩ ?_, rfl, q⟩
  exact ⟨Nat.zero_le _, hd, [], .nil, q', #[], ep + 1, hq', hx', hdat', rfl, List.nodup_nil⟩
section
variable {X : Cx} {o : Expr} {to : TE} {apos cpos : Pos}
theorem pe_tclear (ho : PE X o to) (hbase : attributeBase o "clear" X.env (eval o X.env) = eval o X.env := by rfl) (hline : (apos.endLine == cpos.line) = true := by rfl) : PE X (.Call (.Attribute o "clear" apos) [] [] cpos) (tBM0 X.K "dict" rTClear to) :=
  pe_bm0 PySem.F.plainAttrs_dict PySem.F.slot_dict_clear PySem.F.type_dict_clear mtt_clear ho hbase hline
end
/-! ### sum(d.values()) -/
theorem preSum_take (f : Nat → Int) (ns : List Int) (h : ∀ i, i < ns.length → f i = ns.getD i 0) : ∀ n, n ≤ ns.length → preSum f n = (ns.take n).sum
  | 0, _ => by simp [preSum]
  | n + 1, hn => by
    rw [preSum, preSum_take f ns h n (by omega), h n (by omega), List.take_add_one, List.sum_append, List.getElem?_eq_getElem (by omega), List.getD_eq_getElem?_getD, List.getElem?_eq_getElem (by omega)]
    simp
def viewT (p d : Addr) : HO := .ext fun h => h.get? p = some { cls := .type "dict_values", data := .fields #[.ref d] }
def tValsT (td : TE) : TE := fun σ H Q => td σ H fun x H1 => ∃ a kvs, x = .ref a ∧ H1 a = some (.dT kvs) ∧ ∀ p, H1 p = none → Q (.ref p) (upd H1 p (viewT p a))
theorem pe_valsT {X : Cx} {e : Expr} {td : TE} {apos cpos : Pos} (he : PE X e td) (hbase : attributeBase e "values" X.env (eval e X.env) = eval e X.env := by rfl) (hline : (apos.endLine == cpos.line) = true := by rfl) : PE X (.Call (.Attribute e "values" apos) [] [] cpos) (tValsT td) := by
  refine ⟨fun pins s σ H Q I h => wpAny_Call_method (T := "dict") (id := "dict.values") hbase rfl hline F.plainAttrs_dict F.slot_dict_values F.type_dict_values (thn (he.run pins s σ H _ I h) fun u s1 z => ?_)⟩
  obtain ⟨x, H1, I1, rx, d, kvs, ex, hd, q⟩ := z
  subst ex
  obtain rfl : u = Value.ref d := rx
  obtain ⟨_, ns, xs, rel, dd⟩ := dt_of I1.hok hd
  obtain ⟨es, ep, raw, _, _⟩ := Heap.DictOfH.raw dd
  obtain ⟨ob, ho, hx, hdat⟩ := id raw
  refine ⟨⟨ob, ho, hx.1⟩, fun ob' ho' => ?_, ?_⟩
  · cases ho'
    exact ⟨ob, ho, hx.2.1⟩
  have fin : EP X pins σ Q (.ref s1.heap.objs.size) { s1 with heap := s1.heap.push { cls := .type "dict_values", data := .fields #[.ref d] } } :=
    ⟨.ref s1.heap.objs.size, _, I1.laid (t' := s1.toks) (fun b o q => Heap.get?_push_of_some _ q) (Nat.le_refl _) (show ObjOk X.prog X.w _ _ _ (viewT s1.heap.objs.size d) from ⟨Heap.get?_push_size _ rfl, ⟨_, Heap.get?_push_size _ rfl⟩, fun h1 h2 q k => k _ q⟩), rfl, q _ (I1.hok.fresh (Nat.le_refl _))⟩
  exact method_meetsIn F.slot_dict_values F.entry_dict_values rfl (PySem.evalArgs_none ⟨rfl, ⟨ob, ho, hx.1⟩, F.args_dict_values_1 _, _, meets_dict_values_raw d ns, ⟨es, ep, raw⟩, fin⟩)
def rSumVT : List V → Hp → VK → Prop := fun xs H Q => ∃ (p a : Addr) (kvs : List (List Key × V)) (ns : List Int), xs = [.ref p] ∧ H p = some (viewT p a) ∧ H a = some (.dT kvs) ∧ kvs.map Prod.snd = ns.map V.int ∧ Q (.int ns.sum) H
theorem cr_sumVT {X : Cx} (hc : X.calm = true) : CallR X (.builtin "sum") rSumVT := by
  intro pins s σ H xs us Q I rx h
  obtain ⟨p, a, kvs, ns, rfl, hp, hd, hns, q⟩ := h
  rw [Vals.ref1 rx]
  have hv : s.heap.get? p = some { cls := .type "dict_values", data := .fields #[.ref a] } := (show ObjOk X.prog X.w H s.heap p (viewT p a) from I.hok p _ hp).1
  obtain ⟨_, sm, xs, rel, dd⟩ := dt_of I.hok hd
  obtain ⟨es, ep, raw, sz, ent⟩ := Heap.DictOfH.raw dd
  have l1 : kvs.length = xs.length := Paired.length rel
  have l2 : kvs.length = ns.length := by
    have e := congrArg List.length hns
    rw [List.length_map, List.length_map] at e
    exact e
  have lt := raw.lt_size
  refine call_sum_walkG (wpAny_pyIter_values_raw (d := a) ⟨_, hv, rfl, rfl⟩ raw ?_)
  refine ⟨s.heap.objs.size, _, _, _, _, _, fun i => ns.getD i 0, rfl, Walks.rawValues (A := X.A.in1) (show X.A.in1.handled = none from I.ok.hd hc) _ a (Nat.ne_of_lt lt) es ep, ⟨⟨_, Heap.get?_push_size _ rfl, rfl, rfl⟩, raw.push _⟩, fun b hb => ?_, fun i v hP => ?_, fun h' tk t' hk => ?_⟩
  · simp only [List.mem_cons, List.not_mem_nil, or_false] at hb
    rcases hb with rfl | rfl
    · show _ < (s.heap.push _).objs.size
      rw [size_push']
      exact Nat.lt_succ_self _
    · show _ < (s.heap.push _).objs.size
      rw [size_push']
      exact Nat.lt_succ_of_lt lt
  · obtain ⟨hi, rfl⟩ := hP
    have hi2 : i < kvs.length := by omega
    obtain ⟨y, hy, _, ev, _⟩ := ent i hi
    obtain ⟨y', hy', _, _, e3⟩ := paired_get rel (List.getElem?_eq_getElem hi2)
    rw [hy] at hy'
    obtain rfl := Option.some.inj hy'
    have e2 : kvs[i].2 = V.int (ns.getD i 0) := by
      have z : (kvs.map Prod.snd)[i]? = (ns.map V.int)[i]? := by rw [hns]
      rw [List.getElem?_map, List.getElem?_map, List.getElem?_eq_getElem hi2, List.getElem?_eq_getElem (by omega)] at z
      rw [List.getD_eq_getElem?_getD, List.getElem?_eq_getElem (by omega)]
      exact Option.some.inj z
    rw [e2] at e3
    obtain ⟨t, e4⟩ := (show ∃ t, y.2.2 = Value.int (ns.getD i 0) t from e3)
    exact ⟨t, ev.trans e4⟩
  · have e : preSum (fun i => ns.getD i 0) es.size = ns.sum := by
      rw [preSum_take _ ns (fun _ _ => rfl) _ (by omega), List.take_of_length_le (by omega)]
    rw [e]
    refine ⟨.int _, H, I.kept (t' := tk) fun b o hb => hk b o (fun hm => ?_) (Heap.get?_push_of_some _ hb), ⟨_, rfl⟩, q⟩
    simp only [List.mem_cons, List.not_mem_nil, or_false] at hm
    exact absurd (Heap.lt_size hb) (by rw [hm]; exact Nat.lt_irrefl _)
end TCX
/-! (one of a list of defs)(e, ..): the def is what the subscript gives. -/
namespace TCX
open PySem PySem.Spec PyProof.Rows L2
theorem eval_callSub (o i : Expr) (p2 : Pos) (args : List Expr) (keywords : List Keyword) (pos : Pos) (env : Env) : eval (.Call (.Subscript o i p2) args keywords pos) env = (do
    callWith pos (← eval (.Subscript o i p2) env) [] (backTo pos (starEach args env)) (backToKw pos (keywordEach keywords env))) := rfl
/-- the def at f with its promise, what it may let out, its parameters -/
structure HeldX (P : Program) (w : World) (K : PySem.W.Frag) (mg : Str → Option Value) (base : Heap) (k : Nat) (f : Addr) (sp : Sp) : Prop where
  ex : ∃ (fd : FuncData) (ps : List Str), FnOk P w K mg base (L2.CX P w) k f fd ps sp ∧ PySem.W.keepIn K (.ref f) = true ∧ L2.Binds K fd ps []
section
variable {X : Cx} {k : Nat} {E : XK} {o i : Expr} {p2 pos : Pos} {e : Expr} {es : List Expr} {t : TA} {tf : TE}
def tCallF (P : Program) (w : World) (K : PySem.W.Frag) (mg : Str → Option Value) (base : Heap) (k : Nat) (E : XK) (tf : TE) (t : TA) : TE := fun σ H Q => tf σ H fun y H1 => ∃ f sp, y = .ref f ∧ HeldX P w K mg base k f sp ∧ t σ H1 fun vs H2 => sp vs H2 Q E
theorem pe_callF (hf : PE X (.Subscript o i p2) tf) (hr : Room k X.A) (hx : Passes (L2.CX X.prog X.w) X E) (ha : PA X (e :: es) t) (he : starEach (e :: es) X.env = (false, eval e X.env) :: starEach es X.env := by rfl) (hpl : (backTo pos (starEach es X.env)).any (·.1) = false := by rfl) :
    PE X (.Call (.Subscript o i p2) (e :: es) [] pos) (tCallF X.prog X.w X.K X.mg X.base k E tf t) := by
  refine ⟨fun pins s σ H Q I h => ?_⟩
  rw [eval_callSub]
  refine wpAny_bind (thn (hf.run pins s σ H _ I h) fun u s1 z => ?_)
  obtain ⟨v, H1, I1, r1, f, sp, rfl, ⟨fd, ps, F, hk, hb⟩, ht⟩ := z
  cases r1
  refine PySem.W.callWith_K (h₀ := X.base) I1.ok.mod.kin hk (thn (ha.run pos pins s1 σ H1 _ I1 ht) fun us s2 z => ?_) he hpl
  obtain ⟨vs, H2, I2, r, q⟩ := z
  refine ⟨I2.kIn, ?_⟩
  refine run_fn (dvs := []) F hr hb .nil hx I2 r ?_
  rw [List.append_nil]
  exact q
end
end TCX
/-! dict(d) of a dict whose keys are tuples; != of two such dicts whose values are the same objects. -/
namespace TCX
open PySem PySem.Spec PyProof.Rows L2 PySem.W
section
variable {prog : Program} {w : World} {K : Type} [DecidableEq K] {knd : HeapKind prog w K} {A : Around} {E : Value → Shared → Prop} {s : Shared}
theorem dict_ofH (st : knd.Stays) {o : Addr} {more : List (K × Addr × Value)} {Q : Value → Shared → Prop} (hu : knd.room A.in1.in1) (hoS : (o == sysModules) = false) (ho : s.heap.DictOfH knd o more) (hap : (more.map fun x => knd.hash x.1).Nodup) (hsz : more.length ≤ sizeLine)
    (h : ∀ h', h'.DictOfH knd s.heap.objs.size more → Heap.SameBut s.heap.objs.size (s.heap.push { cls := .type "dict", data := .dict #[] }) h' → Q (.ref s.heap.objs.size) { s with heap := h' }) :
    wpAny (model prog w) A (call (.type "dict") [.ref o]) Q E s := by
  refine callType_codes (Q₁ := fun obj s₁ => obj = .ref s.heap.objs.size ∧ s₁ = { s with heap := s.heap.push { cls := .type "dict", data := .dict #[] } }) F.kt_called_dict (F.kt_typeCall_dict_1 _) F.entry_dict_init (kt_code_dict_new _ ⟨rfl, rfl⟩) ?_
  rintro obj s₁ ⟨rfl, rfl⟩
  have hnew : (s.heap.push { cls := .type "dict", data := .dict #[] }).DictOfH knd s.heap.objs.size [] := Heap.DictOfH.new s.heap
  have hk : ∀ b u, s.heap.get? b = some u → (s.heap.push { cls := .type "dict", data := .dict #[] }).get? b = some u := fun b u e => Heap.get?_push_of_some _ e
  obtain ⟨_, _, _, hg, _, _, _, his, hn⟩ := id ho
  have ho' : (s.heap.push { cls := .type "dict", data := .dict #[] }).DictOfH knd o more := ho.at' (fun u e => hk o u e) fun y hy => st.stays (fun b u _ _ e _ => hk b u e) (his y hy)
  have hdo : s.heap.objs.size ≠ o := fun e => absurd (Heap.lt_size hg) (by rw [e]; exact Nat.lt_irrefl _)
  refine ⟨hnew.typeIs, F.args_dict_init_2 _ _, ?_⟩
  unfold Builtin.«dict.__init__»
  refine wpAny_bind ?_
  unfold Builtin.Dict.selfAndRest
  refine wpAny_bind (wpAny_notOrdered_dict hnew.typeIs ?_)
  show wpAny _ _ (pure (s.heap.objs.size, [Value.ref o])) _ _ _
  refine wpAny_pure ?_
  refine updateFrom_dictH (A := A.in1) .none hu hdo hoS hnew ho' (.inr ⟨keyed_apart st ho', hap⟩) (by simpa using hsz) fun h' hd' _ hs' => ?_
  rw [storedAllH_nil_of_nodup more hn] at hd'
  exact ⟨rfl, h h' hd' hs'⟩
end
section
variable {X : Cx}
/-- dict(d): a copy, keys that are tuples whose hashes differ -/
theorem call_dictT (hu : X.A.units + 64 < cLine) : CallR X (.type "dict") (fun xs H Q => ∃ (a : Addr) (kvs : List (List Key × V)), xs = [.ref a] ∧ H a = some (.dT kvs) ∧ (kvs.map fun kv => tupleKeyHash (mixKind X.prog X.w) kv.1).Nodup ∧ ∀ p, H p = none → Q (.ref p) (upd H p (.dT kvs))) := by
  intro pins s σ H xs us Q I r q
  obtain ⟨a, kvs, ex, hd, hn, q⟩ := q
  subst ex
  obtain ⟨u, eu, rx⟩ := vals1 r
  subst eu
  cases rx
  obtain ⟨z, lo, vs, rel, dd⟩ := dt_of I.hok hd
  have lv : kvs.length = vs.length := Paired.length rel
  have ek : (vs.map fun x => (tupleKind (mixKind X.prog X.w)).hash x.1) = kvs.map fun kv => tupleKeyHash (mixKind X.prog X.w) kv.1 := by
    refine List.ext_getElem (by rw [List.length_map, List.length_map, lv]) fun i h1 h2 => ?_
    rw [List.getElem_map, List.getElem_map]
    rw [List.length_map] at h1 h2
    obtain ⟨z', hz', e1, _⟩ := paired_get rel (List.getElem?_eq_getElem h2)
    rw [List.getElem?_eq_getElem h1] at hz'
    rw [Option.some.inj hz', e1]
    rfl
  refine dict_ofH tupleKind_stays (show X.A.units + 1 + 1 < cLine by omega) lo dd (by rw [ek]; exact hn) (by rw [← lv]; exact z) fun h' d' hs => ?_
  have hm : (s.heap.objs.size == sysModules) = false := beq_eq_false_iff_ne.mpr (Nat.ne_of_gt I.big)
  have keep : ∀ b u, s.heap.get? b = some u → h'.get? b = some u := fun b u e => (hs.2 b (Nat.ne_of_lt (Heap.lt_size e))).trans (Heap.get?_push_of_some _ e)
  obtain ⟨o', es, ep, g1, g2, g3, g4, _, g6⟩ := d'
  refine ⟨.ref s.heap.objs.size, upd H s.heap.objs.size (.dT kvs), I.laid (t' := s.toks) keep (Nat.le_refl _)
    (show ObjOk X.prog X.w _ _ _ (.dT kvs) from ⟨z, hm, vs, KT.keeps rel fun b ys e => ?_, o', es, ep, g1, g2, g3, g4, g6⟩), rfl, q _ (I.hok.fresh (Nat.le_refl _))⟩
  rw [upd_ne fun e' => by
    rw [e', I.hok.fresh (Nat.le_refl _)] at e
    cases e]
  exact e
/-- != of two dicts of tuple keys that hold the same objects -/
def rNeTR : R2 := fun x y H Q => ∃ a b ks, x = .ref a ∧ y = .ref b ∧ H a = some (.dT ks) ∧ H b = some (.dT ks) ∧ (∀ p ∈ ks, valV ks p.1 = some p.2 ∧ ∃ r, p.2 = .ref r) ∧ Q (.bl false) H
theorem op_neTR (hu : X.A.units + 64 < cLine) : OpR X (compareOp .NotEq) rNeTR := by
  intro pins s σ H x y v u Q I rx ry h
  obtain ⟨a, b, ks, rfl, rfl, ea, eb, hp, q⟩ := h
  obtain rfl : v = Value.ref a := rx
  obtain rfl : u = Value.ref b := ry
  obtain ⟨_, ya, va, ra, da⟩ := dt_of I.hok ea
  obtain ⟨_, yb, vb, rb, db⟩ := dt_of I.hok eb
  have l1 : ks.length = va.length := Paired.length ra
  have l2 : ks.length = vb.length := Paired.length rb
  refine neH (knd := tupleKind (mixKind X.prog X.w)) ?_ (by omega) ya yb da db (by omega) (fun z hz => ?_) (fin_bl I q rfl)
  · exact tupleKind_room_in1 (by omega)
  · obtain ⟨i, hi⟩ := List.getElem?_of_mem hz
    have lt : i < ks.length := by
      have := (List.getElem?_eq_some_iff.mp hi).1
      omega
    obtain ⟨z', hz', e1, e2, e3⟩ := paired_get ra (List.getElem?_eq_getElem lt)
    rw [hi] at hz'
    obtain rfl := Option.some.inj hz'
    obtain ⟨h1, r, h2⟩ := hp _ (List.getElem_mem lt)
    have rr := KT.val rb z.1
    rw [← e1, h1] at rr
    obtain ⟨y, hy, ry⟩ := rr.some_of
    rw [Option.map_eq_some_iff] at hy
    obtain ⟨p, hp1, hp2⟩ := hy
    refine ⟨p, by rw [← e1]; exact hp1, ?_⟩
    rw [hp2]
    rw [h2] at e3 ry
    have e3' : z.2.2 = Value.ref r := e3
    have ry' : y = Value.ref r := ry
    rw [e3', ry']
    exact SeqAt.EqAt.same _
end
/-- the def at f with its promise, whatever it may let out -/
structure HeldC (P : Program) (w : World) (K : PySem.W.Frag) (mg : Str → Option Value) (base : Heap) (CX : CXT) (k : Nat) (f : Addr) (sp : Sp) : Prop where
  ex : ∃ (fd : FuncData) (ps : List Str), FnOk P w K mg base CX k f fd ps sp ∧ PySem.W.keepIn K (.ref f) = true ∧ L2.Binds K fd ps []
section
variable {X : Cx} {k : Nat} {E : XK} {CX : CXT} {o i : Expr} {p2 pos : Pos} {e : Expr} {es : List Expr} {t : TA} {tf : TE}
def tCallC (P : Program) (w : World) (K : PySem.W.Frag) (mg : Str → Option Value) (base : Heap) (CX : CXT) (k : Nat) (E : XK) (tf : TE) (t : TA) : TE := fun σ H Q => tf σ H fun y H1 => ∃ f sp, y = .ref f ∧ HeldC P w K mg base CX k f sp ∧ t σ H1 fun vs H2 => sp vs H2 Q E
theorem pe_callC (hf : PE X (.Subscript o i p2) tf) (hr : Room k X.A) (hx : Passes CX X E) (ha : PA X (e :: es) t) (he : starEach (e :: es) X.env = (false, eval e X.env) :: starEach es X.env := by rfl) (hpl : (backTo pos (starEach es X.env)).any (·.1) = false := by rfl) :
    PE X (.Call (.Subscript o i p2) (e :: es) [] pos) (tCallC X.prog X.w X.K X.mg X.base CX k E tf t) := by
  refine ⟨fun pins s σ H Q I h => ?_⟩
  rw [eval_callSub]
  refine wpAny_bind (thn (hf.run pins s σ H _ I h) fun u s1 z => ?_)
  obtain ⟨v, H1, I1, r1, f, sp, rfl, ⟨fd, ps, F, hk, hb⟩, ht⟩ := z
  cases r1
  refine PySem.W.callWith_K (h₀ := X.base) I1.ok.mod.kin hk (thn (ha.run pos pins s1 σ H1 _ I1 ht) fun us s2 z => ?_) he hpl
  obtain ⟨vs, H2, I2, r, q⟩ := z
  refine ⟨I2.kIn, ?_⟩
  refine run_fn (dvs := []) F hr hb .nil hx I2 r ?_
  rw [List.append_nil]
  exact q
end
end TCX
/-! sorted of a list of data; a list != a list of the same objects; a dict != a dict whose values are told alike by their own ==. -/
namespace TCX
open PySem PySem.Spec PyProof.Rows L2 PySem.W
section
variable {X : Cx}
/-- sorted(xs), xs a list of data of one kind -/
def rSortedLD (K : PySem.W.Frag) : List V → Hp → VK → Prop := fun vs H Q => ∃ (a : Addr) (bs : List VD), vs = [V.ref a] ∧ SqL K H a (bs.map (·.1)) ∧ (∀ b ∈ bs, Dp K H b.1 b.2) ∧ AllAlike (bs.map (·.2)) ∧ Sortable (bs.map (·.2)) ∧ bs.length ≤ 10000 ∧ (∀ b ∈ bs, b.2.depth ≤ 8) ∧
  ∀ p, H p = none → Q (.ref p) (upd H p (.lst ((bs.mergeSort (dataLe false (·.2))).map (·.1))))
theorem cr_sortedLD (hu : X.A.units + 64 < cLine) : CallR X (.builtin "sorted") (rSortedLD X.K) := by
  intro pins s σ H vs us Q I r h
  obtain ⟨a, bs, rfl, hs, hd, al, so, len, dep, q⟩ := h
  obtain ⟨its, rv, hl, hz⟩ := I.list hs
  rw [Vals.ref1 r]
  obtain ⟨e1, e2⟩ := reads_all I rv hd
  refine sorted_data hl.isList e1 e2 al so (Nat.le_trans len (by decide)) (fun b hb => by
    have := dep b hb
    omega) fun out h1 h2 => ?_
  obtain ⟨ep, he'⟩ := PyProof.Rows.sortedAll_at s.heap its out.toArray
  have hlen : ((bs.mergeSort (dataLe false (fun b : VD => b.2))).map (·.1)).length ≤ sizeLine := by
    rw [List.length_map, List.length_mergeSort]
    exact Nat.le_trans len (by decide)
  exact ⟨.ref _, upd H (s.heap.objs.size + 1) (.lst ((bs.mergeSort (dataLe false (fun b : VD => b.2))).map (·.1))), I.laid (t' := s.toks) (fun _ _ => PyProof.Rows.sortedAll_old) (Nat.le_succ _) ⟨hlen, out, ep, vals_each h2, he'⟩, rfl, q _ (I.hok.fresh (Nat.le_succ _))⟩
/-- sorted(d), keys that are flat tuples, in whatever order -/
def rSortedTG : List V → Hp → VK → Prop := fun vs H Q => ∃ (d : Addr) (kvs : List (List Key × V)), vs = [.ref d] ∧ Rd H d (.dT kvs) ∧
  AllAlike (kvs.map fun z => dKeys z.1) ∧ Sortable (kvs.map fun z => dKeys z.1) ∧ kvs.length ≤ 10000 ∧ (∀ z ∈ kvs, (dKeys z.1).depth ≤ 8) ∧
  ∀ (bs : List VD) p, bs.map (·.2) = kvs.map (fun z => dKeys z.1) → (∀ b ∈ bs, ∃ a z, b = (V.ref a, dKeys z) ∧ H a = some (.tup (z.map kV))) → H p = none → Q (.ref p) (upd H p (.lst ((bs.mergeSort (dataLe false (·.2))).map (·.1))))
theorem cr_sortedTG (cm : X.calm = true) (hu : X.A.units + 64 < cLine) : CallR X (.builtin "sorted") rSortedTG := by
  intro pins s σ H vs us Q I r h
  obtain ⟨d, kvs, rfl, e, al, so, len, dep, q⟩ := h
  obtain ⟨u0, rfl, ru⟩ := vals1 r
  cases ru
  obtain ⟨_, lo, xs, kt, dh⟩ := dt_rd I.hok e
  obtain ⟨es, ep, raw, sz, at_⟩ := dh.raw
  have lx := paired_len kt
  obtain ⟨bs, hbs⟩ : ∃ bs : List VD, (kvs.zip xs).map (fun z => ((V.ref z.2.2.1, dKeys z.1.1) : VD)) = bs := ⟨_, rfl⟩
  have lb : bs.length = kvs.length := by
    rw [← hbs, List.length_map, List.length_zip, ← lx, Nat.min_self]
  have at2 : ∀ (i : Nat) (b : VD), bs[i]? = some b → ∃ z x, kvs[i]? = some z ∧ xs[i]? = some x ∧ b = (V.ref x.2.1, dKeys z.1) := fun i b hb => by
    rw [← hbs, List.getElem?_map] at hb
    obtain ⟨z, hz, rfl⟩ := Option.map_eq_some_iff.mp hb
    obtain ⟨h1, h2⟩ := List.getElem?_zip_eq_some.mp hz
    exact ⟨z.1, z.2, h1, h2, rfl⟩
  have e2 : bs.map (·.2) = kvs.map fun z => dKeys z.1 := by
    rw [← hbs, List.map_map]
    have : (kvs.zip xs).map (fun z => dKeys z.1.1) = ((kvs.zip xs).map (·.1)).map fun z => dKeys z.1 := by
      rw [List.map_map]
      rfl
    rw [show (((fun b : VD => b.2) ∘ fun z : (List Key × V) × (List Key × Addr × Value) => ((V.ref z.2.2.1, dKeys z.1.1) : VD))) = fun z => dKeys z.1.1 from rfl, this, List.map_fst_zip (by omega)]
  have tp : ∀ b ∈ bs, ∃ a z, b = (V.ref a, dKeys z) ∧ H a = some (.tup (z.map kV)) := fun b hb => by
    obtain ⟨i, hb⟩ := List.getElem?_of_mem hb
    obtain ⟨z, x, h1, h2, rfl⟩ := at2 i b hb
    obtain ⟨_, h3, _⟩ := paired_ix kt i z x h1 h2
    exact ⟨_, _, rfl, h3⟩
  refine sortedRaw I cm hu lo raw (by rw [sz, ← lx, lb]) (fun i hi b hb => ?_) (fun b hb => ?_) (by rw [e2]; exact al) (by rw [e2]; exact so) (by omega) (fun b hb => ?_) (fun p hp => q bs p e2 tp hp)
  · obtain ⟨z, x, h1, h2, rfl⟩ := at2 i b hb
    obtain ⟨y, h3, h4, _⟩ := at_ i hi
    rw [h2] at h3
    cases h3
    rw [h4]
    rfl
  · obtain ⟨a, z, rfl, h3⟩ := tp b hb
    exact .tup (SqT.of h3) (dp_key _)
  · obtain ⟨i, hb⟩ := List.getElem?_of_mem hb
    obtain ⟨z, x, h1, h2, rfl⟩ := at2 i b hb
    exact dep z (List.mem_of_getElem? h1)
/-- a list != another list of the same objects -/
def rNeLR (K : PySem.W.Frag) : R2 := fun x y H Q => ∃ (a b : Addr) (xs : List Addr), x = .ref a ∧ y = .ref b ∧ SqL K H a (xs.map V.ref) ∧ SqL K H b (xs.map V.ref) ∧ Q (.bl false) H
theorem op_neLR (hu : X.A.units < cLine) : OpR X (compareOp .NotEq) (rNeLR X.K) := by
  intro pins s σ H x y v u Q I rx ry h
  obtain ⟨a, b, xs, rfl, rfl, ea, eb, q⟩ := h
  obtain rfl : v = Value.ref a := rx
  obtain rfl : u = Value.ref b := ry
  obtain ⟨ia, va, ga, _⟩ := I.list ea
  obtain ⟨ib, vb, gb, _⟩ := I.list eb
  have same : ∀ {xs : List Addr} {js : List Value}, Vals (xs.map V.ref) js → js = xs.map Value.ref := fun {xs} => by
    induction xs with
    | nil =>
      intro js h
      cases h
      rfl
    | cons x xs ih =>
      intro js h
      cases h with
      | cons h1 h2 =>
        rw [ih h2]
        cases h1
        rfl
  rw [same va] at ga
  rw [same vb] at gb
  refine SeqAt.RcNeAt.lists (e := fun _ => true) ga.isList gb.isList rfl hu (fun i h1 h2 => SeqAt.EqAt.same _) _ _ _ _ (fin_bl I q ?_)
  simp
end
section
variable {prog : Program} {w : World} {K : Type} [DecidableEq K] {knd : HeapKind prog w K} {A : Around} {E : Value → Shared → Prop} {s : Shared}
theorem samePairsG {nm : String} {a b : Addr} {oa ob : Obj} {Q : Bool → Shared → Prop} (J : Shared → Prop) (hu : knd.room A) (ha : (a == sysModules) = false) (hb : (b == sysModules) = false)
    (hJ : ∀ s, J s → s.heap.get? a = some oa ∧ s.heap.get? b = some ob ∧ ∃ ka kb : List (K × Addr × Value), s.heap.DictOfH knd a ka ∧ s.heap.DictOfH knd b kb ∧ ka.length = kb.length ∧ ∀ x ∈ ka, ∃ p, atKey kb x.1 = some p ∧ wpAny (model prog w) A (eqBool x.2.2 p.2) (fun r s' => r = true ∧ J s') E s)
    (h0 : J s) (h : ∀ s', J s' → Q true s') :
    wpAny (model prog w) A (Builtin.Dict.samePairs nm a b) Q E s := by
  obtain ⟨goa, gob, ka, kb, da, db, hl, _⟩ := hJ s h0
  obtain ⟨oa', es, ep, hoa, _, hda, hea, hia, hna⟩ := da
  obtain ⟨ob', es', ep', hob, _, hdb, heb, hib, hnb⟩ := db
  obtain rfl : oa = oa' := Option.some.inj (goa.symm.trans hoa)
  obtain rfl : ob = ob' := Option.some.inj (gob.symm.trans hob)
  have hla := size_of_entries hea
  have hlb := size_of_entries heb
  have hsz : es.size = es'.size := by omega
  unfold Builtin.Dict.samePairs Builtin.Dict.showsAll
  rw [if_neg (show ¬ (a == sysModules) = true by rw [ha]; exact Bool.false_ne_true), if_neg (show ¬ (b == sysModules) = true by rw [hb]; exact Bool.false_ne_true)]
  refine wpAny_bind (wpAny_pure (wpAny_bind (wpAny_pure ?_)))
  refine wpAny_bind (wpAny_dictEntries hoa hda ?_)
  dsimp only
  refine wpAny_bind (wpAny_dictEntries hob hdb ?_)
  rw [if_neg (by rw [hsz]; simp)]
  refine wpAny_bind (wpAny_dictEpoch hoa hda ?_)
  refine wpAny_bind ?_
  rw [Std.Legacy.Range.forIn_eq_forIn_range']
  simp only [Std.Legacy.Range.size, Nat.sub_zero, Nat.add_sub_cancel, Nat.div_one]
  refine wpAny_forIn_list _
    (fun rest q s' => J s' ∧ q = (none, ()) ∧ ∃ i, rest = List.range' i (es.size - i) ∧ i ≤ es.size)
    _ ?_ ?_ _ _ ⟨h0, rfl, 0, by simp, Nat.zero_le _⟩
  · rintro x rest q s' ⟨hJs, rfl, i, hr, hi⟩
    have hlt : i < es.size := by
      rcases Nat.lt_or_ge i es.size with h | h
      · exact h
      · rw [Nat.sub_eq_zero_of_le h] at hr; simp at hr
    obtain ⟨rfl, hrest⟩ : x = i ∧ rest = List.range' (i + 1) (es.size - (i + 1)) := by
      have e : es.size - i = (es.size - (i + 1)) + 1 := by omega
      rw [e, List.range'_succ] at hr
      injection hr with h1 h2
      exact ⟨h1, h2⟩
    clear hea hia hna heb hib hnb hla hlb hl
    obtain ⟨goa', gob', ka, kb, da, db, hl, hits⟩ := hJ s' hJs
    obtain ⟨oa', es2, ep2, hoa2, _, hda2, hea, hia, hna⟩ := da
    obtain ⟨ob', es2', ep2', hob2, _, hdb2, heb, hib, hnb⟩ := db
    obtain rfl : oa = oa' := Option.some.inj (goa'.symm.trans hoa2)
    obtain rfl : ob = ob' := Option.some.inj (gob'.symm.trans hob2)
    have e1 := hda.symm.trans hda2
    have e2 := hdb.symm.trans hdb2
    injection e1 with e11 e12
    injection e2 with e21 e22
    subst e11 e12 e21 e22
    have hla := size_of_entries hea
    refine wpAny_bind (wpAny_dictEntries hoa2 hda ?_)
    rw [Array.getElem?_eq_getElem hlt]
    have hlt' : x < ka.length := by rw [← hla]; exact hlt
    have ez : es[x] = entryOfKey knd ka[x] := by
      have q := entry_at hea x
      rw [Array.getElem?_eq_getElem hlt, List.getElem?_eq_getElem hlt'] at q
      exact Option.some.inj q
    have hm := List.getElem_mem hlt'
    obtain ⟨p, hp, heq⟩ := hits _ hm
    show wpAny _ _ (holding [es[x].key, es[x].val] _ >>= _) _ _ _
    rw [ez]
    generalize ka[x] = z at hm hp heq
    obtain ⟨k, az, v⟩ := z
    refine wpAny_bind (wpAny_holding (wpAny_bind (wpAny_dictFind_heap (knd := knd) (k := k) (a := az) hu (hia _ hm) hob2 hdb heb hib hnb ?_ ?_)))
    · intro hno
      rw [atKey_none_of_get hno] at hp
      cases hp
    · intro j p' hj
      rw [atKey_of_get hnb hj] at hp
      obtain rfl := Option.some.inj hp
      have ej := entry_at heb j
      rw [hj] at ej
      have hjlt : j < es'.size := (Array.getElem?_eq_some_iff.mp ej).1
      refine wpAny_bind (wpAny_dictEntries hob2 hdb ?_)
      rw [ej]
      refine wpAny_holding (wpAny_mono heq (fun r s2 hq => ?_) fun _ _ x => x)
      obtain ⟨hr', hJ2⟩ := hq
      rw [hr']
      show wpAny _ _ (if (!true) = true then _ else _) _ _ _
      rw [if_neg (by decide)]
      obtain ⟨goa3, _⟩ := hJ s2 hJ2
      refine wpAny_bind (wpAny_dictEpoch goa3 hda ?_)
      rw [if_neg (by simp)]
      exact wpAny_pure ⟨hJ2, rfl, x + 1, hrest, hlt⟩
  · rintro q s' ⟨hJs, rfl, i, hr, hi⟩
    exact wpAny_pure (h _ hJs)
theorem neG {a b : Addr} {oa ob : Obj} {Q : Value → Shared → Prop} (J : Shared → Prop) (hu : knd.room A.in1) (hu0 : A.units < cLine) (ha : (a == sysModules) = false) (hb : (b == sysModules) = false)
    (hJ : ∀ s, J s → s.heap.get? a = some oa ∧ s.heap.get? b = some ob ∧ ∃ ka kb : List (K × Addr × Value), s.heap.DictOfH knd a ka ∧ s.heap.DictOfH knd b kb ∧ ka.length = kb.length ∧ ∀ x ∈ ka, ∃ p, atKey kb x.1 = some p ∧ wpAny (model prog w) A.in1 (eqBool x.2.2 p.2) (fun r s' => r = true ∧ J s') E s)
    (h0 : J s) (h : ∀ s', J s' → Q (.bool false) s') :
    wpAny (model prog w) A (compareOp .NotEq (.ref a) (.ref b)) Q E s := by
  obtain ⟨_, _, ka, kb, da, db, _⟩ := hJ s h0
  refine wpAny_richCompare_same_room (op := .NotEq) da.typeIs db.typeIs PySem.F.slot_dict_ne (wpAny_call_entry PySem.F.slot_dict_ne da.typeIs PySem.F.entry_dict_ne ?_ (PySem.F.args_dict_ne_2 _ _)) hu0
  show wpAny _ _ (Builtin.Dict.dictSlotArgs "__ne__" ⟨[.ref a, .ref b], []⟩ >>= _) _ _ s
  refine wpAny_bind ?_
  unfold Builtin.Dict.dictSlotArgs
  refine wpAny_bind (wpAny_notOrdered_dict da.typeIs ?_)
  show wpAny _ _ (pure (Value.ref a, Value.ref b)) _ _ s
  refine wpAny_pure ?_
  refine wpAny_bind (wpAny_isInstance (T := "dict") db.typeIs PySem.F.sub_dict_dict ?_)
  simp only [Bool.not_true, Bool.false_eq_true, if_false]
  refine wpAny_bind (wpAny_pure (wpAny_bind (wpAny_pure ?_)))
  refine wpAny_bind (samePairsG J hu ha hb hJ h0 fun s' hs => ?_)
  refine wpAny_pure ⟨_, rfl, ?_, ?_⟩
  · exact fun x => nomatch x
  · simpa using h s' hs
end
section
variable {X : Cx} {n : Nat} {D : Eqv}
/-- != of two dicts with tuple keys, other objects, the values told equal by D -/
def rNeDG (D : Eqv) : R2 := fun x y H Q => ∃ a b ks ls, x = .ref a ∧ y = .ref b ∧ a ≠ b ∧ H a = some (.dT ks) ∧ H b = some (.dT ls) ∧ ks.length = ls.length ∧ (∀ z ∈ ks, ∃ t, valV ls z.1 = some t ∧ D z.2 t H) ∧ ∀ H', Ext H H' → Q (.bl false) H'
theorem op_neDG (hD : Mon D) (hF : ∀ x y H a kvs o, H a = some (.dT kvs) → D x y H → D x y (upd H a o)) (h : EqG X n D) (hr : Room (n + 1) X.A) (hu : X.A.units + 64 < cLine) : OpR X (compareOp .NotEq) (rNeDG D) := by
  intro pins s σ H x y v u Q I rx ry hq
  obtain ⟨a, b, ks, ls, rfl, rfl, nab, ea, eb, hlen, hp, q⟩ := hq
  obtain rfl : v = Value.ref a := rx
  obtain rfl : u = Value.ref b := ry
  obtain ⟨_, ya, _⟩ := dt_of I.hok ea
  obtain ⟨_, yb, _⟩ := dt_of I.hok eb
  obtain ⟨oa, I1⟩ := I.lock ea trivial
  have eb1 : upd H a (.frz oa (.dT ks)) b = some (.dT ls) := by rw [upd_ne (Ne.symm nab)]; exact eb
  obtain ⟨ob, I2⟩ := I1.lock eb1 trivial
  obtain ⟨H2, hH2⟩ : ∃ H2, upd (upd H a (.frz oa (.dT ks))) b (.frz ob (.dT ls)) = H2 := ⟨_, rfl⟩
  have ea2 : H2 a = some (.frz oa (.dT ks)) := by rw [← hH2, upd_ne nab]; exact upd_same
  have eb2 : H2 b = some (.frz ob (.dT ls)) := by rw [← hH2]; exact upd_same
  have hp2 : ∀ z ∈ ks, ∃ t, valV ls z.1 = some t ∧ D z.2 t H2 := fun z hz => by
    obtain ⟨t, e, d⟩ := hp z hz
    refine ⟨t, e, ?_⟩
    rw [← hH2]
    exact hF _ _ _ _ _ _ eb1 (hF _ _ _ _ _ _ ea d)
  have na := I.nofrz ea trivial
  have nb := I.nofrz eb trivial
  rw [hH2] at I2
  refine neG (knd := tupleKind (mixKind X.prog X.w)) (oa := oa) (ob := ob) (fun s' => ∃ H', Inv X pins σ H' s' ∧ Ext H2 H') (tupleKind_room_in1 (by omega)) (by omega) ya yb (fun s' hs => ?_) ⟨H2, I2, Ext.rfl'⟩ (fun s' hs => ?_)
  · obtain ⟨H', I', e'⟩ := hs
    have ga := e' _ _ ea2
    have gb := e' _ _ eb2
    obtain ⟨_, _, va, ra, da⟩ := dt_rd I'.hok (.inr ⟨_, ga⟩)
    obtain ⟨_, _, vb, rb, db⟩ := dt_rd I'.hok (.inr ⟨_, gb⟩)
    have l1 : ks.length = va.length := Paired.length ra
    have l2 : ls.length = vb.length := Paired.length rb
    refine ⟨(I'.hok a _ ga).1, (I'.hok b _ gb).1, va, vb, da, db, by omega, fun z hz => ?_⟩
    obtain ⟨i, hi⟩ := List.getElem?_of_mem hz
    have lt : i < ks.length := by
      have := (List.getElem?_eq_some_iff.mp hi).1
      omega
    obtain ⟨z', hz', e1, e2, e3⟩ := paired_get ra (List.getElem?_eq_getElem lt)
    rw [hi] at hz'
    obtain rfl := Option.some.inj hz'
    obtain ⟨t, h1, d⟩ := hp2 _ (List.getElem_mem lt)
    have rr := KT.val rb z.1
    rw [← e1, h1] at rr
    obtain ⟨y, hy, ry⟩ := rr.some_of
    rw [Option.map_eq_some_iff] at hy
    obtain ⟨p, hp1, hp2⟩ := hy
    refine ⟨p, by rw [← e1]; exact hp1, ?_⟩
    rw [hp2]
    refine wpAny_mono (h X.A.in1 pins s' σ H' _ _ _ _ ⟨hr.in1, rfl⟩ I' e3 ry (hD _ _ _ _ e' d)) (fun r s2 q2 => ?_) fun _ _ x => x
    obtain ⟨hr', H3, I3, e3'⟩ := q2
    exact ⟨hr', H3, I3, e'.trans e3'⟩
  · obtain ⟨H', I', e'⟩ := hs
    have I3 := I'.unlock (e' _ _ eb2) nb
    have I4 := I3.unlock (d := a) (by rw [upd_ne nab]; exact e' _ _ ea2) na
    refine ⟨.bl false, _, I4, rfl, q _ fun c o ec => ?_⟩
    by_cases ca : c = a
    · rw [ca, upd_same]
      rw [ca, ea] at ec
      exact ec
    · rw [upd_ne ca]
      by_cases cb : c = b
      · rw [cb, upd_same]
        rw [cb, eb] at ec
        exact ec
      · rw [upd_ne cb]
        refine e' _ _ ?_
        rw [← hH2, upd_ne cb, upd_ne ca]
        exact ec
end
end TCX
namespace TC
open PySem PySem.Spec PyProof.Rows L2 TCA TCX
/-! ### K40S: labels -/
/-- where nothing is to be let out -/
theorem FnOk.told {P : Program} {w : World} {K : PySem.W.Frag} {mg : Str → Option Value} {base : Heap} {k : Nat} {f : Addr} {fd : FuncData} {ps : List Str} {sp : Sp} (F : FnOk P w K mg base (L2.CX P w) k f fd ps sp) : FnOk P w K mg base CX0 k f fd ps (fun vs H Q _ => sp vs H Q fun _ _ _ => False) := by
  refine ⟨fun vs H Q E q => F.len vs H Q _ q, fun A outer s H args us vs Q E hr he hb hv hs => codeAny_mono (F.run A outer s H args us vs Q _ hr he hb hv hs) fun r s' h => ?_⟩
  cases r with
  | error e =>
    obtain ⟨_, _, _, _, _, _, _, _, _, _, _, _, z⟩ := h
    exact z.elim
  | ok fl =>
    cases fl with
    | ret u => exact h
    | next => exact h.elim
    | brk => exact h.elim
    | cont => exact h.elim
theorem same_at {H G : Hp} {d : Addr} {o : HO} (s : Same H G) (h : H d = none) : Same H (upd G d o) := fun b u e => by
  rw [upd_ne fun z => by rw [z, h] at e; cases e]
  exact s _ _ e
theorem inv_len {rest : List Int} {x n : Int} {k : Nat} {F : List (List Int)} (h : InvL rest x n k F) : F.length ≤ (labs rest x n).length := by
  obtain ⟨h1, h2, _⟩ := h
  rw [← h1]
  have go : ∀ G : List (List Int), (∀ l ∈ G, 0 < rowT (rest.drop k) (one n) (lastD x l)) → G.length ≤ (G.flatMap fun l => (labs (rest.drop k) (lastD x l) n).map (l ++ ·)).length := fun G => by
    induction G with
    | nil => exact fun _ => Nat.le_refl _
    | cons l G ih =>
      intro h
      have z := h l (by simp)
      have e := labs_len (rest.drop k) (lastD x l) n
      have i2 := ih fun m hm => h m (List.mem_cons_of_mem _ hm)
      rw [List.flatMap_cons, List.length_append, List.length_map, List.length_cons]
      omega
  exact go F fun l hl => (h2 l hl).2
structure TupsAt (H : Hp) (F : Addr) (ps : List Addr) (L : List (List Int)) : Prop where
  at_ : H F = some (.lst (ps.map V.ref))
  len : ps.length = L.length
  row : ∀ (i : Nat) p l, ps[i]? = some p → L[i]? = some l → H p = some (.tup (l.map V.int))
theorem TupsAt.same {H H' : Hp} {F : Addr} {ps : List Addr} {L : List (List Int)} (h : TupsAt H F ps L) (s : Same H H') : TupsAt H' F ps L := ⟨s _ _ h.at_, h.len, fun i p l h1 h2 => s _ _ (h.row i p l h1 h2)⟩
theorem TupsAt.snoc {H : Hp} {F t : Addr} {ps : List Addr} {L : List (List Int)} {l : List Int} (h : TupsAt H F ps L) (ht : H t = some (.tup (l.map V.int))) : TupsAt (upd H F (.lst (ps.map V.ref ++ [.ref t]))) F (ps ++ [t]) (L ++ [l]) := by
  have keep : ∀ {p : Addr} {xs : List V}, H p = some (.tup xs) → upd H F (.lst (ps.map V.ref ++ [.ref t])) p = some (.tup xs) := fun {p xs} e => by
    rw [upd_ne fun z => by rw [z, h.at_] at e; cases e]
    exact e
  refine ⟨by rw [upd_same, List.map_append]; rfl, by rw [List.length_append, List.length_append, h.len]; rfl, fun i p m h1 h2 => ?_⟩
  by_cases z : i < ps.length
  · rw [List.getElem?_append_left z] at h1
    rw [List.getElem?_append_left (by rw [← h.len]; exact z)] at h2
    exact keep (h.row i p m h1 h2)
  · have il : i < (ps ++ [t]).length := (List.getElem?_eq_some_iff.mp h1).1
    rw [List.length_append] at il
    have ei : i = ps.length := by
      have : ([t] : List Addr).length = 1 := rfl
      omega
    rw [ei, List.getElem?_append_right (Nat.le_refl _), Nat.sub_self] at h1
    rw [ei, h.len, List.getElem?_append_right (Nat.le_refl _), Nat.sub_self] at h2
    cases h1
    cases h2
    exact keep ht
theorem upV_I (a : Int) (n : Nat) : upV a n = (upI a n).map V.int := by
  refine List.ext_getElem? fun i => ?_
  rw [List.getElem?_map]
  by_cases z : i < n
  · rw [upI_get z]
    unfold upV
    rw [List.getElem?_map, List.getElem?_range z]
    show some (V.int (a + ((i : Nat) : Int) * 2)) = some (V.int (a + 2 * (i : Int)))
    rw [Int.mul_comm]
  · rw [List.getElem?_eq_none (by unfold upV; rw [List.length_map, List.length_range]; omega)]
    rw [List.getElem?_eq_none (by rw [upI_len]; omega)]
    rfl
theorem lastD_at {x : Int} {l : List Int} (h : l ≠ []) : atI (l.map V.int) (-1) = some (.int (lastD x l)) := by
  unfold lastD
  cases e : l.getLast? with
  | none => exact absurd (List.getLast?_eq_none_iff.mp e) h
  | some c =>
    obtain ⟨m, rfl⟩ : ∃ m, l = m ++ [c] := List.getLast?_eq_some_iff.mp e
    rw [List.map_append]
    show atI (m.map V.int ++ [V.int c]) (-1) = some (V.int c)
    have := atI_last (m.map V.int) (V.int c)
    exact this
section
variable {P : Program} {w : World} {K : PySem.W.Frag} {mg : Str → Option Value} {base : Heap} {f : Addr} {fd : FuncData} {CR CS CP : Addr}
def spLabels : Sp := fun vs H Q _ => ∃ (a : Addr) (r0 : Int) (rest : List Int) (n : Int), vs = [.ref a, .int n] ∧ Row H a (r0 :: rest) ∧ 0 ≤ n ∧ n ≤ 120 ∧ (labs rest r0 n).length ≤ 2000 ∧
  ∀ l (ps : List Addr) H', Same H H' → H l = none → TupsAt H' l ps (labs rest r0 n) → Q (.ref l) H'
abbrev nLabels : List Str := ["row", "to", "ways", "found", "at", "size", "label", "end"]
theorem scLabels : FnScope nLabels ["row", "to"] (defScope sLabels) := ⟨rfl, rfl, rfl, by decide +kernel, rfl, by decide +kernel, by decide +kernel⟩
set_option maxHeartbeats 0 in
theorem ok_labels {fN fY fE : Addr} {fdN fdY fdE : FuncData} {tm : Tok} (F : FnP K "labels" sLabels f fd) (GN : FnOk P w K mg base CX0 2 fN fdN ["row", "to"] (fun vs H Q _ => spNeedRow K CR CS vs H Q fun _ _ _ => False)) (bN : L2.Binds K fdN ["row", "to"] []) (kN : PySem.W.keepIn K (.ref fN) = true) (gN : mg "need_row" = some (.ref fN))
    (GY : FnOk P w K mg base CX0 2 fY fdY ["row", "to"] spWays) (bY : L2.Binds K fdY ["row", "to"] []) (kY : PySem.W.keepIn K (.ref fY) = true) (gY : mg "ways_to" = some (.ref fY))
    (GE : FnOk P w K mg base CX0 1 fE fdE ["one", "other"] spEnds) (bE : L2.Binds K fdE ["one", "other"] []) (kE : PySem.W.keepIn K (.ref fE) = true) (gE : mg "ends_of" = some (.ref fE))
    (genum : mg "enumerate" = none) (gm : mg "MOST_LABELS" = some (.int 2000 tm)) :
    FnOk P w K mg base CX0 3 f fd ["row", "to"] spLabels := by
  refine F.ok scLabels (fun vs H Q E h => ?_) (fun cdv A outer s H vs Q E hr h => ?_)
  · obtain ⟨_, _, _, _, rfl, _⟩ := h
    rfl
  obtain ⟨a, r0, rest, n, rfl, hR, n0, n1, few, q⟩ := h
  have hu := hu_of hr
  have hr1 := hr.mono (show 1 ≤ 2 by decide)
  refine ⟨_, PSs.nox (C8.pss_cut (ps_expr (pe_call GN hr (by rfl) gN kN bN .nil pass0 (pa_cons (pv 0) (pa_cons (pv 1) pa_nil))))
      (pss_cons (ps_set (i := 2) scLabels.nd rfl (.inr rfl) (pe_call GY hr (by rfl) gY kY bY .nil pass0 (pa_cons (pv 0) (pa_cons (pv 1) pa_nil))))
      (pss_cons (ps_if (pt_cmpR op_gt (pe_dget2 hu (pe_ix ix_list (pv 2) pe_int (fun _ _ => rfl)) (pe_ix ix_list (pv 0) pe_int (fun _ _ => rfl)) pe_int ⟨rfl, rfl, rfl, rfl⟩) (pe_glob (v := .int 2000) (by rfl) gm ⟨_, rfl⟩) (nomark _)) pss_never pss_nil)
      (C8.pss_cut (ps_if (pt_cmp (pc_dnotin hu (pe_ix ix_list (pv 0) pe_int (fun _ _ => rfl)) (pe_ix ix_list (pv 2) pe_int (fun _ _ => rfl)))) (pss_one (ps_ret (pe_lst pa_nil))) pss_nil)
      (C8.pss_cut (ps_set (i := 3) scLabels.nd rfl (.inl rfl) (pe_lst (pa_cons (pe_tup pa_nil) pa_nil)))
      (C8.pss_cut (ps_for PassesOwn.never rfl (pi_enumK (by rfl) genum (pa_cons (pe_slice sl_list (pv 0) (po_some pe_int) po_none) pa_nil) (pk_cons pe_int pk_nil)) (pg_tup rfl (pgs_cons (pg_name (i := 4) scLabels.nd rfl (.inr rfl)) (pgs_cons (pg_name (i := 5) scLabels.nd rfl (.inr rfl)) pgs_nil)))
        (pss_one (ps_setLc2 (i := 3) (own := [("label", 6), ("end", 7)]) (vs1 := [7]) (g := gName 6) (tt := tYes) (wi1 := iList K (tCall spEnds [] E0 (tCons (tIf (fun σ H Q => tVar 6 σ H fun x H' => ∃ k, TruV K x H' k ∧ Q k H') (tOp (rIxT K) (tVar 6) (tUn (rU fun i => .int (-i)) (tC (.int 1)))) (tOp (rIxL K) (tVar 0) (tC (.int 0)))) (tCons (tVar 5) tNil)))) (g1 := gName 7) (tt1 := tTest (tDIn (tVar 7) (tOp (rIxL K) (tVar 2) (tVar 4)))) (te := tTup (StX.tStar K (tVar 6) (tCons (tVar 7) tNil))) (by rfl) scLabels.nd rfl rfl (sw_true rfl rfl rfl (by decide +kernel)) (pi_list (pv 3))
          (blkOk_by (N := nLabels) (sc := defScope sLabels) (by decide +kernel)) (by decide) (fun _ _ _ _ _ => pg_name (i := 6) scLabels.nd rfl (.inl rfl)) (fun _ _ _ _ _ => pts_nil) (fun _ _ _ _ _ => pi_list (pe_call GE hr1 (by rfl) gE kE bE .nil pass0 (pa_cons (pe_ifExp (pt_truth (pv 6) (fun _ => rfl)) (pe_ix ix_tup (pv 6) (pe_un un_neg pe_int) (fun _ _ => rfl)) (pe_ix ix_list (pv 0) pe_int (fun _ _ => rfl))) (pa_cons (pv 5) pa_nil)))) (fun _ _ _ _ _ => pg_name (i := 7) scLabels.nd rfl (.inl rfl)) (fun _ _ _ _ _ => pts_one (pt_cmp (pc_din hu (pv 7) (pe_ix ix_list (pv 2) (pv 4) (fun _ _ => rfl))))) (fun _ _ _ _ _ => pe_tup (StX.pa_star (pv 6) (pa_cons (pv 7) pa_nil))))))
      (pss_one (ps_ret (pv 3))))))))), ?_⟩
  have hs0 : ∀ s ∈ r0 :: rest, 0 ≤ s := fun s hs => (hR.sz s hs).1
  have hsz : ∀ s ∈ rest, 0 ≤ s ∧ s ≤ 12 := fun s hs => hR.sz s (List.mem_cons_of_mem _ hs)
  have r01 := hR.sz r0 (by simp)
  have lenE := labs_len rest r0 n
  refine ⟨fun σ H1 => σ = [some (.ref a), some (.int n), none, none, none, none, none, none] ∧ Same H H1, ⟨_, rfl, _, rfl, .ref a, .int n, true, true, rfl, hR.rowV, Sml.int n0 n1, (fun e => by cases e), (fun _ e => by cases e), fun _ _ => ⟨rfl, fun _ _ e => e⟩⟩, fun σ H1 hh => ?_⟩
  obtain ⟨rfl, s1⟩ := hh
  refine ⟨_, rfl, _, rfl, a, r0 :: rest, n, rfl, hR.same s1, n0, n1, fun W ds H2 s2 hW0 hl hI => ?_⟩
  have hW : WaysP H2 W (r0 :: rest) n := ways_told hs0 n0 hW0 hl hI
  clear hW0 hl hI ds
  have s12 := s1.trans s2
  obtain ⟨xs0, d0, hx0, ha0, hd0⟩ := hW.at 0 (by simp)
  obtain ⟨o, dg, eo, es⟩ := hd0.get (u := r0) r01.1
  refine ⟨_, rfl, W, _, 0, _, rfl, rfl, SqL.of hx0, ha0, d0, rfl, hd0.isd, _, rfl, a, _, 0, .int r0, rfl, rfl, SqL.of (s12 _ _ hR.at_), atI_nat (j := 0) rfl, o, dg, ?_⟩
  rw [eo]
  have z0 : rowT ((r0 :: rest).drop (0 + 1)) (one n) r0 = rowT rest (one n) r0 := rfl
  rw [z0] at *
  refine ⟨_, _, rfl, rfl, _, rfl, iteD0 (by omega) ?_⟩
  refine ⟨fun σ H3 => σ = [some (.ref a), some (.int n), some (.ref W), none, none, none, none, none] ∧ H3 = H2 ∧ 0 < rowT rest (one n) r0, ?_, fun σ H3 hh => ?_⟩
  · refine ⟨_, rfl, a, _, 0, .int r0, rfl, rfl, SqL.of (s12 _ _ hR.at_), atI_nat (j := 0) rfl, _, rfl, W, _, 0, _, rfl, rfl, SqL.of hx0, ha0, d0, o, rfl, dg, ?_⟩
    rw [es]
    by_cases z : 0 < rowT rest (one n) r0
    · exact ⟨false, congrArg (fun b => V.bl (!b)) (decide_eq_true z), iteF ⟨rfl, rfl, z⟩⟩
    · refine ⟨true, congrArg (fun b => V.bl (!b)) (decide_eq_false z), iteT ⟨by show 0 ≤ sizeLine; decide, fun l hl => ?_⟩⟩
      have e0 : labs rest r0 n = [] := List.length_eq_zero_iff.mp (by omega)
      refine q l [] _ (s12.trans (same_upd hl)) (s12.free hl) ?_
      rw [e0]
      exact ⟨upd_same, rfl, fun i p m h _ => by cases h⟩
  obtain ⟨rfl, rfl, pos⟩ := hh
  -- the list of one empty label
  refine ⟨fun σ H4 => ∃ (F : Addr) (ps : List Addr), σ = [some (.ref a), some (.int n), some (.ref W), some (.ref F), none, none, none, none] ∧ Same H3 H4 ∧ H3 F = none ∧ TupsAt H4 F ps [[]], ?_, fun σ H4 hh => ?_⟩
  · refine ⟨by show 0 ≤ sizeLine; decide, fun t ht => ⟨by show 1 ≤ sizeLine; decide, fun F hF => ?_⟩⟩
    have st := same_upd (o := .tup []) ht
    have sF := same_upd (o := .lst [.ref t]) hF
    refine ⟨F, [t], rfl, st.trans sF, st.free hF, upd_same, rfl, fun i p l h1 h2 => ?_⟩
    cases i with
    | zero =>
      cases h1
      cases h2
      exact sF _ _ upd_same
    | succ i => cases h1
  obtain ⟨F0, ps0, rfl, s4, hF0, hT0⟩ := hh
  have s14 := s12.trans s4
  -- all steps
  refine ⟨fun σ H5 => ∃ (F : Addr) (ps : List Addr) (v4 v5 : Option V), σ = [some (.ref a), some (.int n), some (.ref W), some (.ref F), v4, v5, none, none] ∧ Same H H5 ∧ H F = none ∧ TupsAt H5 F ps (labs rest r0 n), ?_, fun σ H5 hh => ?_⟩
  rotate_left
  · obtain ⟨F, ps, v4, v5, rfl, s5, hF, hT⟩ := hh
    exact ⟨_, rfl, q F ps H5 s5 hF hT⟩
  refine ⟨_, rfl, 1, rfl, a, _, rfl, SqL.of (s14 _ _ hR.at_), fun sl hsl => ?_⟩
  have ecut : cutV ((r0 :: rest).map V.int) (some 1) none = rest.map V.int := cut_drop (xs := (r0 :: rest).map V.int) (k := 1)
  rw [ecut]
  have s5 := same_upd (o := .lst (rest.map V.int)) hsl
  refine ⟨sl, _, 1, rfl, rfl, by decide, by decide, SqL.of upd_same, ?_⟩
  refine for_it (walk_enumK (K := K) (a := sl) (xs := rest.map V.int) (k := 1)) (fun j σ G => ∃ (F : Addr) (ps : List Addr) (L : List (List Int)) (v4 v5 : Option V), σ = [some (.ref a), some (.int n), some (.ref W), some (.ref F), v4, v5, none, none] ∧ Same (upd H4 sl (.lst (rest.map V.int))) G ∧ H F = none ∧ TupsAt G F ps L ∧ InvL rest r0 n j L)
    ⟨F0, ps0, [[]], none, none, rfl, (fun _ _ e => e), s12.free hF0, hT0.same s5, inv_start pos⟩ (fun j σ G _ hP => ?_) (fun j v σ G G' hj hP hy => ?_) (fun σ G hP => ?_)
  · obtain ⟨_, _, _, _, _, _, sG, _⟩ := hP
    exact SqL.of (sG _ _ upd_same)
  rotate_left
  · obtain ⟨F, ps, L, v4, v5, rfl, sG, hF, hT, hI⟩ := hP
    rw [List.length_map] at hI
    have e := inv_end hI
    rw [e] at hT
    exact ⟨F, ps, v4, v5, rfl, (s14.trans s5).trans sG, hF, hT⟩
  obtain ⟨T, v, rfl, hT', rfl, hv⟩ := hy
  obtain ⟨F, ps, L, v4, v5, rfl, sG, hF, hT, hI⟩ := hP
  obtain ⟨sz, hj', rfl⟩ : ∃ sz : Int, rest[j]? = some sz ∧ v = .int sz := by
    rw [List.getElem?_map] at hv
    cases e : rest[j]? with
    | none =>
      rw [e] at hv
      cases hv
    | some z =>
      rw [e] at hv
      exact ⟨z, rfl, (Option.some.inj hv).symm⟩
  have z01 := hsz sz (List.mem_of_getElem? hj')
  have hjl : j < rest.length := (List.getElem?_eq_some_iff.mp hj').1
  have sT := same_upd (o := .tup [.int (1 + (j : Nat)), .int sz]) hT'
  have hTT := hT.same sT
  have sGT := sG.trans sT
  have hup : (upd G T (.tup [.int (1 + (j : Nat)), .int sz])) T = some (.tup [.int (1 + (j : Nat)), .int sz]) := upd_same
  refine ⟨T, _, rfl, SqT.of hup, rfl, _, _, rfl, _, _, rfl, rfl, ?_⟩
  generalize upd G T (.tup [.int (1 + (j : Nat)), .int sz]) = G1 at hTT sGT ⊢
  have sAll := (s14.trans s5).trans sGT
  have hWG := hW.same ((s4.trans s5).trans sGT)
  obtain ⟨p, hp⟩ : ∃ p : Int → Bool, (fun c => decide (0 < rowT (rest.drop (j + 1)) (one n) c)) = p := ⟨_, rfl⟩
  have pT : ∀ c, 0 ≤ c → (p c = true ↔ 0 < rowT (rest.drop (j + 1)) (one n) c) := fun c _ => by rw [← hp]; exact decide_eq_true_iff
  have hI2 := inv_step hI hj' hsz r01 pT
  have l20 := Nat.le_trans (inv_len hI2) few
  obtain ⟨ext, hext⟩ : ∃ ext : List Int → List (List Int), (fun l => ((upI (loJ (lastD r0 l) sz) (manyE (lastD r0 l) sz)).filter p).map fun c => l ++ [c]) = ext := ⟨_, rfl⟩
  have estep : stepL r0 sz p L = L.flatMap ext := by rw [← hext]; rfl
  rw [estep] at hI2 l20
  have lst : ∀ l ∈ L, 0 ≤ lastD r0 l ∧ lastD r0 l ≤ 12 + 12 * (j : Int) := fun l hl => by
    unfold lastD
    cases e : l.getLast? with
    | none => exact ⟨r01.1, by show r0 ≤ _; omega⟩
    | some c => exact hI.2.2 l hl c (List.mem_of_getLast? e)
  have l10 : rest.length + 1 ≤ 10 := hR.le
  refine ⟨_, rfl, F, rfl, ⟨_, SqL.of hTT.at_⟩, fun D hD => ?_⟩
  have nDF : ∀ {G2 : Hp}, Same G1 G2 → True := fun _ => trivial
  refine out_lst (xs := ps.map V.ref) (fun i G2 => Same G1 G2 ∧ ∃ qs : List Addr, TupsAt G2 D qs ((L.take i).flatMap ext)) ⟨same_upd hD, [], upd_same, rfl, fun i p m h _ => by cases h⟩ (fun i G2 _ hP => SqL.of (hP.1 _ _ hTT.at_)) (fun i x G2 hx hP => ?_) (fun G2 hP => ?_)
  rotate_left
  · obtain ⟨s6, qs, hQ⟩ := hP
    rw [List.length_map, hTT.len, List.take_length] at hQ
    exact ⟨D, qs, _, _, _, rfl, sGT.trans s6, sAll.free hD, hQ, hI2⟩
  obtain ⟨s6, qs, hQ⟩ := hP
  rw [List.getElem?_map] at hx
  obtain ⟨u, hu', rfl⟩ := Option.map_eq_some_iff.mp hx
  have il : i < ps.length := (List.getElem?_eq_some_iff.mp hu').1
  obtain ⟨l, hl⟩ : ∃ l, L[i]? = some l := ⟨_, List.getElem?_eq_getElem (by have := hTT.len; omega)⟩
  have lm := List.mem_of_getElem? hl
  have hul := (hTT.same s6).row i u l hu' hl
  obtain ⟨le0, le1⟩ := lst l lm
  have tk : L.take (i + 1) = L.take i ++ [l] := by
    rw [List.take_add_one, hl]
    rfl
  obtain ⟨m, hm⟩ : ∃ m : Int, lastD r0 l = m := ⟨_, rfl⟩
  rw [hm] at le0 le1
  refine ⟨rfl, ?_⟩
  -- label[-1] if label else row[0]
  have fin : ∀ (Q' : VK), Q' (.int m) G2 → tIf (fun σ H Q => tVar 6 σ H fun x H' => ∃ k, TruV K x H' k ∧ Q k H') (tOp (rIxT K) (tVar 6) (tUn (rU fun i => .int (-i)) (tC (.int 1)))) (tOp (rIxL K) (tVar 0) (tC (.int 0))) [some (.ref a), some (.int n), some (.ref W), some (.ref F), some (.int (1 + (j : Nat))), some (.int sz), some (.ref u), none] G2 Q' := fun Q' hq => by
    by_cases e : l = []
    · subst e
      refine ⟨_, rfl, false, .inr (.inl ⟨_, SqT.of hul, rfl⟩), ?_⟩
      refine ⟨_, rfl, a, _, 0, .int m, rfl, rfl, SqL.of ((sAll.trans s6) _ _ hR.at_), atI_nat (j := 0) ?_, hq⟩
      rw [← hm]
      rfl
    · refine ⟨_, rfl, true, .inr (.inl ⟨_, SqT.of hul, ?_⟩), ?_⟩
      · cases l with
        | nil => exact absurd rfl e
        | cons _ _ => rfl
      · refine ⟨_, rfl, 1, rfl, u, _, -1, .int m, rfl, rfl, SqT.of hul, ?_, hq⟩
        rw [← hm]
        exact lastD_at e
  refine fin _ ?_
  clear fin
  refine ⟨_, rfl, m, sz, rfl, le0, by omega, z01.1, by omega, fun le hle => ⟨le, rfl, ⟨_, SqL.of upd_same⟩, ?_⟩⟩
  have s7 := same_upd (o := .lst (upV (loJ m sz) (manyE m sz))) hle
  have neD : D ≠ le := fun e => by
    rw [← e, hQ.at_] at hle
    cases hle
  have eext : ext l = ((upI (loJ m sz) (manyE m sz)).filter p).map fun c => l ++ [c] := by rw [← hext, ← hm]
  have bnd : ∀ k, ((L.take i).flatMap ext ++ (((upI (loJ m sz) (manyE m sz)).take k).filter p).map fun c => l ++ [c]).length ≤ 2000 := fun k => by
    have e1 : L.flatMap ext = (L.take i).flatMap ext ++ (ext l ++ (L.drop (i + 1)).flatMap ext) := by
      have e0 : L = L.take i ++ (l :: L.drop (i + 1)) := by
        obtain ⟨hlt, e⟩ := List.getElem?_eq_some_iff.mp hl
        rw [← e, ← List.drop_eq_getElem_cons hlt, List.take_append_drop]
      have e2 := congrArg (fun z => z.flatMap ext) e0
      rw [List.flatMap_append, List.flatMap_cons] at e2
      exact e2
    rw [e1, List.length_append, List.length_append, eext] at l20
    have e3 : ((((upI (loJ m sz) (manyE m sz)).take k).filter p).map fun c => l ++ [c]).length ≤ ((((upI (loJ m sz) (manyE m sz))).filter p).map fun c => l ++ [c]).length := by
      rw [List.length_map, List.length_map]
      exact ((List.take_sublist k _).filter p).length_le
    rw [List.length_append]
    omega
  refine inn_lst (ys := upV (loJ m sz) (manyE m sz)) (fun k G3 => Same G1 G3 ∧ G3 le = some (.lst (upV (loJ m sz) (manyE m sz))) ∧ ∃ qs : List Addr, TupsAt G3 D qs ((L.take i).flatMap ext ++ (((upI (loJ m sz) (manyE m sz)).take k).filter p).map fun c => l ++ [c]))
    ⟨s6.trans s7, upd_same, qs, ?_⟩ (fun k G3 _ hP => SqL.of hP.2.1) (fun k x G3 hx hP => ?_) (fun G3 hP => ?_)
  · show TupsAt _ D qs ((L.take i).flatMap ext ++ [])
    rw [List.append_nil]
    exact hQ.same s7
  rotate_left
  · obtain ⟨s8, _, qs, hQ⟩ := hP
    have e : (upI (loJ m sz) (manyE m sz)).take (upV (loJ m sz) (manyE m sz)).length = upI (loJ m sz) (manyE m sz) := by
      rw [upV_I, List.length_map, List.take_length]
    rw [e, ← eext] at hQ
    refine ⟨s8, qs, ?_⟩
    rw [tk, List.flatMap_append, List.flatMap_cons]
    show TupsAt G3 D qs (_ ++ (ext l ++ []))
    rw [List.append_nil]
    exact hQ
  obtain ⟨s8, hle3, qs, hQ3⟩ := hP
  rw [upV_I, List.getElem?_map] at hx
  obtain ⟨c, hc, rfl⟩ := Option.map_eq_some_iff.mp hx
  have c0 : 0 ≤ c := by
    obtain ⟨i', _, e⟩ := upI_mem.mp (List.mem_of_getElem? hc)
    have := loJ_nn m sz
    omega
  have tkc : ((upI (loJ m sz) (manyE m sz)).take (k + 1)).filter p = ((upI (loJ m sz) (manyE m sz)).take k).filter p ++ (if p c = true then [c] else []) := by
    rw [List.take_add_one, hc, List.filter_append]
    congr 1
    by_cases z : p c = true
    · rw [if_pos z]
      exact List.filter_cons_of_pos z
    · rw [if_neg z]
      exact List.filter_cons_of_neg z
  obtain ⟨xsW, dW, hxW, haW, hdW⟩ := (hWG.same s8).at (1 + j) (by show 1 + j < rest.length + 1; omega)
  have ed : (r0 :: rest).drop (1 + j + 1) = rest.drop (j + 1) := by
    rw [show 1 + j + 1 = (j + 1) + 1 by omega]
    rfl
  rw [ed] at hdW
  have eat : ((1 + j : Nat) : Int) = 1 + (j : Int) := by omega
  rw [eat] at haW
  obtain ⟨o3, dg3, _, es3⟩ := hdW.get (u := c) c0
  refine ⟨rfl, _, rfl, _, rfl, _, rfl, W, _, _, _, rfl, rfl, SqL.of hxW, haW, dW, o3, rfl, dg3, ?_⟩
  have hul3 := (hTT.same s8).row i u l hu' hl
  by_cases z : p c = true
  · have zz := (pT c c0).mp z
    refine ⟨true, congrArg V.bl (es3.trans (decide_eq_true zz)), iteT ?_⟩
    refine ⟨_, rfl, u, _, rfl, .inl (SqT.of hul3), _, rfl, ?_, fun t ht => ?_⟩
    · show (l.map V.int ++ [V.int c]).length ≤ sizeLine
      rw [List.length_append, List.length_map, (hI.2.1 l lm).1]
      exact Nat.le_trans (m := 100) (by show j + 1 ≤ 100; omega) (by decide)
    have st := same_upd (o := .tup (l.map V.int ++ [V.int c])) ht
    have hQt := hQ3.same st
    have lq : qs.length < sizeLine := by
      rw [hQ3.len]
      exact Nat.lt_of_le_of_lt (bnd k) (by decide)
    refine ⟨_, hQt.at_, by rw [List.length_map]; exact lq, same_at (s8.trans st) hD, ?_, qs ++ [t], ?_⟩
    · rw [upd_ne (Ne.symm neD)]
      exact st _ _ hle3
    · rw [tkc, if_pos z, List.map_append, ← List.append_assoc]
      refine hQt.snoc (l := l ++ [c]) ?_
      rw [upd_same, List.map_append]
      rfl
  · have zz : ¬ 0 < rowT (rest.drop (j + 1)) (one n) c := fun w => z ((pT c c0).mpr w)
    refine ⟨false, congrArg V.bl (es3.trans (decide_eq_false zz)), iteF ⟨s8, hle3, qs, ?_⟩⟩
    rw [tkc, if_neg z, List.append_nil]
    exact hQ3
end
end TC
namespace TC
open PySem PySem.Spec PyProof.Rows L2 TCA TCX
/-! ### K40U: what is told of good rows -/
theorem lab_labs : ∀ {r : List Int} {x n : Int} {l : List Int}, labB r x l n → l ∈ labs r x n
  | [], x, n, [], h => by
    unfold labs
    have h : x = n := h
    rw [if_pos h]
    exact List.mem_singleton.mpr rfl
  | s :: r, x, n, c :: l, h => by
    obtain ⟨h1, h2⟩ := h
    exact List.mem_flatMap.mpr ⟨c, upI_mem.mpr h1, List.mem_map.mpr ⟨l, lab_labs h2, rfl⟩⟩
  | [], _, _, _ :: _, h => absurd h id
  | _ :: _, _, _, [], h => absurd h id
theorem lab_at {r : List Int} {x n : Int} {l : List Int} {k : Nat} (h : labB r x l n) (hk : rankL r x l n = (k : Int)) : (labs r x n)[k]? = some l := by
  obtain ⟨j, hj⟩ := List.getElem?_of_mem (lab_labs h)
  have e := labs_rank hj
  rw [hk] at e
  have e' : k = j := by omega
  rw [e']
  exact hj
theorem lab_lt {r : List Int} {x n : Int} {l : List Int} (h : labB r x l n) : 0 ≤ rankL r x l n ∧ rankL r x l n < rowT r (one n) x := by
  obtain ⟨j, hj⟩ := List.getElem?_of_mem (lab_labs h)
  have e := labs_rank hj
  have l1 := (List.getElem?_eq_some_iff.mp hj).1
  have l2 := labs_len r x n
  omega
section
variable {P : Program} {w : World} {K : PySem.W.Frag} {mg : Str → Option Value} {base : Heap} {f : Addr} {fd : FuncData} {CR CS CP : Addr}
def spCt : Sp := fun vs H Q _ => ∃ (a : Addr) (rs : List Int) (n : Int), vs = [.ref a, .int n] ∧ Row H a rs ∧ 0 ≤ n ∧ n ≤ 120 ∧ ∀ H', Same H H' → Q (.int (cnt rs n)) H'
theorem ct_told {k : Nat} {ps : List Str} (F : FnOk P w K mg base (L2.CX P w) k f fd ps (spCounted K CR CS)) : FnOk P w K mg base CX0 k f fd ps spCt := L2.FnOk.imp (FnOk.told F) fun vs H Q E h => by
  obtain ⟨a, rs, n, rfl, hR, n0, n1, q⟩ := h
  refine ⟨.ref a, .int n, true, true, rfl, hR.rowV, Sml.int n0 n1, (fun e => by cases e), (fun _ e => by cases e), fun _ _ a' r0 rest n' ea hR' en H' s => ?_⟩
  cases ea
  cases en
  have e := row_inj hR hR'
  rw [e] at q
  exact q H' s
def spLa : Sp := fun vs H Q _ => ∃ (a : Addr) (r0 : Int) (rest : List Int) (k n : Int), vs = [.ref a, .int k, .int n] ∧ Row H a (r0 :: rest) ∧ 0 ≤ n ∧ n ≤ 120 ∧ 0 ≤ k ∧ k < rowT rest (one n) r0 ∧ ∀ (T : Addr) (l : List Int) H', Same H H' → H' T = some (.tup (l.map V.int)) → (labs rest r0 n)[k.toNat]? = some l → Q (.ref T) H'
theorem la_told {k : Nat} {ps : List Str} (F : FnOk P w K mg base (L2.CX P w) k f fd ps (spLabelAt K CR CS CP)) : FnOk P w K mg base CX0 k f fd ps spLa := L2.FnOk.imp (FnOk.told F) fun vs H Q E h => by
  obtain ⟨a, r0, rest, m, n, rfl, hR, n0, n1, m0, m1, q⟩ := h
  refine ⟨.ref a, .int m, .int n, true, true, rfl, hR.rowV, Sml.int n0 n1, (fun e => by cases e), (fun _ e => by cases e), fun _ _ a' r0' rest' n' ea hR' en => ?_⟩
  cases ea
  cases en
  have e := row_inj hR hR'
  injection e with e1 e2
  subst e1 e2
  refine ⟨.inl ⟨m, rfl⟩, fun H' s no => no m rfl ⟨m0, m1⟩, fun m' em h0 h1 l T H' s hT hl hr => ?_⟩
  cases em
  exact q T l H' s hT (lab_at hl (by rw [hr]; omega))
def spPo : Sp := fun vs H Q _ => ∃ (a T : Addr) (r0 : Int) (rest l : List Int) (n : Int), vs = [.ref a, .ref T, .int n] ∧ Row H a (r0 :: rest) ∧ 0 ≤ n ∧ n ≤ 120 ∧ H T = some (.tup (l.map V.int)) ∧ labB rest r0 l n ∧ ∀ H', Same H H' → Q (.int (rankL rest r0 l n)) H'
theorem po_told {k : Nat} {ps : List Str} (F : FnOk P w K mg base (L2.CX P w) k f fd ps (spPlaceOf K CR CS CP)) : FnOk P w K mg base CX0 k f fd ps spPo := L2.FnOk.imp (FnOk.told F) fun vs H Q E h => by
  obtain ⟨a, T, r0, rest, l, n, rfl, hR, n0, n1, hT, hl, q⟩ := h
  refine ⟨.ref a, .ref T, .int n, true, true, rfl, hR.rowV, Sml.int n0 n1, (fun e => by cases e), (fun _ e => by cases e), fun _ _ a' r0' rest' n' ea hR' en => ?_⟩
  cases ea
  cases en
  have e := row_inj hR hR'
  injection e with e1 e2
  subst e1 e2
  refine ⟨some (l.map V.int), .inr ⟨T, _, rfl, hT, rfl, fun x hx => ?_⟩, fun no => (no ⟨l, rfl, hl⟩).elim, fun l' el hl' H' s => ?_⟩
  · obtain ⟨y, _, rfl⟩ := List.mem_map.mp hx
    exact .inl ⟨y, rfl⟩
  · have inj : ∀ {l m : List Int}, l.map V.int = m.map V.int → l = m := fun {l} => by
      induction l with
      | nil =>
        intro m e
        cases m with
        | nil => rfl
        | cons b m => cases e
      | cons a l ih =>
        intro m e
        cases m with
        | nil => cases e
        | cons b m =>
          simp only [List.map_cons, List.cons.injEq, V.int.injEq] at e
          rw [e.1, ih e.2]
    have e := inj (Option.some.inj el)
    subst e
    exact q H' s
theorem erase_perm : ∀ {l : List Int} {j : Nat} {y : Int}, l[j]? = some y → (y :: l.eraseIdx j).Perm l
  | [], _, _, h => by cases h
  | a :: l, 0, y, h => by
    cases h
    exact List.Perm.refl _
  | a :: l, j + 1, y, h => by
    have ih := erase_perm (l := l) (j := j) (y := y) h
    show (y :: a :: l.eraseIdx j).Perm (a :: l)
    exact (List.Perm.swap a y _).trans (List.Perm.cons a ih)
theorem erase_map {α β : Type} (f : α → β) : ∀ (l : List α) (j : Nat), (l.map f).eraseIdx j = (l.eraseIdx j).map f
  | [], _ => rfl
  | a :: l, 0 => rfl
  | a :: l, j + 1 => by
    show f a :: (l.map f).eraseIdx j = f a :: (l.eraseIdx j).map f
    rw [erase_map f l j]
theorem PenAt.updLs {H : Hp} {p c l : Addr} {ms : List Int} {n : Int} {o : HO} (h : PenAt H p c ms n) (h1 : l ≠ p) (h2 : l ≠ c) : PenAt (upd H l o) p c ms n := by
  obtain ⟨left, a1, a2, a3⟩ := h
  exact ⟨left, by rw [upd_ne h1.symm]; exact a1, by rw [upd_ne h2.symm]; exact a2, a3⟩
/-! ### _law_mixed -/
def spMixed : Sp := fun vs H Q _ => ∃ (p c : Addr) (ms : List Int) (n : Int) (a : Addr) (rs : List Int), vs = [.ref p, .ref a] ∧ PenAt H p c ms n ∧ 0 ≤ n ∧ n ≤ 500000 ∧ Row H a rs ∧ a ≠ p ∧
  ∀ (l : Addr) (rs' : List Int) (n' : Int) H', H l = none → H' l = some (.lst (rs'.map V.int)) → rs'.Perm rs → n ≤ n' → n' ≤ n + 10 → PenAt H' p c ms n' → SameBut p H H' → Q (.ref l) H'
abbrev nMixed : List Str := ["_law_pen_here", "_law_some", "_law_left", "_law_found", "_law_k"]
theorem scMixed : FnScope nMixed ["_law_pen_here", "_law_some"] (defScope sMixed) := ⟨rfl, rfl, rfl, by decide +kernel, rfl, by decide +kernel, by decide +kernel⟩
theorem ok_mixed {fD : Addr} {fdD : FuncData} (F : FnP K "_law_mixed" sMixed f fd) (GD : FnOk P w K mg base CX0 1 fD fdD ["_law_pen_here", "_law_many"] spDraw) (bD : L2.Binds K fdD ["_law_pen_here", "_law_many"] []) (kD : PySem.W.keepIn K (.ref fD) = true) (gD : mg "_law_draw" = some (.ref fD)) (grange : mg "range" = none) (glen : mg "len" = none) (glist : mg "list" = none) :
    FnOk P w K mg base CX0 2 f fd ["_law_pen_here", "_law_some"] spMixed := by
  refine F.ok scMixed (fun vs H Q E h => ?_) (fun cdv A outer s H vs Q E hr h => ?_)
  · obtain ⟨_, _, _, _, _, _, rfl, _⟩ := h
    rfl
  obtain ⟨p, c, ms, n, a, rs, rfl, hp, n0, n1, hR, nap, q⟩ := h
  have hu := hu_of hr
  have hr1 := hr.mono (show 1 ≤ 1 by decide)
  refine ⟨_, PSs.nox (C8.pss_cut (ps_par (i := 2) (j := 3) (by rfl) scMixed.nd rfl rfl (by decide) rfl rfl (pa_cons (pe_callTy call_list_of (by rfl) glist (by decide +kernel) (pa_cons (pv 1) pa_nil)) (pa_cons (pe_lst pa_nil) pa_nil)) (by rfl))
      (pss_cons (ps_for PassesOwn.never rfl (pi_range1 (by rfl) grange (pa_cons (pe_callB call_len_seq (by rfl) glen PySem.boot_len (pa_cons (pv 1) pa_nil)) pa_nil)) (pg_name (i := 4) scMixed.nd rfl (.inl rfl))
        (pss_one (ps_expr (pe_bm PySem.F.plainAttrs_list PySem.F.slot_list_append PySem.F.type_list_append mt_append (pv 3) (pa_cons (pe_bm PySem.F.plainAttrs_list PySem.F.slot_list_pop PySem.F.type_list_pop mt_popAt (pv 2) (pa_cons (pe_call GD hr1 (by rfl) gD kD bD .nil pass0 (pa_cons (pv 0) (pa_cons (pe_callB call_len_seq (by rfl) glen PySem.boot_len (pa_cons (pv 2) pa_nil)) pa_nil))) pa_nil)) pa_nil)))))
      (pss_one (ps_ret (pv 3))))), ?_⟩
  refine ⟨fun σ H1 => ∃ lL lF : Addr, σ = [some (.ref p), some (.ref a), some (.ref lL), some (.ref lF), none] ∧ Same H H1 ∧ H lL = none ∧ H lF = none ∧ lL ≠ lF ∧ H1 lL = some (.lst (rs.map V.int)) ∧ H1 lF = some (.lst (([] : List Int).map V.int)), ?_, fun σ H1 hh => ?_⟩
  · refine ⟨_, rfl, a, _, rfl, .inl (SqL.of hR.at_), fun lL hL => ?_⟩
    have s1 := same_upd (o := .lst (rs.map V.int)) hL
    refine ⟨by show 0 ≤ sizeLine; decide, fun lF hF => ?_⟩
    have s2 := same_upd (o := .lst []) hF
    have ne : lL ≠ lF := ne_of_none upd_same hF
    exact ⟨_, _, rfl, lL, lF, rfl, s1.trans s2, hL, s1.free hF, ne, s2 _ _ upd_same, upd_same⟩
  obtain ⟨lL, lF, rfl, s1, hL, hF, ne, hL1, hF1⟩ := hh
  have np : ∀ {l : Addr}, H l = none → l ≠ p ∧ l ≠ c := fun {l} h => by
    obtain ⟨_, h1, h2, _⟩ := hp
    exact ⟨(fun z => by rw [← z, h] at h1; cases h1), (fun z => by rw [← z, h] at h2; cases h2)⟩
  have lR := hR.le
  have lm : (rs.map V.int).length = rs.length := List.length_map _
  refine ⟨_, rfl, a, _, rfl, .inl (SqL.of (s1 _ _ hR.at_)), ((rs.map V.int).length : Int), rfl, by omega, by omega, ?_⟩
  refine for_range (n := (((rs.map V.int).length : Nat) : Int).toNat) (fun i σ G => ∃ (v4 : Option V) (L1 L2 : List Int) (n' : Int), σ = [some (.ref p), some (.ref a), some (.ref lL), some (.ref lF), v4] ∧ G lL = some (.lst (L1.map V.int)) ∧ G lF = some (.lst (L2.map V.int)) ∧ (L2 ++ L1).Perm rs ∧ L2.length = i ∧ n ≤ n' ∧ n' ≤ n + (i : Int) ∧ PenAt G p c ms n' ∧ SameBut p H G)
    ⟨none, rs, [], n, rfl, hL1, hF1, List.Perm.refl _, rfl, by omega, by omega, hp.same s1, Same.but s1⟩ (fun i σ G hi hP => ?_) (fun σ G hP => ?_)
  rotate_left
  · obtain ⟨v4, L1, L2, n', rfl, h1, h2, pm, l2, m0, m1, pen, sb⟩ := hP
    have le := pm.length_eq
    rw [List.length_append] at le
    have e1 : L1 = [] := List.length_eq_zero_iff.mp (by omega)
    rw [e1, List.append_nil] at pm
    exact ⟨_, rfl, q lF L2 n' G hF h2 pm m0 (by omega) pen sb⟩
  obtain ⟨v4, L1, L2, n', rfl, h1, h2, pm, l2, m0, m1, pen, sb⟩ := hP
  have le := pm.length_eq
  rw [List.length_append] at le
  have lm1 : (L1.map V.int).length = L1.length := List.length_map _
  refine ⟨_, rfl, .inl ⟨rfl, _, SqL.of h2⟩, _, rfl, .inl ⟨rfl, _, SqL.of h1⟩, _, rfl, _, rfl, lL, _, rfl, .inl (SqL.of h1), p, c, ms, n', (((L1.map V.int).length : Nat) : Int), rfl, pen, by omega, by omega, by omega, Int.lt_of_le_of_lt (b := 16) (by omega) (by decide), fun e n2 G2 e0 e1 x0 x1 pen2 t2 => ?_⟩
  have h1' := t2 _ _ (np hL).1 h1
  have h2' := t2 _ _ (np hF).1 h2
  have el : e.toNat < L1.length := by omega
  obtain ⟨y0, hy0⟩ : ∃ y, L1[e.toNat]? = some y := ⟨_, List.getElem?_eq_getElem el⟩
  have ha : atI (L1.map V.int) e = some (.int y0) := by
    have z := atI_nat (xs := L1.map V.int) (j := e.toNat) (v := .int y0) (by rw [List.getElem?_map, hy0]; rfl)
    rw [show ((e.toNat : Nat) : Int) = e by omega] at z
    exact z
  obtain ⟨j, hj1, hj2, hj3⟩ := atI_get ha
  obtain ⟨y, hy, ey⟩ : ∃ y, L1[j]? = some y ∧ y = y0 := by
    rw [List.getElem?_map] at hj2
    obtain ⟨y, h1, h2⟩ := Option.map_eq_some_iff.mp hj2
    exact ⟨y, h1, V.int.inj h2⟩
  subst ey
  refine ⟨lL, L1.map V.int, e, j, .int y, rfl, rfl, h1', by omega, Int.lt_of_le_of_lt (b := 16) (by omega) (by decide), hj1, hj2, ?_⟩
  rw [erase_map]
  have hF3 : upd G2 lL (.lst ((L1.eraseIdx j).map V.int)) lF = some (.lst (L2.map V.int)) := by rw [upd_ne (Ne.symm ne)]; exact h2'
  refine ⟨lF, _, .int y, rfl, rfl, hF3, Nat.lt_of_le_of_lt (m := 100) (by rw [List.length_map]; omega) (by decide), some (.int (0 + (i : Nat))), L1.eraseIdx j, L2 ++ [y], n2, rfl, ?_, ?_, ?_, ?_, by omega, by omega, ?_, fun b' o nb eb => ?_⟩
  · rw [upd_ne ne, upd_same]
  · rw [upd_same, List.map_append]
    rfl
  · refine List.Perm.trans ?_ pm
    rw [List.append_assoc]
    exact List.Perm.append_left L2 (erase_perm hy)
  · rw [List.length_append, l2]
    rfl
  · exact (pen2.updLs (np hL).1 (np hL).2).updLs (np hF).1 (np hF).2
  · have n1' : b' ≠ lF := fun z => by rw [z, hF] at eb; cases eb
    have n2' : b' ≠ lL := fun z => by rw [z, hL] at eb; cases eb
    rw [upd_ne n1', upd_ne n2']
    exact t2 _ _ nb (sb _ _ nb eb)
end
end TC
namespace TCX
open PySem PySem.Spec PyProof.Rows L2
/-- the turns of a step range, for a list comprehension -/
theorem lc_rangeC {lo c : Int} {n : Nat} {g : TG} {tt : TT} {te : TE} {vs : List Nat} {σ : L2.St} {H1 : Hp} {D : Addr} {Qd : Hp → Prop} (Pv : Nat → Hp → Prop) (h0 : Pv 0 (upd H1 D (.lst [])))
    (hs : ∀ i H, i < n → Pv i H → g (.int (lo + (i : Nat) * c)) (wipe σ vs) H fun σ2 H2 => wipe σ2 vs = wipe σ vs ∧ tt σ2 H2 fun b H3 =>
      if b = true then te σ2 H3 fun y H4 => ∃ acc, H4 D = some (.lst acc) ∧ acc.length < sizeLine ∧ Pv (i + 1) (upd H4 D (.lst (acc ++ [y]))) else Pv (i + 1) H3) (hd : ∀ H, Pv n H → Qd H) :
    ∃ W : Nat → Nat → Hp → Prop, (∃ m, W 0 m (upd H1 D (.lst []))) ∧ ∀ i m H, W i m H →
      ((Itc lo c n).stop i H ∧ Qd H) ∨ ((Itc lo c n).go i H ∧ ∃ Nx : Hp → Prop, (∀ H', Nx H' → ∃ m', m' < m ∧ W (i + 1) m' H') ∧ ∀ x H', (Itc lo c n).yld i H x H' → g x (wipe σ vs) H' fun σ2 H2 => wipe σ2 vs = wipe σ vs ∧ tt σ2 H2 fun b H3 =>
        if b = true then te σ2 H3 fun y H4 => ∃ acc, H4 D = some (.lst acc) ∧ acc.length < sizeLine ∧ Nx (upd H4 D (.lst (acc ++ [y]))) else Nx H3) := by
  refine ⟨fun i m H => m = n - i ∧ i ≤ n ∧ Pv i H, ⟨n, by simp, Nat.zero_le _, h0⟩, ?_⟩
  rintro i m H ⟨rfl, hi, p⟩
  by_cases hlt : i < n
  · refine .inr ⟨hlt, Pv (i + 1), fun H' p' => ⟨n - (i + 1), by omega, rfl, hlt, p'⟩, fun x H' y => ?_⟩
    obtain ⟨e, y⟩ := y
    subst e y
    exact hs i _ hlt p
  · have e : i = n := by omega
    subst e
    exact .inl ⟨Nat.le_refl _, hd H p⟩
end TCX
namespace TC
open PySem PySem.Spec PyProof.Rows L2 TCA TCX
/-! ### K40V: _law_all_counts, _law_cut_right -/
section
variable {K : PySem.W.Frag} {x : Str} {params : Arguments} {body : List Stmt} {scope : Scope} {kws : List (Str × V)} {f : Addr} {fd : FuncData} {ps : List Str} {qual : Str}
/-- a call with keywords of a def without defaults, in order -/
theorem kbindsN (F : FunD K x qual params body scope [] kws f fd) (n : Nat) (ks : List Str)
    (h : ∀ (kV doc pm : Value) (an : Option Addr) (cdv ct : Value) (us ws : List Value), us.length = n → ws.length = ks.length → bindArgs (PySem.W.fnOf x qual params body scope .none kV doc pm an cdv ct) ⟨us, ks.zip ws⟩ = pure (ps.zip (us ++ ws))) :
    KBn K fd ps n ks (fun us ws => us ++ ws) (fun vs zs => vs ++ zs) := by
  obtain ⟨oc, od, dV, kV, doc, pm, an, cdv, ct, osl, rfl, lk, hcd, hD, hK⟩ := F.ex
  rcases hD with ⟨_, rfl⟩ | ⟨e, _⟩
  · exact ⟨fun s us ws X l1 l2 => .of_eq (h kV doc pm an cdv ct us ws l1 l2), fun r1 r2 => r1.append r2⟩
  · exact absurd rfl e
end
theorem put_new {k : Key} {v : V} : ∀ {kvs : List (Key × V)}, k ∉ kvs.map (·.1) → putK kvs k v = kvs ++ [(k, v)] := fun {kvs} h => by
  unfold putK
  have e : (kvs.any fun kv => decide (kv.1 = k)) = false := by
    refine Bool.eq_false_iff.mpr fun w => h ?_
    obtain ⟨kv, m, e⟩ := List.any_eq_true.mp w
    exact List.mem_map.mpr ⟨kv, m, of_decide_eq_true e⟩
  rw [e]
  rfl
theorem merge_new : ∀ {more kvs : List (Key × V)}, ((kvs ++ more).map (·.1)).Nodup → mergeK kvs more = kvs ++ more
  | [], kvs, _ => (List.append_nil _).symm
  | x :: more, kvs, h => by
    show mergeK (putK kvs x.1 x.2) more = _
    have hx : x.1 ∉ kvs.map (·.1) := fun m => by
      rw [List.map_append, List.map_cons] at h
      exact (List.nodup_append.mp h).2.2 x.1 m x.1 (by simp) rfl
    rw [put_new hx, merge_new (by rw [List.append_assoc]; exact h), List.append_assoc]
    rfl
def cntK (rs : List Int) : List (Key × V) := (keysN rs.sum).map fun n => ((Sum.inl n : Key), V.int (cnt rs n))
theorem cntK_keys (rs : List Int) : (cntK rs).map (·.1) = (keysN rs.sum).map (Sum.inl : Int → Key) := by
  unfold cntK
  rw [List.map_map]
  rfl
theorem cntK_nd (rs : List Int) : ((cntK rs).map (·.1)).Nodup := by
  rw [cntK_keys]
  exact List.Pairwise.map _ (fun a b h e => h (by injection e)) (keysN_nd rs.sum)
theorem cntK_val {rs : List Int} {n : Int} (h : n ∈ keysN rs.sum) : valV (cntK rs) (Sum.inl n : Key) = some (.int (cnt rs n)) := by
  unfold cntK
  have go : ∀ l : List Int, n ∈ l → valV (l.map fun n => ((Sum.inl n : Key), V.int (cnt rs n))) (Sum.inl n : Key) = some (.int (cnt rs n)) := fun l => by
    induction l with
    | nil =>
      intro h
      cases h
    | cons a l ih =>
      intro h
      by_cases e : a = n
      · subst e
        exact valV_pos rfl
      · rw [List.map_cons, valV_neg fun z => e (by injection z)]
        exact ih ((List.mem_cons.mp h).resolve_left fun z => e z.symm)
  exact go _ h
/-- rows are of one sum, of few sizes -/
theorem row_sum {H : Hp} {a : Addr} {rs : List Int} (h : Row H a rs) : 0 ≤ rs.sum ∧ rs.sum ≤ 120 := by
  refine ⟨sum_nn fun s hs => (h.sz s hs).1, ?_⟩
  have go : ∀ l : List Int, (∀ s ∈ l, s ≤ 12) → l.sum ≤ 12 * (l.length : Int) := fun l => by
    induction l with
    | nil => exact fun _ => by decide
    | cons a l ih =>
      intro h
      have h1 := h a (by simp)
      have h2 := ih fun s hs => h s (List.mem_cons_of_mem _ hs)
      rw [List.sum_cons, List.length_cons]
      omega
  have h1 := go rs fun s hs => (h.sz s hs).2
  have h2 := h.le
  omega
theorem cnt_bd {rs : List Int} (h : ∀ s ∈ rs, 0 ≤ s ∧ s ≤ 12) (l : rs.length ≤ 10) (n : Int) : 0 ≤ cnt rs n ∧ cnt rs n < 2 ^ 60 := by
  cases rs with
  | nil => exact ⟨Int.le_refl _, by show (0:Int) < 2 ^ 60; decide⟩
  | cons s rest =>
    refine ⟨rowT_nn n rest s, ?_⟩
    have z := rowT_le (n := n) (r := rest) (fun t ht => h t (List.mem_cons_of_mem _ ht)) s
    refine Int.lt_of_le_of_lt z ?_
    have lr : rest.length ≤ 9 := by
      rw [List.length_cons] at l
      omega
    have e : (13 : Int) ^ rest.length ≤ 13 ^ 9 := by
      have := Nat.pow_le_pow_right (n := 13) (by decide) lr
      have e2 : (13 : Int) ^ rest.length = ((13 ^ rest.length : Nat) : Int) := by rw [Int.natCast_pow]; rfl
      rw [e2]
      exact Int.ofNat_le.mpr this
    exact Int.lt_of_le_of_lt e (by decide)
section
variable {P : Program} {w : World} {K : PySem.W.Frag} {mg : Str → Option Value} {base : Heap} {f : Addr} {fd : FuncData} {CR CS CP : Addr}
def spAll : Sp := fun vs H Q _ => ∃ (a : Addr) (rs : List Int), vs = [.ref a] ∧ Row H a rs ∧ ∀ d H', Same H H' → H d = none → H' d = some (.dK (cntK rs)) → Q (.ref d) H'
abbrev nAllC : List Str := ["_law_row_here", "_law_size"]
theorem scAllC : FnScope nAllC ["_law_row_here"] (defScope sAllC) := ⟨rfl, rfl, rfl, by decide +kernel, rfl, by decide +kernel, by decide +kernel⟩
set_option maxHeartbeats 0 in
theorem ok_allC {fC : Addr} {fdC : FuncData} (F : FnP K "_law_all_counts" sAllC f fd) (FC : FnP K "counted" sCounted fC fdC) (GC : FnOk P w K mg base CX0 3 fC fdC ["row", "to"] spCt) (gC : mg "counted" = some (.ref fC)) (grange : mg "range" = none) (gsum : mg "sum" = none) (gdict : mg "dict" = none) :
    FnOk P w K mg base CX0 4 f fd ["_law_row_here"] spAll := by
  have kb : KBn K fdC ["row", "to"] 1 ["to"] (fun us ws => us ++ ws) (fun vs zs => vs ++ zs) := kbindsN FC 1 ["to"] (fun _ _ _ _ _ _ us ws h1 h2 => match us, ws, h1, h2 with
    | [_], [_], _, _ => rfl)
  refine F.ok scAllC (fun vs H Q E h => ?_) (fun cdv A outer s H vs Q E hr h => ?_)
  · obtain ⟨_, _, rfl, _⟩ := h
    rfl
  obtain ⟨a, rs, rfl, hR, q⟩ := h
  have hu := hu_of hr
  refine ⟨_, PSs.nox (pss_one (ps_ret (pe_callTy (call_dictP (by rfl)) (by rfl) gdict (by decide +kernel) (pa_cons (pe_lc (own := [("_law_size", 1)]) (g := gName 1) (tt := tTest (tOp (rI0 fun i j => .bl (decide (i < j))) (tVar 1) (tC (.int 121)))) (te := tTup (tCons (tVar 1) (tCons (tCallN 1 (["to"] : List Str).length spCt (fun vs zs => vs ++ zs) E0 (tCons (tVar 0) tNil) (tCons (tVar 1) tNil)) tNil))) (by rfl) scAllC.nd (pi_range3 (by rfl) grange (pa_cons (pe_op op_mod (pe_callB (cr_sum rfl) (by rfl) gsum (by decide +kernel) (pa_cons (pv 0) pa_nil)) pe_int) (pa_cons (pe_op op_add (pe_callB (cr_sum rfl) (by rfl) gsum (by decide +kernel) (pa_cons (pv 0) pa_nil)) pe_int) (pa_cons pe_int pa_nil))))
          (blkOk_by (N := nAllC) (sc := defScope sAllC) (by decide +kernel)) (fun _ _ _ _ _ => pg_name (i := 1) scAllC.nd rfl (.inl rfl)) (fun _ _ _ _ _ => pts_one (pt_cmpR op_lt (pv 1) pe_int (nomark _))) (fun _ _ _ _ _ => pe_tup (pa_cons (pv 1) (pa_cons (pe_callN GC hr (by rfl) gC FC.kp kb (E := E0) pass0 (pa_cons (pv 0) pa_nil) (pk_cons (pv 1) pk_nil)) pa_nil)))) pa_nil)))), ?_⟩
  obtain ⟨S0, S1⟩ := row_sum hR
  obtain ⟨S, eS⟩ : ∃ S, rs.sum = S := ⟨_, rfl⟩
  rw [eS] at S0 S1
  refine ⟨_, rfl, a, rs, rfl, SqL.of hR.at_, S, 2, by rw [eS], rfl, by show (0:Int) < 2; decide, _, rfl, a, rs, rfl, SqL.of hR.at_, S, 1, by rw [eS], rfl, S % 2, S + 1, 2, (S / 2).toNat + 1, rfl, ⟨by decide, by decide, small2 (by omega) (by omega) (by omega) (by omega), size2 (by omega) (by omega)⟩, fun D hD => ?_⟩
  have lk : (keysN rs.sum).length = (S / 2).toNat + 1 := by
    unfold keysN
    rw [List.length_map, List.length_range, eS]
  have kat : ∀ i, i < (S / 2).toNat + 1 → (keysN rs.sum)[i]? = some (S % 2 + ((i : Nat) : Int) * 2) := fun i hi => by
    unfold keysN
    rw [eS, List.getElem?_map, List.getElem?_range hi]
    show some (S % 2 + 2 * (i : Int)) = _
    rw [Int.mul_comm]
  refine lc_rangeC (lo := S % 2) (c := 2) (n := (S / 2).toNat + 1) (fun i G => Same H G ∧ ∃ ps : List Addr, G D = some (.lst (ps.map V.ref)) ∧ Paired (fun p kv => G p = some (.tup [kV kv.1, kv.2])) ps ((cntK rs).take i)) ⟨same_upd hD, [], upd_same, .nil⟩ (fun i G hi hP => ?_) (fun G hP => ?_)
  · obtain ⟨sG, ps, hG, hp⟩ := hP
    refine ⟨rfl, _, rfl, _, _, rfl, rfl, true, congrArg V.bl (decide_eq_true (by omega)), iteT ?_⟩
    obtain ⟨n, en⟩ : ∃ n : Int, S % 2 + ((i : Nat) : Int) * 2 = n := ⟨_, rfl⟩
    have hk := kat i hi
    rw [en] at hk ⊢
    refine ⟨_, rfl, _, rfl, _, rfl, rfl, rfl, a, rs, n, rfl, hR.same sG, by omega, by omega, fun G2 s2 => ⟨by show 2 ≤ sizeLine; decide, fun t ht => ?_⟩⟩
    have st := same_upd (o := .tup [.int n, .int (cnt rs n)]) ht
    have sB := s2.trans st
    have hG' := sB _ _ hG
    have lp : ps.length ≤ 61 := by
      rw [Paired.length hp]
      have := List.length_take_le' i (cntK rs)
      have e : (cntK rs).length = (S / 2).toNat + 1 := by
        unfold cntK
        rw [List.length_map, lk]
      omega
    refine ⟨_, hG', Nat.lt_of_le_of_lt (m := 100) (by rw [List.length_map]; omega) (by decide), same_at (sG.trans sB) hD, ps ++ [t], by rw [upd_same, List.map_append]; rfl, ?_⟩
    have etk : (cntK rs).take (i + 1) = (cntK rs).take i ++ [((Sum.inl n : Key), V.int (cnt rs n))] := by
      have : (cntK rs)[i]? = some ((Sum.inl n : Key), V.int (cnt rs n)) := by
        unfold cntK
        rw [List.getElem?_map, hk]
        rfl
      rw [List.take_add_one, this]
      rfl
    rw [etk]
    have keep : ∀ {p : Addr} {xs : List V}, upd G2 t (.tup [.int n, .int (cnt rs n)]) p = some (.tup xs) → upd (upd G2 t (.tup [.int n, .int (cnt rs n)])) D (.lst (ps.map V.ref ++ [.ref t])) p = some (.tup xs) := fun {p xs} e => by
      rw [upd_ne fun z => by rw [z, hG'] at e; cases e]
      exact e
    have go : ∀ {qs : List Addr} {kvs : List (Key × V)}, Paired (fun p kv => G p = some (.tup [kV kv.1, kv.2])) qs kvs → Paired (fun p kv => upd (upd G2 t (.tup [.int n, .int (cnt rs n)])) D (.lst (ps.map V.ref ++ [.ref t])) p = some (.tup [kV kv.1, kv.2])) qs kvs := fun {qs kvs} h => by
      induction h with
      | nil => exact .nil
      | cons e _ ih => exact .cons (keep (sB _ _ e)) ih
    refine Paired.snoc (go hp) (keep ?_)
    rw [upd_same]
    rfl
  · obtain ⟨sG, ps, hG, hp⟩ := hP
    have fin : ∀ {ps : List Addr} {kvs : List (Key × V)}, Paired (fun p kv => G p = some (.tup [kV kv.1, kv.2])) ps kvs → Paired (fun p kv => SqT K G p [kV kv.1, kv.2]) ps kvs := fun {ps kvs} h => by
      induction h with
      | nil => exact .nil
      | cons e _ ih => exact .cons (SqT.of e) ih
    have e : (cntK rs).take ((S / 2).toNat + 1) = cntK rs := by
      have e : (cntK rs).length = (S / 2).toNat + 1 := by
        unfold cntK
        rw [List.length_map, lk]
      rw [← e, List.take_length]
    rw [e] at hp
    refine ⟨D, ps, cntK rs, rfl, SqL.of hG, ?_, fun d hd => ?_⟩
    · exact fin hp
    · have em : mergeK [] (cntK rs) = cntK rs := merge_new (by rw [List.nil_append]; exact cntK_nd rs)
      rw [em]
      exact q d _ (sG.trans (same_upd hd)) (sG.free hd) upd_same
end
end TC
namespace TC
open PySem PySem.Spec PyProof.Rows L2 TCA TCX
/-! ### K40W: _law_cut_right -/
theorem sum_take {l : List Int} {i : Nat} {x : Int} (f : Int → Int) (h : l[i]? = some x) : ((l.take (i + 1)).map f).sum = ((l.take i).map f).sum + f x := by
  rw [List.take_add_one, h, List.map_append, List.sum_append]
  show _ + (f x + 0) = _
  rw [Int.add_zero]
def innS (A B : List Int) (x y : Int) (j : Nat) : Int := (((keysN B.sum).take j).map fun z => cnt A x * cnt B z * opT z (one y) x).sum
def outS (A B : List Int) (y : Int) (i : Nat) : Int := (((keysN A.sum).take i).map fun x => innS A B x y (keysN B.sum).length).sum
theorem outS_all {A B : List Int} (nA : A ≠ []) (nB : B ≠ []) (hA : ∀ s ∈ A, 0 ≤ s) (hB : ∀ s ∈ B, 0 ≤ s) {y : Int} (y0 : 0 ≤ y) : outS A B y (keysN A.sum).length = cnt (A ++ B) y := by
  rw [cnt_cut nA nB hA hB y0]
  unfold outS innS
  rw [List.take_length, List.take_length]
theorem setI_at (t : Int → Int) (r c y : Int) : setI t r (t r + c) y = t y + c * one y r := by
  unfold setI one
  by_cases e : y = r
  · rw [if_pos e, if_pos e.symm, e, Int.mul_one]
  · rw [if_neg e, if_neg fun z => e z.symm, Int.mul_zero, Int.add_zero]
theorem cntK_len (rs : List Int) : (cntK rs).length = (keysN rs.sum).length := by
  unfold cntK
  rw [List.length_map]
section
variable {P : Program} {w : World} {K : PySem.W.Frag} {mg : Str → Option Value} {base : Heap} {f : Addr} {fd : FuncData}
def spCut : Sp := fun vs H Q _ => ∃ (a d : Addr) (rs : List Int) (m : Nat), vs = [.ref a, .int (m : Int), .ref d] ∧ Row H a rs ∧ 1 ≤ m ∧ m < rs.length ∧ H d = some (.dK (cntK rs)) ∧ ∀ H', Same H H' → Q (.bl true) H'
abbrev nCut : List Str := ["_law_row_here", "_law_at", "_law_told", "_law_ahead", "_law_behind", "_law_found", "_law_one", "_law_other", "_law_size"]
theorem scCut : FnScope nCut ["_law_row_here", "_law_at", "_law_told"] (defScope sCut) := ⟨rfl, rfl, rfl, by decide +kernel, rfl, by decide +kernel, by decide +kernel⟩
set_option maxHeartbeats 0 in
theorem ok_cut {fA fJ : Addr} {fdA fdJ : FuncData} (F : FnP K "_law_cut_right" sCut f fd)
    (GA : FnOk P w K mg base CX0 4 fA fdA ["_law_row_here"] spAll) (bA : L2.Binds K fdA ["_law_row_here"] []) (kA : PySem.W.keepIn K (.ref fA) = true) (gA : mg "_law_all_counts" = some (.ref fA))
    (GJ : FnOk P w K mg base CX0 1 fJ fdJ ["_law_one", "_law_other"] spEnds) (bJ : L2.Binds K fdJ ["_law_one", "_law_other"] []) (kJ : PySem.W.keepIn K (.ref fJ) = true) (gJ : mg "_law_joints" = some (.ref fJ)) :
    FnOk P w K mg base CX0 5 f fd ["_law_row_here", "_law_at", "_law_told"] spCut := by
  refine F.ok scCut (fun vs H Q E h => ?_) (fun cdv A0 outer s H vs Q E hr h => ?_)
  · obtain ⟨_, _, _, _, rfl, _⟩ := h
    rfl
  obtain ⟨a, d, rs, m, rfl, hR, m0, m1, hd, q⟩ := h
  have hu := hu_of hr
  have hr4 := hr
  have hr1 := hr.mono (show 1 ≤ 4 by decide)
  refine ⟨_, PSs.nox (C8.pss_cut (ps_par (i := 3) (j := 4) (by rfl) scCut.nd rfl rfl (by decide) rfl rfl (pa_cons (pe_call GA hr4 (by rfl) gA kA bA .nil pass0 (pa_cons (pe_slice sl_list (pv 0) po_none (po_some (pv 1))) pa_nil)) (pa_cons (pe_call GA hr4 (by rfl) gA kA bA .nil pass0 (pa_cons (pe_slice sl_list (pv 0) (po_some (pv 1)) po_none) pa_nil)) pa_nil)) (by rfl))
      (C8.pss_cut (ps_set (i := 5) scCut.nd rfl (.inr rfl) pe_dnewK)
      (C8.pss_cut (ps_lock (ps_for PassesOwn.never rfl (pi_keys (pv 3)) (pg_name (i := 6) scCut.nd rfl (.inl rfl))
        (pss_one (ps_lock (ps_for PassesOwn.never rfl (pi_keys (pv 4)) (pg_name (i := 7) scCut.nd rfl (.inl rfl))
        (pss_one (ps_for PassesOwn.never rfl (pi_list (pe_call GJ hr1 (by rfl) gJ kJ bJ .nil pass0 (pa_cons (pv 6) (pa_cons (pv 7) pa_nil)))) (pg_name (i := 8) scCut.nd rfl (.inl rfl))
        (pss_one (ps_dput hu (pv 5) (pv 8) (pe_op op_add (pe_dget2 hu (pv 5) (pv 8) pe_int ⟨rfl, rfl, rfl, rfl⟩) (pe_op op_mul (pe_dget hu (pv 3) (pv 6) (fun _ _ => rfl)) (pe_dget hu (pv 4) (pv 7) (fun _ _ => rfl)))) rfl)))))))))
      (pss_one (ps_ret (pe_cmpR (op_eqD hr.units) (pe_lock (pe_lc (own := [("_law_size", 8)]) (g := gName 8) (tt := (tTest (tOp rNe (tDGet (tVar 2) (tVar 8)) (tDGet2 (tVar 5) (tVar 8) (tC (.int 0)))))) (te := (tVar 8)) (by rfl) scCut.nd (pi_keys (pv 2))
          (blkOk_by (N := nCut) (sc := defScope sCut) (by decide +kernel)) (fun _ _ _ _ _ => pg_name (i := 8) scCut.nd rfl (.inl rfl)) (fun _ _ _ _ _ => pts_one (pt_cmpR op_ne (pe_dget hu (pv 2) (pv 8) (fun _ _ => rfl)) (pe_dget2 hu (pv 5) (pv 8) pe_int ⟨rfl, rfl, rfl, rfl⟩) (nomark _))) (fun _ _ _ _ _ => (pv 8)))) (pe_lst pa_nil) (nomark _))))))), ?_⟩
  obtain ⟨LA, eA⟩ : ∃ A, rs.take m = A := ⟨_, rfl⟩
  obtain ⟨LB, eB⟩ : ∃ B, rs.drop m = B := ⟨_, rfl⟩
  have eAB : LA ++ LB = rs := by rw [← eA, ← eB]; exact List.take_append_drop m rs
  have lA : LA.length = m := by rw [← eA, List.length_take]; omega
  have lB : LB.length = rs.length - m := by rw [← eB, List.length_drop]
  have zA : ∀ s ∈ LA, 0 ≤ s ∧ s ≤ 12 := fun s hs => hR.sz s (by rw [← eAB]; exact List.mem_append_left _ hs)
  have zB : ∀ s ∈ LB, 0 ≤ s ∧ s ≤ 12 := fun s hs => hR.sz s (by rw [← eAB]; exact List.mem_append_right _ hs)
  have l10 := hR.le
  have nA : LA ≠ [] := fun z => by rw [z] at lA; have : 0 = m := lA; omega
  have nB : LB ≠ [] := fun z => by rw [z] at lB; have : 0 = rs.length - m := lB; omega
  have sSA : 0 ≤ LA.sum ∧ LA.sum ≤ 120 := row_sum (H := upd H 0 (.lst (LA.map V.int))) (a := 0) ⟨upd_same, by omega, by omega, zA⟩
  have sSB : 0 ≤ LB.sum ∧ LB.sum ≤ 120 := row_sum (H := upd H 0 (.lst (LB.map V.int))) (a := 0) ⟨upd_same, by omega, by omega, zB⟩
  refine ⟨fun σ H1 => ∃ dA dB : Addr, σ = [some (.ref a), some (.int m), some (.ref d), some (.ref dA), some (.ref dB), none, none, none, none] ∧ Same H H1 ∧ dA ≠ dB ∧ H1 dA = some (.dK (cntK LA)) ∧ H1 dB = some (.dK (cntK LB)), ?_, fun σ H1 hh => ?_⟩
  · refine ⟨_, rfl, _, rfl, _, rfl, a, _, rfl, SqL.of hR.at_, fun l1 hl1 => ?_⟩
    have st1 := same_upd (o := .lst (cutV (rs.map V.int) none (some (m : Int)))) hl1
    have c1 : cutV (rs.map V.int) none (some (m : Int)) = LA.map V.int := by rw [cut_take, ← List.map_take, eA]
    have c2 : cutV (rs.map V.int) (some (m : Int)) none = LB.map V.int := by rw [cut_drop, ← List.map_drop, eB]
    rw [c1] at st1 ⊢
    refine ⟨l1, LA, rfl, ⟨upd_same, by omega, by omega, zA⟩, fun dA H1 sA nA' hdA => ?_⟩
    have s1 := st1.trans sA
    refine ⟨_, rfl, _, rfl, _, rfl, a, _, rfl, SqL.of (s1 _ _ hR.at_), fun l2 hl2 => ?_⟩
    rw [c2]
    have st2 := same_upd (o := .lst (LB.map V.int)) hl2
    refine ⟨l2, LB, rfl, ⟨upd_same, by omega, by omega, zB⟩, fun dB H2 sB nB' hdB => ?_⟩
    have hA3 := sB _ _ (st2 _ _ hdA)
    exact ⟨_, _, rfl, dA, dB, rfl, (s1.trans st2).trans sB, ne_of_none (st2 _ _ hdA) nB', hA3, hdB⟩
  obtain ⟨dA, dB, rfl, s1, nAB, hA1, hB1⟩ := hh
  refine ⟨fun σ H2 => ∃ D : Addr, σ = [some (.ref a), some (.int m), some (.ref d), some (.ref dA), some (.ref dB), some (.ref D), none, none, none] ∧ Same H1 H2 ∧ H1 D = none ∧ IntD H2 D [] (fun _ => 0), ?_, fun σ H2 hh => ?_⟩
  · exact fun D hD => ⟨D, rfl, same_upd hD, hD, [], upd_same, rfl, (fun r hr => by cases hr), List.nodup_nil, fun r _ => rfl⟩
  obtain ⟨D, rfl, s2, hD, hI0⟩ := hh
  have hA2 := s2 _ _ hA1
  have hB2 := s2 _ _ hB1
  have nDA : D ≠ dA := (ne_of_none hA1 hD).symm
  have nDB : D ≠ dB := (ne_of_none hB1 hD).symm
  refine ⟨fun σ H3 => ∃ (v6 v7 v8 : Option V) (ks : List Int) (t : Int → Int), σ = [some (.ref a), some (.int m), some (.ref d), some (.ref dA), some (.ref dB), some (.ref D), v6, v7, v8] ∧ Same H1 H3 ∧ IntD H3 D ks t ∧ ∀ y, 0 ≤ y → t y = cnt rs y, ?_, fun σ H3 hh => ?_⟩
  · refine ⟨dA, .dK (cntK LA), hA2, trivial, fun o1 => ?_⟩
    refine ⟨_, rfl, dA, o1, rfl, .inl ⟨cntK LA, upd_same, ?_⟩⟩
    have kA1 := cntK_keys LA
    have kB1 := cntK_keys LB
    have few : ∀ {ks : List Int} {kvp : List (Key × V)}, kvp.map (·.1) = ks.map (Sum.inl : Int → Key) → ks.Nodup → (∀ r ∈ ks, 0 ≤ r ∧ r ≤ 240) → kvp.length < sizeLine := fun {ks kvp} p2 p4 h => by
      have : ks.length ≤ 1000 := nodup_len (lo := 0) 1000 p4 fun s hs => by
        have := h s hs
        omega
      rw [len_keys p2, sizeLine_eq]
      omega
    refine for_it (walk_keys (d := dA) (o := o1) (kvs := cntK LA)) (fun i σ G => ∃ (v6 v7 v8 : Option V) (ks : List Int) (t : Int → Int), σ = [some (.ref a), some (.int m), some (.ref d), some (.ref dA), some (.ref dB), some (.ref D), v6, v7, v8] ∧ G dA = some (.frz o1 (.dK (cntK LA))) ∧ (∀ b o, H1 b = some o → b ≠ dA → G b = some o) ∧ IntD G D ks t ∧ (∀ y, t y = outS LA LB y i) ∧ ∀ r ∈ ks, 0 ≤ r ∧ r ≤ 240)
      ⟨_, _, _, [], fun _ => 0, rfl, upd_same, fun b o e hb => by rw [upd_ne hb]; exact s2 _ _ e, hI0.upd nDA, fun y => rfl, fun r hr => by cases hr⟩ (fun i σ G _ hP => ?_) (fun i x σ G G2 hi hP hy => ?_) (fun σ G hP => ?_)
    · obtain ⟨_, _, _, _, _, _, z, _⟩ := hP
      exact z
    rotate_left
    · obtain ⟨v6, v7, v8, ks, t, rfl, hf, keep, hI, ht, hks⟩ := hP
      refine ⟨hf, v6, v7, v8, ks, t, rfl, fun b o e => ?_, hI.upd nDA, fun y y0 => ?_⟩
      · by_cases hb : b = dA
        · rw [hb, upd_same]
          rw [hb, hA1] at e
          exact e
        · rw [upd_ne hb]
          exact keep b o e hb
      · rw [ht y, cntK_len, outS_all nA nB (fun s hs => (zA s hs).1) (fun s hs => (zB s hs).1) y0, eAB]
    obtain ⟨rfl, k, v, hkv, rfl⟩ := hy
    obtain ⟨v6, v7, v8, ks, t, rfl, hf, keep, hI, ht, hks⟩ := hP
    obtain ⟨x, hx, rfl⟩ := key_at kA1 hkv
    have mx := List.mem_of_getElem? hx
    obtain ⟨x0, x1, _⟩ := (keysN_mem sSA.1).mp mx
    have hB3 := keep _ _ hB1 (Ne.symm nAB)
    refine ⟨dB, .dK (cntK LB), hB3, trivial, fun o2 => ?_⟩
    refine ⟨_, rfl, dB, o2, rfl, .inl ⟨cntK LB, upd_same, ?_⟩⟩
    refine for_it (walk_keys (d := dB) (o := o2) (kvs := cntK LB)) (fun j σ G3 => ∃ (v7 v8 : Option V) (ks : List Int) (t : Int → Int), σ = [some (.ref a), some (.int m), some (.ref d), some (.ref dA), some (.ref dB), some (.ref D), some (.int x), v7, v8] ∧ G3 dB = some (.frz o2 (.dK (cntK LB))) ∧ (∀ b o, G2 b = some o → b ≠ dB → b ≠ D → G3 b = some o) ∧ IntD G3 D ks t ∧ (∀ y, t y = outS LA LB y i + innS LA LB x y j) ∧ ∀ r ∈ ks, 0 ≤ r ∧ r ≤ 240)
      ⟨_, _, ks, t, rfl, upd_same, fun b o e hb _ => by rw [upd_ne hb]; exact e, hI.upd nDB, fun y => by rw [ht y]; exact (Int.add_zero _).symm, hks⟩ (fun j σ G3 _ hP => ?_) (fun j y σ G3 G4 hj hP hy => ?_) (fun σ G3 hP => ?_)
    · obtain ⟨_, _, _, _, _, z, _⟩ := hP
      exact z
    rotate_left
    · obtain ⟨v7, v8, ks, t, rfl, hf3, keep3, hI3, ht3, hks3⟩ := hP
      refine ⟨hf3, _, v7, v8, ks, t, rfl, ?_, fun b o e hb => ?_, hI3.upd nDB, fun y => ?_, hks3⟩
      · rw [upd_ne nAB]
        exact keep3 _ _ hf nAB nDA.symm
      · by_cases hb2 : b = dB
        · rw [hb2, upd_same]
          rw [hb2, hB1] at e
          exact e
        · rw [upd_ne hb2]
          exact keep3 _ _ (keep b o e hb) hb2 (ne_of_none e hD)
      · rw [ht3 y, cntK_len]
        unfold outS
        rw [sum_take _ hx]
    obtain ⟨rfl, k, v, hkv2, rfl⟩ := hy
    obtain ⟨v7, v8, ks, t, rfl, hf3, keep3, hI3, ht3, hks3⟩ := hP
    obtain ⟨z, hz, rfl⟩ := key_at kB1 hkv2
    have mz := List.mem_of_getElem? hz
    obtain ⟨z0, z1, _⟩ := (keysN_mem sSB.1).mp mz
    refine ⟨_, rfl, _, rfl, x, z, rfl, x0, by omega, z0, by omega, fun l hl => ?_⟩
    have sl' := same_upd (o := .lst (upV (loJ x z) (manyE x z))) hl
    have npl : D ≠ l := fun e => by
      obtain ⟨_, z, _⟩ := hI3
      rw [e, hl] at z
      cases z
    have bnd : loJ x z + 2 * ((manyE x z : Nat) : Int) ≤ x + z + 2 := by
      unfold loJ manyE
      split <;> split <;> omega
    have l0 := loJ_nn x z
    have hA4 : G4 dA = some (.frz o1 (.dK (cntK LA))) := keep3 _ _ hf nAB nDA.symm
    refine ⟨l, rfl, ⟨_, SqL.of upd_same⟩, for_list (K := K) (a := l) (xs := upV (loJ x z) (manyE x z)) (fun n σ G5 => ∃ (v8 : Option V) (ks : List Int) (t : Int → Int), σ = [some (.ref a), some (.int m), some (.ref d), some (.ref dA), some (.ref dB), some (.ref D), some (.int x), some (.int z), v8] ∧ G5 l = some (.lst (upV (loJ x z) (manyE x z))) ∧ (∀ b o, G4 b = some o → b ≠ D → G5 b = some o) ∧ IntD G5 D ks t ∧ (∀ y, t y = outS LA LB y i + innS LA LB x y j + cnt LA x * cnt LB z * runS (one y) (loJ x z) n) ∧ ∀ r ∈ ks, 0 ≤ r ∧ r ≤ 240)
      ⟨_, ks, t, rfl, upd_same, fun b o e hb => sl' _ _ e, hI3.same sl', fun y => ?_, hks3⟩ (fun n σ G5 _ hP => ?_) (fun n u σ G5 hu5 hP => ?_) (fun σ G5 hP => ?_)⟩
    · rw [ht3 y]
      show _ = _ + cnt LA x * cnt LB z * 0
      rw [Int.mul_zero, Int.add_zero]
    · obtain ⟨_, _, _, _, z, _⟩ := hP
      exact SqL.of z
    rotate_left
    · obtain ⟨v8, ks, t, rfl, _, keep5, hI5, ht5, hks5⟩ := hP
      refine ⟨_, v8, ks, t, rfl, keep5 _ _ hf3 nDB.symm, fun b o e hb1 hb2 => keep5 _ _ (keep3 b o e hb1 hb2) hb2, hI5, fun y => ?_, hks5⟩
      rw [ht5 y, upV_length]
      unfold innS
      rw [sum_take _ hz, Int.add_assoc]
      rfl
    obtain ⟨v8, ks, t, rfl, hl5, keep5, hI5, ht5, hks5⟩ := hP
    obtain ⟨hn, rfl⟩ := up_at hu5
    obtain ⟨o, dg, eo⟩ := got (r := loJ x z + 2 * (n : Int)) hI5
    obtain ⟨kvp, p1, p2, p3, p4, p5⟩ := id hI5
    have hA5 := keep5 _ _ hA4 nDA.symm
    have hB5 := keep5 _ _ hf3 nDB.symm
    have hcx := cnt_bd zA (by omega) x
    have hcz := cnt_bd zB (by omega) z
    refine ⟨_, rfl, D, rfl, .inl ⟨_, .inl p1⟩, _, rfl, o, dg, ?_⟩
    rw [eo]
    refine ⟨_, rfl, _, rfl, dA, .int (cnt LA x), rfl, .inl ⟨cntK LA, Sum.inl x, .inr ⟨o1, hA5⟩, rfl, (cntK_val mx).symm⟩, _, rfl, _, rfl, dB, .int (cnt LB z), rfl, .inl ⟨cntK LB, Sum.inl z, .inr ⟨o2, hB5⟩, rfl, (cntK_val mz).symm⟩, cnt LA x, cnt LB z, rfl, rfl, .inl ⟨by omega, by omega⟩, t (loJ x z + 2 * (n : Int)), cnt LA x * cnt LB z, rfl, rfl, _, rfl, _, rfl, D, _, rfl, DPut.k (k := Sum.inl (loJ x z + 2 * (n : Int))) p1 (few p2 p4 hks5), ?_⟩
    refine ⟨_, addKey ks (loJ x z + 2 * (n : Int)), setI t (loJ x z + 2 * (n : Int)) (t (loJ x z + 2 * (n : Int)) + cnt LA x * cnt LB z), rfl, by rw [upd_ne npl.symm]; exact hl5, fun b o e hb => by rw [upd_ne hb]; exact keep5 b o e hb, putI_ok (H := G5) (d := D) p2 p3 p4 p5, fun y => ?_, fun s hs => ?_⟩
    · rw [setI_at, ht5 y, runS_succ, Int.mul_add, Int.add_assoc]
    · rcases mem_addKey.mp hs with h | h
      · exact hks5 s h
      · rw [h]
        omega
  obtain ⟨v6, v7, v8, ks, t, rfl, s3, hI3, ht3⟩ := hh
  have hd3 := s3 _ _ (s1 _ _ hd)
  have kR := cntK_keys rs
  have sSR := row_sum hR
  have nDd : D ≠ d := (ne_of_none (s1 _ _ hd) hD).symm
  refine ⟨d, .dK (cntK rs), hd3, trivial, fun o => ?_⟩
  refine ⟨_, rfl, d, o, rfl, .inl ⟨cntK rs, upd_same, fun D2 hD2 => ?_⟩⟩
  have nD : d ≠ D2 := ne_of_none (upd_same (H := H3) (a := d) (o := .frz o (.dK (cntK rs)))) hD2
  have gD : H3 D2 = none := by
    rw [upd_ne nD.symm] at hD2
    exact hD2
  refine lc_it walk_keys (fun j G => (∀ b o', H3 b = some o' → b ≠ d → G b = some o') ∧ G d = some (.frz o (.dK (cntK rs))) ∧ G D2 = some (.lst [])) ⟨fun b o' e hb => same_upd hD2 _ _ (by rw [upd_ne hb]; exact e), by rw [upd_ne nD]; exact upd_same, upd_same⟩ (fun j G _ hP => hP.2.1) (fun j x G G2 hj hP hy => ?_) (fun G hP => ?_)
  · obtain ⟨rfl, k, v, hkv, rfl⟩ := hy
    obtain ⟨g1, g2, g3⟩ := hP
    obtain ⟨n, hn, rfl⟩ := key_at kR hkv
    have mn := List.mem_of_getElem? hn
    obtain ⟨n0, n1, _⟩ := (keysN_mem sSR.1).mp mn
    have hI4 : IntD G2 D ks t := by
      obtain ⟨kvp, p1, p2⟩ := hI3
      exact ⟨kvp, g1 _ _ p1 nDd, p2⟩
    obtain ⟨o3, dg, eo⟩ := got (r := n) hI4
    obtain ⟨kvp, p1, p2, p3, p4, p5⟩ := id hI4
    refine ⟨rfl, _, rfl, _, rfl, d, .int (cnt rs n), rfl, .inl ⟨cntK rs, Sum.inl n, .inr ⟨o, g2⟩, rfl, (cntK_val mn).symm⟩, _, rfl, D, rfl, .inl ⟨_, .inl p1⟩, _, rfl, o3, dg, ?_⟩
    rw [eo, ht3 n n0]
    exact ⟨rfl, false, congrArg V.bl (by simp), iteF ⟨g1, g2, g3⟩⟩
  · obtain ⟨g1, g2, g3⟩ := hP
    refine ⟨g2, Nat.zero_le _, fun e he => ?_⟩
    have smq : Same H3 (upd G d (.dK (cntK rs))) := fun b o' e => by
      by_cases hb : b = d
      · rw [hb, upd_same]
        rw [hb, hd3] at e
        exact e
      · rw [upd_ne hb]
        exact g1 _ _ e hb
    have g3' : (upd G d (.dK (cntK rs))) D2 = some (.lst []) := by
      rw [upd_ne nD.symm]
      exact g3
    have se := same_upd (o := .lst []) he
    refine ⟨.list [], .list [], .lst (SqL.of (se _ _ g3')) .nil, .lst (SqL.of upd_same) .nil, rfl, rfl, ?_⟩
    exact q _ (((s1.trans s3).trans smq).trans se)
end
end TC
/-! sorted of a set that holds one empty tuple alone -/
namespace TCX
open PySem PySem.Spec PyProof.Rows L2 PySem.W
section
variable {prog : Program} {w : World} {A : Around} {s : Shared}
theorem sorts_nil {v : Value} {as : List Addr} (e : Reads s.heap v (.tuple []) as) (hu : A.units + 8 < cLine) : SortsAt prog w A s (dataKind s.heap [.tuple []]) [v] := by
  have al : AllAlike [PyData.tuple []] := fun d hd d' hd' => by
    cases List.mem_singleton.mp hd
    cases List.mem_singleton.mp hd'
    rfl
  refine ⟨fun u hu => ?_, tuples' true, ?_, fun h2 => absurd h2 (by show ¬ 2 ≤ 1; decide)⟩
  · cases List.mem_singleton.mp hu
    exact ⟨_, dataKind_some al (List.mem_singleton.mpr rfl) e⟩
  · intro E x y a b Q ha hb hq
    obtain ⟨d, as, hd, ra, rfl⟩ := dataKind_inv ha
    obtain ⟨d', as', hd', rb, rfl⟩ := dataKind_inv hb
    cases List.mem_singleton.mp hd
    cases List.mem_singleton.mp hd'
    have hq' : Q (dataLt (.tuple []) (.tuple [])) s := hq
    rw [dataLt_tuple] at hq'
    cases ra with
    | @tuple l o xs n _ _ h1 h2 h3 h4 =>
      cases rb with
      | @tuple l' o' xs' n' _ _ k1 k2 k3 k4 =>
        have n1 : xs.size = ([] : List PyData).length := by simpa using SeqAt.ReadsAll.length _ _ _ h4
        have n2 : xs'.size = ([] : List PyData).length := by simpa using SeqAt.ReadsAll.length _ _ _ k4
        refine kat_lt h1 h3 k1 k3 (katLex_alike [] [] 0 _ _ _ _ h4 k4 rfl (by simp [PyData.depthAll]; omega) (fun hb _ x r t ex => by cases ex) (by rw [n1, n2]) hq')
end
theorem sorted_setE {P : Program} {w : World} {A : Around} {s : Shared} {E : Value → Shared → Prop} {a p0 : Addr} {es : Array (Int × Value)} {ep : Nat} {t : SetTable} {Q : Value → Shared → Prop} (R : SetTR P w s.heap a [(p0, [])] es ep t) (hh : A.handled = none) (hu : A.units + 16 < cLine)
    (hQ : ∀ s' p (out : Array Value) (c : Nat), (∀ b o, s.heap.get? b = some o → s'.heap.get? b = some o) → s'.gens = s.gens → s'.os = s.os → s.heap.objs.size ≤ p →
      s'.heap.get? p = some (seqObj "list" out c) → out.toList = [Value.ref p0] → Q (.ref p) s') :
    wpAny (model P w) A (call (.builtin "sorted") [.ref a]) Q E s := by
  obtain ⟨o, ho, hex, hd⟩ := R.ob
  have hsz := R.size
  refine Calls.call_function_entry kind_sorted plain_sorted entry_sorted (args_sorted1 _) ?_
  unfold Builtin.«sorted»
  refine wpAny_bind (m := checkCount "sorted" 1 1 _) (wpAny_pure ?_)
  refine wpAny_bind (collect_set (A := A.in1) hh ⟨o, ho, hex.1, hd⟩ R.fits (by have z : ([(p0, [])] : List (Addr × List Int)).length = 1 := rfl; rw [z] at hsz; unfold scanBound; omega) R.tab.ris R.led fun s1 vs k1 hz g1 o1 pm => ?_)
  have hes : es.toList.map (·.2) = [Value.ref p0] := by
    rw [R.rows]
    rfl
  rw [hes] at pm
  have ev : vs = [Value.ref p0] := List.perm_singleton.mp pm
  subst ev
  refine wpAny_bind (wpAny_newList ?_ (by show 1 ≤ sizeLine; decide))
  have hoL : (s1.heap.push (seqObj "list" ([Value.ref p0] : List Value).toArray 0)).get? s1.heap.objs.size = some (seqObj "list" ([Value.ref p0] : List Value).toArray 0) := Heap.get?_push_size _ rfl
  obtain ⟨ob, items, n, q1, q2, q3, q4⟩ := R.tup (p0, []) (List.mem_singleton.mpr rfl)
  have q5 : items.toList = [] := by
    cases q : items.toList with
    | nil => rfl
    | cons x xs =>
      rw [q] at q4
      cases q4
  have rd : Reads (sortingHeap (s1.heap.push (seqObj "list" ([Value.ref p0] : List Value).toArray 0)) s1.heap.objs.size [Value.ref p0]) (.ref p0) (.tuple []) [] := by
    refine .tuple (o := ob) (vs := items) (n := n) ?_ q2 q3 (by rw [q5]; exact .nil)
    have k := k1 _ _ q1
    exact sortingHeap_old (Nat.ne_of_lt (Heap.lt_size k)) (Heap.get?_push_of_some _ k)
  refine wpAny_bind (wpAny_holding (wpAny_call_entry slot_list_sort ⟨_, hoL, rfl⟩ entry_list_sort ?_ (args_list_sort _)))
  refine list_sort_vals hoL (sorts_nil (s := { s1 with heap := sortingHeap (s1.heap.push (seqObj "list" ([Value.ref p0] : List Value).toArray 0)) s1.heap.objs.size [Value.ref p0] }) rd ?_) (by show 1 ≤ sizeLine; decide) ⟨_, rfl, ?_⟩
  · show A.units + 2 + 8 < cLine
    omega
  have e1 : sortVals (dataKind (sortingHeap (s1.heap.push (seqObj "list" ([Value.ref p0] : List Value).toArray 0)) s1.heap.objs.size [Value.ref p0]) [.tuple []]) false [Value.ref p0] [Value.ref p0] = [Value.ref p0] := by
    unfold sortVals
    show (List.mergeSort [(Value.ref p0, Value.ref p0)] _).map Prod.snd = _
    rw [List.mergeSort_singleton]
    rfl
  obtain ⟨c, hc⟩ := sortedHeap_at (vs := [Value.ref p0]) (out := (sortVals (dataKind (sortingHeap (s1.heap.push (seqObj "list" ([Value.ref p0] : List Value).toArray 0)) s1.heap.objs.size [Value.ref p0]) [.tuple []]) false [Value.ref p0] [Value.ref p0]).toArray) hoL
  refine wpAny_pure ⟨_, rfl, hQ _ s1.heap.objs.size _ c (fun b u e => ?_) g1 o1 hz hc e1⟩
  have q := k1 b u e
  have hlt := Heap.lt_size q
  rw [sortedHeap_old (Nat.ne_of_lt hlt) (by rw [size_push']; exact Nat.lt_succ_of_lt hlt)]
  exact Heap.get?_push_of_some _ q
section
variable {X : Cx}
/-- sorted(set), the set of one empty tuple -/
def rSortedE (P : Program) (w : World) : List V → Hp → VK → Prop := fun vs H Q => ∃ (a p0 : Addr) (L : List (Addr × List Int)), vs = [V.ref a] ∧ H a = some (SetTO P w a L) ∧ L ≠ [] ∧ (∀ q ∈ L, q = (p0, [])) ∧ H p0 = some (.tup []) ∧
  ∀ p, H p = none → Q (.ref p) (upd H p (.lst [V.ref p0]))
theorem cr_sortedE (hc : X.calm = true) (hu : X.A.units + 64 < cLine) : CallR X (.builtin "sorted") (rSortedE X.prog X.w) := by
  intro pins s σ H vs us Q I r h
  obtain ⟨a, p0, L, rfl, ha, nL, hL, hk, q⟩ := h
  have R0 : SetT0 X.prog X.w s.heap a L := (I.hok a _ ha).1
  obtain ⟨_, _, _, _, _, _, nd, _⟩ := R0.ex
  have eL : L = [(p0, [])] := by
    match L, nL, hL, nd with
    | [], h, _, _ => exact absurd rfl h
    | [x], _, h, _ => rw [h x (List.mem_singleton.mpr rfl)]
    | x :: y :: l, _, h, nd =>
      have e1 := h x (by simp)
      have e2 := h y (by simp)
      rw [e1, e2] at nd
      exact absurd nd (by simp)
  subst eL
  obtain ⟨es, ep, t, R⟩ := R0.full fun p hp => by
    cases List.mem_singleton.mp hp
    exact I.isT (k := []) (SqT.of hk)
  rw [Vals.ref1 r]
  refine sorted_setE R (I.ok.hd hc) (by omega) fun s' p out c k g o hp hg hout => ?_
  have hn : H p = none := I.hok.fresh hp
  have hv : Vals [V.ref p0] out.toList := by rw [hout]; exact .cons rfl .nil
  have J : Inv X pins σ (upd H p (.lst [V.ref p0])) { s with heap := s'.heap, gens := s'.gens, drawn := s'.drawn, toks := s'.toks } :=
    I.call (ch := []) (Un.laid k hp hn) (I.hok.laid k hp ⟨(by show 1 ≤ sizeLine; decide), out.toList, c, hv, hg⟩) (by rw [g]; exact I.bare) (fun _ z => nomatch z)
  have e : s' = { s with heap := s'.heap, gens := s'.gens, drawn := s'.drawn, toks := s'.toks } := by
    cases s'
    cases s
    cases o
    rfl
  rw [e]
  exact ⟨.ref p, _, J, rfl, q p hn⟩
end
end TCX
namespace TC
open PySem PySem.Spec PyProof.Rows L2 TCA TCX
/-! ### K40Z: labels stand in order; _law_listed -/
def ltL : List Int → List Int → Prop
  | a :: l, b :: m => a < b ∨ (a = b ∧ ltL l m)
  | _, _ => False
theorem upI_rise : ∀ (m : Nat) (a : Int), (upI a m).Pairwise (· < ·)
  | 0, _ => List.Pairwise.nil
  | m + 1, a => by
    show (a :: upI (a + 2) m).Pairwise (· < ·)
    refine List.pairwise_cons.mpr ⟨fun y hy => ?_, upI_rise m (a + 2)⟩
    obtain ⟨i, _, rfl⟩ := upI_mem.mp hy
    omega
theorem labs_rise : ∀ (r : List Int) (x n : Int), (labs r x n).Pairwise ltL
  | [], x, n => by
    unfold labs
    split
    · exact List.pairwise_singleton _ _
    · exact List.Pairwise.nil
  | s :: r, x, n => by
    show ((upI (loJ x s) (manyE x s)).flatMap fun c => (labs r c n).map (c :: ·)).Pairwise ltL
    refine List.pairwise_flatMap.mpr ⟨fun c _ => List.pairwise_map.mpr ((labs_rise r c n).imp fun h => .inr ⟨rfl, h⟩), (upI_rise _ _).imp fun {c e} h y hy z hz => ?_⟩
    obtain ⟨y', _, rfl⟩ := List.mem_map.mp hy
    obtain ⟨z', _, rfl⟩ := List.mem_map.mp hz
    exact .inl h
theorem lab_bd : ∀ {r : List Int} {x n : Int} {l : List Int}, labB r x l n → 0 ≤ x → (∀ s ∈ r, 0 ≤ s ∧ s ≤ 12) → l.length = r.length ∧ ∀ c ∈ l, 0 ≤ c ∧ c ≤ x + 12 * (r.length : Int)
  | [], x, n, [], _, _, _ => ⟨rfl, fun c h => by cases h⟩
  | s :: r, x, n, c :: l, h, x0, hs => by
    obtain ⟨h1, h2⟩ := h
    have c0 := inJ_nn h1
    have s1 := hs s (by simp)
    have c1 := inJ_le x0 s1.1 h1
    obtain ⟨l1, l2⟩ := lab_bd h2 c0 fun s m => hs s (List.mem_cons_of_mem _ m)
    refine ⟨by rw [List.length_cons, List.length_cons, l1], fun e he => ?_⟩
    rw [List.length_cons]
    rcases List.mem_cons.mp he with rfl | m
    · omega
    · have := l2 e m
      omega
  | [], _, _, _ :: _, h, _, _ => absurd h id
  | _ :: _, _, _, [], h, _, _ => absurd h id
theorem code_lt {l m : List Int} (e : l.length = m.length) (h2 : l.length ≤ 2) (bl : TS.Bd 64 l) (bm : TS.Bd 64 m) (h : ltL l m) : TS.code 64 l < TS.code 64 m := by
  match l, m, e, h2, bl, bm, h with
  | [], [], _, _, _, _, h => exact absurd h id
  | [a], [b], _, _, _, _, h =>
    have h : a < b := by
      rcases h with h | ⟨_, h⟩
      · exact h
      · exact absurd h id
    have e0 : (64 : Int) ^ 0 = 1 := by decide
    show a * 64 ^ 0 + 0 < b * 64 ^ 0 + 0
    rw [e0]
    omega
  | [a, a'], [b, b'], _, _, bl, bm, h =>
    rw [L2.code_pair, L2.code_pair]
    have x1 := bl a' (by simp)
    have x2 := bm b' (by simp)
    rcases h with h | ⟨h0, h⟩
    · omega
    · rcases h with h | ⟨_, h⟩
      · omega
      · exact absurd h id
  | [], _ :: _, e, _, _, _, _ => cases e
  | _ :: _, [], e, _, _, _, _ => cases e
  | [_], _ :: _ :: _, e, _, _, _, _ => cases e
  | _ :: _ :: _, [_], e, _, _, _, _ => cases e
  | _ :: _ :: _ :: _, _, _, h2, _, _, _ => exact absurd h2 (by simp)
  | [_, _], _ :: _ :: _ :: _, e, _, _, _, _ => cases e
theorem labs_uniq {A B : List (List Int)} (h1 : A.Pairwise fun l m => TS.code 64 l < TS.code 64 m) (n2 : B.Nodup) (h2 : B.Pairwise fun l m => TS.code 64 l ≤ TS.code 64 m) (mem : ∀ x, x ∈ B ↔ x ∈ A) : B = A := by
  have inj : ∀ l : List (List Int), (l.Pairwise fun l m => TS.code 64 l < TS.code 64 m) → ∀ x ∈ l, ∀ y ∈ l, TS.code 64 x = TS.code 64 y → x = y := fun l => by
    induction l with
    | nil =>
      intro _ x hx
      cases hx
    | cons a l ih =>
      intro h x hx y hy e
      obtain ⟨p1, p2⟩ := List.pairwise_cons.mp h
      rcases List.mem_cons.mp hx with rfl | mx <;> rcases List.mem_cons.mp hy with rfl | my
      · rfl
      · have := p1 y my
        omega
      · have := p1 x mx
        omega
      · exact ih p2 x mx y my e
  have n1 : A.Nodup := h1.imp fun {x y} h e => by rw [e] at h; omega
  refine List.Perm.eq_of_pairwise (le := fun l m => TS.code 64 l ≤ TS.code 64 m) (fun a b ha hb e1 e2 => ?_) h2 (h1.imp fun h => by omega) ((List.perm_ext_iff_of_nodup n2 n1).mpr mem)
  exact inj A h1 a ((mem a).mp ha) b hb (by omega)
def dTups (L : List (List Int)) : List PyData := L.map fun l => .tuple (dInts l)
theorem dp_tupI {K : PySem.W.Frag} {H : Hp} {p : Addr} {l : List Int} (h : H p = some (.tup (l.map V.int))) : Dp K H (.ref p) (.tuple (dInts l)) := .tup (SqT.of h) (dpAll_ints l)
theorem dp_tups {K : PySem.W.Frag} {H : Hp} : ∀ {qs : List (Addr × List Int)}, (∀ q ∈ qs, H q.1 = some (.tup (q.2.map V.int))) → DpAll K H (qs.map fun q => V.ref q.1) (dTups (qs.map (·.2)))
  | [], _ => .nil
  | q :: qs, h => .cons (dp_tupI (h q (by simp))) (dp_tups fun r hr => h r (List.mem_cons_of_mem _ hr))
theorem eqv_ints : ∀ l : List Int, PyData.eqvAll (dInts l) (dInts l) = true
  | [] => rfl
  | a :: l => by
    show (PyData.eqv (.int a) (.int a) && PyData.eqvAll (dInts l) (dInts l)) = true
    rw [eqv_ints l]
    show ((decide (a = a)) && true) = true
    simp
theorem eqv_tups : ∀ L : List (List Int), PyData.eqvAll (dTups L) (dTups L) = true
  | [] => rfl
  | a :: l => by
    show (PyData.eqv (.tuple (dInts a)) (.tuple (dInts a)) && PyData.eqvAll (dTups l) (dTups l)) = true
    rw [eqv_tups l]
    show (PyData.eqvAll (dInts a) (dInts a) && true) = true
    rw [eqv_ints]
    rfl
theorem lay_ints : ∀ l : List Int, PyData.canLayAll0 (dInts l) = true
  | [] => rfl
  | _ :: l => lay_ints l
theorem deep_ints : ∀ l : List Int, PyData.depthAll (dInts l) ≤ 0
  | [] => Nat.zero_le _
  | x :: l => by
    show max (PyData.depth (.int x)) (PyData.depthAll (dInts l)) ≤ 0
    exact Nat.max_le.mpr ⟨Nat.le_refl _, deep_ints l⟩
theorem shaped_tupI (l : List Int) : SeqAt.shaped (.tuple (dInts l)) = true := by
  unfold SeqAt.shaped
  rw [Bool.and_eq_true_iff]
  refine ⟨lay_ints l, decide_eq_true ?_⟩
  show PyData.depthAll (dInts l) + 1 ≤ 64
  have := deep_ints l
  omega
theorem shaped_tups (L : List (List Int)) : SeqAt.shaped (.list (dTups L)) = true := by
  have h1 : ∀ L : List (List Int), PyData.canLayAll0 (dTups L) = true := fun L => by
    induction L with
    | nil => rfl
    | cons x L ih =>
      show (PyData.canLayAll0 (dInts x) && PyData.canLayAll0 (dTups L)) = true
      rw [lay_ints x, ih]
      rfl
  have h2 : ∀ L : List (List Int), PyData.depthAll (dTups L) ≤ 1 := fun L => by
    induction L with
    | nil => exact Nat.zero_le _
    | cons x L ih =>
      show max (PyData.depthAll (dInts x) + 1) (PyData.depthAll (dTups L)) ≤ 1
      have := deep_ints x
      omega
  unfold SeqAt.shaped
  rw [Bool.and_eq_true_iff]
  refine ⟨h1 L, decide_eq_true ?_⟩
  show PyData.depthAll (dTups L) + 1 ≤ 64
  have := h2 L
  omega
/-- addresses with their labels -/
theorem TupsAt.zip {H : Hp} {F : Addr} {ps : List Addr} {L : List (List Int)} (h : TupsAt H F ps L) : (ps.zip L).map (fun q => V.ref q.1) = ps.map V.ref ∧ (ps.zip L).map (·.2) = L ∧ ∀ q ∈ ps.zip L, H q.1 = some (.tup (q.2.map V.int)) := by
  refine ⟨?_, List.map_snd_zip (Nat.le_of_eq h.len.symm), fun q hq => ?_⟩
  · have e := List.map_fst_zip (l₁ := ps) (l₂ := L) (Nat.le_of_eq h.len)
    have z := congrArg (List.map V.ref) e
    rw [List.map_map] at z
    exact z
  · obtain ⟨i, hi⟩ := List.getElem?_of_mem hq
    obtain ⟨h1, h2⟩ := List.getElem?_zip_eq_some.mp hi
    exact h.row i _ _ h1 h2
section
variable {P : Program} {w : World} {K : PySem.W.Frag} {mg : Str → Option Value} {base : Heap} {f : Addr} {fd : FuncData}
def spListed : Sp := fun vs H Q _ => ∃ (a : Addr) (r0 : Int) (rest : List Int) (n : Int), vs = [.ref a, .int n] ∧ Row H a (r0 :: rest) ∧ rest.length ≤ 2 ∧ 0 ≤ n ∧ n ≤ 120 ∧ ∀ H', Same H H' → Q (.bl true) H'
abbrev nListed : List Str := ["_law_row_here", "_law_size", "_law_some", "_law_k"]
theorem scListed : FnScope nListed ["_law_row_here", "_law_size"] (defScope sListed) := ⟨rfl, rfl, rfl, by decide +kernel, rfl, by decide +kernel, by decide +kernel⟩
set_option maxHeartbeats 0 in
theorem ok_listed {fLb fLa fPo fBo : Addr} {fdLb fdLa fdPo fdBo : FuncData} (F : FnP K "_law_listed" sListed f fd)
    (FLb : FnP K "labels" sLabels fLb fdLb) (GLb : FnOk P w K mg base CX0 3 fLb fdLb ["row", "to"] spLabels) (gLb : mg "labels" = some (.ref fLb))
    (FLa : FnP K "label_at" sLabelAt fLa fdLa) (GLa : FnOk P w K mg base CX0 3 fLa fdLa ["row", "place", "to"] spLa) (gLa : mg "label_at" = some (.ref fLa))
    (FPo : FnP K "place_of" sPlaceOf fPo fdPo) (GPo : FnOk P w K mg base CX0 3 fPo fdPo ["row", "label", "to"] spPo) (gPo : mg "place_of" = some (.ref fPo))
    (FBo : FnP K "counted_by_offsets" sByOff fBo fdBo) (GBo : FnOk P w K mg base CX0 3 fBo fdBo ["row", "to"] spCt) (gBo : mg "counted_by_offsets" = some (.ref fBo))
    (grange : mg "range" = none) (glen : mg "len" = none) (gsorted : mg "sorted" = none) (gset : mg "set" = none) :
    FnOk P w K mg base CX0 4 f fd ["_law_row_here", "_law_size"] spListed := by
  have kLb : KBn K fdLb ["row", "to"] 1 ["to"] (fun us ws => us ++ ws) (fun vs zs => vs ++ zs) := kbindsN FLb 1 ["to"] (fun _ _ _ _ _ _ us ws h1 h2 => match us, ws, h1, h2 with
    | [_], [_], _, _ => rfl)
  have kLa : KBn K fdLa ["row", "place", "to"] 2 ["to"] (fun us ws => us ++ ws) (fun vs zs => vs ++ zs) := kbindsN FLa 2 ["to"] (fun _ _ _ _ _ _ us ws h1 h2 => match us, ws, h1, h2 with
    | [_, _], [_], _, _ => rfl)
  have kPo : KBn K fdPo ["row", "label", "to"] 2 ["to"] (fun us ws => us ++ ws) (fun vs zs => vs ++ zs) := kbindsN FPo 2 ["to"] (fun _ _ _ _ _ _ us ws h1 h2 => match us, ws, h1, h2 with
    | [_, _], [_], _, _ => rfl)
  have kBo : KBn K fdBo ["row", "to"] 1 ["to"] (fun us ws => us ++ ws) (fun vs zs => vs ++ zs) := kbindsN FBo 1 ["to"] (fun _ _ _ _ _ _ us ws h1 h2 => match us, ws, h1, h2 with
    | [_], [_], _, _ => rfl)
  refine F.ok scListed (fun vs H Q E h => ?_) (fun cdv A0 outer s H vs Q E hr h => ?_)
  · obtain ⟨_, _, _, _, rfl, _⟩ := h
    rfl
  obtain ⟨a, r0, rest, n, rfl, hR, l2, n0, n1, q⟩ := h
  have hu := hu_of hr
  have hr3 := hr
  refine ⟨_, PSs.nox (C8.pss_cut (ps_set (i := 2) scListed.nd rfl (.inl rfl) (pe_callN GLb hr3 (by rfl) gLb FLb.kp kLb (E := E0) pass0 (pa_cons (pv 0) pa_nil) (pk_cons (pv 1) pk_nil)))
      (C8.pss_cut (ps_for PassesOwn.never rfl (pi_range1 (by rfl) grange (pa_cons (pe_callB call_len_seq (by rfl) glen PySem.boot_len (pa_cons (pv 2) pa_nil)) pa_nil)) (pg_name (i := 3) scListed.nd rfl (.inl rfl))
        (pss_one (ps_if (PW.pt (pw_or (pt_cmpR (op_neD hr.units) (pe_callN GLa hr3 (by rfl) gLa FLa.kp kLa (E := E0) pass0 (pa_cons (pv 0) (pa_cons (pv 3) pa_nil)) (pk_cons (pv 1) pk_nil)) (pe_ix ix_list (pv 2) (pv 3) (fun _ _ => rfl)) (nomark _)) (pw_or1 (pt_cmpR op_ne (pe_callN GPo hr3 (by rfl) gPo FPo.kp kPo (E := E0) pass0 (pa_cons (pv 0) (pa_cons (pe_ix ix_list (pv 2) (pv 3) (fun _ _ => rfl)) pa_nil)) (pk_cons (pv 1) pk_nil)) (pv 3) (nomark _))))) (pss_one (ps_ret pe_bl)) pss_nil)))
      (pss_one (ps_ret (pe_and (pe_cmpR (op_eqD hr.units) (pv 2) (pe_callB (L2.CallR.or (cr_sortedE rfl hr.units) (cr_sortedT rfl)) (by rfl) gsorted (by decide +kernel) (pa_cons (pe_callTy (cr_setOfT rfl hr.units) (by rfl) gset (by decide +kernel) (pa_cons (pv 2) pa_nil)) pa_nil)) (nomark _)) (pe_one (pe_cmpR op_eq (pe_callB call_len_seq (by rfl) glen PySem.boot_len (pa_cons (pv 2) pa_nil)) (pe_callN GBo hr3 (by rfl) gBo FBo.kp kBo (E := E0) pass0 (pa_cons (pv 0) pa_nil) (pk_cons (pv 1) pk_nil)) (nomark _)))))))), ?_⟩
  have hs : ∀ s ∈ rest, 0 ≤ s ∧ s ≤ 12 := fun s hs => hR.sz s (List.mem_cons_of_mem _ hs)
  have x0 := hR.sz r0 (by simp)
  have few := few_labs (n := n) l2 hs x0 n0
  have ln := labs_len rest r0 n
  refine ⟨fun σ H1 => ∃ (l : Addr) (ps : List Addr), σ = [some (.ref a), some (.int n), some (.ref l), none] ∧ Same H H1 ∧ TupsAt H1 l ps (labs rest r0 n), ?_, fun σ H1 hh => ?_⟩
  · exact ⟨_, rfl, _, rfl, rfl, rfl, a, r0, rest, n, rfl, hR, n0, n1, by omega, fun l ps H1 s1 _ hT => ⟨l, ps, rfl, s1, hT⟩⟩
  obtain ⟨l, ps, rfl, s1, hT⟩ := hh
  refine ⟨fun σ H2 => ∃ v3 : Option V, σ = [some (.ref a), some (.int n), some (.ref l), v3] ∧ Same H1 H2, ?_, fun σ H2 hh => ?_⟩
  · have lm : (ps.map V.ref).length = (labs rest r0 n).length := by rw [List.length_map, hT.len]
    refine ⟨_, rfl, l, _, rfl, .inl (SqL.of hT.at_), ((ps.map V.ref).length : Int), rfl, by omega, by omega, ?_⟩
    refine for_range (n := (((ps.map V.ref).length : Nat) : Int).toNat) (fun i σ G => ∃ v3 : Option V, σ = [some (.ref a), some (.int n), some (.ref l), v3] ∧ Same H1 G)
      ⟨none, rfl, fun _ _ e => e⟩ (fun i σ G hi hP => ?_) (fun σ G hP => hP)
    obtain ⟨v3, rfl, sG⟩ := hP
    have il : i < (labs rest r0 n).length := by omega
    obtain ⟨lb, hlb⟩ : ∃ lb, (labs rest r0 n)[i]? = some lb := ⟨_, List.getElem?_eq_getElem il⟩
    obtain ⟨p, hp⟩ : ∃ p, ps[i]? = some p := ⟨_, List.getElem?_eq_getElem (by rw [hT.len]; exact il)⟩
    have ei : (0 : Int) + (i : Nat) = ((i : Nat) : Int) := by omega
    have hlab := labs_lab (List.mem_of_getElem? hlb)
    have hrk := labs_rank hlb
    have hRG := hR.same (s1.trans sG)
    rw [ei]
    refine ⟨_, rfl, _, rfl, _, rfl, rfl, rfl, a, r0, rest, (i : Int), n, rfl, hRG, n0, n1, by omega, by omega, fun T lb' G2 s2 hT2 hlb' => ?_⟩
    have elb : lb' = lb := by
      rw [Int.toNat_natCast] at hlb'
      exact Option.some.inj (hlb'.symm.trans hlb)
    subst elb
    have hT3 := hT.same (sG.trans s2)
    refine ⟨_, rfl, _, rfl, l, _, (i : Int), .ref p, rfl, rfl, SqL.of hT3.at_, atI_nat (j := i) (by rw [List.getElem?_map, hp]; rfl), ?_⟩
    refine ⟨.tuple (dInts lb'), .tuple (dInts lb'), dp_tupI hT2, dp_tupI (hT3.row i p lb' hp hlb), shaped_tupI _, shaped_tupI _, _, rfl, ?_⟩
    rw [show PyData.eqv (.tuple (dInts lb')) (.tuple (dInts lb')) = true from eqv_ints lb']
    refine iteF ?_
    refine ⟨_, rfl, _, rfl, _, rfl, l, _, (i : Int), .ref p, rfl, rfl, SqL.of hT3.at_, atI_nat (j := i) (by rw [List.getElem?_map, hp]; rfl), _, rfl, rfl, rfl, a, p, r0, rest, lb', n, rfl, hRG.same s2, n0, n1, hT3.row i p lb' hp hlb, hlab, fun G3 s3 => ?_⟩
    rw [hrk]
    refine ⟨_, rfl, rfl, false, congrArg V.bl (by simp), iteF ⟨_, rfl, (sG.trans s2).trans s3⟩⟩
  obtain ⟨v3, rfl, s2⟩ := hh
  have hT2 := hT.same s2
  obtain ⟨z1, z2, z3⟩ := hT2.zip
  obtain ⟨ks, eks⟩ : ∃ ks, ps.zip (labs rest r0 n) = ks := ⟨_, rfl⟩
  rw [eks] at z1 z2 z3
  have lk : ks.length ≤ 13 := by
    have := congrArg List.length z2
    rw [List.length_map] at this
    omega
  refine ⟨_, rfl, _, rfl, l, ks, rfl, by rw [z1]; exact SqL.of hT2.at_, fun p hp => SqT.of (z3 p hp), by omega, fun S L hS hL1 hL2 => ?_⟩
  have sS := same_upd (o := SetTO P w S L) hS
  have at3 : ∀ q ∈ ks, (upd H2 S (SetTO P w S L)) q.1 = some (.tup (q.2.map V.int)) := fun q hq => sS _ _ (z3 q hq)
  -- what holds of the sorted list
  have fin : ∀ (qs : List (Addr × List Int)) (p : Addr), (∀ q ∈ qs, q ∈ ks) → qs.map (·.2) = labs rest r0 n → (upd H2 S (SetTO P w S L)) p = none →
      ∃ d e, Dp K (upd (upd H2 S (SetTO P w S L)) p (.lst (qs.map fun q => V.ref q.1))) (.ref l) d ∧ Dp K (upd (upd H2 S (SetTO P w S L)) p (.lst (qs.map fun q => V.ref q.1))) (.ref p) e ∧ SeqAt.shaped d = true ∧ SeqAt.shaped e = true ∧ PyData.eqv d e = true := fun qs p h1 h2 hp => by
    have sp := same_upd (o := .lst (qs.map fun q => V.ref q.1)) hp
    refine ⟨.list (dTups (labs rest r0 n)), .list (dTups (labs rest r0 n)), .lst (SqL.of (sp _ _ (sS _ _ hT2.at_))) ?_, .lst (SqL.of upd_same) ?_, shaped_tups _, shaped_tups _, eqv_tups _⟩
    · rw [← z1, ← z2]
      exact dp_tups fun q hq => sp _ _ (at3 q hq)
    · rw [← h2]
      exact dp_tups fun q hq => sp _ _ (at3 q (h1 q hq))
  have key : ∀ Qk : VK, (∀ (qs : List (Addr × List Int)) (p : Addr), (∀ q ∈ qs, q ∈ ks) → qs.map (·.2) = labs rest r0 n → (upd H2 S (SetTO P w S L)) p = none → Qk (.ref p) (upd (upd H2 S (SetTO P w S L)) p (.lst (qs.map fun q => V.ref q.1)))) →
      (rSortedE P w [.ref S] (upd H2 S (SetTO P w S L)) Qk ∨ L2.rSortedT K P w [.ref S] (upd H2 S (SetTO P w S L)) Qk) := fun Qk hq => by
    by_cases one : rest = [] ∧ labs rest r0 n ≠ []
    · obtain ⟨er, ne⟩ := one
      have el : labs rest r0 n = [[]] := by
        rw [er] at ne ⊢
        unfold labs at ne ⊢
        split
        · rfl
        · rename_i h
          rw [if_neg h] at ne
          exact absurd rfl ne
      have z4 := z2
      rw [el] at z4
      obtain ⟨p0, ek⟩ : ∃ p0, ks = [(p0, [])] := by
        match ks, z4 with
        | [(p0, l0)], z => 
          have : l0 = [] := by
            injection z
          exact ⟨p0, by rw [this]⟩
      refine .inl ⟨S, p0, L, rfl, upd_same, fun z => ?_, fun q hq => ?_, ?_, fun p hp => ?_⟩
      · have := hL2 (p0, []) (by rw [ek]; exact List.mem_singleton.mpr rfl)
        rw [z] at this
        cases this
      · have := hL1 q hq
        rw [ek] at this
        exact List.mem_singleton.mp this
      · exact at3 (p0, []) (by rw [ek]; exact List.mem_singleton.mpr rfl)
      · have := hq ks p (fun q h => h) z2 hp
        rw [ek] at this
        exact this
    · have mem : ∀ x, x ∈ L.map (·.2) ↔ x ∈ labs rest r0 n := fun x => by
        rw [← z2]
        constructor
        · intro h
          obtain ⟨q, hq, rfl⟩ := List.mem_map.mp h
          exact List.mem_map.mpr ⟨q, hL1 q hq, rfl⟩
        · intro h
          obtain ⟨q, hq, rfl⟩ := List.mem_map.mp h
          exact hL2 q hq
      have bd : ∀ x ∈ labs rest r0 n, x.length = rest.length ∧ TS.Bd 64 x := fun x hx => by
        obtain ⟨b1, b2⟩ := lab_bd (labs_lab hx) x0.1 hs
        exact ⟨b1, fun m hm => by have := b2 m hm; omega⟩
      have rise : (labs rest r0 n).Pairwise fun l m => TS.code 64 l < TS.code 64 m := List.Pairwise.imp_of_mem (fun {x y} hx hy h => by
        obtain ⟨a1, a2⟩ := bd x hx
        obtain ⟨b1, b2⟩ := bd y hy
        exact code_lt (a1.trans b1.symm) (by omega) a2 b2 h) (labs_rise rest r0 n)
      refine .inr ⟨S, L, if rest = [] then 1 else rest.length, 64, rfl, upd_same, fun q hq => SqT.of (at3 q (hL1 q hq)), ?_, fun q hq => ?_, fun L' p pm nd _ pw hp => ?_⟩
      · split
        · exact Nat.le_refl _
        · rename_i h
          exact List.length_pos_iff.mpr h
      · have m := (mem q.2).mp (List.mem_map.mpr ⟨q, hq, rfl⟩)
        obtain ⟨b1, b2⟩ := bd _ m
        refine ⟨?_, b2⟩
        split
        · rename_i h
          exact absurd ⟨h, fun z => by rw [z] at m; cases m⟩ one
        · exact b1
      · refine hq L' p (fun q h => hL1 q (pm.mem_iff.mp h)) ?_ hp
        refine labs_uniq rise nd (List.pairwise_map.mpr pw) fun x => ?_
        rw [← mem x]
        exact (pm.map (·.2)).mem_iff
  refine key _ fun qs p h1 h2 hp => ?_
  obtain ⟨d, e, c1, c2, c3, c4, c5⟩ := fin qs p h1 h2 hp
  have sp := same_upd (o := .lst (qs.map fun q => V.ref q.1)) hp
  refine ⟨d, e, c1, c2, c3, c4, ?_⟩
  rw [c5]
  have s5 := ((s1.trans s2).trans sS).trans sp
  refine ⟨true, rfl, iteT ⟨_, rfl, l, _, rfl, .inl (SqL.of (sp _ _ (sS _ _ hT2.at_))), _, rfl, _, rfl, rfl, rfl, a, r0 :: rest, n, rfl, hR.same s5, n0, n1, fun H6 s6 => ?_⟩⟩
  have e6 : (((ps.map V.ref).length : Nat) : Int) = cnt (r0 :: rest) n := by
    rw [List.length_map, hT.len]
    exact ln
  rw [e6]
  refine ⟨rfl, ?_⟩
  have eb : decide (V.int (cnt (r0 :: rest) n) = V.int (cnt (r0 :: rest) n)) = true := decide_eq_true rfl
  rw [eb]
  exact q _ (s5.trans s6)
end
end TC
namespace TC
set_option exponentiation.threshold 20000
open PySem PySem.Spec PyProof.Rows L2 TCA TCX
abbrev nLaw : List Str := ["_law_script", "_law_pen_here", "_law_turn", "_law_row_here", "_law_told", "_law_product", "_law_size", "_law_at", "_law_other", "_law_fresh", "_law_more", "_law_small"]
theorem scLaw : FnScope nLaw ["_law_script"] (defScope sLaw) := ⟨rfl, rfl, rfl, by decide +kernel, rfl, by decide +kernel, by decide +kernel⟩
def spLaw (K : PySem.W.Frag) : Sp := fun vs H Q _ => ∃ (a : Addr) (ns : List Int), vs = [.ref a] ∧ SqL K H a (ns.map V.int) ∧ ns.length ≤ 63 ∧ ∀ H', Q (.bl true) H'
structure LTxt (P : Program) (w : World) (K : PySem.W.Frag) (mg : Str → Option Value) (base : Heap) (fPn fD fR fM fA fC fL : Addr) (fdPn fdD fdR fdM fdA fdC fdL : FuncData) : Prop where
  GPn : FnOk P w K mg base CX0 1 fPn fdPn ["_law_script"] (spPen K)
  bPn : L2.Binds K fdPn ["_law_script"] []
  kPn : PySem.W.keepIn K (.ref fPn) = true
  gPn : mg "_law_pen" = some (.ref fPn)
  GD : FnOk P w K mg base CX0 1 fD fdD ["_law_pen_here", "_law_many"] spDraw
  bD : L2.Binds K fdD ["_law_pen_here", "_law_many"] []
  kD : PySem.W.keepIn K (.ref fD) = true
  gD : mg "_law_draw" = some (.ref fD)
  GR : FnOk P w K mg base CX0 2 fR fdR ["_law_pen_here", "_law_many", "_law_great"] spRow
  bR : L2.Binds K fdR ["_law_pen_here", "_law_many", "_law_great"] []
  kR : PySem.W.keepIn K (.ref fR) = true
  gR : mg "_law_row" = some (.ref fR)
  GM : FnOk P w K mg base CX0 2 fM fdM ["_law_pen_here", "_law_some"] spMixed
  bM : L2.Binds K fdM ["_law_pen_here", "_law_some"] []
  kM : PySem.W.keepIn K (.ref fM) = true
  gM : mg "_law_mixed" = some (.ref fM)
  GA : FnOk P w K mg base CX0 4 fA fdA ["_law_row_here"] spAll
  bA : L2.Binds K fdA ["_law_row_here"] []
  kA : PySem.W.keepIn K (.ref fA) = true
  gA : mg "_law_all_counts" = some (.ref fA)
  GC : FnOk P w K mg base CX0 5 fC fdC ["_law_row_here", "_law_at", "_law_told"] spCut
  bC : L2.Binds K fdC ["_law_row_here", "_law_at", "_law_told"] []
  kC : PySem.W.keepIn K (.ref fC) = true
  gC : mg "_law_cut_right" = some (.ref fC)
  GL : FnOk P w K mg base CX0 4 fL fdL ["_law_row_here", "_law_size"] spListed
  bL : L2.Binds K fdL ["_law_row_here", "_law_size"] []
  kL : PySem.W.keepIn K (.ref fL) = true
  gL : mg "_law_listed" = some (.ref fL)
  grange : mg "range" = none
  glen : mg "len" = none
  gsum : mg "sum" = none
  gint : mg "int" = none
/-! ### what law needs -/
structure St40 (G : Hp) (p c lR dT : Addr) (ms rs : List Int) (n : Int) : Prop where
  row : Row G lR rs
  told : G dT = some (.dK (cntK rs))
  pen : PenAt G p c ms n
  nR : lR ≠ p
  nT : dT ≠ p
theorem Row.but {p : Addr} {G G' : Hp} {a : Addr} {rs : List Int} (h : Row G a rs) (s : SameBut p G G') (n : a ≠ p) : Row G' a rs := ⟨s _ _ n h.at_, h.ne, h.le, h.sz⟩
theorem St40.same {G G' : Hp} {p c lR dT : Addr} {ms rs : List Int} {n : Int} (h : St40 G p c lR dT ms rs n) (s : Same G G') : St40 G' p c lR dT ms rs n := ⟨h.row.same s, s _ _ h.told, h.pen.same s, h.nR, h.nT⟩
theorem St40.but {G G' : Hp} {p c lR dT : Addr} {ms rs : List Int} {n n' : Int} (h : St40 G p c lR dT ms rs n) (q : PenAt G' p c ms n') (s : SameBut p G G') : St40 G' p c lR dT ms rs n' := ⟨h.row.but s h.nR, s _ _ h.nT h.told, q, h.nR, h.nT⟩
theorem cntK_congr {a b : List Int} (e : a.sum = b.sum) (h : ∀ n, 0 ≤ n → cnt a n = cnt b n) (h0 : 0 ≤ a.sum) : cntK a = cntK b := by
  unfold cntK
  rw [← e]
  exact List.map_congr_left fun n m => by rw [h n ((keysN_mem h0).mp m).1]
theorem perm_sum {a b : List Int} (p : a.Perm b) : a.sum = b.sum := by
  induction p with
  | nil => rfl
  | cons x _ ih => rw [List.sum_cons, List.sum_cons, ih]
  | swap x y l =>
    rw [List.sum_cons, List.sum_cons, List.sum_cons, List.sum_cons]
    omega
  | trans _ _ h1 h2 => exact h1.trans h2
theorem cntK_perm {a b : List Int} (p : a.Perm b) (h : ∀ s ∈ a, 0 ≤ s) : cntK a = cntK b :=
  cntK_congr (perm_sum p) (fun n n0 => cnt_perm p h n0) (sum_nn h)
theorem cntK_zero {l m : List Int} (ne : l ≠ []) (h : ∀ s ∈ l, 0 ≤ s) (p : m.Perm (0 :: l)) : cntK m = cntK l := by
  have h0 : ∀ s ∈ (0 :: l), 0 ≤ s := fun s hs => by
    rcases List.mem_cons.mp hs with rfl | m
    · exact Int.le_refl _
    · exact h s m
  rw [cntK_perm p fun s hs => h0 s (p.mem_iff.mp hs)]
  refine cntK_congr (by rw [List.sum_cons, Int.zero_add]) (fun n n0 => cnt_zero ne h n0) ?_
  exact sum_nn h0
/-- a dict != a dict of the same counts -/
theorem ne_cntK {H : Hp} {a b : Addr} {rs : List Int} {Q : VK} (ha : H a = some (.dK (cntK rs))) (hb : H b = some (.dK (cntK rs))) (q : Q (.bl false) H) : rNeDA (.ref a) (.ref b) H Q := by
  refine ⟨a, b, _, _, rfl, rfl, ha, hb, rfl, fun kv m => ?_, q⟩
  unfold cntK at m
  obtain ⟨n, hn, rfl⟩ := List.mem_map.mp m
  exact ⟨cntK_val hn, rfl⟩
theorem prodW_snoc (l : List Int) (s : Int) : prodW (l ++ [s]) = prodW l * (s + 1) := by
  unfold prodW
  rw [List.foldl_append]
  rfl
theorem prodW_R : ∀ l : List Int, prodW l = prodR l := by
  have go : ∀ (l : List Int) (p : Int), l.foldl (fun p s => p * (s + 1)) p = p * prodR l := fun l => by
    induction l with
    | nil => exact fun p => (Int.mul_one p).symm
    | cons s l ih =>
      intro p
      show l.foldl _ (p * (s + 1)) = p * ((s + 1) * prodR l)
      rw [ih, Int.mul_assoc]
  intro l
  show l.foldl _ 1 = _
  rw [go, Int.one_mul]
section
variable {P : Program} {w : World} {K : PySem.W.Frag} {mg : Str → Option Value} {base : Heap} {f fPn fD fR fM fA fC fL : Addr} {fd fdPn fdD fdR fdM fdA fdC fdL : FuncData}
set_option maxHeartbeats 0 in
theorem ok_law (F : FnP K "law" sLaw f fd) (T : LTxt P w K mg base fPn fD fR fM fA fC fL fdPn fdD fdR fdM fdA fdC fdL) : FnOk P w K mg base CX0 6 f fd ["_law_script"] (spLaw K) := by
  refine F.ok scLaw (fun vs H Q E h => ?_) (fun cdv A0 outer s H vs Q E hr h => ?_)
  · obtain ⟨_, _, rfl, _⟩ := h
    rfl
  obtain ⟨a0, ns, rfl, hS, hn, q⟩ := h
  have hu := hu_of hr
  have hud : (A0.deeper (envOfC (Str.ofString "law") (defScope sLaw) s.heap.objs.size f cdv)).units < cLine := by have := hu; omega
  have hr1 := hr.mono (show 1 ≤ 5 by decide)
  have hr2 := hr.mono (show 2 ≤ 5 by decide)
  have hr4 := hr.mono (show 4 ≤ 5 by decide)
  have hr5 := hr
  refine ⟨_, PSs.nox (pss_cons (ps_set (i := 1) scLaw.nd rfl (.inl rfl) (pe_call T.GPn hr1 (by rfl) T.gPn T.kPn T.bPn .nil pass0 (pa_cons (pv 0) pa_nil)))
      (pss_cons (ps_for PassesOwn.never rfl (pi_range1 (by rfl) T.grange (pa_cons pe_int pa_nil)) (pg_name (i := 2) scLaw.nd rfl (.inl rfl))
        (C8.pss_cut (ps_set (i := 3) scLaw.nd rfl (.inl rfl) (pe_call T.GR hr2 (by rfl) T.gR T.kR T.bR .nil pass0 (pa_cons (pv 1) (pa_cons (pe_op op_add pe_int (pe_call T.GD hr1 (by rfl) T.gD T.kD T.bD .nil pass0 (pa_cons (pv 1) (pa_cons (pe_ix ix_list (pe_lst (pa_cons pe_int (pa_cons pe_int (pa_cons pe_int pa_nil)))) (pv 2) (fun _ _ => rfl)) pa_nil)))) (pa_cons (pe_ix ix_list (pe_lst (pa_cons pe_int (pa_cons pe_int (pa_cons pe_int pa_nil)))) (pv 2) (fun _ _ => rfl)) pa_nil)))))
      (C8.pss_cut (ps_asg (pe_tup (pa_cons (pe_call T.GA hr4 (by rfl) T.gA T.kA T.bA .nil pass0 (pa_cons (pv 3) pa_nil)) (pa_cons pe_int pa_nil))) (pg_tup rfl (pgs_cons (pg_name (i := 4) scLaw.nd rfl (.inr rfl)) (pgs_cons (pg_name (i := 5) scLaw.nd rfl (.inl rfl)) pgs_nil))))
      (C8.pss_cut (ps_for PassesOwn.never rfl (pi_list (pv 3)) (pg_name (i := 6) scLaw.nd rfl (.inl rfl))
        (pss_one (ps_set (i := 5) scLaw.nd rfl (.inl rfl) (pe_op op_mul (pv 5) (pe_op op_add (pv 6) pe_int)))))
      (C8.pss_cut (ps_if (pt_cmpR op_ne (pe_callB (cr_sum rfl) (by rfl) T.gsum (by decide +kernel) (pa_cons (pe_lock (pe_lc (own := [("_law_size", 6)]) (g := gName 6) (tt := tYes) (te := (tOp (rI CMul fun i j => .int (i * j)) (tDGet (tVar 4) (tVar 6)) (tOp (rI0 fun i j => .int (i + j)) (tVar 6) (tC (.int 1))))) (by rfl) scLaw.nd (pi_keys (pv 4))
          (blkOk_by (N := nLaw) (sc := defScope sLaw) (by decide +kernel)) (fun _ _ _ _ _ => pg_name (i := 6) scLaw.nd rfl (.inl rfl)) (fun _ _ _ _ _ => pts_nil) (fun _ _ _ _ _ => (pe_op op_mul (pe_dget hu (pv 4) (pv 6) (fun _ _ => rfl)) (pe_op op_add (pv 6) pe_int))))) pa_nil)) (pv 5) (nomark _)) (pss_one (ps_ret pe_bl)) pss_nil)
      (C8.pss_cut (ps_par (i := 7) (j := 8) (by rfl) scLaw.nd rfl rfl (by decide) rfl rfl (pa_cons (pe_op op_add pe_int (pe_call T.GD hr1 (by rfl) T.gD T.kD T.bD .nil pass0 (pa_cons (pv 1) (pa_cons (pe_op op_sub (pe_callB call_len_seq (by rfl) T.glen PySem.boot_len (pa_cons (pv 3) pa_nil)) pe_int) pa_nil)))) (pa_cons (pe_call T.GM hr2 (by rfl) T.gM T.kM T.bM .nil pass0 (pa_cons (pv 1) (pa_cons (pv 3) pa_nil))) pa_nil)) (by rfl))
      (C8.pss_cut (ps_if (PW.pt (pw_or (pt_not (pt_val (pe_call T.GC hr5 (by rfl) T.gC T.kC T.bC .nil pass0 (pa_cons (pv 3) (pa_cons (pv 7) (pa_cons (pv 4) pa_nil)))))) (pw_or1 (pt_cmpR (op_ne_dictA hud) (pe_call T.GA hr4 (by rfl) T.gA T.kA T.bA .nil pass0 (pa_cons (pv 8) pa_nil)) (pv 4) (nomark _))))) (pss_one (ps_ret pe_bl)) pss_nil)
      (C8.pss_cut (ps_for PassesOwn.never rfl (pi_list (pe_slice sl_list (pe_lst (pa_cons (pe_op op_cat (pe_lst (pa_cons pe_int pa_nil)) (pv 3)) (pa_cons (pe_op op_cat (pe_op op_cat (pe_slice sl_list (pv 3) po_none (po_some (pv 7))) (pe_lst (pa_cons pe_int pa_nil))) (pe_slice sl_list (pv 3) (po_some (pv 7)) po_none)) (pa_cons (pe_op op_cat (pv 3) (pe_lst (pa_cons pe_int pa_nil))) pa_nil)))) po_none (po_some (pe_op op_mul pe_int (pe_callTy call_int1 (by rfl) T.gint (by decide +kernel) (pa_cons (pe_cmpR op_lt (pe_callB call_len_seq (by rfl) T.glen PySem.boot_len (pa_cons (pv 3) pa_nil)) pe_int (nomark _)) pa_nil)))))) (pg_name (i := 9) scLaw.nd rfl (.inl rfl))
        (pss_one (ps_if (pt_cmpR (op_ne_dictA hud) (pe_call T.GA hr4 (by rfl) T.gA T.kA T.bA .nil pass0 (pa_cons (pv 9) pa_nil)) (pv 4) (nomark _)) (pss_one (ps_ret pe_bl)) pss_nil)))
      (C8.pss_cut (ps_set (i := 10) scLaw.nd rfl (.inl rfl) (pe_op op_cat (pv 3) (pe_slice sl_list (pv 3) po_none (po_some (pe_callTy call_int1 (by rfl) T.gint (by decide +kernel) (pa_cons (pe_cmpR op_lt (pe_callB call_len_seq (by rfl) T.glen PySem.boot_len (pa_cons (pv 3) pa_nil)) pe_int (nomark _)) pa_nil))))))
      (C8.pss_cut (ps_if (pt_not (pt_val (pe_call T.GC hr5 (by rfl) T.gC T.kC T.bC .nil pass0 (pa_cons (pv 10) (pa_cons (pe_op op_sub (pe_callB call_len_seq (by rfl) T.glen PySem.boot_len (pa_cons (pv 3) pa_nil)) (pe_callTy call_int1 (by rfl) T.gint (by decide +kernel) (pa_cons (pe_cmpR op_eq (pe_callB call_len_seq (by rfl) T.glen PySem.boot_len (pa_cons (pv 3) pa_nil)) pe_int (nomark _)) pa_nil))) (pa_cons (pe_call T.GA hr4 (by rfl) T.gA T.kA T.bA .nil pass0 (pa_cons (pv 10) pa_nil)) pa_nil)))))) (pss_one (ps_ret pe_bl)) pss_nil)
      (C8.pss_cut (ps_set (i := 11) scLaw.nd rfl (.inl rfl) (pe_slice sl_list (pv 3) po_none (po_some (pe_op op_add pe_int (pe_call T.GD hr1 (by rfl) T.gD T.kD T.bD .nil pass0 (pa_cons (pv 1) (pa_cons pe_int pa_nil)))))))
      (pss_one (ps_for PassesOwn.never rfl (pi_range1 (by rfl) T.grange (pa_cons (pe_op op_add (pe_callB (cr_sum rfl) (by rfl) T.gsum (by decide +kernel) (pa_cons (pv 11) pa_nil)) pe_int) pa_nil)) (pg_name (i := 6) scLaw.nd rfl (.inl rfl))
        (pss_one (ps_if (pt_not (pt_val (pe_call T.GL hr4 (by rfl) T.gL T.kL T.bL .nil pass0 (pa_cons (pv 11) (pa_cons (pv 6) pa_nil))))) (pss_one (ps_ret pe_bl)) pss_nil)))))))))))))))
      (pss_one (ps_ret pe_bl)))), ?_⟩
  refine ⟨_, rfl, a0, ns, rfl, hS, hn, fun p c ms H1 s1 hp0 hp hc hpc => ?_⟩
  have pen1 : PenAt H1 p c ms 0 := ⟨0, hp, hc, hpc⟩
  refine ⟨3, rfl, by decide, by decide, ?_⟩
  refine for_range (n := 3) (fun i σ G => ∃ (v2 v3 v4 v5 v6 v7 v8 v9 v10 v11 : Option V) (n : Int), σ = [some (.ref a0), some (.ref p), v2, v3, v4, v5, v6, v7, v8, v9, v10, v11] ∧ 0 ≤ n ∧ n ≤ 100 * (i : Int) ∧ PenAt G p c ms n)
    ⟨none, none, none, none, none, none, none, none, none, none, 0, rfl, by decide, by decide, pen1⟩ (fun i σ G hi hP => ?_) (fun σ G hP => ?_)
  rotate_left
  · obtain ⟨_, _, _, _, _, _, _, _, _, _, _, rfl, _⟩ := hP
    exact q G
  obtain ⟨v2, v3, v4, v5, v6, v7, v8, v9, v10, v11, n, rfl, n0, n9, pen⟩ := hP
  obtain ⟨tu, eb⟩ : ∃ tu : Int, 0 + ((i : Nat) : Int) = tu := ⟨_, rfl⟩
  rw [eb]
  -- the row
  refine ⟨fun σ G1 => ∃ (lR : Addr) (rs : List Int) (n1 : Int), σ = [some (.ref a0), some (.ref p), some (.int tu), some (.ref lR), v4, v5, v6, v7, v8, v9, v10, v11] ∧ Row G1 lR rs ∧ 2 ≤ rs.length ∧ PenAt G1 p c ms n1 ∧ lR ≠ p ∧ 0 ≤ n1 ∧ n1 ≤ n + 31, ?_, fun σ G1 hh => ?_⟩
  · have t3 : tu = 0 ∨ tu = 1 ∨ tu = 2 := by omega
    obtain ⟨g1, ix1, g10, g11⟩ : ∃ g : Int, atI [V.int 6, V.int 9, V.int 9] tu = some (.int g) ∧ 6 ≤ g ∧ g ≤ 9 := by
      rcases t3 with h | h | h <;> rw [h]
      · exact ⟨6, atI_nat (j := 0) rfl, by decide, by decide⟩
      · exact ⟨9, atI_nat (j := 1) rfl, by decide, by decide⟩
      · exact ⟨9, atI_nat (j := 2) rfl, by decide, by decide⟩
    obtain ⟨g2, ix2, g20, g21⟩ : ∃ g : Int, atI [V.int 12, V.int 6, V.int 2] tu = some (.int g) ∧ 0 ≤ g ∧ g ≤ 12 := by
      rcases t3 with h | h | h <;> rw [h]
      · exact ⟨12, atI_nat (j := 0) rfl, by decide, by decide⟩
      · exact ⟨6, atI_nat (j := 1) rfl, by decide, by decide⟩
      · exact ⟨2, atI_nat (j := 2) rfl, by decide, by decide⟩
    refine ⟨_, rfl, _, rfl, by show 3 ≤ sizeLine; decide, fun l hl => ?_⟩
    have sl := same_upd (o := .lst [V.int 6, V.int 9, V.int 9]) hl
    refine ⟨_, rfl, l, _, tu, .int g1, rfl, rfl, SqL.of upd_same, ix1, p, c, ms, n, g1, rfl, pen.same sl, n0, by omega, by omega, Int.lt_of_le_of_lt (b := 16) (by omega) (by decide), fun e n' Ga e0 e1 x0 x1 pena ta => ?_⟩
    refine ⟨2, e, rfl, rfl, by show 3 ≤ sizeLine; decide, fun l2' hl2 => ?_⟩
    have sl2 := same_upd (o := .lst [V.int 12, V.int 6, V.int 2]) hl2
    refine ⟨_, rfl, l2', _, tu, .int g2, rfl, rfl, SqL.of upd_same, ix2, p, c, ms, n', 2 + e, g2, rfl, pena.same sl2, by omega, by omega, by omega, by omega, g20, g21, fun lR rs n'' Gb nl len sz x2 x3 penb tb hl => ?_⟩
    have nR : lR ≠ p := by
      obtain ⟨_, h1, _⟩ := pena.same sl2
      exact (ne_of_none h1 nl).symm
    exact ⟨lR, rs, n'', rfl, ⟨hl, by omega, by omega, sz⟩, by omega, penb, nR, by omega, by omega⟩
  obtain ⟨lR, rs, n1, rfl, hR, l2, pen2, nR, z0, z1⟩ := hh
  -- its counts
  refine ⟨fun σ G2 => ∃ dT : Addr, σ = [some (.ref a0), some (.ref p), some (.int tu), some (.ref lR), some (.ref dT), some (.int 1), v6, v7, v8, v9, v10, v11] ∧ St40 G2 p c lR dT ms rs n1, ?_, fun σ G2 hh => ?_⟩
  · refine ⟨_, rfl, lR, rs, rfl, hR, fun dT G2 s2 nT hT => ?_⟩
    refine ⟨by show 2 ≤ sizeLine; decide, fun t ht => ?_⟩
    have st := same_upd (o := .tup [.ref dT, .int 1]) ht
    have nT' : dT ≠ p := by
      obtain ⟨_, h1, _⟩ := pen2
      exact (ne_of_none h1 nT).symm
    refine ⟨t, _, rfl, SqT.of upd_same, rfl, _, _, rfl, _, _, rfl, rfl, dT, rfl, hR.same (s2.trans st), st _ _ hT, pen2.same (s2.trans st), nR, nT'⟩
  obtain ⟨dT, rfl, S2⟩ := hh
  -- the product
  refine ⟨fun σ G3 => ∃ v6 : Option V, σ = [some (.ref a0), some (.ref p), some (.int tu), some (.ref lR), some (.ref dT), some (.int (prodR rs)), v6, v7, v8, v9, v10, v11] ∧ St40 G3 p c lR dT ms rs n1, ?_, fun σ G3 hh => ?_⟩
  · refine ⟨_, rfl, lR, rfl, ⟨_, SqL.of S2.row.at_⟩, for_list (K := K) (a := lR) (xs := rs.map V.int) (fun j σ G => ∃ v6 : Option V, σ = [some (.ref a0), some (.ref p), some (.int tu), some (.ref lR), some (.ref dT), some (.int (prodW (rs.take j))), v6, v7, v8, v9, v10, v11] ∧ St40 G p c lR dT ms rs n1)
      ⟨v6, rfl, S2⟩ (fun j σ G _ hP => ?_) (fun j x σ G hx hP => ?_) (fun σ G hP => ?_)⟩
    · obtain ⟨_, _, z⟩ := hP
      exact SqL.of z.row.at_
    · obtain ⟨v6, rfl, S⟩ := hP
      rw [List.getElem?_map] at hx
      obtain ⟨s, hs, rfl⟩ := Option.map_eq_some_iff.mp hx
      have sz := S.row.sz s (List.mem_of_getElem? hs)
      have tk : prodW (rs.take (j + 1)) = prodW (rs.take j) * (s + 1) := by
        rw [List.take_add_one, hs]
        exact prodW_snoc _ _
      refine ⟨_, rfl, _, rfl, s, 1, rfl, rfl, prodW (rs.take j), s + 1, rfl, rfl, .inr ⟨by omega, by omega⟩, some (.int s), ?_, S⟩
      rw [tk]
      rfl
    · obtain ⟨v6, rfl, S⟩ := hP
      rw [List.length_map, List.take_length, prodW_R]
      exact ⟨v6, rfl, S⟩
  obtain ⟨v6, rfl, S3⟩ := hh
  refine ⟨fun σ G4 => σ = [some (.ref a0), some (.ref p), some (.int tu), some (.ref lR), some (.ref dT), some (.int (prodR rs)), v6, v7, v8, v9, v10, v11] ∧ St40 G4 p c lR dT ms rs n1, ?_, fun σ G4 hh => ?_⟩
  · have kR := cntK_keys rs
    have sSR := row_sum S3.row
    refine ⟨dT, .dK (cntK rs), S3.told, trivial, fun o => ?_⟩
    refine ⟨_, rfl, dT, o, rfl, .inl ⟨cntK rs, upd_same, fun D hD => ?_⟩⟩
    have nD : dT ≠ D := ne_of_none (upd_same (H := G3) (a := dT) (o := .frz o (.dK (cntK rs)))) hD
    refine lc_it walk_keys (fun j G => (∀ b o', G3 b = some o' → b ≠ dT → G b = some o') ∧ G dT = some (.frz o (.dK (cntK rs))) ∧ G D = some (.lst ((((keysN rs.sum).take j).map fun n => cnt rs n * (n + 1)).map V.int))) ⟨fun b o' e hb => same_upd hD _ _ (by rw [upd_ne hb]; exact e), by rw [upd_ne nD]; exact upd_same, upd_same⟩ (fun j G _ hP => hP.2.1) (fun j x G Ga hj hP hy => ?_) (fun G hP => ?_)
    · obtain ⟨rfl, k, v, hkv, rfl⟩ := hy
      obtain ⟨g1, g2, g3⟩ := hP
      obtain ⟨y, hy, rfl⟩ := key_at kR hkv
      have my := List.mem_of_getElem? hy
      obtain ⟨y0, y1, _⟩ := (keysN_mem sSR.1).mp my
      have cb := cnt_bd S3.row.sz S3.row.le y
      have gD : G3 D = none := by
        rw [upd_ne nD.symm] at hD
        exact hD
      have tk : ((keysN rs.sum).take (j + 1)).map (fun n => cnt rs n * (n + 1)) = ((keysN rs.sum).take j).map (fun n => cnt rs n * (n + 1)) ++ [cnt rs y * (y + 1)] := by
        rw [List.take_add_one, hy, List.map_append]
        rfl
      have lj : j < 62 := by
        rw [cntK_len] at hj
        unfold keysN at hj
        rw [List.length_map, List.length_range] at hj
        omega
      refine ⟨rfl, _, rfl, _, rfl, dT, .int (cnt rs y), rfl, .inl ⟨cntK rs, Sum.inl y, .inr ⟨o, g2⟩, rfl, (cntK_val my).symm⟩, _, rfl, y, 1, rfl, rfl, cnt rs y, y + 1, rfl, rfl, .inl ⟨by omega, by omega⟩, _, g3, ?_, fun b o' e hb => ?_, ?_, ?_⟩
      · rw [List.length_map, List.length_map]
        exact Nat.lt_of_le_of_lt (m := 100) (by have := List.length_take_le' j (keysN rs.sum); have := List.length_take_le j (keysN rs.sum); omega) (by decide)
      · rw [upd_ne (ne_of_none e gD)]
        exact g1 _ _ e hb
      · rw [upd_ne nD]
        exact g2
      · rw [upd_same, tk, List.map_append]
        rfl
    · obtain ⟨g1, g2, g3⟩ := hP
      have smq : Same G3 (upd G dT (.dK (cntK rs))) := fun b o' e => by
        by_cases hb : b = dT
        · rw [hb, upd_same]
          rw [hb, S3.told] at e
          exact e
        · rw [upd_ne hb]
          exact g1 _ _ e hb
      have g3' : (upd G dT (.dK (cntK rs))) D = some (.lst ((((keysN rs.sum).take (cntK rs).length).map fun n => cnt rs n * (n + 1)).map V.int)) := by
        rw [upd_ne nD.symm]
        exact g3
      rw [cntK_len, List.take_length] at g3'
      refine ⟨g2, D, _, rfl, SqL.of g3', ?_⟩
      rw [cnt_all (fun z => by have := S3.row.ne; rw [z] at this; exact absurd this (by decide)) fun s hs => (S3.row.sz s hs).1]
      refine ⟨_, rfl, rfl, false, congrArg V.bl (by simp), iteF ⟨rfl, S3.same smq⟩⟩
  obtain ⟨rfl, S4⟩ := hh
  -- the place and the other order
  refine ⟨fun σ G5 => ∃ (m : Nat) (lO : Addr) (os : List Int) (n2 : Int), σ = [some (.ref a0), some (.ref p), some (.int tu), some (.ref lR), some (.ref dT), some (.int (prodR rs)), v6, some (.int (m : Int)), some (.ref lO), v9, v10, v11] ∧ 1 ≤ m ∧ m < rs.length ∧ Row G5 lO os ∧ os.Perm rs ∧ St40 G5 p c lR dT ms rs n2 ∧ n1 ≤ n2 ∧ n2 ≤ n1 + 11, ?_, fun σ G5 hh => ?_⟩
  · have lr := S4.row.le
    have lm : (rs.map V.int).length = rs.length := List.length_map _
    refine ⟨_, rfl, _, rfl, lR, _, rfl, .inl (SqL.of S4.row.at_), ((rs.map V.int).length : Int), 1, rfl, rfl, p, c, ms, n1, ((rs.map V.int).length : Int) - 1, rfl, S4.pen, by omega, by omega, by omega, Int.lt_of_le_of_lt (b := 16) (by omega) (by decide), fun e n' Ga e0 e1 x0 x1 pena ta => ?_⟩
    have Sa := S4.but pena ta
    refine ⟨1, e, rfl, rfl, _, rfl, _, rfl, p, c, ms, n', lR, rs, rfl, pena, by omega, by omega, Sa.row, nR, fun lO os n'' Gb nl hl pm x2 x3 penb tb => ?_⟩
    have Sb := Sa.but penb tb
    refine ⟨_, _, rfl, (1 + e).toNat, lO, os, n'', ?_, by omega, by omega, ⟨hl, by rw [pm.length_eq]; omega, by rw [pm.length_eq]; omega, fun s hs => S4.row.sz s (pm.mem_iff.mp hs)⟩, pm, Sb, by omega, by omega⟩
    rw [show (((1 + e).toNat : Nat) : Int) = 1 + e by omega]
    rfl
  obtain ⟨m, lO, os, n2, rfl, m0, m1, hO, pm, S5, z2, z3⟩ := hh
  refine ⟨fun σ G6 => σ = [some (.ref a0), some (.ref p), some (.int tu), some (.ref lR), some (.ref dT), some (.int (prodR rs)), v6, some (.int (m : Int)), some (.ref lO), v9, v10, v11] ∧ St40 G6 p c lR dT ms rs n2, ?_, fun σ G6 hh => ?_⟩
  · refine ⟨_, rfl, _, rfl, _, rfl, lR, dT, rs, m, rfl, S5.row, m0, m1, S5.told, fun Ga sa => ?_⟩
    refine ⟨true, rfl, iteF ?_⟩
    refine ⟨_, rfl, lO, os, rfl, hO.same sa, fun d Gb sb nd hd => ?_⟩
    rw [cntK_perm pm fun s hs => (hO.sz s hs).1] at hd
    have Sb := S5.same (sa.trans sb)
    refine ⟨_, rfl, ne_cntK hd Sb.told ⟨false, rfl, iteF ⟨rfl, Sb⟩⟩⟩
  obtain ⟨rfl, S6⟩ := hh
  -- with a 0
  refine ⟨fun σ G7 => ∃ v9 : Option V, σ = [some (.ref a0), some (.ref p), some (.int tu), some (.ref lR), some (.ref dT), some (.int (prodR rs)), v6, some (.int (m : Int)), some (.ref lO), v9, v10, v11] ∧ St40 G7 p c lR dT ms rs n2, ?_, fun σ G7 hh => ?_⟩
  · have ln : (rs.map V.int).length = rs.length := List.length_map _
    have lr := S6.row.le
    have ne : rs ≠ [] := fun z => by rw [z] at l2; exact absurd l2 (by decide)
    have nn : ∀ s ∈ rs, 0 ≤ s := fun s hs => (S6.row.sz s hs).1
    have short : 12 ≤ sizeLine := by decide
    obtain ⟨k, ek, kb⟩ : ∃ k : Nat, (if decide ((((rs.map V.int).length : Nat) : Int) < 10) = true then (1 : Int) else 0) = (k : Int) ∧ (if rs.length < 10 then k = 1 else k = 0) := by
      by_cases h : rs.length < 10
      · exact ⟨1, by rw [decide_eq_true (by omega)]; rfl, by rw [if_pos h]⟩
      · exact ⟨0, by rw [decide_eq_false (by omega)]; rfl, by rw [if_neg h]⟩
    have ct : cutV (rs.map V.int) none (some (m : Int)) = (rs.take m).map V.int := by rw [cut_take, ← List.map_take]
    have cd : cutV (rs.map V.int) (some (m : Int)) none = (rs.drop m).map V.int := by rw [cut_drop, ← List.map_drop]
    have lt : ((rs.take m).map V.int).length = m := by rw [List.length_map, List.length_take]; omega
    have ld : ((rs.drop m).map V.int).length = rs.length - m := by rw [List.length_map, List.length_drop]
    refine ⟨by show 1 ≤ sizeLine; decide, fun za hza => ?_⟩
    have sa := same_upd (o := .lst [V.int 0]) hza
    refine ⟨_, rfl, za, lR, _, _, rfl, rfl, upd_same, sa _ _ S6.row.at_, Nat.le_trans (by rw [ln]; show 1 + rs.length ≤ 12; omega) short, fun fa hfa => ?_⟩
    have sb := sa.trans (same_upd (o := .lst ([V.int 0] ++ rs.map V.int)) hfa)
    have hfa1 := upd_same (H := upd G6 za (.lst [V.int 0])) (a := fa) (o := .lst ([V.int 0] ++ rs.map V.int))
    generalize upd (upd G6 za (.lst [V.int 0])) fa (.lst ([V.int 0] ++ rs.map V.int)) = Ga at sb hfa1 ⊢
    refine ⟨_, rfl, _, rfl, _, rfl, lR, _, rfl, SqL.of (sb _ _ S6.row.at_), fun lb hlb => ?_⟩
    rw [ct]
    have sc := same_upd (o := .lst ((rs.take m).map V.int)) hlb
    refine ⟨by show 1 ≤ sizeLine; decide, fun zb hzb => ?_⟩
    have sd := same_upd (o := .lst [V.int 0]) hzb
    refine ⟨lb, zb, _, _, rfl, rfl, sd _ _ upd_same, upd_same, Nat.le_trans (by rw [lt]; show m + 1 ≤ 12; omega) short, fun cb hcb => ?_⟩
    have se := same_upd (o := .lst ((rs.take m).map V.int ++ [V.int 0])) hcb
    have sab := ((sb.trans sc).trans sd).trans se
    have hcb1 := upd_same (H := upd (upd Ga lb (.lst ((rs.take m).map V.int))) zb (.lst [V.int 0])) (a := cb) (o := .lst ((rs.take m).map V.int ++ [V.int 0]))
    have hfa2 := ((sc.trans sd).trans se) _ _ hfa1
    generalize upd (upd (upd Ga lb (.lst ((rs.take m).map V.int))) zb (.lst [V.int 0])) cb (.lst ((rs.take m).map V.int ++ [V.int 0])) = Gb at sab hcb1 hfa2 ⊢
    refine ⟨_, rfl, _, rfl, _, rfl, lR, _, rfl, SqL.of (sab _ _ S6.row.at_), fun lc hlc => ?_⟩
    rw [cd]
    have sf := same_upd (o := .lst ((rs.drop m).map V.int)) hlc
    refine ⟨cb, lc, _, _, rfl, rfl, sf _ _ hcb1, upd_same, Nat.le_trans (by rw [List.length_append, lt, ld]; show m + 1 + (rs.length - m) ≤ 12; omega) short, fun fb hfb => ?_⟩
    have sg := same_upd (o := .lst (((rs.take m).map V.int ++ [V.int 0]) ++ (rs.drop m).map V.int)) hfb
    have sac := (sab.trans sf).trans sg
    have hfb1 := upd_same (H := upd Gb lc (.lst ((rs.drop m).map V.int))) (a := fb) (o := .lst (((rs.take m).map V.int ++ [V.int 0]) ++ (rs.drop m).map V.int))
    have hfa3 := (sf.trans sg) _ _ hfa2
    generalize upd (upd Gb lc (.lst ((rs.drop m).map V.int))) fb (.lst (((rs.take m).map V.int ++ [V.int 0]) ++ (rs.drop m).map V.int)) = Gc at sac hfb1 hfa3 ⊢
    refine ⟨_, rfl, by show 1 ≤ sizeLine; decide, fun zc hzc => ?_⟩
    have sh := same_upd (o := .lst [V.int 0]) hzc
    refine ⟨lR, zc, _, _, rfl, rfl, sh _ _ (sac _ _ S6.row.at_), upd_same, Nat.le_trans (by rw [ln]; show rs.length + 1 ≤ 12; omega) short, fun fc hfc => ?_⟩
    have si := sh.trans (same_upd (o := .lst (rs.map V.int ++ [V.int 0])) hfc)
    have sad := sac.trans si
    have hfc1 := upd_same (H := upd Gc zc (.lst [V.int 0])) (a := fc) (o := .lst (rs.map V.int ++ [V.int 0]))
    have hfa4 := si _ _ hfa3
    have hfb4 := si _ _ hfb1
    generalize upd (upd Gc zc (.lst [V.int 0])) fc (.lst (rs.map V.int ++ [V.int 0])) = Gd at sad hfc1 hfa4 hfb4 ⊢
    refine ⟨by show 3 ≤ sizeLine; decide, fun lL hlL => ?_⟩
    have sj := same_upd (o := .lst [V.ref fa, V.ref fb, V.ref fc]) hlL
    refine ⟨_, rfl, lR, _, rfl, .inl (SqL.of (sj _ _ (sad _ _ S6.row.at_))), ((rs.map V.int).length : Int), 10, rfl, rfl, .inr ⟨_, rfl, ?_⟩⟩
    rw [ek]
    refine ⟨3, (k : Int), rfl, rfl, .inl ⟨by decide, by decide⟩, _, rfl, lL, _, rfl, SqL.of upd_same, fun l4 hl4 => ?_⟩
    obtain ⟨xs, exs⟩ : ∃ xs, cutV [V.ref fa, V.ref fb, V.ref fc] none (some (3 * (k : Int))) = xs := ⟨_, rfl⟩
    rw [exs]
    have sk := same_upd (o := .lst xs) hl4
    have sal := (sad.trans sj).trans sk
    have hfa5 := (sj.trans sk) _ _ hfa4
    have hfb5 := (sj.trans sk) _ _ hfb4
    have hfc5 := (sj.trans sk) _ _ hfc1
    have good : ∀ x ∈ xs, ∃ (g : Addr) (fs : List Int), x = .ref g ∧ rs.length < 10 ∧ fs.Perm (0 :: rs) ∧ (upd (upd Gd lL (.lst [V.ref fa, V.ref fb, V.ref fc])) l4 (.lst xs)) g = some (.lst (fs.map V.int)) := fun x hx => by
      by_cases h : rs.length < 10
      · have mx : x ∈ [V.ref fa, V.ref fb, V.ref fc] := by
          rw [← exs] at hx
          unfold cutV at hx
          exact List.mem_of_mem_drop (List.mem_of_mem_take hx)
        rcases List.mem_cons.mp mx with rfl | mx
        · exact ⟨fa, 0 :: rs, rfl, h, List.Perm.refl _, hfa5⟩
        rcases List.mem_cons.mp mx with rfl | mx
        · refine ⟨fb, (rs.take m ++ [0]) ++ rs.drop m, rfl, h, ?_, ?_⟩
          · have p1 : ((rs.take m ++ [0]) ++ rs.drop m).Perm ([0] ++ (rs.take m ++ rs.drop m)) := by
              rw [← List.append_assoc]
              exact List.Perm.append_right _ (List.perm_append_comm)
            rw [List.take_append_drop] at p1
            exact p1
          · rw [List.map_append, List.map_append]
            exact hfb5
        · cases List.mem_singleton.mp mx
          refine ⟨fc, rs ++ [0], rfl, h, List.perm_append_comm, ?_⟩
          rw [List.map_append]
          exact hfc5
      · rw [if_neg h] at kb
        rw [kb] at exs
        have e0 : cutV [V.ref fa, V.ref fb, V.ref fc] none (some (3 * ((0 : Nat) : Int))) = [] := cut_take (xs := [V.ref fa, V.ref fb, V.ref fc]) (k := 0)
        rw [e0] at exs
        rw [← exs] at hx
        cases hx
    have Sl := S6.same sal
    refine ⟨l4, rfl, ⟨_, SqL.of upd_same⟩, for_list (K := K) (a := l4) (xs := xs) (fun j σ G => ∃ v9 : Option V, σ = [some (.ref a0), some (.ref p), some (.int tu), some (.ref lR), some (.ref dT), some (.int (prodR rs)), v6, some (.int (m : Int)), some (.ref lO), v9, v10, v11] ∧ Same (upd (upd Gd lL (.lst [V.ref fa, V.ref fb, V.ref fc])) l4 (.lst xs)) G)
      ⟨v9, rfl, fun _ _ e => e⟩ (fun j σ G _ hP => ?_) (fun j x σ G hx hP => ?_) (fun σ G hP => ?_)⟩
    · obtain ⟨_, _, z⟩ := hP
      exact SqL.of (z _ _ upd_same)
    · obtain ⟨v9, rfl, sG⟩ := hP
      obtain ⟨g, fs, rfl, h10, pf, hg⟩ := good x (List.mem_of_getElem? hx)
      have lf : fs.length = rs.length + 1 := by rw [pf.length_eq, List.length_cons]
      have hrow : Row G g fs := ⟨sG _ _ hg, by omega, by omega, fun s hs => by
        rcases List.mem_cons.mp (pf.mem_iff.mp hs) with rfl | mm
        · exact ⟨by decide, by decide⟩
        · exact S6.row.sz s mm⟩
      refine ⟨_, rfl, g, fs, rfl, hrow, fun d Ge se' nd hd => ?_⟩
      rw [cntK_zero ne nn pf] at hd
      have Sb := Sl.same (sG.trans se')
      exact ⟨_, rfl, ne_cntK hd Sb.told ⟨false, rfl, iteF ⟨_, rfl, sG.trans se'⟩⟩⟩
    · obtain ⟨v9, rfl, sG⟩ := hP
      exact ⟨v9, rfl, Sl.same sG⟩
  obtain ⟨v9, rfl, S7⟩ := hh
  -- one more
  refine ⟨fun σ G8 => ∃ (lM : Addr) (qs : List Int), σ = [some (.ref a0), some (.ref p), some (.int tu), some (.ref lR), some (.ref dT), some (.int (prodR rs)), v6, some (.int (m : Int)), some (.ref lO), v9, some (.ref lM), v11] ∧ St40 G8 p c lR dT ms rs n2 ∧ Row G8 lM qs ∧ (if rs.length < 10 then qs.length = rs.length + 1 else qs.length = rs.length), ?_, fun σ G8 hh => ?_⟩
  · have lr := S7.row.le
    have lm : (rs.map V.int).length = rs.length := List.length_map _
    have short : 12 ≤ sizeLine := by decide
    obtain ⟨k, ek, kb⟩ : ∃ k : Nat, (if decide ((((rs.map V.int).length : Nat) : Int) < 10) = true then (1 : Int) else 0) = (k : Int) ∧ (if rs.length < 10 then k = 1 else k = 0) := by
      by_cases h : rs.length < 10
      · exact ⟨1, by rw [decide_eq_true (by omega)]; rfl, by rw [if_pos h]⟩
      · exact ⟨0, by rw [decide_eq_false (by omega)]; rfl, by rw [if_neg h]⟩
    have k1 : k ≤ 1 := by split at kb <;> omega
    refine ⟨_, rfl, _, rfl, _, rfl, lR, _, rfl, .inl (SqL.of S7.row.at_), ((rs.map V.int).length : Int), 10, rfl, rfl, .inr ⟨_, rfl, ?_⟩⟩
    rw [ek]
    refine ⟨_, rfl, lR, _, rfl, SqL.of S7.row.at_, fun lb hlb => ?_⟩
    rw [show cutV (rs.map V.int) none (some (k : Int)) = (rs.take k).map V.int by rw [cut_take, ← List.map_take]]
    have sb := same_upd (o := .lst ((rs.take k).map V.int)) hlb
    have lk : (rs.take k).length = k := by rw [List.length_take]; omega
    refine ⟨lR, lb, _, _, rfl, rfl, sb _ _ S7.row.at_, upd_same, Nat.le_trans (by rw [List.length_map, List.length_map, lk]; omega) short, fun lM hlM => ?_⟩
    have sc := same_upd (o := .lst (rs.map V.int ++ (rs.take k).map V.int)) hlM
    refine ⟨lM, rs ++ rs.take k, rfl, S7.same (sb.trans sc), ⟨?_, ?_, ?_, fun s hs => ?_⟩, ?_⟩
    · rw [upd_same, List.map_append]
    · rw [List.length_append]; omega
    · rw [List.length_append, lk]; split at kb <;> omega
    · rcases List.mem_append.mp hs with mm | mm
      · exact S7.row.sz s mm
      · exact S7.row.sz s (List.mem_of_mem_take mm)
    · rw [List.length_append, lk]
      split <;> (rename_i h; first | rw [if_pos h] at kb | rw [if_neg h] at kb) <;> omega
  obtain ⟨lM, qs, rfl, S8, hM, lq⟩ := hh
  refine ⟨fun σ G9 => σ = [some (.ref a0), some (.ref p), some (.int tu), some (.ref lR), some (.ref dT), some (.int (prodR rs)), v6, some (.int (m : Int)), some (.ref lO), v9, some (.ref lM), v11] ∧ St40 G9 p c lR dT ms rs n2, ?_, fun σ G9 hh => ?_⟩
  · have lr := S8.row.le
    have lm : (rs.map V.int).length = rs.length := List.length_map _
    obtain ⟨k, ek, k1, k2⟩ : ∃ k : Nat, ((rs.map V.int).length : Int) - (if decide (V.int (((rs.map V.int).length : Nat) : Int) = V.int 10) = true then (1 : Int) else 0) = (k : Int) ∧ 1 ≤ k ∧ k < qs.length := by
      by_cases h : rs.length = 10
      · rw [if_neg (by omega)] at lq
        exact ⟨9, by rw [decide_eq_true (congrArg V.int (by omega)), if_pos rfl]; omega, by decide, by omega⟩
      · rw [if_pos (by omega)] at lq
        refine ⟨rs.length, ?_, by omega, by omega⟩
        rw [decide_eq_false fun z => h (by have := V.int.inj z; omega), if_neg Bool.false_ne_true]
        omega
    refine ⟨_, rfl, _, rfl, lR, _, rfl, .inl (SqL.of S8.row.at_), _, rfl, lR, _, rfl, .inl (SqL.of S8.row.at_), rfl, .inr ⟨_, rfl, ?_⟩⟩
    refine ⟨((rs.map V.int).length : Int), _, rfl, rfl, _, rfl, lM, qs, rfl, hM, fun d Ga sa nd hd => ?_⟩
    exact ⟨lM, d, qs, k, congrArg (fun z => [V.ref lM, V.int z, V.ref d]) ek, hM.same sa, k1, k2, hd, fun Gb sb => ⟨true, rfl, iteF ⟨rfl, S8.same (sa.trans sb)⟩⟩⟩
  obtain ⟨rfl, S9⟩ := hh
  -- few
  refine ⟨fun σ G10 => ∃ (lF : Addr) (r0 : Int) (rest : List Int) (n3 : Int), σ = [some (.ref a0), some (.ref p), some (.int tu), some (.ref lR), some (.ref dT), some (.int (prodR rs)), v6, some (.int (m : Int)), some (.ref lO), v9, some (.ref lM), some (.ref lF)] ∧ PenAt G10 p c ms n3 ∧ Row G10 lF (r0 :: rest) ∧ rest.length ≤ 2 ∧ n2 ≤ n3 ∧ n3 ≤ n2 + 1, ?_, fun σ G10 hh => ?_⟩
  · refine ⟨_, rfl, _, rfl, p, c, ms, n2, 3, rfl, S9.pen, by omega, by omega, by decide, by decide, fun e n' Ga e0 e1 x0 x1 pena ta => ?_⟩
    have Sa := S9.but pena ta
    refine ⟨1, e, rfl, rfl, _, rfl, lR, _, rfl, SqL.of Sa.row.at_, fun lF hlF => ?_⟩
    obtain ⟨k, ek⟩ : ∃ k : Nat, 1 + e = (k : Int) := ⟨(1 + e).toNat, by omega⟩
    rw [ek]
    rw [show cutV (rs.map V.int) none (some (k : Int)) = (rs.take k).map V.int by rw [cut_take, ← List.map_take]]
    have sb := same_upd (o := .lst ((rs.take k).map V.int)) hlF
    have lr := S9.row.le
    have lk : (rs.take k).length ≤ 3 := by rw [List.length_take]; omega
    have lk1 : 1 ≤ (rs.take k).length := by rw [List.length_take]; omega
    obtain ⟨r0, rest, er⟩ : ∃ r0 rest, rs.take k = r0 :: rest := by
      cases h : rs.take k with
      | nil => rw [h] at lk1; exact absurd lk1 (by decide)
      | cons a l => exact ⟨a, l, rfl⟩
    have ll : (r0 :: rest).length ≤ 3 := by rw [← er]; exact lk
    rw [List.length_cons] at ll
    refine ⟨lF, r0, rest, n', rfl, pena.same sb, ⟨by rw [upd_same, er], by rw [← er]; exact lk1, by rw [← er]; omega, fun s hs => ?_⟩, by omega, by omega, by omega⟩
    rw [← er] at hs
    exact S9.row.sz s (List.mem_of_mem_take hs)
  obtain ⟨lF, r0, rest, n3, rfl, pen3, hF, lf, z4, z5⟩ := hh
  obtain ⟨u0, u1⟩ := row_sum hF
  refine ⟨_, rfl, lF, _, rfl, SqL.of hF.at_, (r0 :: rest).sum, 2, rfl, rfl, _, rfl, by omega, by omega, ?_⟩
  refine for_range (n := ((r0 :: rest).sum + 2).toNat) (fun j σ G => ∃ v6 : Option V, σ = [some (.ref a0), some (.ref p), some (.int tu), some (.ref lR), some (.ref dT), some (.int (prodR rs)), v6, some (.int (m : Int)), some (.ref lO), v9, some (.ref lM), some (.ref lF)] ∧ Same G10 G)
    ⟨v6, rfl, fun _ _ e => e⟩ (fun j σ G hj hP => ?_) (fun σ G hP => ?_)
  · obtain ⟨v6, rfl, sG⟩ := hP
    have small3 : (r0 :: rest).sum ≤ 36 := by
      have go : ∀ l : List Int, (∀ s ∈ l, s ≤ 12) → l.sum ≤ 12 * (l.length : Int) := fun l => by
        induction l with
        | nil => exact fun _ => by decide
        | cons a l ih =>
          intro h
          have h1 := h a (by simp)
          have h2 := ih fun s hs => h s (List.mem_cons_of_mem _ hs)
          rw [List.sum_cons, List.length_cons]
          omega
      have h1 := go (r0 :: rest) fun s hs => (hF.sz s hs).2
      rw [List.length_cons] at h1
      omega
    refine ⟨_, rfl, _, rfl, lF, r0, rest, 0 + (j : Int), rfl, hF.same sG, lf, by omega, by omega, fun Ge se' => ?_⟩
    exact ⟨true, rfl, iteF ⟨_, rfl, sG.trans se'⟩⟩
  · obtain ⟨v6, rfl, sG⟩ := hP
    exact ⟨_, _, _, _, _, _, _, _, _, _, n3, rfl, by omega, by omega, pen3.same sG⟩
end
end TC
namespace TC
open PySem PySem.Spec PyProof.Rows L2 TCA TCX
theorem facts {P : Program} {w : World} {K : PySem.W.Frag} {h : Heap} {mg : Str → Option Value} {f : Addr} (X : K.In h) (G : h.Ns mainGlobals mg) (hfa : mg ("law" : Str) = some (.ref f)) (sx : He.SaysX fa fn [] tf exB w h K) :
    ∃ fd : FuncData, (∀ (s : Shared) (v : Value), BindsTo s fd ⟨[v], []⟩ [("_law_script", v)]) ∧ ∀ base : Heap, K.In base → base.Ns mainGlobals mg → FnOk P w K mg base CX0 6 f fd ["_law_script"] (spLaw K) := by
  have c := sx.t.d
  obtain ⟨fd0, F0⟩ := c.def_ 0 (d := dd "is_whole" sWhole) rfl
  obtain ⟨fd1, F1⟩ := c.def_ 1 (d := dd "counted" sCounted) rfl
  obtain ⟨fd2, F2⟩ := c.def_ 2 (d := dd "counted_by_offsets" sByOff) rfl
  obtain ⟨fd3, F3⟩ := c.def_ 3 (d := dd "labels" sLabels) rfl
  obtain ⟨fd4, F4⟩ := c.def_ 4 (d := dd "label_at" sLabelAt) rfl
  obtain ⟨fd5, F5⟩ := c.def_ 5 (d := dd "place_of" sPlaceOf) rfl
  obtain ⟨fd6, F6⟩ := c.def_ 6 (d := dd "need_row" sNeedRow) rfl
  obtain ⟨fd7, F7⟩ := c.def_ 7 (d := dd "ends_of" sEnds) rfl
  obtain ⟨fd8, F8⟩ := c.def_ 8 (d := dd "ways_to" sWays) rfl
  obtain ⟨fd9, F9⟩ := c.def_ 9 (d := dd "_law_pen" sPen) rfl
  obtain ⟨fd10, F10⟩ := c.def_ 10 (d := dd "_law_draw" sDraw) rfl
  obtain ⟨fd11, F11⟩ := c.def_ 11 (d := dd "_law_joints" sJoints) rfl
  obtain ⟨fd12, F12⟩ := c.def_ 12 (d := dd "_law_row" sRow) rfl
  obtain ⟨fd13, F13⟩ := c.def_ 13 (d := dd "_law_mixed" sMixed) rfl
  obtain ⟨fd14, F14⟩ := c.def_ 14 (d := dd "_law_all_counts" sAllC) rfl
  obtain ⟨fd15, F15⟩ := c.def_ 15 (d := dd "_law_cut_right" sCut) rfl
  obtain ⟨fd16, F16⟩ := c.def_ 16 (d := dd "_law_listed" sListed) rfl
  obtain ⟨fd17, F17⟩ := c.def_ 17 (d := dd "law" sLaw) rfl
  have glo : ∀ (i : Nat) (x : Str), TC.fa[i]? = some (.glo x) → mg x = some (.ref (He.ga K x)) := fun i x e => He.glo_ok X G (c.fact i (f := .glo x) e)
  have free : ∀ (i : Nat) (x : Str), TC.fa[i]? = some (.free x) → mg x = none := fun i x e => He.free_ok X G (c.fact i (f := .free x) e)
  obtain ⟨t_MOST_OF_ROW, g_MOST_OF_ROW⟩ := He.int_ok X G (c.fact 23 (f := .int "MOST_OF_ROW" 10) rfl)
  obtain ⟨t_HIGHEST_OF_ROW, g_HIGHEST_OF_ROW⟩ := He.int_ok X G (c.fact 24 (f := .int "HIGHEST_OF_ROW" 12) rfl)
  obtain ⟨t_HIGHEST_END, g_HIGHEST_END⟩ := He.int_ok X G (c.fact 25 (f := .int "HIGHEST_END" 120) rfl)
  obtain ⟨t_MOST_LABELS, g_MOST_LABELS⟩ := He.int_ok X G (c.fact 26 (f := .int "MOST_LABELS" 2000) rfl)
  obtain ⟨xE_NoRow, xK_NoRow, xB_NoRow, xT_NoRow⟩ := He.exc_ok (c.fact 27 (f := .exc "NoRow") rfl)
  have XT_NoRow : XTxt K mg "NoRow" (He.ga K "NoRow") := ⟨(glo 3 "NoRow" rfl), xE_NoRow, xK_NoRow, xB_NoRow, xT_NoRow⟩
  obtain ⟨xE_NoSize, xK_NoSize, xB_NoSize, xT_NoSize⟩ := He.exc_ok (c.fact 28 (f := .exc "NoSize") rfl)
  have XT_NoSize : XTxt K mg "NoSize" (He.ga K "NoSize") := ⟨(glo 1 "NoSize" rfl), xE_NoSize, xK_NoSize, xB_NoSize, xT_NoSize⟩
  obtain ⟨iE, iK, iB, iT⟩ := excI_ok sx.more
  have XP : ITxt K mg "NoPlace" (He.ga K "NoPlace") := ⟨(glo 4 "NoPlace" rfl), iE, iK, iB, iT⟩
  have e := hfa.symm.trans (glo 22 "law" rfl)
  cases e
  have b0 := FunD.bindsN (ps := ["thing"]) F0 fun _ _ _ _ _ _ us hl => match us, hl with | [_], _ => rfl
  have b6 := FunD.bindsN (ps := ["row", "to"]) F6 fun _ _ _ _ _ _ us hl => match us, hl with | [_, _], _ => rfl
  have b7 := FunD.bindsN (ps := ["one", "other"]) F7 fun _ _ _ _ _ _ us hl => match us, hl with | [_, _], _ => rfl
  have b8 := FunD.bindsN (ps := ["row", "to"]) F8 fun _ _ _ _ _ _ us hl => match us, hl with | [_, _], _ => rfl
  have b9 := FunD.bindsN (ps := ["_law_script"]) F9 fun _ _ _ _ _ _ us hl => match us, hl with | [_], _ => rfl
  have b10 := FunD.bindsN (ps := ["_law_pen_here", "_law_many"]) F10 fun _ _ _ _ _ _ us hl => match us, hl with | [_, _], _ => rfl
  have b11 := FunD.bindsN (ps := ["_law_one", "_law_other"]) F11 fun _ _ _ _ _ _ us hl => match us, hl with | [_, _], _ => rfl
  have b12 := FunD.bindsN (ps := ["_law_pen_here", "_law_many", "_law_great"]) F12 fun _ _ _ _ _ _ us hl => match us, hl with | [_, _, _], _ => rfl
  have b13 := FunD.bindsN (ps := ["_law_pen_here", "_law_some"]) F13 fun _ _ _ _ _ _ us hl => match us, hl with | [_, _], _ => rfl
  have b14 := FunD.bindsN (ps := ["_law_row_here"]) F14 fun _ _ _ _ _ _ us hl => match us, hl with | [_], _ => rfl
  have b15 := FunD.bindsN (ps := ["_law_row_here", "_law_at", "_law_told"]) F15 fun _ _ _ _ _ _ us hl => match us, hl with | [_, _, _], _ => rfl
  have b16 := FunD.bindsN (ps := ["_law_row_here", "_law_size"]) F16 fun _ _ _ _ _ _ us hl => match us, hl with | [_, _], _ => rfl
  have b := FunD.bindsA (ps := ["_law_script"]) F17 fun _ _ _ _ _ _ us hl => match us, hl with | [_], _ => rfl
  refine ⟨fd17, fun s v => b s [v] rfl, fun base _ _ => ?_⟩
  have GW := ok_whole (P := P) (w := w) (mg := mg) (base := base) F0 (free 29 "isinstance" rfl) (free 30 "int" rfl) (free 31 "bool" rfl)
  have GN := ok_needRow (P := P) (w := w) (mg := mg) (base := base) F6 GW b0 F0.kp (glo 5 "is_whole" rfl) XT_NoRow XT_NoSize g_MOST_OF_ROW g_HIGHEST_OF_ROW g_HIGHEST_END (free 29 "isinstance" rfl) (free 33 "list" rfl) (free 35 "len" rfl)
  have GE := ok_ends (P := P) (w := w) (mg := mg) (base := base) F7 (free 33 "list" rfl) (free 34 "range" rfl) (free 32 "abs" rfl)
  have GY := ok_ways (P := P) (w := w) (mg := mg) (base := base) F8 GE b7 F7.kp (glo 12 "ends_of" rfl)
  have GLa := la_told (ok_labelAt (P := P) (w := w) (mg := mg) (base := base) F4 GN b6 F6.kp (glo 11 "need_row" rfl) GY b8 F8.kp (glo 13 "ways_to" rfl) GW b0 F0.kp (glo 5 "is_whole" rfl) GE b7 F7.kp (glo 12 "ends_of" rfl) XP (free 40 "enumerate" rfl) (free 39 "tuple" rfl))
  have GPo := po_told (ok_placeOf (P := P) (w := w) (mg := mg) (base := base) F5 GN b6 F6.kp (glo 11 "need_row" rfl) GY b8 F8.kp (glo 13 "ways_to" rfl) GW b0 F0.kp (glo 5 "is_whole" rfl) GE b7 F7.kp (glo 12 "ends_of" rfl) XP (free 40 "enumerate" rfl) (free 39 "tuple" rfl) (free 29 "isinstance" rfl) (free 35 "len" rfl) (free 37 "sum" rfl))
  have GCt := ct_told (ok_counted (P := P) (w := w) (mg := mg) (base := base) F1 GN b6 F6.kp (glo 11 "need_row" rfl) GY b8 F8.kp (glo 13 "ways_to" rfl))
  have GBo := ct_told (ok_byOff (P := P) (w := w) (mg := mg) (base := base) F2 GN b6 F6.kp (glo 11 "need_row" rfl) (free 34 "range" rfl))
  have GLb := ok_labels (P := P) (w := w) (mg := mg) (base := base) F3 (FnOk.told GN) b6 F6.kp (glo 11 "need_row" rfl) GY b8 F8.kp (glo 13 "ways_to" rfl) GE b7 F7.kp (glo 12 "ends_of" rfl) (free 40 "enumerate" rfl) g_MOST_LABELS
  have GPn := ok_pen (P := P) (w := w) (mg := mg) (base := base) F9 (free 33 "list" rfl)
  have GD := ok_draw (P := P) (w := w) (mg := mg) (base := base) F10 (free 35 "len" rfl)
  have GR := ok_row (P := P) (w := w) (mg := mg) (base := base) F12 GD b10 F10.kp (glo 15 "_law_draw" rfl) (free 34 "range" rfl)
  have GJ := ok_joints (P := P) (w := w) (mg := mg) (base := base) F11 (free 33 "list" rfl) (free 34 "range" rfl) (free 32 "abs" rfl)
  have GM := ok_mixed (P := P) (w := w) (mg := mg) (base := base) F13 GD b10 F10.kp (glo 15 "_law_draw" rfl) (free 34 "range" rfl) (free 35 "len" rfl) (free 33 "list" rfl)
  have GA := ok_allC (P := P) (w := w) (mg := mg) (base := base) F14 F1 GCt (glo 6 "counted" rfl) (free 34 "range" rfl) (free 37 "sum" rfl) (free 41 "dict" rfl)
  have GC := ok_cut (P := P) (w := w) (mg := mg) (base := base) F15 GA b14 F14.kp (glo 19 "_law_all_counts" rfl) GJ b11 F11.kp (glo 16 "_law_joints" rfl)
  have GL := ok_listed (P := P) (w := w) (mg := mg) (base := base) F16 F3 GLb (glo 8 "labels" rfl) F4 GLa (glo 9 "label_at" rfl) F5 GPo (glo 10 "place_of" rfl) F2 GBo (glo 7 "counted_by_offsets" rfl) (free 34 "range" rfl) (free 35 "len" rfl) (free 38 "sorted" rfl) (free 42 "set" rfl)
  exact ok_law F17 ⟨GPn, b9, F9.kp, (glo 14 "_law_pen" rfl), GD, b10, F10.kp, (glo 15 "_law_draw" rfl), GR, b12, F12.kp, (glo 17 "_law_row" rfl), GM, b13, F13.kp, (glo 18 "_law_mixed" rfl), GA, b14, F14.kp, (glo 19 "_law_all_counts" rfl), GC, b15, F15.kp, (glo 20 "_law_cut_right" rfl), GL, b16, F16.kp, (glo 21 "_law_listed" rfl), (free 34 "range" rfl), (free 35 "len" rfl), (free 37 "sum" rfl), (free 30 "int" rfl)⟩
end TC
open PySem PySem.W PySem.Calls PyProof.Rows
set_option maxHeartbeats 0 in
theorem PySem.Challenge.cw_turncouple_k40_whole_rows_parted_and_exc_holds : PySem.Challenge.rw_turncouple_k40_whole_rows_parted_and_exc.Holds := by
  refine lookAt fun said => ?_
  refine HandSHeadRun.head_any (r := OpenLaw.row PySem.Challenge.rw_turncouple_k40_whole_rows_parted_and_exc) (q := view (OpenLaw.row PySem.Challenge.rw_turncouple_k40_whole_rows_parted_and_exc).prog [30]) (H := TC.hk) (ob := TC.ob) (M := 30000) (loose := TC.loose) (d := HandSHeadRun.topDef (OpenLaw.row PySem.Challenge.rw_turncouple_k40_whole_rows_parted_and_exc).prog 30) (kwd := []) TC.ob_eq
    (by kernel_rfl) (fun s => by kernel_rfl) TC.run (by kernel_rfl) (by kernel_rfl) (by kernel_rfl) (by rfl) (by first | assumption | decide +kernel) (by decide +kernel) ⟨rfl, rfl, rfl, rfl, rfl, by decide +kernel⟩ ?hw ?hc
  case hw => w_witness2
  case hc =>
    refine L2.walk_ofE (l := PySem.Challenge.rw_turncouple_k40_whole_rows_parted_and_exc) (n := 63) (k := 6) (x := "_law_script") (CX := L2.CX0) rfl (by decide) (by kernel_rfl) ⟨rfl, by decide, by decide⟩ ?F (fun _ _ _ _ z => z)
    intro w mg fa h Y G hmg0
    obtain ⟨K, KX, sx⟩ := Y
    have hmg : mg ("law" : PySem.Str) = some (.ref fa) := by
      have e : (HandSHeadRun.topDef (OpenLaw.row PySem.Challenge.rw_turncouple_k40_whole_rows_parted_and_exc).prog 30).name = ("law" : PySem.Str) := by kernel_rfl
      rw [← e]
      exact hmg0
    obtain ⟨fd, hb, hF⟩ := TC.facts (P := (PySem.Challenge.rw_turncouple_k40_whole_rows_parted_and_exc).prog) (w := w) KX G hmg sx
    exact ⟨K, fd, TC.spLaw K, KX, hb, fun H a ns hl _ hS => ⟨a, ns, rfl, hS, hl, fun _ => rfl⟩, hF⟩
