import PyProof.Rows.All
import Wide.All
import OpenK.AllK
import Wide.FinOn
import KE.KIsAll
import KE.KTryMore
import HandS.ForMost
import HandS.ForExc
import HandS.Defaults
import HandS.ExcIs
import HandS.Lambda
import HandS.Codes
import HandS.Conv
import HandS.More
import HandS.Walk
import HandS.EndTab
import HandS.HeadWalk
import PyProof.ReprRoads
import PyProof.ListRange
import HandS.HeadHook1
import HandS.HeadHook2
import HandS.HeadHook3
import HandS.HeadHook4
import KE.KStateDown
import Lean
import HandS.IsInst
import HandS.Head0
import HandS.Head1
import HandS.Head2
import HandS.HeadEnd
import KE.GoesMore
import KE.GoesEnum
import KE.KFmtOwn
import PyProof.InstEq
import HandS.OwnEq
import HandS.Wide
import HandS.WideMore
import HandS.DictComp
import HandS.TupAny
import HandS.SortInts
import HandS.List
import HandS.Base
import HandS.Star
import HandS.RevRange
import HandS.Style
import PyProof.ReprLen
import HandS.TryOnly
import HandS.FStr
import OpenK.KOps
import PySem.Challenge.RW_turncouple_k04_quotients
set_option Elab.async false
set_option linter.all false
set_option maxRecDepth 100000
set_option maxHeartbeats 4000000
/-! Exceptions that are caught, kept in a name and asked of later. -/
namespace TCX
open PySem PySem.Spec PyProof.Rows L2
/-! ### a clause that names five classes -/
section
open PySem.W
variable {M : Model} {K : Frag}
theorem exm_tup5 {c1 c2 c3 c4 c5 cls : Value} {tp e : Addr} {b : Bool} {h : Heap} (X : K.In h) (LT : Looks M h (typeOf (.ref e)) cls) (hp : h.get? tp = some { cls := .type "tuple", data := .seq [c1, c2, c3, c4, c5].toArray }) (hx : exmAny K cls [c1, c2, c3, c4, c5] = some b) :
    Looks M h (excMatches (.ref e) (.ref tp)) b := by
  intro A Q E s k₀ q
  obtain ⟨hh, g, d, tk, os⟩ := s
  have k : ∀ b o, h.get? b = some o → hh.get? b = some o := k₀
  have T0 : Looks M h (isInstance (.ref tp) (.type "tuple")) true := ((Looks.ld hp).andThen .now).andThen (Looks.of_pure isSubtype_tuple_tuple)
  have T1 := T0.keeps k
  have TY := LT.keeps k
  have hp' := k _ _ hp
  obtain ⟨b1, d1, x1, y1, z1⟩ := exmAny_cons hx
  obtain ⟨b2, d2, x2, y2, z2⟩ := exmAny_cons y1
  obtain ⟨b3, d3, x3, y3, z3⟩ := exmAny_cons y2
  obtain ⟨b4, d4, x4, y4, z4⟩ := exmAny_cons y3
  obtain ⟨b5, d5, x5, y5, z5⟩ := exmAny_cons y4
  have u1 := (exm_cls (M := M) X x1).1.keeps k
  have v1 := (exm_cls (M := M) X x1).2.keeps k
  have u2 := (exm_cls (M := M) X x2).1.keeps k
  have v2 := (exm_cls (M := M) X x2).2.keeps k
  have u3 := (exm_cls (M := M) X x3).1.keeps k
  have v3 := (exm_cls (M := M) X x3).2.keeps k
  have u4 := (exm_cls (M := M) X x4).1.keeps k
  have v4 := (exm_cls (M := M) X x4).2.keeps k
  have u5 := (exm_cls (M := M) X x5).1.keeps k
  have v5 := (exm_cls (M := M) X x5).2.keeps k
  have w5 : some false = some d5 := y5
  cases w5
  subst z1 z2 z3 z4 z5
  unfold excMatches
  refine wpAny_bind (T1.at ?_)
  dsimp only
  rw [if_pos rfl]
  first
    | refine wpAny_bind (wpAny_seqItems hp' rfl ?_)
    | refine wpAny_bind (wpAny_bind (wpAny_seqItems hp' rfl (wpAny_pure ?_)))
  dsimp only [Option.getD_some, Option.getD]
  cases b1 <;> cases b2 <;> cases b3 <;> cases b4 <;> cases b5 <;> ((repeat (first | simp only [List.forIn_cons, List.forIn_nil, Bool.not_true, Bool.false_eq_true, if_false, if_true] | lk)); exact q)
end
/-- the test t of a clause, asked while an exception of the class cls is handled: it says b -/
def Tst (X : Cx) (t : Expr) (cls : Value) (b : Bool) : Prop :=
  ∀ (a : Addr) (oe : Obj) (pn : List (Addr × Obj)) (σ : L2.St) (H : Hp) (s : Shared) (Q : Bool → Shared → Prop) (E : Value → Shared → Prop),
    Inv (X.suite a ((a, oe) :: pn)) [] σ H s → oe.cls = cls → (∀ h', (∀ q o, s.heap.get? q = some o → h'.get? q = some o) → Q b { s with heap := h' }) →
    wpAny (model X.prog X.w) (X.A.mark (some (.ref a))) (eval t X.env) (fun c s₁ => wpAny (model X.prog X.w) (X.A.mark (some (.ref a))) (excMatches (.ref a) c) Q E s₁) E s
section
variable {X : Cx}
theorem suite_ty {a : Addr} {oe : Obj} {pn : List (Addr × Obj)} {σ : L2.St} {H : Hp} {s : Shared} (I : Inv (X.suite a ((a, oe) :: pn)) [] σ H s) : PySem.W.Looks (model X.prog X.w) s.heap (typeOf (.ref a)) oe.cls := by
  obtain ⟨hget, _⟩ := I.pin (a, oe) (List.mem_append.mpr (.inl List.mem_cons_self))
  exact fun A Q E s k q => wpAny_typeOf_ref (k _ _ hget) q
theorem ld_names {a : Addr} {oe : Obj} {pn : List (Addr × Obj)} {σ : L2.St} {H : Hp} {s : Shared} {x : Str} {c : Value} {np : Pos} {Q : Value → Shared → Prop} {E : Value → Shared → Prop} (hc : Names X x c) (I : Inv (X.suite a ((a, oe) :: pn)) [] σ H s) (q : Q c s) :
    wpAny (model X.prog X.w) (X.A.mark (some (.ref a))) (eval (.Name x np) X.env) Q E s := by
  obtain ⟨hg, hdbg, hm | ⟨hm, hv, hnn⟩⟩ := hc
  · exact ld_glob (X := X.suite a ((a, oe) :: pn)) I hg hm q hdbg
  · exact ld_blt (X := X.suite a ((a, oe) :: pn)) I hg hm hv q hnn hdbg
theorem tst_name {x : Str} {c cls : Value} {np : Pos} {b : Bool} (hc : Names X x c) (he : PySem.W.exmOne X.K cls c = some b) : Tst X (.Name x np) cls b := by
  intro a oe pn σ H s Q E I e q
  subst e
  exact ld_names hc I ((PySem.W.exm_one I.kIn (suite_ty I) he).here (q s.heap fun _ _ z => z))
theorem tst_tup4 {x1 x2 x3 x4 : Str} {c1 c2 c3 c4 cls : Value} {p1 p2 p3 p4 tpos : Pos} {kk : Nat} {b : Bool} (n1 : Names X x1 c1) (n2 : Names X x2 c2) (n3 : Names X x3 c3) (n4 : Names X x4 c4) (he : PySem.W.exmAny X.K cls [c1, c2, c3, c4] = some b) :
    Tst X (.Tuple [.Name x1 p1, .Name x2 p2, .Name x3 p3, .Name x4 p4] kk tpos) cls b := by
  intro a oe pn σ H s Q E I e q
  subst e
  refine wpAny_Tuple ?_
  refine wpAny_items_cons (ld_names n1 I ?_)
  refine wpAny_items_cons (ld_names n2 I ?_)
  refine wpAny_items_cons (ld_names n3 I ?_)
  refine wpAny_items_cons (ld_names n4 I ?_)
  refine wpAny_items_nil ⟨by size_fits, ?_⟩
  have kp : ∀ q o, s.heap.get? q = some o → (s.heap.push { cls := .type "tuple", data := .seq [c1, c2, c3, c4].toArray }).get? q = some o := fun _ _ z => Heap.get?_push_of_some _ z
  exact (PySem.W.exm_tup4 (I.kIn.keeps kp) ((suite_ty I).keeps kp) (Heap.get?_push_size s.heap rfl) he).here (q _ kp)
theorem tst_tup5 {x1 x2 x3 x4 x5 : Str} {c1 c2 c3 c4 c5 cls : Value} {p1 p2 p3 p4 p5 tpos : Pos} {kk : Nat} {b : Bool} (n1 : Names X x1 c1) (n2 : Names X x2 c2) (n3 : Names X x3 c3) (n4 : Names X x4 c4) (n5 : Names X x5 c5) (he : PySem.W.exmAny X.K cls [c1, c2, c3, c4, c5] = some b) :
    Tst X (.Tuple [.Name x1 p1, .Name x2 p2, .Name x3 p3, .Name x4 p4, .Name x5 p5] kk tpos) cls b := by
  intro a oe pn σ H s Q E I e q
  subst e
  refine wpAny_Tuple ?_
  refine wpAny_items_cons (ld_names n1 I ?_)
  refine wpAny_items_cons (ld_names n2 I ?_)
  refine wpAny_items_cons (ld_names n3 I ?_)
  refine wpAny_items_cons (ld_names n4 I ?_)
  refine wpAny_items_cons (ld_names n5 I ?_)
  refine wpAny_items_nil ⟨by size_fits, ?_⟩
  have kp : ∀ q o, s.heap.get? q = some o → (s.heap.push { cls := .type "tuple", data := .seq [c1, c2, c3, c4, c5].toArray }).get? q = some o := fun _ _ z => Heap.get?_push_of_some _ z
  exact (exm_tup5 (I.kIn.keeps kp) ((suite_ty I).keeps kp) (Heap.get?_push_size s.heap rfl) he).here (q _ kp)
end
/-! ### a caught exception that is tracked from now on -/
/-- at a stands an exception of the class cls, its own dict d -/
def ExV (cls : Value) (d : Option Addr) (a : Addr) : HO := .ext fun h => ∃ (oe : Obj) (vs : Array Value), h.get? a = some oe ∧ Zc cls d oe ∧ oe.data = .fields vs
theorem exV_ok {P : Program} {w : World} {H : Hp} {h : Heap} {a : Addr} {cls : Value} {d : Option Addr} {oe : Obj} {vs : Array Value} (e : h.get? a = some oe) (z : Zc cls d oe) (hd : oe.data = .fields vs) : ObjOk P w H h a (ExV cls d a) :=
  ⟨⟨oe, vs, e, z, hd⟩, ⟨oe, e⟩, fun _ _ ⟨o, v, q, r⟩ k => ⟨o, v, k o q, r⟩⟩
theorem flyZ_keeps {B h h' : Heap} {l : List Env} {e : Addr} {Z : Obj → Prop} (R : HandSPX.FlyingZ B l e Z h) (k : ∀ b o, h.get? b = some o → h'.get? b = some o) : HandSPX.FlyingZ B l e Z h' := by
  obtain ⟨f1, f2, f3, oe, ws, T, oT, ts, he, hz, hd, h1, hn, hne, hT, hdT, h3⟩ := R
  exact ⟨fun b o q => k b o (f1 b o q), f2, f3.of_keeps fun b o q _ => ⟨o, k b o q, rfl⟩, oe, ws, T, oT, ts, k _ _ he, hz, hd, h1, hn, hne, k _ _ hT, hdT, h3⟩
section
variable {X : Cx} {pins : List (Addr × Obj)} {σ : L2.St} {H : Hp} {s : Shared}
theorem Inv_track {a : Addr} {cls : Value} {d : Option Addr} {oe : Obj} {vs : Array Value} (I : Inv X pins σ H s) (h0 : X.s_0.heap.get? a = none) (na : H a = none) (he : s.heap.get? a = some oe) (hz : Zc cls d oe) (hd : oe.data = .fields vs) (nL : a ≠ X.env.locals) (nP : ∀ p ∈ X.pn ++ pins, p.1 ≠ a) :
    Inv X pins σ (upd H a (ExV cls d a)) s := by
  have nS : ∀ b u, H b = some u → b ≠ a := fun b u e => ne_of_none e na
  refine ⟨I.ok, I.os, I.bare, ⟨I.base.keep, I.base.slot, fun b o e n hx => ?_, I.base.there, fun b xs e => ?_, fun b o u e => ?_, fun b ps e => ?_⟩, I.loc, I.cell, ?_, fun x c e => ?_, fun p hp => ?_, fun b u e => ?_, I.len⟩
  · rw [upd_ne (fun z => by rw [z, h0] at e; cases e)]
    exact I.base.free b o e n hx
  · have q := I.base.tups b xs e
    rw [upd_ne (nS _ _ q)]
    exact q
  · have q := I.base.frzs b o u e
    rw [upd_ne (nS _ _ q)]
    exact q
  · obtain ⟨m, q⟩ := I.base.tbls b ps e
    exact ⟨m, by rw [upd_ne (nS _ _ q)]; exact q⟩
  · rw [upd_ne (Ne.symm nL)]
    exact I.free
  · obtain ⟨v, o, ho, hdc⟩ := I.cell x c e
    rw [upd_ne (fun z => by
      rw [z, he] at ho
      cases ho
      rw [hd] at hdc
      cases hdc)]
    exact I.freeC x c e
  · obtain ⟨e, n, ne, nf, dd⟩ := I.pin p hp
    exact ⟨e, by rw [upd_ne (nP p hp)]; exact n, ne, nf, dd⟩
  · by_cases hb : b = a
    · subst hb
      rw [upd_same] at e
      cases e
      exact exV_ok he hz hd
    · rw [upd_ne hb] at e
      exact (I.hok b u e).stay (fun c v _ q => q) (fun c q => by rw [upd_ne (nS _ _ q)]; exact q) fun c xs q => by rw [upd_ne (nS _ _ q)]; exact q
theorem Inv_suite0 {a : Addr} (I : Inv X pins σ H s) : Inv (X.suite a (X.pn ++ pins)) [] σ H s :=
  ⟨I.ok.suite _ _, I.os, I.bare, I.base, I.loc, I.cell, I.free, I.freeC, fun p hp => I.pin p (by rw [List.append_nil] at hp; exact hp), I.hok, I.len⟩
theorem Inv_unsuite0 {a : Addr} {pn' : List (Addr × Obj)} (I : Inv (X.suite a (X.pn ++ pins)) pn' σ H s) (ok : X.Ok) : Inv X pins σ H s :=
  ⟨ok, I.os, I.bare, I.base, I.loc, I.cell, I.free, I.freeC, fun p hp => I.pin p (List.mem_append_left _ hp), I.hok, I.len⟩
end
/-- the ends of a suite whose name's slot i is emptied behind it -/
def endsAs (i : Nat) (D : Ends) : Ends := { nx := fun σ' H' => D.nx (σ'.set i none) H', rt := D.rt, bk := fun σ' H' => D.bk (σ'.set i none) H', ct := fun σ' H' => D.ct (σ'.set i none) H' }
/-- what the clauses wish: each has its classes, its name's slot, its suite -/
def wKeep (K : PySem.W.Frag) (D : Ends) : List (List Value × Nat × (Addr → Value → Option Addr → TS)) → WX
  | [] => fun _ _ _ _ => False
  | (cs, i, ts) :: r => fun cls d σ H => ∃ b, PySem.W.exmAny K cls cs = some b ∧ (b = true → ∀ a, H a = none → ts a cls d (endsAs i D) (σ.set i (some (.ref a))) (upd H a (ExV cls d a))) ∧ (b = false → wKeep K D r cls d σ H)
inductive HdK (X : Cx) : List ExceptHandler → List (List Value × Nat × (Addr → Value → Option Addr → TS)) → Prop
  | nil : HdK X [] []
  | cons {t : Expr} {n : Str} {i : Nat} {cs : List Value} {ts : Addr → Value → Option Addr → TS} {b₀ : Stmt} {suite : List Stmt} {pos' : Pos} {hds : List ExceptHandler} {l : List (List Value × Nat × (Addr → Value → Option Addr → TS))}
      (ht : ∀ cls b, PySem.W.exmAny X.K cls cs = some b → Tst X t cls b) (hi : X.N[i]? = some n) (hln : X.env.kindOf n = some .local)
      (hsu : ∀ (a : Addr) (cls : Value) (d : Option Addr) (pn : List (Addr × Obj)), PSs (X.suite a pn) (b₀ :: suite) (ts a cls d)) (r : HdK X hds l) :
      HdK X (.ExceptHandler (some t) (some n) (b₀ :: suite) pos' :: hds) ((cs, i, ts) :: l)
section
variable {X : Cx} {body : List Stmt} {h₀ : ExceptHandler} {hds : List ExceptHandler} {l : List (List Value × Nat × (Addr → Value → Option Addr → TS))} {pos : Pos} {tb : WX → TS}
theorem ps_try_keep (hs : X.stack = X.env :: X.outer) (hf : X.env.frame = some X.env.locals) (hex : X.ex = []) (hN : X.N.Nodup)
    (hb : ∀ (W : WX) (pn : List (Addr × Obj)) (xe : Value → Shared → Prop), Takes (X.tr pn xe) W → PassesOwn (model X.prog X.w) X.A X.env xe → PSs (X.tr pn xe) body (tb W))
    (hh : HdK X (h₀ :: hds) l) : PS X (.Try body (h₀ :: hds) [] [] pos) (fun D σ H => tb (fun cls d σ' H' => σ'.length = X.N.length → wKeep X.K D l cls d σ' H') D σ H) := by
  refine ⟨fun pins s σ H D I h => ?_⟩
  have ok := I.ok
  have hfr : X.A.frames = some (X.env :: X.outer) := by rw [ok.frames, hs]
  refine wpAny_Try_except ?_
  refine wpAny_mono ((hb (fun cls d σ' H' => σ'.length = X.N.length → wKeep X.K D l cls d σ' H') (X.pn ++ pins) (fun e s₁ => wpAny (model X.prog X.w) X.A (noteFrame e X.env) (fun _ s₂ => wpAny (model X.prog X.w) X.A (setFlight e none) (fun _ s₃ =>
    wpAny (model X.prog X.w) X.A (handleBy e X.env (h₀ :: hds)) (SP X pins D) X.xe s₃) X.xe s₂) X.xe s₁) (fun u s' xx => ?_) PassesOwn.looking).run [] s σ H D (I.toTry _) h) (fun f s1 hsp => ?_) (fun e s1 he => he)
  · obtain ⟨a, B, sI, pins', σ', H', cls, d, rfl, J', nb, up, sky, na, os, ag, w⟩ := xx
    have J : Inv X pins σ' H' sI := J'.ofTry ok
    have sky' : Sky B (X.env :: X.outer) a (Zc cls d) X.env.locals s'.heap := by rw [← hs]; exact sky
    show wpAny (model X.prog X.w) X.A (noteFrame (.ref a) X.env) _ _ _
    refine Sky.land Zc.steady hfr hf sky' fun h3 fl3 up3 => ?_
    have notFr : ∀ {h : Heap} {o : Obj} {vs : Array Value}, h.FunFrames B (X.env :: X.outer) → h.get? a = some o → o.data = .fields vs → a ∉ frs (X.env :: X.outer) := fun {h o vs} ff e dd hm => by
      obtain ⟨_, o', e', hnf⟩ := ff.mem hm
      rw [e] at e'; cases e'
      exact hnf _ dd
    have nfr : a ∉ frs (X.env :: X.outer) := by
      obtain ⟨oe3, vs3, he3, hz3, hd3⟩ := fl3.there
      exact notFr fl3.2.2.1 he3 hd3
    have nL : a ≠ X.env.locals := fun z => nfr (List.mem_filterMap.mpr ⟨X.env, List.mem_cons_self, by rw [hf, z]⟩)
    have nF : a ∉ X.fs := fun hm => by
      obtain ⟨e, he, q⟩ := List.mem_filterMap.mp hm
      exact nfr (List.mem_filterMap.mpr ⟨e, List.mem_cons_of_mem _ he, q⟩)
    have nI : sI.heap.get? a = none := by
      cases e : sI.heap.get? a with
      | none => rfl
      | some o =>
        have z := nb a o e (by rw [hs]; exact nfr)
        rw [fl3.2.1] at z
        cases z
    have n0 : X.s_0.heap.get? a = none := by
      cases e : X.s_0.heap.get? a with
      | none => rfl
      | some o =>
        obtain ⟨o', z⟩ := J.base.there a o e (by rw [hex]; exact fun z => nomatch z)
        rw [nI] at z
        cases z
    have nP : ∀ p ∈ X.pn ++ pins, p.1 ≠ a := fun p hp z => by
      obtain ⟨e, _⟩ := J.pin p hp
      rw [z, nI] at e
      cases e
    have go : ∀ {hds' : List ExceptHandler} {l' : List (List Value × Nat × (Addr → Value → Option Addr → TS))}, HdK X hds' l' → wKeep X.K D l' cls d σ' H' → ∀ h3 : Heap, HandSPX.FlyingZ B (X.env :: X.outer) a (Zc cls d) h3 → sI.heap.UpToSlots h3 →
        wpAny (model X.prog X.w) X.A (handleBy (.ref a) X.env hds') (SP X pins D) X.xe { s' with heap := h3 } := by
      intro hds' l' hk
      induction hk with
      | nil =>
        intro w
        exact w.elim
      | @cons t n i cs ts b₀ suite pos' hds2 l2 ht hi hln hsu r ih =>
        intro w h3 fl3 up3
        obtain ⟨b, hb1, hyes, hno⟩ := w
        have J3 : Inv X pins σ' H' { s' with heap := h3 } := J.landed nb fl3.1 up3 os ag
        obtain ⟨oe3, vs3, he3, hz3, hd3⟩ := fl3.there
        have S3 := J3.suite he3 hd3 na nL nF
        refine wpAny_handleBy_cons (codeAny_handlers_test (ht cls b hb1 a oe3 _ _ _ _ _ _ S3 hz3.1 fun h4 kp => ?_)) (by intro q; cases q)
        have fl4 := flyZ_keeps fl3 kp
        have up4 : sI.heap.UpToSlots h4 := up3.trans (Heap.UpToSlots.of_keeps kp)
        cases b with
        | true =>
          refine codeAny_handlers_suite_as ?_
          refine HandSPX.lands_againZ (s := { s' with heap := h4 }) fl4 fun h5 fl5 up5 => ?_
          have J5 : Inv X pins σ' H' { s' with heap := h5 } := J.landed nb fl5.1 (up4.trans up5) os ag
          obtain ⟨oe5, vs5, he5, hz5, hd5⟩ := fl5.there
          have K5 : Inv X pins σ' (upd H' a (ExV cls d a)) { s' with heap := h5 } := Inv_track J5 n0 na he5 hz5 hd5 nL nP
          have S5 : Inv (X.suite a (X.pn ++ pins)) [] σ' (upd H' a (ExV cls d a)) { s' with heap := h5 } := Inv_suite0 K5
          refine store_ok (X := X.suite a (X.pn ++ pins)) (v := .ref a) S5 hN hi (.inl hln) rfl (fun s6 S6 => ?_) (.inr hln)
          refine wpAny_mono ((hsu a cls d (X.pn ++ pins)).run [] s6 _ _ _ S6 (hyes rfl a na)) (fun f s7 hsp => ?_) (fun _ _ z => False.elim z)
          have end_ : ∀ {σ6 : L2.St} {H6 : Hp} {Q : Shared → Prop}, Inv (X.suite a (X.pn ++ pins)) [] σ6 H6 s7 → (∀ s8, Inv X pins (σ6.set i none) H6 s8 → Q s8) →
              wpAny (model X.prog X.w) X.A (do bindName X.env n .none; unbindBehindTheSuite X.env n pos') (fun _ s8 => Q s8) X.xe s7 := fun {σ6 H6 Q} S6 hq => gone_ok (Inv_unsuite0 S6 ok) hN hi hln hq
          cases f with
          | next =>
            obtain ⟨σ6, H6, S6, q6⟩ := hsp
            exact end_ S6 fun s7 J7 => ⟨_, _, J7, q6⟩
          | brk =>
            obtain ⟨σ6, H6, S6, q6⟩ := hsp
            exact end_ S6 fun s7 J7 => ⟨_, _, J7, q6⟩
          | cont =>
            obtain ⟨σ6, H6, S6, q6⟩ := hsp
            exact end_ S6 fun s7 J7 => ⟨_, _, J7, q6⟩
          | ret u =>
            obtain ⟨v6, σ6, H6, S6, r6, q6⟩ := hsp
            exact end_ S6 fun s7 J7 => ⟨_, _, _, J7, r6, q6⟩
        | false =>
          show wpAny _ X.A (handleBy (.ref a) X.env hds2) _ _ _
          exact ih (hno rfl) h4 fl4 up4
    exact go hh (w J.len) h3 fl3 (up.trans up3)
  · cases f with
    | next =>
      obtain ⟨σ', H', J', q⟩ := hsp
      exact wpAny_execs_nil ⟨σ', H', J'.ofTry ok, q⟩
    | brk =>
      obtain ⟨σ', H', J', q⟩ := hsp
      exact ⟨σ', H', J'.ofTry ok, q⟩
    | cont =>
      obtain ⟨σ', H', J', q⟩ := hsp
      exact ⟨σ', H', J'.ofTry ok, q⟩
    | ret u =>
      obtain ⟨v, σ', H', J', r, q⟩ := hsp
      exact ⟨v, σ', H', J'.ofTry ok, r, q⟩
end
/-! ### isinstance of it -/
section
variable {X : Cx}
/-- isinstance(e, c), e a kept exception of an own class without fields -/
def rIsV (K : PySem.W.Frag) : List V → Hp → VK → Prop := fun xs H Q => ∃ (a D : Addr) (c : V) (cv : Value) (b : Bool), xs = [.ref a, c] ∧ H a = some (ExV (.ref D) none a) ∧ ExcC K D ∧ (∀ u, RelV c u → u = cv) ∧ PySem.W.kitOne K (.ref D) cv = some b ∧ Q (.bl b) H
theorem inst_of {pins : List (Addr × Obj)} {σ : L2.St} {H : Hp} {s : Shared} {a D : Addr} (I : Inv X pins σ H s) (h : H a = some (ExV (.ref D) none a)) : ∃ oe, PySem.W.InstAt s.heap a oe D none := by
  obtain ⟨⟨oe, vs, hget, hz, hv⟩, _, _⟩ := I.hok a _ h
  refine ⟨oe, ?_⟩
  obtain ⟨oc, od, oda, osl⟩ := oe
  obtain ⟨h1, h2⟩ := hz
  dsimp only at h1 h2 hv
  subst h1 h2 hv
  exact ⟨hget, rfl, rfl, trivial⟩
theorem call_isV : CallR X (.builtin "isinstance") (rIsV X.K) := by
  intro pins s σ H xs us Q I r h
  obtain ⟨a, D, c, cv, b, rfl, hH, C, hcv, e, q⟩ := h
  cases r with
  | cons rx rr =>
    cases rr with
    | cons rt rr =>
      cases rr
      cases rx
      have ec := hcv _ rt
      subst ec
      obtain ⟨oe, J⟩ := inst_of I hH
      exact PySem.W.kia_one (PySem.W.handS_kitx_exc C.hg C.hk C.hs C.hd C.ha C.hn C.ht C.hm) I.kIn J e (fun z => nomatch z) fun tk => ⟨.bl b, H, I.kept (t' := tk) fun _ _ z => z, rfl, q⟩
/-- xs.count(y), flat items -/
def rCount (K : PySem.W.Frag) : V → List V → Hp → VK → Prop := fun x xs H Q => ∃ (a : Addr) (ys : List V) (y : V), x = V.ref a ∧ xs = [y] ∧ SqL K H a ys ∧ flatV y = true ∧ ys.all flatV = true ∧ Q (.int ((ys.countP fun z => eqV z y : Nat) : Int)) H
theorem count_eqU {y : V} : ∀ {xs : List V} {us : List Value}, Vals xs us → xs.all flatV = true → us.countP (eqU y) = xs.countP fun z => eqV z y
  | _, _, .nil, _ => rfl
  | x :: xs, u :: us, .cons r t, f => by
    rw [List.all_cons, Bool.and_eq_true] at f
    rw [List.countP_cons, List.countP_cons, eqU_of r f.1, count_eqU t f.2]
theorem mt_count : MtR X "list.count" (rCount X.K) := by
  intro pins s σ H x xs v us Q I rx rxs h
  obtain ⟨a, ys, y, rfl, rfl, hs, fy, fys, q⟩ := h
  cases rx
  cases rxs with
  | cons ry rt =>
    rename_i uy ut
    cases rt
    obtain ⟨its, rv, ⟨⟨cls, dd, data, sl⟩, n, ho, hc, hdn, hd⟩, hlen⟩ := I.list hs
    simp only at hc hd
    subst hc hd
    refine call_meets PySem.F.slot_list_count ⟨_, ho, rfl⟩ PySem.F.entry_list_count (PySem.F.args_list_count_2 _ _)
      (SeqAt.list_countAt a its.toArray n dd sl uy (eqU y)) ⟨ho, fun u' hu' => mem_eqAt ry fy rv fys u' (by simpa using hu'), ?_⟩
    have ec : its.toArray.toList.countP (eqU y) = ys.countP fun z => eqV z y := count_eqU rv fys
    refine ⟨.int ((ys.countP fun z => eqV z y : Nat) : Int), H, I.tok _, ⟨s.toks, ?_⟩, q⟩
    rw [ec]
end
end TCX
/-! Defs that ask repr of lists and tuples: the guards of the calls around are told. -/
namespace TCX
open PySem PySem.Spec PyProof.Rows L2
/-- FnOk where no repr is under way -/
structure FnG (P : Program) (w : World) (K : PySem.W.Frag) (mg : Str → Option Value) (base : Heap) (CX : CXT) (k : Nat) (f : Addr) (fd : FuncData) (ps : List Str) (sp : Sp) : Prop where
  glen : ∀ vs H Q E, sp vs H Q E → vs.length = ps.length
  grun : ∀ (A : Around) (outer : List Env) (s : Shared) (H : Hp) (args : Args) (us : List Value) (vs : List V) (Q : VK) (E : XK), A.guards = some [] → Room k A → Env0 P w K mg base A outer s H → BindsTo s fd args (ps.zip us) → Vals vs us → sp vs H Q E →
    codeAny (model P w) A (.call (.ref f) args) (CR CX outer P w H s Q E) s
section
variable {P : Program} {w : World} {K : PySem.W.Frag} {mg : Str → Option Value} {base : Heap} {x qual : Str} {params : Arguments} {body : List Stmt} {scope : Scope} {dvs : List V} {kws : List (Str × V)} {f : Addr} {fd : FuncData} {CX : CXT} {N ps : List Str} {k : Nat} {sp : Sp}
theorem okG (F : FunD K x qual params body scope dvs kws f fd) (S : FnScope N ps scope) (len : ∀ vs H Q E, sp vs H Q E → vs.length = ps.length)
    (hbody : ∀ (cdv : Value) (A : Around) (outer : List Env) (s : Shared) (H : Hp) (vs : List V) (Q : VK) (E : XK), A.guards = some [] → Room k (A.deeper (envOfC qual scope s.heap.objs.size f cdv)) → sp vs H Q E →
      ∃ t, PSs (cxOf CX P w K mg base N qual scope f cdv A outer s H E) body t ∧ t { nx := fun _ H' => Q .non H', rt := Q } (L2.start N vs) H) : FnG P w K mg base CX (k + 1) f fd ps sp := by
  obtain ⟨oc, od, dV, kV, doc, pm, an, cdv, ct, osl, rfl, lk, hcd, _, _⟩ := F.ex
  exact ⟨len, fun A outer s H args us vs Q E hg hr e0 hb r hsp => LamX.run_ofS lk hcd S hr e0 hb r (len _ _ _ _ hsp) fun hr' => hbody cdv A outer s H vs Q E hg hr' hsp⟩
end
section
variable {X : Cx} {CX : CXT} {k : Nat} {f : Addr} {fd : FuncData} {ps : List Str} {sp : Sp} {E : XK} {x : Str} {p pos : Pos} {e : Expr} {es : List Expr} {t : TA} {dvs : List V} {ds : List Value}
/-- f(e, ..) of such a def -/
theorem pe_callG (F : FnG X.prog X.w X.K X.mg X.base CX k f fd ps sp) (hG : X.A.guards = some []) (hr : Room k X.A) (hg : Gl X x) (hm : X.mg x = some (.ref f)) (hk : PySem.W.keepIn X.K (.ref f) = true) (hb : L2.Binds X.K fd ps ds) (hd : Vals dvs ds) (hx : Passes CX X E)
    (ha : PA X (e :: es) t) (hdb : (x == ("__debug__" : Str)) = false := by decide) (he : starEach (e :: es) X.env = (false, eval e X.env) :: starEach es X.env := by rfl) (hpl : (backTo pos (starEach es X.env)).any (·.1) = false := by rfl) :
    PE X (.Call (.Name x p) (e :: es) [] pos) (tCall sp dvs E t) := by
  refine ⟨fun pins s σ H Q I h => wpAny_Call_Name_kw (ld_glob I hg hm ?_ hdb)⟩
  refine PySem.W.callWith_K (h₀ := X.base) I.ok.mod.kin hk (thn (ha.run pos pins s σ H _ I h) fun us s1 z => ?_) he hpl
  obtain ⟨vs, H1, I1, r, q⟩ := z
  refine ⟨I1.kIn, wpAny_call (codeAny_mono (F.grun X.A X.stack s1 H1 ⟨us, []⟩ (us ++ ds) (vs ++ dvs) Q E hG hr I1.env0 (hb s1 us I1.kIn ?_) (r.append hd) q) fun y s' hq => ?_)⟩
  · rw [← (r.append hd).length]
    exact F.glen _ _ _ _ q
  · match y, hq with
    | .error u, hq => exact hx pins σ H1 s1 u s' I1 hq
    | .ok (.ret u), hq => exact I1.after hq
    | .ok .next, hq => exact False.elim hq
    | .ok .brk, hq => exact False.elim hq
    | .ok .cont, hq => exact False.elim hq
/-- repr(x) of lists and tuples of data -/
theorem call_reprD (hG : X.A.guards = some []) (hu : X.A.units + 64 < cLine) : CallR X (.builtin "repr") (fun xs H Q => ∃ (a : Addr) (d : PyData), xs = [.ref a] ∧ Dp X.K H (.ref a) d ∧ d.showable = true ∧ d.hasDict = false ∧ d.depth ≤ 60 ∧ d.shown.length ≤ sizeLine ∧ Q (.str d.shown) H) := by
  intro pins s σ H xs us Q I r h
  obtain ⟨a, d, rfl, hd, hs, hn, hdp, hz, q⟩ := h
  rw [Vals.ref1 r]
  obtain ⟨as, hr⟩ := Dp.reads I d (.ref a) (.ref a) hd rfl
  exact repr_of_reads' hr hs (fun z => by rw [hn] at z; cases z) hG (by omega) (fun _ _ z => z) (fun h' u tk hk => ⟨.str d.shown, H, I.kept (t' := tk) hk, ⟨u, rfl⟩, q⟩) hz
theorem call_reprB : CallR X (.builtin "repr") (fun xs H Q => ∃ b : Bool, xs = [.bl b] ∧ Q (.str (if b then "True" else "False")) H) := by
  intro pins s σ H xs us Q I r h
  obtain ⟨b, rfl, q⟩ := h
  obtain ⟨u, rfl, rfl⟩ := vals1 r
  exact P.repr_of_bool ⟨.str (if b then "True" else "False"), H, I.tok _, ⟨_, rfl⟩, q⟩
end
/-! ### list(range(a, b, 2)) -/
theorem size2 {a b : Int} {n : Nat} (h : a < b) (hn : (b - a - 1) / 2 + 1 = n) : Builtin.Range.rangeSize a b 2 = n := by
  unfold Builtin.Range.rangeSize
  rw [if_pos (by decide), if_pos h, hn]
theorem size2_0 {a b : Int} (h : ¬ a < b) : Builtin.Range.rangeSize a b 2 = (0 : Nat) := by
  unfold Builtin.Range.rangeSize
  rw [if_pos (by decide), if_neg h]
  rfl
theorem small2 {a b : Int} (ha : -100000 ≤ a) (ha' : a < 100000) (hb : -100000 ≤ b) (hb' : b < 100000) : Builtin.Range.small a b 2 = true := by
  unfold Builtin.Range.small
  by_cases h : a < b
  · rw [size2 (n := ((b - a - 1) / 2 + 1).toNat) h (by omega)]
    simp only [Builtin.Range.rangeFitsLong, Bool.and_eq_true, Bool.or_eq_true, decide_eq_true_eq, beq_iff_eq, show (2 : Int) > 0 by decide, if_true]
    omega
  · rw [size2_0 h]
    simp only [Builtin.Range.rangeFitsLong, Bool.and_eq_true, Bool.or_eq_true, decide_eq_true_eq, beq_iff_eq, show (2 : Int) > 0 by decide, if_true]
    omega
/-- a, a + 2, .. : n of them -/
def upV (a : Int) (n : Nat) : List V := (List.range n).map fun i => V.int (a + (i : Nat) * 2)
theorem upV_length (a : Int) (n : Nat) : (upV a n).length = n := by rw [upV, List.length_map, List.length_range]
section
variable {X : Cx} {a b : Expr} {ta : TA}
def tLst2 (ta : TA) : TE := fun σ H Q => ta σ H fun vs H1 => ∃ (i j : Int) (n : Nat), vs = [.int i, .int j, .int 2] ∧ -100000 ≤ i ∧ i < 100000 ∧ -100000 ≤ j ∧ j < 100000 ∧ Builtin.Range.rangeSize i j 2 = n ∧ ∀ q, H1 q = none → Q (.ref q) (upd H1 q (.lst (upV i n)))
theorem pe_list2 {c : Expr} {p pos p2 pos2 : Pos} (hc : X.calm = true) (hgl : Gl X "list") (hml : X.mg "list" = none) (hgr : Gl X "range") (hmr : X.mg "range" = none) (ha : PA X [a, b, c] ta)
    (hs : starEach [a, b, c] X.env = (false, eval a X.env) :: starEach [b, c] X.env := by rfl) (hpl : (backTo pos2 (starEach [b, c] X.env)).any (·.1) = false := by rfl)
    (hs2 : starEach [Expr.Call (.Name "range" p2) [a, b, c] [] pos2] X.env = (false, eval (.Call (.Name "range" p2) [a, b, c] [] pos2) X.env) :: starEach [] X.env := by rfl) :
    PE X (.Call (.Name "list" p) [.Call (.Name "range" p2) [a, b, c] [] pos2] [] pos) (tLst2 ta) := by
  refine ⟨fun pins s σ H Q I h => ?_⟩
  refine Call_ (ld_blt I hgl hml boot_list (PyProof.Rows.callWith_type1 (args_cons ?_ hs2) hs2))
  refine Call_ (ld_blt I hgr hmr boot_range (PyProof.Rows.callWith_type1 (thn (ha.run pos2 pins s σ H _ I h) fun us s1 z => ?_) hs hpl))
  obtain ⟨vs, H1, I1, r1, i, j, n, rfl, i1, i2, j1, j2, hn, q⟩ := z
  match us, r1 with
  | [_, _, _], .cons ⟨t, rfl⟩ (.cons ⟨t', rfl⟩ (.cons ⟨t'', rfl⟩ .nil)) =>
    refine call_range_3 (by decide) (args_nil ?_) (Or.inl (PyProof.noPylong_of_log2 (by decide +kernel)))
    have I2 : Inv X pins σ H1 { s1 with heap := s1.heap.push { cls := .type "range", data := .fields #[.int i t, .int j t', .int 2 t''] } } := I1.kept (t' := s1.toks) fun b u e => Heap.get?_push_of_some _ e
    have nle : n ≤ 2 ^ 24 := by
      unfold Builtin.Range.rangeSize at hn
      rw [if_pos (by decide)] at hn
      by_cases z : i < j
      · rw [if_pos z] at hn
        omega
      · rw [if_neg z] at hn
        omega
    refine call_list_range (n := n) (I2.ok.hd hc) (IsRange.new _ _ _ _ _ _ _) (small2 i1 i2 j1 j2) hn nle fun h' tk acc c' hk e' hi => ?_
    have hv : Vals (upV i n) acc.toList := by
      have e : acc.toList.length = n := by rw [Array.length_toList]; exact hi.1
      rw [upV, ← e]
      refine vals_of_get acc.toList _ fun k u hj => ?_
      obtain ⟨y, rfl⟩ := hi.2 k u (by rw [← hj, Array.getElem?_toList])
      exact ⟨y, rfl⟩
    refine ⟨.ref _, upd H1 _ (.lst (upV i n)), I2.laid hk (Nat.le_refl _) (show ObjOk X.prog X.w _ _ _ (.lst (upV i n)) from ⟨?_, acc.toList, c', hv, ?_⟩), rfl, q _ (I2.hok.fresh (Nat.le_refl _))⟩
    · rw [upV_length, sizeLine_eq]
      omega
    · rw [Array.toArray_toList]
      exact e'
end
end TCX
/-! What the head tells of the program's exception classes. -/
namespace TCX
open PySem PySem.Spec PyProof.Rows L2
/-- what isinstance asks of the class at D -/
def excB (K : PySem.W.Frag) (D : Addr) : Bool :=
  He.eqO (PySem.W.findIn K (.ref D) "__getattribute__") (some (some (.builtin "BaseException.__getattribute__"))) && (He.eqO (PySem.W.findIn K (.ref D) "__getattr__") (some none) && (decide (PySem.W.subIn K (.ref D) (.type "BaseException") = some true) &&
    (PySem.W.hasDictIn K D && (He.eqO (PySem.W.findIn K (.ref D) "__class__") (some (some (.builtin "object.__class__"))) && (He.eqO (PySem.W.specialIn K (.builtin "object.__class__") "__get__") (some (some (.builtin "getset_descriptor.__get__"))) &&
      (decide (PySem.W.takesIn K (.builtin "object.__class__") = some true) && decide (PySem.W.mroIn K D (.type "object") = some true)))))))
theorem excB_ok {K : PySem.W.Frag} {D : Addr} (h : excB K D = true) : ExcC K D := by
  obtain ⟨h1, h⟩ := He.ba h
  obtain ⟨h2, h⟩ := He.ba h
  obtain ⟨h3, h⟩ := He.ba h
  obtain ⟨h4, h⟩ := He.ba h
  obtain ⟨h5, h⟩ := He.ba h
  obtain ⟨h6, h⟩ := He.ba h
  obtain ⟨h7, h8⟩ := He.ba h
  exact ⟨He.eqO_ok h1, He.eqO_ok h2, of_decide_eq_true h3, h4, He.eqO_ok h5, He.eqO_ok h6, of_decide_eq_true h7, of_decide_eq_true h8⟩
/-- the classes in the order in which _law_word asks for them -/
def clsN : List Str := (["Empty", "NoDeed", "NoHalf", "NoLinking", "NoNet", "NoNumber", "NoOffset", "NoQuestion", "NoRow", "NoSize", "NoStanding"] : List Str) ++ (["NoTable", "NoText", "NotParted", "NoTree", "NoTriple", "NoWay", "TooWide", "ByNought", "NoName", "NoPlace", "NothingDone"] : List Str)
def words : List Str := (["empty", "deed", "half", "linking", "net", "number", "offset", "question", "row", "size", "standing"] : List Str) ++ (["table", "text", "parted", "tree", "triple", "way", "wide", "nought", "name", "place", "done"] : List Str)
/-- of the 22 classes the at-th one alone is D's -/
def Kits (K : PySem.W.Frag) (D : Addr) (at_ : Nat) : Prop := clsN.map (fun x => PySem.W.kitOne K (.ref D) (.ref (He.ga K x))) = (List.range 22).map fun i => some (i == at_)
instance {K : PySem.W.Frag} {D : Addr} {n : Nat} : Decidable (Kits K D n) := inferInstanceAs (Decidable (_ = _))
theorem Kits.at {K : PySem.W.Frag} {D : Addr} {n : Nat} (h : Kits K D n) (i : Nat) {x : Str} (hx : clsN[i]? = some x) : PySem.W.kitOne K (.ref D) (.ref (He.ga K x)) = some (i == n) := by
  have e := congrArg (fun l : List (Option Bool) => l[i]?) h
  have hi : i < 22 := by
    obtain ⟨z, _⟩ := List.getElem?_eq_some_iff.mp hx
    exact Nat.lt_of_lt_of_eq z rfl
  simp only [List.getElem?_map, hx, Option.map_some] at e
  rw [List.getElem?_range hi] at e
  exact Option.some.inj e
structure Kind (K : PySem.W.Frag) (D : Addr) (n : Nat) : Prop where
  ec : ExcC K D
  kits : Kits K D n
  te : PySem.W.kitOne K (.ref D) (.ref (He.ga K "TurnError")) = some (decide (n < 18))
  ve : PySem.W.kitOne K (.ref D) (.type "ValueError") = some (decide (n < 18))
def excAll (K : PySem.W.Frag) (x : Str) (n : Nat) : Bool := excB K (He.ga K x) && (decide (Kits K (He.ga K x) n) && (decide (PySem.W.kitOne K (.ref (He.ga K x)) (.ref (He.ga K "TurnError")) = some (decide (n < 18))) && (decide (PySem.W.kitOne K (.ref (He.ga K x)) (.type "ValueError") = some (decide (n < 18))) &&
  decide (PySem.W.exmAny K (.ref (He.ga K x)) [.ref (He.ga K "TurnError")] = some (decide (n < 18))))))
theorem excAll_ok {K : PySem.W.Frag} {x : Str} {n : Nat} (h : excAll K x n = true) : Kind K (He.ga K x) n ∧ PySem.W.exmAny K (.ref (He.ga K x)) [.ref (He.ga K "TurnError")] = some (decide (n < 18)) := by
  obtain ⟨h1, h⟩ := He.ba h
  obtain ⟨h2, h⟩ := He.ba h
  obtain ⟨h3, h⟩ := He.ba h
  obtain ⟨h4, h5⟩ := He.ba h
  exact ⟨⟨excB_ok h1, of_decide_eq_true h2, of_decide_eq_true h3, of_decide_eq_true h4⟩, of_decide_eq_true h5⟩
/-- as Kind, of all the classes -/
structure KindF (K : PySem.W.Frag) (D : Addr) (n : Nat) : Prop where
  ec : ExcC K D
  kits : Kits K D n
  te : PySem.W.kitOne K (.ref D) (.ref (He.ga K "TurnError")) = some (decide (n < 18))
  ve : PySem.W.kitOne K (.ref D) (.type "ValueError") = some (decide (n < 18))
  kz : PySem.W.kitOne K (.ref D) (.type "ZeroDivisionError") = some (n == 18)
  ky : PySem.W.kitOne K (.ref D) (.type "KeyError") = some (n == 19)
  ki : PySem.W.kitOne K (.ref D) (.type "IndexError") = some (n == 20)
  kl : PySem.W.kitOne K (.ref D) (.type "LookupError") = some (decide (19 ≤ n))
  kt : PySem.W.kitAny K (.ref D) [.type "KeyError", .type "IndexError"] = some (n == 19 || n == 20)
  x5 : PySem.W.exmAny K (.ref D) [.ref (He.ga K "TurnError"), .ref (He.ga K "ByNought"), .ref (He.ga K "NoName"), .ref (He.ga K "NoPlace"), .ref (He.ga K "NothingDone")] = some true
def excAllF (K : PySem.W.Frag) (x : Str) (n : Nat) : Bool := excB K (He.ga K x) && (decide (Kits K (He.ga K x) n) && (decide (PySem.W.kitOne K (.ref (He.ga K x)) (.ref (He.ga K "TurnError")) = some (decide (n < 18))) && (decide (PySem.W.kitOne K (.ref (He.ga K x)) (.type "ValueError") = some (decide (n < 18))) &&
  (decide (PySem.W.kitOne K (.ref (He.ga K x)) (.type "ZeroDivisionError") = some (n == 18)) && (decide (PySem.W.kitOne K (.ref (He.ga K x)) (.type "KeyError") = some (n == 19)) && (decide (PySem.W.kitOne K (.ref (He.ga K x)) (.type "IndexError") = some (n == 20)) && (decide (PySem.W.kitOne K (.ref (He.ga K x)) (.type "LookupError") = some (decide (19 ≤ n))) &&
  (decide (PySem.W.kitAny K (.ref (He.ga K x)) [.type "KeyError", .type "IndexError"] = some (n == 19 || n == 20)) && decide (PySem.W.exmAny K (.ref (He.ga K x)) [.ref (He.ga K "TurnError"), .ref (He.ga K "ByNought"), .ref (He.ga K "NoName"), .ref (He.ga K "NoPlace"), .ref (He.ga K "NothingDone")] = some true)))))))))
theorem excAllF_ok {K : PySem.W.Frag} {x : Str} {n : Nat} (h : excAllF K x n = true) : KindF K (He.ga K x) n := by
  obtain ⟨h1, h⟩ := He.ba h
  obtain ⟨h2, h⟩ := He.ba h
  obtain ⟨h3, h⟩ := He.ba h
  obtain ⟨h4, h⟩ := He.ba h
  obtain ⟨h5, h⟩ := He.ba h
  obtain ⟨h6, h⟩ := He.ba h
  obtain ⟨h7, h⟩ := He.ba h
  obtain ⟨h8, h⟩ := He.ba h
  obtain ⟨h9, ha⟩ := He.ba h
  exact ⟨excB_ok h1, of_decide_eq_true h2, of_decide_eq_true h3, of_decide_eq_true h4, of_decide_eq_true h5, of_decide_eq_true h6, of_decide_eq_true h7, of_decide_eq_true h8, of_decide_eq_true h9, of_decide_eq_true ha⟩
/-- an own class over ZeroDivisionError -/
def zBase : List Value := [.type "ZeroDivisionError", .type "ArithmeticError", .type "Exception", .type "BaseException", .type "object"]
def excZ (K : PySem.W.Frag) (x : Str) : Bool := PySem.W.excIn K (He.ga K x) zBase "ZeroDivisionError.__new__" && (PySem.W.keepIn K (.ref (He.ga K x)) && (decide (PySem.W.subIn K (.ref (He.ga K x)) (.type "BaseException") = some true) && decide (PySem.W.typeIn K (.ref (He.ga K x)) = some (.type "type"))))
theorem excZ_ok {K : PySem.W.Frag} {x : Str} (h : excZ K x = true) : PySem.W.excIn K (He.ga K x) zBase "ZeroDivisionError.__new__" = true ∧ PySem.W.keepIn K (.ref (He.ga K x)) = true ∧ PySem.W.subIn K (.ref (He.ga K x)) (.type "BaseException") = some true ∧ PySem.W.typeIn K (.ref (He.ga K x)) = some (.type "type") := by
  obtain ⟨h1, h⟩ := He.ba h
  obtain ⟨h2, h⟩ := He.ba h
  obtain ⟨h3, h4⟩ := He.ba h
  exact ⟨h1, h2, of_decide_eq_true h3, of_decide_eq_true h4⟩
end TCX
namespace TC
open PySem PySem.Spec PyProof.Rows L2
/-! the text by places -/
def top (i : Nat) : Stmt := PySem.Challenge.pw_turncouple_k04_quotients.main.body.getD i (.Pass ⟨0, 0, 0, 0⟩)
abbrev sWhole : Stmt := top 28
abbrev sShared : Stmt := top 29
abbrev sLowest : Stmt := top 30
abbrev sSumLow : Stmt := top 31
abbrev sPrimesIn : Stmt := top 32
abbrev sSquares : Stmt := top 33
abbrev sPlus : Stmt := top 40
abbrev sTimes : Stmt := top 41
abbrev sOver : Stmt := top 42
abbrev sNeed : Stmt := top 43
abbrev sMerged : Stmt := top 44
abbrev sOneBottom : Stmt := top 45
abbrev sLowered : Stmt := top 46
abbrev sProducts : Stmt := top 47
abbrev sPrimesRoots : Stmt := top 48
abbrev sUpside : Stmt := top 49
abbrev sPen : Stmt := top 53
abbrev sDraw : Stmt := top 54
abbrev sWord : Stmt := top 55
abbrev sLow : Stmt := top 56
abbrev sCleared : Stmt := top 57
abbrev sSum : Stmt := top 58
abbrev sBy : Stmt := top 59
abbrev sCommon : Stmt := top 60
abbrev sProduct : Stmt := top 61
abbrev sParts : Stmt := top 62
abbrev sSome : Stmt := top 63
abbrev sLowerL : Stmt := top 64
abbrev sManyL : Stmt := top 65
abbrev sOverL : Stmt := top 66
abbrev sLaw : Stmt := top 67
abbrev sExact : Stmt := top 39
abbrev sInit : Stmt := inClass (top 38) 0
abbrev sEq : Stmt := inClass (top 38) 1
abbrev sStr : Stmt := inClass (top 38) 2
abbrev sRepr : Stmt := inClass (top 38) 3
abbrev FnP (K : PySem.W.Frag) (x : Str) (st : Stmt) (f : Addr) (fd : FuncData) : Prop := FunD K x x (defArgs st) (defBody st) (defScope st) [] [] f fd
/-- the primes below 1000 -/
def primes : List Int := [2, 3, 5, 7, 11, 13, 17, 19, 23, 29, 31, 37, 41, 43, 47, 53, 59, 61, 67, 71, 73, 79, 83, 89, 97, 101, 103, 107, 109, 113, 127, 131, 137, 139, 149, 151, 157, 163, 167, 173, 179, 181, 191, 193, 197, 199, 211, 223, 227, 229, 233, 239, 241, 251, 257, 263, 269, 271, 277, 281, 283, 293, 307, 311, 313, 317, 331, 337, 347, 349, 353, 359, 367, 373, 379, 383, 389, 397, 401, 409, 419, 421, 431, 433, 439, 443, 449, 457, 461, 463, 467, 479, 487, 491, 499, 503, 509, 521, 523, 541, 547, 557, 563, 569, 571, 577, 587, 593, 599, 601, 607, 613, 617, 619, 631, 641, 643, 647, 653, 659, 661, 673, 677, 683, 691, 701, 709, 719, 727, 733, 739, 743, 751, 757, 761, 769, 773, 787, 797, 809, 811, 821, 823, 827, 829, 839, 853, 857, 859, 863, 877, 881, 883, 887, 907, 911, 919, 929, 937, 941, 947, 953, 967, 971, 977, 983, 991, 997]
/-! the head: facts by names -/
def dd (x : Str) (st : Stmt) : He.DefD := ⟨(x, none), x, x, defArgs st, defBody st, defScope st, [], []⟩
def dm (m q : Str) (st : Stmt) : He.DefD := ⟨("Exact", some m), m, q, defArgs st, defBody st, defScope st, [], []⟩
def dExact : He.DefD := ⟨("exact", none), "exact", "exact", defArgs sExact, defBody sExact, defScope sExact, [], [("bottom", .int 1), ("root", .int 1)]⟩
def fn : List He.DefD := ([dm "__init__" "Exact.__init__" sInit, dm "__eq__" "Exact.__eq__" sEq, dExact, dd "is_whole" sWhole, dd "shared" sShared, dd "in_lowest" sLowest, dd "sum_in_lowest" sSumLow, dd "primes_in" sPrimesIn, dd "squares_out" sSquares, dd "plus" sPlus, dd "times" sTimes, dd "over" sOver, dd "need_exact" sNeed, dd "merged" sMerged, dd "on_one_bottom" sOneBottom, dd "lowered" sLowered] : List He.DefD) ++ ([dd "products" sProducts, dd "primes_of_roots" sPrimesRoots, dd "upside_down" sUpside, dd "_law_pen" sPen, dd "_law_draw" sDraw, dd "_law_word" sWord, dd "_law_low" sLow, dd "_law_cleared" sCleared, dd "_law_sum" sSum, dd "_law_by" sBy, dd "_law_common" sCommon, dd "_law_product" sProduct, dd "_law_parts" sParts, dd "_law_some" sSome, dd "_law_lower" sLowerL, dd "_law_many_primes" sManyL] : List He.DefD) ++ ([dd "_law_over" sOverL, dd "law" sLaw] : List He.DefD)
def fa : List He.Fa := ([.glo "Exact", .glo "exact", .glo "PRIMES", .int "HIGHEST_ROOT" 1000000, .int "MOST_PRIMES" 6, .cls "Exact", .noat "Exact" "parts", .mkr "Exact", .meth "Exact" "__eq__", .glo "is_whole", .glo "shared", .glo "in_lowest", .glo "sum_in_lowest", .glo "primes_in", .glo "squares_out", .glo "plus"] : List He.Fa) ++ ([.glo "times", .glo "over", .glo "need_exact", .glo "merged", .glo "on_one_bottom", .glo "lowered", .glo "products", .glo "primes_of_roots", .glo "upside_down", .glo "_law_pen", .glo "_law_draw", .glo "_law_word", .glo "_law_low", .glo "_law_cleared", .glo "_law_sum", .glo "_law_by"] : List He.Fa) ++ ([.glo "_law_common", .glo "_law_product", .glo "_law_parts", .glo "_law_some", .glo "_law_lower", .glo "_law_many_primes", .glo "_law_over", .glo "law", .glo "TurnError", .glo "NoNumber", .glo "NoSize", .glo "NoOffset", .glo "NoTriple", .glo "NoTable", .glo "TooWide", .glo "NoNet"] : List He.Fa) ++ ([.glo "NoRow", .glo "NoStanding", .glo "NoTree", .glo "NoWay", .glo "NoHalf", .glo "NoLinking", .glo "NoDeed", .glo "NoQuestion", .glo "Empty", .glo "NotParted", .glo "NoText", .glo "NoName", .glo "NoPlace", .glo "ByNought", .glo "NothingDone", .exc "NoNumber"] : List He.Fa) ++ ([.exc "TooWide", .free "isinstance", .free "int", .free "bool", .free "abs", .free "sorted", .free "list", .free "tuple", .free "len", .free "range", .free "dict", .free "any", .free "divmod", .free "enumerate", .free "str", .free "ValueError", .free "ZeroDivisionError", .free "KeyError", .free "IndexError", .free "LookupError"] : List He.Fa)
def others : List String := ["int", "NoneType", "str", "tuple", "list", "bool", "dict"]
/-- more facts: the tuple of primes, what == and isinstance ask of Exact -/
def exN (K : PySem.W.Frag) : Bool :=
  He.tupB K "PRIMES" (primes.map He.Dv.int) &&
  (He.eqO (PySem.W.findIn K (.ref (He.ga K "Exact")) "__ne__") (some (some (.builtin "object.__ne__"))) &&
  (He.eqO (PySem.W.findIn K (.ref (He.ga K "Exact")) "__class__") (some (some (.builtin "object.__class__"))) &&
  (He.eqO (PySem.W.specialIn K (.builtin "object.__class__") "__get__") (some (some (.builtin "getset_descriptor.__get__"))) &&
  (decide (PySem.W.takesIn K (.builtin "object.__class__") = some true) &&
  (decide (PySem.W.mroIn K (He.ga K "Exact") (.type "object") = some true) &&
  (others.all fun t => decide (PySem.W.subIn K (.type t) (.ref (He.ga K "Exact")) = some false) && decide (PySem.W.kitOne K (.type t) (.ref (He.ga K "Exact")) = some false)))))))
def exB (K : PySem.W.Frag) : Bool := exN K && (decide (PySem.W.kitOne K (.ref (He.ga K "Exact")) (.type "str") = some false) && (TCX.excAllF K "TooWide" 17 && (TCX.excAllF K "ByNought" 18 && TCX.excZ K "ByNought")))
def tf : List He.Defn := []
def hk : PySem.W.Hook := He.hookX 5 fa fn [] tf exB
abbrev R : PySem.W.OpenRow := PySem.W.OpenLaw.row PySem.Challenge.rw_turncouple_k04_quotients
def ob (s : PySem.W.SharedT) : He.AlX := He.obsX 5 fa fn [] tf exB (HandSHeadRun.getT s)
theorem ob_eq (s : PySem.W.SharedT) : ob s = hk.obs s.abs := He.obsX_eq (s := s.abs) (HandSHeadRun.getT_eq s)
def loose : List PySem.Str := (["TurnError", "NoNumber", "NoSize", "NoOffset", "NoTriple", "NoTable", "TooWide", "NoNet", "NoRow", "NoStanding", "NoTree", "NoWay", "NoHalf", "NoLinking", "NoDeed", "NoQuestion"] : List PySem.Str) ++ (["Empty", "NotParted", "NoText", "NoName", "NoPlace", "ByNought", "NothingDone", "PRIMES", "BLOCK_FIGURES", "BLOCK", "is_whole", "shared", "in_lowest", "sum_in_lowest", "primes_in", "squares_out"] : List PySem.Str) ++ (["figures", "HIGHEST_ROOT", "MOST_PRIMES", "Exact", "exact", "plus", "times", "over", "need_exact", "merged", "on_one_bottom", "lowered", "products", "primes_of_roots", "upside_down", "text_of"] : List PySem.Str) ++ (["text_of_part", "_law_pen", "_law_draw", "_law_word", "_law_low", "_law_cleared", "_law_sum", "_law_by", "_law_common", "_law_product", "_law_parts", "_law_some", "_law_lower", "_law_many_primes", "_law_over"] : List PySem.Str)
end TC
namespace TC
open PySem PySem.Spec PyProof.Rows L2
theorem run (w : World) : HandSHeadRun.RunEq R (PySem.W.view R.prog [67]) hk ob 30000 loose w := by
  intro os
  kernel_rfl
end TC
/-! Rules of my own: == and != by an own __eq__ with either answer, str of an instance, enumerate of a tuple. -/
namespace TCA
open PySem PySem.Spec PyProof.Rows L2
/-! ### enumerate(tuple) -/
theorem meets_enum1 {v : Value} {o : Obj} {H : Heap → Prop} (B : Begins v o H) :
    Meets (Builtin.«enumerate.__new__» ⟨[.type "enumerate", v], []⟩) (fun _ R s => H s.heap ∧
      R (.ok (.ret (.ref (s.heap.push o).objs.size))) { s with heap := (s.heap.push o).push { cls := .type "enumerate", data := .fields #[.none, .bool false, .ref s.heap.objs.size, rawInt 0, .none, .none] } }) :=
  .of_wp fun prog w A R s h => by
    obtain ⟨hp, g, d, tk, os⟩ := s; obtain ⟨h1, h⟩ := h
    have hsub := sub_enumerate
    have q1 : ∀ {A' : Around} {E : Value → Shared → Prop} {Q : Value → Shared → Prop}, Q (.ref hp.objs.size) ⟨hp.push o, g, d, tk, os⟩ → wpAny (model prog w) A' (pyIter v) Q E ⟨hp, g, d, tk, os⟩ :=
      fun q => B.iter prog w _ _ ⟨hp, g, d, tk, os⟩ _ h1 q
    wp_walk using q1
    refine wpAny_stack_any fun st => wpAny_pure ?_
    split
    · rename_i c _ _ _ _ _
      cases (c == Value.type "enumerate")
      · wp_walk using q1
        exact ⟨_, rfl, h⟩
      · wp_walk using q1
        exact ⟨_, rfl, h⟩
    · wp_walk using q1
      exact ⟨_, rfl, h⟩
theorem enum_begins1 {prog : Program} {w : World} {A : Around} {E : Value → Shared → Prop} {s : Shared} {v : Value} {o : Obj} {H : Heap → Prop} {Q : Value → Shared → Prop} (B : Begins v o H) (h1 : H s.heap)
    (h : ∀ h', IsEnum h' (s.heap.objs.size + 1) s.heap.objs.size 0 .none → h'.get? s.heap.objs.size = some o → h'.objs.size = s.heap.objs.size + 2 →
      (∀ b o, s.heap.get? b = some o → h'.get? b = some o) → Q (.ref (s.heap.objs.size + 1)) { s with heap := h' }) :
    wpAny (model prog w) A (call (.type "enumerate") [v]) Q E s := by
  refine callType_new F.called_enumerate (by decide) (F.typeCall_enumerate_1 _) (F.newCall_enumerate_1 _) (fun obj => F.args_object_init_2 obj _) F.entry_enumerate_new
    (meets_enum1 B) ⟨h1, ?_⟩
  have hz : (s.heap.push o).objs.size = s.heap.objs.size + 1 := Heap.size_push ..
  show _ ∧ _
  rw [hz]
  have he : IsEnum ((s.heap.push o).push { cls := .type "enumerate", data := .fields #[.none, .bool false, .ref s.heap.objs.size, rawInt 0, .none, .none] }) (s.heap.objs.size + 1) s.heap.objs.size 0 .none := by
    have := Heap.get?_push_size (s.heap.push o) (o := { cls := .type "enumerate", data := .fields #[.none, .bool false, .ref s.heap.objs.size, rawInt 0, .none, .none] }) rfl
    rw [hz] at this; exact this
  refine ⟨⟨_, he, rfl⟩, h _ he (Heap.get?_push_of_some _ (Heap.get?_push_size _ B.free)) (by rw [Heap.size_push, hz]) fun b o x => Heap.get?_push_of_some _ (Heap.get?_push_of_some _ x)⟩
/-- the tuple at a of xs, each item in a new pair -/
def Iet (K : PySem.W.Frag) (a : Addr) (xs : List V) : It :=
  ⟨fun i H => i < xs.length ∧ SqT K H a xs, fun i H v H' => ∃ T x, v = .ref T ∧ H T = none ∧ H' = upd H T (.tup [.int (i : Nat), x]) ∧ xs[i]? = some x, fun i H => xs.length ≤ i ∧ SqT K H a xs⟩
theorem turn_enumT {P : Program} {w : World} {K : PySem.W.Frag} {elts : List Expr} {kk : Nat} {tpos : Pos} (a e it : Addr) (xs : List V) :
    Turn P w K (.Tuple elts kk tpos) (Iet K a xs) [e, it] e (fun i h => (∃ old, IsEnum h e it ((i : Nat) : Int) old) ∧ h.IsTupleIter it a i ∧ e ≠ it ∧ a ≠ it ∧ e ≠ a ∧ i ≤ xs.length) where
  mem := by simp
  obj := fun i h st b hb => by
    obtain ⟨⟨old, he⟩, ⟨o, ho, hc, hd⟩, _⟩ := st
    have e' : b = e ∨ b = it := by simpa using hb
    rcases e' with z | z
    · rw [z]; exact ⟨_, he, fun v q => nomatch q⟩
    · rw [z]; exact ⟨o, ho, fun v q => by rw [hd] at q; cases q⟩
  keep := fun i h h' st k => let ⟨⟨old, he⟩, hi, hne⟩ := st; ⟨⟨old, k e (by simp) _ he⟩, hi.at fun o q => k it (by simp) o q, hne⟩
  item := by
    intro X hP hw hK hc i pins s σ H E I hf st hg
    subst hP hw hK
    obtain ⟨⟨old, he⟩, hit, hne, hai, hea, hle⟩ := st
    obtain ⟨hlt, hq⟩ := hg
    obtain ⟨its, rv, p, hz⟩ := I.tuple hq
    have hl := rv.length
    have hel : e < s.heap.objs.size := Heap.lt_size he
    have hil : it < s.heap.objs.size := by obtain ⟨_, q, _⟩ := hit; exact Heap.lt_size q
    have hh : X.A.in1.handled = none := I.ok.hd hc
    have D := Draws.tuple (prog := X.prog) (w := X.w) hh it a hai its.toArray
    refine wpAny_pyNext_enum_itemD D he ⟨hit, p⟩ (by simp; omega) hne (by simp; exact ⟨hne, hea⟩) fun u h' tk hu ho hst hT hsz hk => ?_
    obtain ⟨hit', _⟩ := hst
    have hu2 : its[i]? = some u := by simpa using hu
    have hx : xs[i]? = some xs[i] := List.getElem?_eq_getElem hlt
    obtain ⟨u2, hu3, ru⟩ := rv.get hx
    have eu : u2 = u := Option.some.inj (hu3.symm.trans hu2)
    subst eu
    refine ⟨_, rfl, wpAny_letOwnedTupleGo_enum (s := { s with heap := h', toks := tk + 1 }) ho fun h'' he' sb => ?_⟩
    have hT2 : h''.get? s.heap.objs.size = some { cls := .type "tuple", data := .seq #[.int i tk, u2] } := (sb.2 _ (Nat.ne_of_gt hel)).trans hT
    have new : ObjOk X.prog X.w (upd H s.heap.objs.size (.tup [.int (i : Nat), xs[i]])) h'' s.heap.objs.size (.tup [.int (i : Nat), xs[i]]) :=
      ⟨by show 2 ≤ sizeLine; decide, [.int i tk, u2], .cons ⟨_, rfl⟩ (.cons ru .nil), ⟨_, hT2, rfl, _, rfl⟩⟩
    have I1 : Inv X pins σ (upd H s.heap.objs.size (.tup [.int (i : Nat), xs[i]])) { s with heap := h'', toks := tk + 1 } :=
      I.turnedNew (ch := [e, it]) (fun b ob hb q => (sb.2 b (fun z => hb (by simp [z]))).trans (hk b ob (fun z => hb (by simp [z])) (fun z => hb (by simp [z])) q)) hf (Nat.le_refl _) new
    refine ⟨.ref s.heap.objs.size, _, I1, rfl, ⟨_, xs[i], rfl, I.hok.fresh (Nat.le_refl _), rfl, hx⟩, ⟨⟨u2, ?_⟩, hit'.at fun o q => (sb.2 it (Ne.symm hne)).trans q, hne, hai, hea, hlt⟩, fun b hb => ?_⟩
    · have e1 : ((i + 1 : Nat) : Int) = (i : Int) + 1 := by omega
      rw [e1]; exact he'
    · have hb' : b < s.heap.objs.size := by
        have e' : b = e ∨ b = it := by simpa using hb
        rcases e' with z | z
        · rw [z]; exact hel
        · rw [z]; exact hil
      rw [upd_ne (Nat.ne_of_lt hb')]
      exact (hf b hb).1
  done := by
    intro X hP hw hK hc i pins s σ H E I hf st hg
    subst hP hw hK
    obtain ⟨⟨old, he⟩, hit, hne, hai, hea, hle⟩ := st
    obtain ⟨hge, hq⟩ := hg
    obtain ⟨its, rv, p, hz⟩ := I.tuple hq
    obtain ⟨f0, f1, f2, f3, f4, f5⟩ := hf it (by simp)
    have hl := rv.length
    have hh : X.A.in1.handled = none := I.ok.hd hc
    have D := Draws.tuple (prog := X.prog) (w := X.w) hh it a hai its.toArray
    have ei : i = its.toArray.size := by simp; omega
    subst ei
    exact wpAny_pyNext_enum_endD D he ⟨hit, p⟩ fun h' eb => ⟨rfl, I.turned (t' := s.toks) (fun b o hb q => eb b o hb q) f0 f1 f3 f4 f5⟩
  self := fun A i s Q E st h => let ⟨⟨_, he⟩, _⟩ := st; wpAny_pyIter_enum he h
def iEnumT (K : PySem.W.Frag) (ta : TA) : TI := fun σ H R => ta σ H fun vs H1 => ∃ a xs, vs = [.ref a] ∧ SqT K H1 a xs ∧ R (Iet K a xs) H1
theorem pi_enumT {X : Cx} {e : Expr} {ta : TA} {p pos tpos : Pos} {elts : List Expr} {kk : Nat} (hg : Gl X "enumerate") (hm : X.mg "enumerate" = none) (ha : PA X [e] ta) (hs : starEach [e] X.env = [(false, eval e X.env)] := by rfl) :
    PI X (.Tuple elts kk tpos) (.Call (.Name "enumerate" p) [e] [] pos) (iEnumT X.K ta) := by
  refine ⟨fun pins s σ H R I h => ?_⟩
  refine Call_ (ld_blt I hg hm boot_enumerate (PyProof.Rows.callWith_type1 (thn (ha.run pos pins s σ H _ I h) fun us s1 ⟨vs, H1, I1, r1, q1⟩ => ?_) hs rfl))
  obtain ⟨a, xs, ex, hq, q⟩ := q1
  subst ex
  cases r1 with
  | cons r rr =>
    cases rr
    cases r
    obtain ⟨its, rv, p', hz⟩ := I1.tuple hq
    have hal : a < s1.heap.objs.size := by obtain ⟨o, h1, _⟩ := p'; exact Heap.lt_size h1
    refine enum_begins1 (begins_tuple a its.toArray) p' fun h' he hit hsz hk => wpAny_pyIter_enum he ?_
    have I2 : Inv X pins σ H1 { s1 with heap := h' } := I1.kept (t' := s1.toks) hk
    refine ⟨s1.heap.objs.size + 1, [s1.heap.objs.size + 1, s1.heap.objs.size], _, _, H1, rfl, I2, turn_enumT a (s1.heap.objs.size + 1) s1.heap.objs.size xs, ⟨⟨.none, he⟩, ⟨_, hit, rfl, rfl⟩, Nat.succ_ne_self _, Nat.ne_of_lt hal, Nat.ne_of_gt (Nat.lt_succ_of_lt hal), Nat.zero_le _⟩, fun b hb => ?_, q⟩
    have e' : b = s1.heap.objs.size + 1 ∨ b = s1.heap.objs.size := by simpa using hb
    have hle : s1.heap.objs.size ≤ b := by
      rcases e' with z | z
      · rw [z]; exact Nat.le_add_right _ _
      · rw [z]; exact Nat.le_refl _
    exact I1.fpOk hle (I1.hok.fresh hle)
/-! ### == and != by an own __eq__ -/
section
variable {X : Cx} {CX : CXT} {n : Nat} {C f : Addr} {fd : FuncData} {ps : List Str} {sp : Sp} {E : XK}
/-- the own method runs somewhere below -/
theorem run_sub {A : Around} {pins : List (Addr × Obj)} {σ : L2.St} {H : Hp} {s : Shared} {Q : VK} {us : List Value} {vs : List V} (F : FnOk X.prog X.w X.K X.mg X.base CX n f fd ps sp) (hb : Binds X.K fd ps []) (hx : Passes CX X E)
    (sb : Sub X n A) (I : Inv X pins σ H s) (r : Vals vs us) (h : sp vs H Q E) : wpAny (model X.prog X.w) A (call (.ref f) us) (EP X pins σ Q) X.xe s := by
  have e0 : Env0 X.prog X.w X.K X.mg X.base A X.stack s H := by
    have e := I.env0
    exact ⟨by rw [sb.fr]; exact e.frames, e.mod, e.bs, e.bsz, e.funs, e.frf, e.hok, e.bare⟩
  have hl : us.length = ps.length := by rw [← r.length]; exact F.len _ _ _ _ h
  refine wpAny_call (codeAny_mono (F.run A X.stack s H ⟨us, []⟩ us vs Q E sb.room e0 (by
    have := hb s us I.kIn (by simpa using hl)
    simpa using this) r h) fun r s' hq => ?_)
  cases r with
  | error e => exact hx pins σ H s e s' I hq
  | ok fl =>
    cases fl with
    | ret w => exact I.after hq
    | next => exact False.elim hq
    | brk => exact False.elim hq
    | cont => exact False.elim hq
/-- x == y, x an instance of the class at C with an own __eq__ that hands back a truth -/
def rEqO (K : PySem.W.Frag) (C : Addr) (sp : Sp) (E : XK) : R2 := fun x y H Q => ∃ a dx fs t, x = .ref a ∧ H a = some (.ins C dx fs) ∧ TyX K H y t ∧ PySem.W.notFirst K C t = true ∧
  sp [x, y] H (fun v H' => ∃ b, v = .bl b ∧ Q (.bl b) H') E
theorem op_eqO (F : FnOk X.prog X.w X.K X.mg X.base CX n f fd ps sp) (hs : PySem.W.findIn X.K (.ref C) "__eq__" = some (some (.ref f))) (hf : PySem.W.isFn X.K (.ref f) = true) (hb : Binds X.K fd ps []) (hx : Passes CX X E)
    (hr : Room n X.A) : OpR X (compareOp .Eq) (rEqO X.K C sp E) := by
  intro pins s σ H x y v u Q I rx ry hq
  obtain ⟨a, dx, fs, t, rfl, ha, ty, nf, q⟩ := hq
  cases (show v = Value.ref a from rx)
  obtain ⟨mA, J, _⟩ := ins_get I.hok ha
  obtain ⟨od, J, _⟩ := J.look
  obtain ⟨m, hF⟩ := I.fr
  obtain ⟨Pz, Z, pz, _⟩ := kit_of I ry ty
  have hu : X.A.units < cLine := Nat.lt_of_succ_lt (hu_of hr)
  refine PySem.W.cmp_K (op := .Eq) (tb := t) hu hF I.ok.mod.kin J (Z.ty _ _ I.kIn pz) nf hs hf ?_
  refine wpAny_mono (run_sub F hb hx ⟨hr, rfl⟩ I (.cons rx (.cons ry .nil)) q) (fun r s' hz => ?_) fun _ _ z => z
  obtain ⟨z, H', I', rz, b, rfl, qb⟩ := hz
  cases (show r = Value.bool b from rz)
  exact ⟨.bl b, H', I', rfl, qb⟩
/-- x != y: the default __ne__ asks the own __eq__ -/
def rNeO (K : PySem.W.Frag) (C : Addr) (sp : Sp) (E : XK) : R2 := fun x y H Q => ∃ a dx fs t, x = .ref a ∧ H a = some (.ins C dx fs) ∧ TyX K H y t ∧ PySem.W.notFirst K C t = true ∧
  sp [x, y] H (fun v H' => ∃ b, v = .bl b ∧ Q (.bl (!b)) H') E
theorem ifBound_B {M : Model} {A : Around} {E : Value → Shared → Prop} {s : Shared} {K : PySem.W.Frag} {x C : Addr} {ox : Obj} {od : Option Obj} {name : Str} {id : String} {args : List Value} {Q : Option Value → Shared → Prop} (X : K.In s.heap) (I : PySem.W.InstAt s.heap x ox C od)
    (hs : PySem.W.findIn K (.ref C) name = some (some (.builtin id))) (hb : ∀ self, bindSpecial (.builtin id) self = pure (.builtin id, [self]))
    (h : wpAny M A (call (.builtin id) (.ref x :: args)) (fun v => Q (some v)) E s) : wpAny M A (callSpecialIfBound? (.ref x) name args) Q E s := by
  simp only [callSpecialIfBound?, bindSpecialIfBound?]
  refine wpAny_holding (wpAny_bind (wpAny_bind (wpAny_bind (I.type.here ((PySem.W.looks_findIn X hs).here ?_)))))
  refine wpAny_bind (wpAny_askSetting (wpAny_ite ?_))
  have fin : wpAny M A (call (.builtin id) ([.ref x] ++ args) >>= fun v => pure (some v)) Q E s := wpAny_bind (wpAny_mono h (fun v s' h' => wpAny_pure h') fun _ _ h' => h')
  have L := (PySem.W.Looks.of_pure (M := M) (h := s.heap) (hb (.ref x)))
  split
  · exact wpAny_bind (L.here (wpAny_pure (by exact fin)))
  · exact wpAny_tryCatch (wpAny_bind (L.here (wpAny_pure (by exact fin))))
theorem op_neO (F : FnOk X.prog X.w X.K X.mg X.base CX n f fd ps sp) (hs : PySem.W.findIn X.K (.ref C) "__eq__" = some (some (.ref f))) (hf : PySem.W.isFn X.K (.ref f) = true) (hb : Binds X.K fd ps []) (hx : Passes CX X E)
    (hn : PySem.W.findIn X.K (.ref C) "__ne__" = some (some (.builtin "object.__ne__"))) (hm : PySem.W.mroIn X.K C (.type "object") = some true)
    (hr : Room (n + 1) X.A) : OpR X (compareOp .NotEq) (rNeO X.K C sp E) := by
  intro pins s σ H x y v u Q I rx ry hq
  obtain ⟨a, dx, fs, t, rfl, ha, ty, nf, q⟩ := hq
  cases (show v = Value.ref a from rx)
  obtain ⟨mA, J, _⟩ := ins_get I.hok ha
  obtain ⟨od, J, _⟩ := J.look
  obtain ⟨Pz, Z, pz, _⟩ := kit_of I ry ty
  have hu : X.A.units < cLine := Nat.lt_of_succ_lt (hu_of hr)
  have hu1 : X.A.in1.units < cLine := hu_of hr
  have K0 := I.kIn
  have run := run_sub F hb hx (A := X.A.in1) ⟨hr.in1, rfl⟩ I (.cons rx (.cons ry .nil)) q
  have one : wpAny (model X.prog X.w) X.A (tryCompare (.ref a) "__ne__" u) (fun r s' => ∃ v, r = some v ∧ EP X pins σ Q v s') X.xe s := by
    unfold tryCompare
    refine wpAny_bind (ifBound_B K0 J hn PySem.F.cmp_object.ne.bind ?_)
    refine wpAny_call (codeAny_call_builtin PySem.F.cmp_object.ne.plain PySem.F.cmpEntry_ne (PySem.W.check_slot (i := "object.__ne__") (owner := "object") (n := "__ne__") PySem.F.cmpKind_ne PySem.F.cmpSplit_ne (J.type.andThen (PySem.W.looks_mroIn K0 hm)) (PySem.F.cmpArgs_ne _ _) ?_))
    unfold Builtin.«object.__ne__»
    refine wpAny_bind (m := slotArgs "__ne__" 1 _) (wpAny_pure ?_)
    refine wpAny_bind (m := cRoomFor _ _) (wpAny_cRoomFor hu1 ?_)
    refine wpAny_bind (m := callSpecialIfBound? (.ref a) (Str.ofString "__eq__") _) (PySem.W.ifBound_K K0 J hs hf (wpAny_mono run (fun r s' hz => ?_) fun _ _ z => z))
    obtain ⟨z, H', I', rz, b, rfl, qb⟩ := hz
    cases (show r = Value.bool b from rz)
    refine wpAny_bind (wpAny_truthy_bool ?_)
    exact wpAny_pure (wpAny_pure ⟨_, rfl, .bl (!b), H', I', rfl, qb⟩)
  show wpAny (model X.prog X.w) X.A (richCompare .NotEq (.ref a) u) (EP X pins σ Q) X.xe s
  unfold richCompare
  simp only [oneThing_ref]
  refine wpAny_holding (wpAny_bind (wpAny_cRoomFor hu ?_))
  refine wpAny_bind (J.type.here (wpAny_bind ((Z.ty _ _ I.kIn pz).here ?_)))
  split
  · rename_i q2
    have e : PySem.W.subIn X.K t (.ref C) = some false := by
      rcases Bool.or_eq_true_iff.mp nf with e | e
      · rw [beq_iff_eq.mp e] at q2; simp at q2
      · exact beq_iff_eq.mp e
    refine wpAny_bind ((PySem.W.looks_subIn K0 e).here ?_)
    simp only [Bool.false_eq_true, if_false]
    refine wpAny_bind (wpAny_mono one (fun r s' z => ?_) fun _ _ e => e)
    obtain ⟨v, rfl, hq⟩ := z
    exact wpAny_pure hq
  · refine wpAny_bind (wpAny_pure ?_)
    simp only [Bool.false_eq_true, if_false]
    refine wpAny_bind (wpAny_mono one (fun r s' z => ?_) fun _ _ e => e)
    obtain ⟨v, rfl, hq⟩ := z
    exact wpAny_pure hq
/-! ### str(x) by an own __str__ -/
def rStrO (C : Addr) (sp : Sp) (E : XK) : List V → Hp → VK → Prop := fun xs H Q => ∃ a dx fs, xs = [.ref a] ∧ H a = some (.ins C dx fs) ∧ sp [.ref a] H (fun v H' => ∃ z, v = .str z ∧ Q (.str z) H') E
theorem call_strO (F : FnOk X.prog X.w X.K X.mg X.base CX n f fd ps sp) (hs : PySem.W.findIn X.K (.ref C) "__str__" = some (some (.ref f))) (hf : PySem.W.isFn X.K (.ref f) = true) (hb : Binds X.K fd ps []) (hx : Passes CX X E)
    (hr : Room (n + 2) X.A) : CallR X (.type "str") (rStrO C sp E) := by
  intro pins s σ H xs us Q I r hq
  obtain ⟨a, dx, fs, rfl, ha, q⟩ := hq
  obtain ⟨u, rfl, rx⟩ : ∃ u, us = [u] ∧ RelV (.ref a) u := by
    cases r with
    | cons r rr => cases rr; exact ⟨_, rfl, r⟩
  cases (show u = Value.ref a from rx)
  obtain ⟨mA, J, _⟩ := ins_get I.hok ha
  obtain ⟨od, J, _⟩ := J.look
  have hr2 : Room n X.A.in1.in1 := hr.in1.in1
  have hu : X.A.in1.in1.units < cLine := Nat.lt_of_succ_lt (hu_of hr2)
  refine PySem.W.kso_call hu I.kIn J hs hf ?_
  refine wpAny_mono (run_sub F hb hx (A := X.A.in1.in1) ⟨hr2, rfl⟩ I (.cons rx .nil) q) (fun r s' hz => ?_) fun _ _ z => z
  obtain ⟨z, H', I', rz, x, rfl, qb⟩ := hz
  obtain ⟨t, e⟩ := (show ∃ t, r = Value.str x t from rz)
  cases e
  exact ⟨.str x, H', I', ⟨t, rfl⟩, qb⟩
/-! ### // by a number of either sign -/
def CDivNW (_ j : Int) : Prop := j ≠ 0 ∧ j.natAbs.log2 < 9000
theorem op_fdivNW : OpR X (binaryOp .FloorDiv) (rI CDivNW fun i j => .int (i.fdiv j)) := opI fun _ _ _ _ _ _ _ hc q => floordiv_int hc.1 q (.inl (PyProof.noPylong_of_log2 hc.2))
end
end TCA
/-! The mathematics, in plain Lean. -/
namespace TCM
/-! ### the greatest common divisor, by steps with Python's remainder -/
theorem gcd_fmod (a b : Int) : Int.gcd b (a.fmod b) = Int.gcd a b := by
  have e : a.fmod b = a - b * a.fdiv b := by
    have := Int.fmod_add_mul_fdiv a b
    omega
  rw [e, Int.gcd_comm a b]
  apply Nat.dvd_antisymm
  · refine Int.dvd_gcd (Int.gcd_dvd_left ..) ?_
    have h1 : ((Int.gcd b (a - b * a.fdiv b) : Nat) : Int) ∣ b := Int.gcd_dvd_left ..
    have h2 : ((Int.gcd b (a - b * a.fdiv b) : Nat) : Int) ∣ a - b * a.fdiv b := Int.gcd_dvd_right ..
    have h3 := Int.dvd_add h2 (Int.dvd_mul_of_dvd_left (c := a.fdiv b) h1)
    have e2 : a - b * a.fdiv b + b * a.fdiv b = a := by omega
    rw [e2] at h3
    exact h3
  · refine Int.dvd_gcd (Int.gcd_dvd_left ..) ?_
    have h1 : ((Int.gcd b a : Nat) : Int) ∣ b := Int.gcd_dvd_left ..
    have h2 : ((Int.gcd b a : Nat) : Int) ∣ a := Int.gcd_dvd_right ..
    exact Int.dvd_sub h2 (Int.dvd_mul_of_dvd_left (c := a.fdiv b) h1)
theorem fmod_lt (a b : Int) (h : b ≠ 0) : (a.fmod b).natAbs < b.natAbs := by
  rcases Int.lt_or_gt_of_ne h with hb | hb
  · have h1 : a.fmod b = a % b + if 0 ≤ b ∨ b ∣ a then 0 else b := Int.fmod_eq_emod
    have := Int.emod_nonneg a h
    have := Int.emod_lt_of_pos a (b := -b) (by omega)
    rw [Int.emod_neg] at this
    rw [h1]
    split
    · omega
    · rename_i z
      have : a % b ≠ 0 := fun e => z (.inr (Int.dvd_of_emod_eq_zero e))
      omega
  · have h1 := Int.fmod_nonneg_of_pos a hb
    have h2 := Int.fmod_lt_of_pos a hb
    omega
theorem abs_eq (i : Int) : (if i < 0 then -i else i) = ((i.natAbs : Nat) : Int) := by
  split <;> omega
/-! ### a fraction in lowest terms -/
def sgn (t b : Int) : Int := if b < 0 then -((Int.gcd t b : Nat) : Int) else ((Int.gcd t b : Nat) : Int)
def low (t b : Int) : Int × Int := (t.fdiv (sgn t b), b.fdiv (sgn t b))
/-- as the law says it -/
def lowL (t b : Int) : Int × Int := if 0 < b then (t.fdiv ((Int.gcd t b : Nat) : Int), b.fdiv ((Int.gcd t b : Nat) : Int)) else ((-t).fdiv ((Int.gcd t b : Nat) : Int), (-b).fdiv ((Int.gcd t b : Nat) : Int))
theorem low_eq (t b : Int) (h : b ≠ 0) : low t b = lowL t b := by
  unfold low lowL sgn
  by_cases hb : b < 0
  · rw [if_pos hb, if_neg (by omega)]
    have e1 := Int.neg_fdiv_neg (-t) ((Int.gcd t b : Nat) : Int)
    have e2 := Int.neg_fdiv_neg (-b) ((Int.gcd t b : Nat) : Int)
    rw [Int.neg_neg] at e1 e2
    rw [e1, e2]
  · rw [if_neg hb, if_pos (by omega)]
theorem gcd_pos (t b : Int) (h : b ≠ 0) : 0 < Int.gcd t b := by
  have : Int.gcd t b ≠ 0 := fun e => h (Int.gcd_eq_zero_iff.mp e).2
  omega
theorem gcd_le (t b : Int) (h : b ≠ 0) : Int.gcd t b ≤ b.natAbs := by
  show Nat.gcd t.natAbs b.natAbs ≤ b.natAbs
  exact Nat.gcd_le_right _ (by omega)
theorem sgn_ne (t b : Int) (h : b ≠ 0) : sgn t b ≠ 0 := by
  have := gcd_pos t b h
  unfold sgn
  split <;> omega
theorem sgn_abs (t b : Int) : (sgn t b).natAbs = Int.gcd t b := by
  unfold sgn
  split <;> omega
/-- the quotients are no larger -/
theorem fdiv_abs (t d : Int) (h : d ≠ 0) (hd : d ∣ t) : (t.fdiv d).natAbs ≤ t.natAbs := by
  obtain ⟨k, rfl⟩ := hd
  rw [Int.mul_fdiv_cancel_left k h, Int.natAbs_mul]
  exact Nat.le_mul_of_pos_left _ (by omega)
theorem sgn_dvd (t b : Int) : sgn t b ∣ t ∧ sgn t b ∣ b := by
  have h1 : ((Int.gcd t b : Nat) : Int) ∣ t := Int.gcd_dvd_left ..
  have h2 : ((Int.gcd t b : Nat) : Int) ∣ b := Int.gcd_dvd_right ..
  unfold sgn
  split
  · exact ⟨Int.neg_dvd.mpr h1, Int.neg_dvd.mpr h2⟩
  · exact ⟨h1, h2⟩
theorem low_abs (t b : Int) (h : b ≠ 0) : (low t b).1.natAbs ≤ t.natAbs ∧ (low t b).2.natAbs ≤ b.natAbs :=
  ⟨fdiv_abs t _ (sgn_ne t b h) (sgn_dvd t b).1, fdiv_abs b _ (sgn_ne t b h) (sgn_dvd t b).2⟩
theorem low_pos (t b : Int) (h : b ≠ 0) : 0 < (low t b).2 := by
  obtain ⟨k, hk⟩ := (sgn_dvd t b).2
  have hs := sgn_ne t b h
  have e : (low t b).2 = k := by
    show b.fdiv (sgn t b) = k
    rw [hk, ← hk]
    have e2 : b.fdiv (sgn t b) = (sgn t b * k).fdiv (sgn t b) := by rw [← hk]
    rw [e2]
    exact Int.mul_fdiv_cancel_left k hs
  rw [e]
  have g0 := gcd_pos t b h
  unfold sgn at hk
  by_cases hb : b < 0
  · rw [if_pos hb] at hk
    rcases Int.lt_trichotomy k 0 with z | z | z
    · exfalso
      have := Int.mul_nonneg_of_nonpos_of_nonpos (a := -((Int.gcd t b : Nat) : Int)) (b := k) (by omega) (by omega)
      omega
    · rw [z] at hk
      omega
    · exact z
  · rw [if_neg hb] at hk
    rcases Int.lt_trichotomy k 0 with z | z | z
    · exfalso
      have := Int.mul_nonneg (a := ((Int.gcd t b : Nat) : Int)) (b := -k) (by omega) (by omega)
      rw [Int.mul_neg] at this
      omega
    · rw [z] at hk
      omega
    · exact z
theorem low_one (t : Int) : low t 1 = (t, 1) := by
  unfold low sgn
  rw [if_neg (by decide), Int.gcd_one]
  show (t.fdiv 1, (1 : Int).fdiv 1) = (t, 1)
  rw [Int.fdiv_one]
  rfl
/-! ### squares taken out -/
/-- while n % (p * p) == 0: n //= p * p; o *= p -/
def whl : Nat → Int → Int → Int → Int × Int
  | 0, _, n, o => (n, o)
  | k + 1, p, n, o => if n % (p * p) = 0 then whl k p (n / (p * p)) (o * p) else (n, o)
/-- as squares_out goes on: over the primes, until 1 is left: (outside, inside, rest) -/
def sqL : List Int → Int → Int → Int → Int × Int × Int
  | [], n, o, i => (o, i, n)
  | p :: ps, n, o, i => if n = 1 then (o, i, n) else
    if (whl 10 p n o).1 % p = 0 then sqL ps ((whl 10 p n o).1 / p) (whl 10 p n o).2 (i * p) else sqL ps (whl 10 p n o).1 (whl 10 p n o).2 i
/-- as the law goes on: over all numbers -/
def fr : Nat → Int → Int → Int → Int × Int
  | 0, _, n, s => (s, n)
  | k + 1, p, n, s => if p * p ≤ n then fr k (p + 1) (whl 10 p n s).1 (whl 10 p n s).2 else (s, n)
theorem sq_div {n q : Int} (h0 : 0 < n) (hq : 4 ≤ q) (h : n % q = 0) : 0 < n / q ∧ n / q * 4 ≤ n ∧ n / q < n := by
  have e := Int.mul_ediv_add_emod n q
  rw [h, Int.add_zero] at e
  have h1 : 0 < n / q := by
    rcases Int.lt_or_le 0 (n / q) with z | z
    · exact z
    · have := Int.mul_le_mul_of_nonneg_left z (show 0 ≤ q by omega)
      rw [Int.mul_zero] at this
      omega
  have h2 : n / q * 4 ≤ n / q * q := Int.mul_le_mul_of_nonneg_left hq (by omega)
  rw [Int.mul_comm q] at e
  exact ⟨h1, by omega, by omega⟩
theorem pp4 {p : Int} (h : 2 ≤ p) : 4 ≤ p * p := by
  have := Int.mul_le_mul h h (by omega) (by omega)
  omega
theorem whl_ok : ∀ (k : Nat) (p n o : Int), 2 ≤ p → 0 < n → 0 < (whl k p n o).1 ∧ (whl k p n o).1 ≤ n
  | 0, p, n, o, _, h => ⟨h, Int.le_refl _⟩
  | k + 1, p, n, o, hp, h => by
    unfold whl
    split
    · rename_i z
      obtain ⟨a, b, c⟩ := sq_div h (pp4 hp) z
      obtain ⟨d, e⟩ := whl_ok k p (n / (p * p)) (o * p) hp a
      exact ⟨d, by omega⟩
    · exact ⟨h, Int.le_refl _⟩
/-- the loop's measure: whl with more fuel is the same -/
theorem whl_fuel : ∀ (k j : Nat) (p n o : Int), 2 ≤ p → 0 < n → n < 4 ^ k → whl (k + j) p n o = whl k p n o
  | 0, j, p, n, o, _, h, h2 => by
    have : n < 1 := h2
    omega
  | k + 1, j, p, n, o, hp, h, h2 => by
    rw [Nat.add_right_comm]
    show (if n % (p * p) = 0 then whl (k + j) p (n / (p * p)) (o * p) else (n, o)) = (if n % (p * p) = 0 then whl k p (n / (p * p)) (o * p) else (n, o))
    split
    · rename_i z
      obtain ⟨a, b, c⟩ := sq_div h (pp4 hp) z
      exact whl_fuel k j p _ _ hp a (by
        have e : (4 : Int) ^ (k + 1) = 4 ^ k * 4 := Int.pow_succ ..
        omega)
    · rfl
def primes : List Int := [2, 3, 5, 7, 11, 13, 17, 19, 23, 29, 31, 37, 41, 43, 47, 53, 59, 61, 67, 71, 73, 79, 83, 89, 97, 101, 103, 107, 109, 113, 127, 131, 137, 139, 149, 151, 157, 163, 167, 173, 179, 181, 191, 193, 197, 199, 211, 223, 227, 229, 233, 239, 241, 251, 257, 263, 269, 271, 277, 281, 283, 293, 307, 311, 313, 317, 331, 337, 347, 349, 353, 359, 367, 373, 379, 383, 389, 397, 401, 409, 419, 421, 431, 433, 439, 443, 449, 457, 461, 463, 467, 479, 487, 491, 499, 503, 509, 521, 523, 541, 547, 557, 563, 569, 571, 577, 587, 593, 599, 601, 607, 613, 617, 619, 631, 641, 643, 647, 653, 659, 661, 673, 677, 683, 691, 701, 709, 719, 727, 733, 739, 743, 751, 757, 761, 769, 773, 787, 797, 809, 811, 821, 823, 827, 829, 839, 853, 857, 859, 863, 877, 881, 883, 887, 907, 911, 919, 929, 937, 941, 947, 953, 967, 971, 977, 983, 991, 997]
def sqOut (n : Int) : Int × Int × Int := if n = 0 then (0, 1, 1) else sqL primes n 1 1
def free (n : Int) : Int × Int := fr 1000 2 n 1
/-- the roots that the law takes -/
def chk (r : Int) : Bool := match sqOut r, free r with
  | (o, i, m), (s, f) => decide (m = 1) && (decide (0 ≤ o) && (decide (o ≤ 1000) && (decide (1 ≤ i) && (decide (i ≤ 1000000) && (decide (r = 0) || (decide (0 < o) && (decide (s = o) && decide (f = i))))))))
def some11 : List Int := [0, 1, 4, 12, 997, 997 * 997, 2 ^ 19, 510510, 720720, 1000000, 30 * 30 * 7]
theorem chk_11 : some11.all chk = true := by decide +kernel
theorem chk_900 : (List.range 900).all (fun k => chk (1 + (k : Int))) = true := by decide +kernel
def Ok (r : Int) : Prop := 0 ≤ r ∧ r ≤ 1000000 ∧ chk r = true
theorem ok_11 {r : Int} (h : r ∈ some11) : Ok r := by
  refine ⟨?_, ?_, List.all_eq_true.mp chk_11 r h⟩
  · revert r; decide
  · revert r; decide
theorem ok_900 {d : Int} (h0 : 0 ≤ d) (h1 : d < 900) : Ok (1 + d) := by
  refine ⟨by omega, by omega, ?_⟩
  have := List.all_eq_true.mp chk_900 d.toNat (List.mem_range.mpr (by omega))
  rw [Int.toNat_of_nonneg h0] at this
  exact this
theorem Ok.all {r : Int} (h : Ok r) : (sqOut r).2.2 = 1 ∧ 0 ≤ (sqOut r).1 ∧ (sqOut r).1 ≤ 1000 ∧ 1 ≤ (sqOut r).2.1 ∧ (sqOut r).2.1 ≤ 1000000 ∧ (r ≠ 0 → 0 < (sqOut r).1 ∧ free r = ((sqOut r).1, (sqOut r).2.1)) := by
  obtain ⟨_, _, h⟩ := h
  unfold chk at h
  generalize sqOut r = a at h ⊢
  generalize free r = b at h ⊢
  obtain ⟨o, i, m⟩ := a
  obtain ⟨s, f⟩ := b
  simp only [Bool.and_eq_true, Bool.or_eq_true, decide_eq_true_eq] at h
  obtain ⟨h1, h2, h3, h4, h5, h6⟩ := h
  refine ⟨h1, h2, h3, h4, h5, fun hr => ?_⟩
  rcases h6 with h6 | ⟨h6, h7, h8⟩
  · exact absurd h6 hr
  · exact ⟨h6, by rw [h7, h8]⟩
/-- what exact comes to: no part, or one -/
def ex (top bottom root : Int) : Option (Int × Int × Int) :=
  if top * (sqOut root).1 = 0 then none else some ((sqOut root).2.1, (low (top * (sqOut root).1) bottom).1, (low (top * (sqOut root).1) bottom).2)
/-- what is due, as the law says it -/
def due (up under r : Int) : Option (Int × Int × Int) :=
  if up = 0 ∨ r = 0 then none else some ((free r).2, (lowL (up * (free r).1) under).1, (lowL (up * (free r).1) under).2)
theorem ex_due {t b r : Int} (hb : b ≠ 0) (h : Ok r) : ex t b r = due t b r := by
  obtain ⟨h1, h2, h3, h4, h5, h6⟩ := h.all
  unfold ex due
  by_cases hr : r = 0
  · subst hr
    rw [if_pos (show t * (sqOut 0).1 = 0 from Int.mul_zero _), if_pos (Or.inr rfl)]
  · obtain ⟨h7, h8⟩ := h6 hr
    rw [h8, ← low_eq _ _ hb]
    by_cases ht : t = 0
    · subst ht
      rw [if_pos (Int.zero_mul _), if_pos (Or.inl rfl)]
    · rw [if_neg (show ¬ t * (sqOut r).1 = 0 from fun e => by
        rcases Int.mul_eq_zero.mp e with e | e <;> omega), if_neg (show ¬ (t = 0 ∨ r = 0) by omega)]
theorem ok_one : Ok 1 := ok_11 (by decide)
theorem sq_one : sqOut 1 = (1, 1, 1) := by decide +kernel
theorem ex_one (t : Int) : ex t 1 1 = if t = 0 then none else some (1, t, 1) := by
  unfold ex
  rw [sq_one]
  show (if t * 1 = 0 then none else some ((1 : Int), (low (t * 1) 1).1, (low (t * 1) 1).2)) = _
  rw [Int.mul_one, low_one]
theorem ex_succ (t : Int) : ex t 1 1 ≠ ex (t + 1) 1 1 := by
  rw [ex_one, ex_one]
  split <;> split
  · omega
  · simp
  · simp
  · simp only [ne_eq, Option.some.injEq, Prod.mk.injEq, not_and]
    omega
end TCM
/-! Sums of fractions times roots, as lists of (root, fraction). -/
namespace TCR
open TCM
/-! ### fractions -/
theorem low_rat (t b : Int) (h : b ≠ 0) : low t b = ((Rat.divInt t b).num, ((Rat.divInt t b).den : Int)) := by
  have gp := gcd_pos t b h
  have e1 : (Rat.divInt t b).num = b.sign * t / ((b.gcd t : Nat) : Int) := Rat.num_divInt t b
  have e2 : (Rat.divInt t b).den = b.natAbs / b.gcd t := by rw [Rat.den_divInt, if_neg h]
  rw [e1, e2, Int.gcd_comm b t]
  obtain ⟨k, hk⟩ : ((Int.gcd t b : Nat) : Int) ∣ t := Int.gcd_dvd_left ..
  obtain ⟨m, hm⟩ : ((Int.gcd t b : Nat) : Int) ∣ b := Int.gcd_dvd_right ..
  have g0 : ((Int.gcd t b : Nat) : Int) ≠ 0 := by omega
  have x1 : low t b = (if b < 0 then (-k, -m) else (k, m)) := by
    unfold low sgn
    by_cases hb : b < 0
    · rw [if_pos hb, if_pos hb]
      have a1 : t.fdiv (-((Int.gcd t b : Nat) : Int)) = -k := by
        have z : t = (-((Int.gcd t b : Nat) : Int)) * (-k) := by rw [Int.neg_mul_neg]; exact hk
        have z2 := Int.mul_fdiv_cancel_left (-k) (show (-((Int.gcd t b : Nat) : Int)) ≠ 0 by omega)
        rw [← z] at z2
        exact z2
      have a2 : b.fdiv (-((Int.gcd t b : Nat) : Int)) = -m := by
        have z : b = (-((Int.gcd t b : Nat) : Int)) * (-m) := by rw [Int.neg_mul_neg]; exact hm
        have z2 := Int.mul_fdiv_cancel_left (-m) (show (-((Int.gcd t b : Nat) : Int)) ≠ 0 by omega)
        rw [← z] at z2
        exact z2
      rw [a1, a2]
    · rw [if_neg hb, if_neg hb]
      have a1 : t.fdiv ((Int.gcd t b : Nat) : Int) = k := by
        have z2 := Int.mul_fdiv_cancel_left k g0
        rw [← hk] at z2
        exact z2
      have a2 : b.fdiv ((Int.gcd t b : Nat) : Int) = m := by
        have z2 := Int.mul_fdiv_cancel_left m g0
        rw [← hm] at z2
        exact z2
      rw [a1, a2]
  rw [x1]
  have y2 : ((b.natAbs / Int.gcd t b : Nat) : Int) = (m.natAbs : Int) := by
    have : b.natAbs = Int.gcd t b * m.natAbs := by
      have z := congrArg Int.natAbs hm
      rw [Int.natAbs_mul] at z
      simpa using z
    rw [this, Nat.mul_div_cancel_left _ gp]
  have y1 : b.sign * t / ((Int.gcd t b : Nat) : Int) = b.sign * k := by
    have : b.sign * t = ((Int.gcd t b : Nat) : Int) * (b.sign * k) := by
      rw [Int.mul_left_comm, ← hk]
    rw [this, Int.mul_ediv_cancel_left _ g0]
  rw [y1, y2]
  have gn : (0 : Int) < ((Int.gcd t b : Nat) : Int) := by omega
  by_cases hb : b < 0
  · rw [if_pos hb, Int.sign_eq_neg_one_of_neg hb]
    have : m < 0 := by
      rcases Int.lt_or_le m 0 with z | z
      · exact z
      · have := Int.mul_nonneg (Int.le_of_lt gn) z
        omega
    rw [Int.neg_mul, Int.one_mul]
    congr 1
    omega
  · rw [if_neg hb, Int.sign_eq_one_of_pos (by omega)]
    have : 0 ≤ m := by
      rcases Int.lt_or_le m 0 with z | z
      · have := Int.mul_nonneg (Int.le_of_lt gn) (show 0 ≤ -m by omega)
        rw [Int.mul_neg] at this
        omega
      · exact z
    rw [Int.one_mul]
    congr 1
    omega
theorem lowL_rat (t b : Int) (h : b ≠ 0) : lowL t b = ((Rat.divInt t b).num, ((Rat.divInt t b).den : Int)) := by
  rw [← low_eq t b h, low_rat t b h]
/-- the sum as sum_in_lowest makes it -/
theorem sum_low (a b : Rat) :
    let g := Nat.gcd a.den b.den
    let num := a.num * ((b.den / g : Nat) : Int) + b.num * ((a.den / g : Nat) : Int)
    let l := Nat.gcd num.natAbs g
    (a + b).num = num / (l : Int) ∧ (a + b).den = (a.den / g) * (b.den / l) ∧ 0 < g ∧ 0 < l ∧ g ∣ a.den ∧ g ∣ b.den ∧ (l : Int) ∣ num ∧ l ∣ b.den := by
  intro g num l
  have ga : g ∣ a.den := Nat.gcd_dvd_left ..
  have gb : g ∣ b.den := Nat.gcd_dvd_right ..
  have g0 : 0 < g := Nat.gcd_pos_of_pos_left _ a.den_pos
  have l0 : 0 < l := Nat.gcd_pos_of_pos_right _ g0
  have lb : l ∣ b.den := Nat.dvd_trans (Nat.gcd_dvd_right ..) gb
  have aux : Nat.gcd num.natAbs g = Nat.gcd num.natAbs ((a.den / g) * b.den) := Rat.add.aux a b rfl rfl rfl
  have dn : (a.den / g) * b.den ≠ 0 := by
    have h1 : 0 < a.den / g := Nat.div_pos (Nat.le_of_dvd a.den_pos ga) g0
    exact Nat.ne_of_gt (Nat.mul_pos h1 b.den_pos)
  have es : a + b = mkRat num ((a.den / g) * b.den) := by
    rw [Rat.add_def' a b]
    rw [Rat.mkRat_eq_iff (Nat.mul_ne_zero a.den_nz b.den_nz) dn]
    obtain ⟨u, hu⟩ := ga
    obtain ⟨v, hv⟩ := gb
    have u1 : a.den / g = u := by rw [hu]; exact Nat.mul_div_cancel_left _ g0
    have v1 : b.den / g = v := by rw [hv]; exact Nat.mul_div_cancel_left _ g0
    show _ = (a.num * ((b.den / g : Nat) : Int) + b.num * ((a.den / g : Nat) : Int)) * _
    rw [u1, v1, hu, hv]
    push_cast
    grind
  have en : mkRat num ((a.den / g) * b.den) = Rat.normalize num ((a.den / g) * b.den) dn := by
    rw [Rat.normalize_eq_mkRat]
  have en2 := Rat.normalize_eq (num := num) dn
  refine ⟨?_, ?_, g0, l0, ga, gb, ?_, lb⟩
  · rw [es, en, en2]
    show num / ((Nat.gcd num.natAbs ((a.den / g) * b.den) : Nat) : Int) = num / ((Nat.gcd num.natAbs g : Nat) : Int)
    rw [aux]
  · rw [es, en, en2]
    show (a.den / g) * b.den / (Nat.gcd num.natAbs ((a.den / g) * b.den)) = (a.den / g) * (b.den / l)
    rw [← aux, Nat.mul_div_assoc _ lb]
  · exact Int.ofNat_dvd_left.mpr (Nat.gcd_dvd_left ..)
/-! ### sizes -/
def Sz (B : Nat) (q : Rat) : Prop := q.num.natAbs < 2 ^ B ∧ q.den < 2 ^ B
theorem Sz.mono {B C : Nat} {q : Rat} (h : Sz B q) (hc : B ≤ C) : Sz C q := by
  have := Nat.pow_le_pow_right (show 0 < 2 by decide) hc
  exact ⟨Nat.lt_of_lt_of_le h.1 this, Nat.lt_of_lt_of_le h.2 this⟩
theorem Sz.neg {B : Nat} {q : Rat} (h : Sz B q) : Sz B (-q) := by
  refine ⟨?_, ?_⟩
  · rw [Rat.neg_num, Int.natAbs_neg]
    exact h.1
  · rw [Rat.neg_den]
    exact h.2
theorem Sz.zero {B : Nat} (h : 0 < B) : Sz B 0 := ⟨Nat.pow_pos (by decide), Nat.one_lt_two_pow (by omega)⟩
theorem Sz.add {A B : Nat} {p q : Rat} (h : Sz A p) (k : Sz B q) : Sz (A + B + 1) (p + q) := by
  obtain ⟨e1, e2, g0, l0, ga, gb, ln, lb⟩ := sum_low p q
  have b1 : q.den / Nat.gcd p.den q.den ≤ q.den := Nat.div_le_self ..
  have a1 : p.den / Nat.gcd p.den q.den ≤ p.den := Nat.div_le_self ..
  have P1 : p.num.natAbs * q.den < 2 ^ A * 2 ^ B := Nat.mul_lt_mul'' h.1 k.2
  have P2 : q.num.natAbs * p.den < 2 ^ A * 2 ^ B := by
    rw [Nat.mul_comm (2 ^ A)]
    exact Nat.mul_lt_mul'' k.1 h.2
  have P3 : p.den * q.den < 2 ^ A * 2 ^ B := Nat.mul_lt_mul'' h.2 k.2
  have ep : 2 ^ (A + B + 1) = 2 ^ A * 2 ^ B * 2 := by rw [Nat.pow_succ, Nat.pow_add]
  refine ⟨?_, ?_⟩
  · rw [e1]
    have d1 := Int.natAbs_ediv_le_natAbs (p.num * ((q.den / Nat.gcd p.den q.den : Nat) : Int) + q.num * ((p.den / Nat.gcd p.den q.den : Nat) : Int)) ((Nat.gcd (p.num * ((q.den / Nat.gcd p.den q.den : Nat) : Int) + q.num * ((p.den / Nat.gcd p.den q.den : Nat) : Int)).natAbs (Nat.gcd p.den q.den) : Nat) : Int)
    have d2 := Int.natAbs_add_le (p.num * ((q.den / Nat.gcd p.den q.den : Nat) : Int)) (q.num * ((p.den / Nat.gcd p.den q.den : Nat) : Int))
    rw [Int.natAbs_mul, Int.natAbs_mul] at d2
    have m1 : p.num.natAbs * ((q.den / Nat.gcd p.den q.den : Nat) : Int).natAbs ≤ p.num.natAbs * q.den := Nat.mul_le_mul (Nat.le_refl _) (by rw [Int.natAbs_natCast]; exact b1)
    have m2 : q.num.natAbs * ((p.den / Nat.gcd p.den q.den : Nat) : Int).natAbs ≤ q.num.natAbs * p.den := Nat.mul_le_mul (Nat.le_refl _) (by rw [Int.natAbs_natCast]; exact a1)
    omega
  · rw [e2]
    have m1 := Nat.mul_le_mul a1 (Nat.div_le_self q.den (Nat.gcd (p.num * ((q.den / Nat.gcd p.den q.den : Nat) : Int) + q.num * ((p.den / Nat.gcd p.den q.den : Nat) : Int)).natAbs (Nat.gcd p.den q.den)))
    omega
theorem Sz.divInt {B : Nat} {t b : Int} (h : b ≠ 0) (ht : t.natAbs < 2 ^ B) (hb : b.natAbs < 2 ^ B) : Sz B (Rat.divInt t b) := by
  obtain ⟨l1, l2⟩ := low_abs t b h
  rw [low_rat t b h] at l1 l2
  exact ⟨Nat.lt_of_le_of_lt l1 ht, Nat.lt_of_le_of_lt (by simpa using l2) hb⟩
/-! ### lists of roots and fractions -/
def val : List (Int × Rat) → Int → Rat
  | [], _ => 0
  | (a, q) :: L, r => if a = r then q else val L r
structure Canon (L : List (Int × Rat)) : Prop where
  srt : L.Pairwise (fun x y => x.1 < y.1)
  nz : ∀ x ∈ L, x.2 ≠ 0
theorem val_not : ∀ {L : List (Int × Rat)} {r : Int}, (∀ x ∈ L, x.1 ≠ r) → val L r = 0
  | [], _, _ => rfl
  | (a, q) :: L, r, h => by
    show (if a = r then q else val L r) = 0
    rw [if_neg (h _ (List.mem_cons_self ..)), val_not fun x hx => h x (List.mem_cons_of_mem _ hx)]
theorem Canon.tail {x : Int × Rat} {L : List (Int × Rat)} (c : Canon (x :: L)) : Canon L := ⟨(List.pairwise_cons.mp c.srt).2, fun y hy => c.nz y (List.mem_cons_of_mem _ hy)⟩
theorem Canon.mem {L : List (Int × Rat)} (c : Canon L) {x : Int × Rat} (h : x ∈ L) : val L x.1 = x.2 := by
  induction L with
  | nil => cases h
  | cons y L ih =>
    obtain ⟨a, q⟩ := y
    rcases List.mem_cons.mp h with e | e
    · subst e
      exact if_pos rfl
    · have lt := (List.pairwise_cons.mp c.srt).1 x e
      show (if a = x.1 then q else val L x.1) = x.2
      rw [if_neg (by simp at lt; omega), ih c.tail e]
theorem Canon.val_ne {L : List (Int × Rat)} (c : Canon L) {r : Int} : val L r ≠ 0 ↔ ∃ q, (r, q) ∈ L := by
  refine ⟨fun h => ?_, fun ⟨q, h⟩ => ?_⟩
  · rcases Classical.em (∃ q, (r, q) ∈ L) with z | z
    · exact z
    · exact absurd (val_not fun x hx e => z ⟨x.2, by rw [← e]; exact hx⟩) h
  · rw [c.mem h]
    exact c.nz _ h
theorem canon_eq : ∀ {L M : List (Int × Rat)}, Canon L → Canon M → (∀ r, val L r = val M r) → L = M
  | [], [], _, _, _ => rfl
  | [], y :: M, _, c, h => by
    have z := h y.1
    rw [c.mem (List.mem_cons_self ..)] at z
    exact absurd z.symm (c.nz y (List.mem_cons_self ..))
  | x :: L, [], c, _, h => by
    have z := h x.1
    rw [c.mem (List.mem_cons_self ..)] at z
    exact absurd z (c.nz x (List.mem_cons_self ..))
  | x :: L, y :: M, c, d, h => by
    have key : x.1 = y.1 := by
      have lx : ∀ z ∈ L, x.1 < z.1 := (List.pairwise_cons.mp c.srt).1
      have ly : ∀ z ∈ M, y.1 < z.1 := (List.pairwise_cons.mp d.srt).1
      rcases Int.lt_trichotomy x.1 y.1 with z | z | z
      · have e := h x.1
        rw [c.mem (List.mem_cons_self ..), val_not (L := y :: M) (fun w hw => by
          rcases List.mem_cons.mp hw with e | e
          · rw [e]
            omega
          · have := ly w e
            omega)] at e
        exact absurd e (c.nz x (List.mem_cons_self ..))
      · exact z
      · have e := h y.1
        rw [d.mem (List.mem_cons_self ..), val_not (L := x :: L) (fun w hw => by
          rcases List.mem_cons.mp hw with e | e
          · rw [e]
            omega
          · have := lx w e
            omega)] at e
        exact absurd e.symm (d.nz y (List.mem_cons_self ..))
    have v : x.2 = y.2 := by
      have e := h x.1
      rw [c.mem (List.mem_cons_self ..), key, d.mem (List.mem_cons_self ..)] at e
      exact e
    have exy : x = y := Prod.ext key v
    subst exy
    rw [canon_eq c.tail d.tail fun r => ?_]
    by_cases e : x.1 = r
    · have lx : ∀ z ∈ L, x.1 < z.1 := (List.pairwise_cons.mp c.srt).1
      have ly : ∀ z ∈ M, x.1 < z.1 := (List.pairwise_cons.mp d.srt).1
      rw [val_not (fun w hw => by have := lx w hw; omega), val_not (fun w hw => by have := ly w hw; omega)]
    · have z := h r
      obtain ⟨a, q⟩ := x
      have z2 : (if a = r then q else val L r) = (if a = r then q else val M r) := z
      rw [if_neg e, if_neg e] at z2
      exact z2
/-! ### from a sorted list of keys -/
def kept (g : Int → Rat) (ns : List Int) : List (Int × Rat) := (ns.filter fun r => decide (g r ≠ 0)).map fun r => (r, g r)
theorem val_kept (g : Int → Rat) : ∀ {ns : List Int} (r : Int), (r ∉ ns → g r = 0) → val (kept g ns) r = g r
  | [], r, h => (h (by simp)).symm
  | n :: ns, r, h => by
    unfold kept
    by_cases hn : g n ≠ 0
    · rw [List.filter_cons, if_pos (by simpa using hn), List.map_cons]
      show (if n = r then g n else val (kept g ns) r) = g r
      by_cases e : n = r
      · rw [if_pos e, e]
      · rw [if_neg e, val_kept g r fun z => h (by
          rw [List.mem_cons]
          rintro (w | w)
          · exact e w.symm
          · exact z w)]
    · rw [List.filter_cons, if_neg (by simpa using hn)]
      show val (kept g ns) r = g r
      by_cases e : n = r
      · subst e
        have e0 : g n = 0 := Classical.not_not.mp hn
        by_cases m : n ∈ ns
        · exact val_kept g n fun z => absurd m z
        · rw [e0]
          refine val_not fun x hx => ?_
          unfold kept at hx
          obtain ⟨s, hs, rfl⟩ := List.mem_map.mp hx
          intro z
          have : s = n := z
          subst this
          exact m (List.mem_filter.mp hs).1
      · exact val_kept g r fun z => h (by
          rw [List.mem_cons]
          rintro (w | w)
          · exact e w.symm
          · exact z w)
theorem canon_kept (g : Int → Rat) {ns : List Int} (nd : ns.Nodup) (srt : ns.Pairwise (· ≤ ·)) : Canon (kept g ns) := by
  refine ⟨?_, fun x hx => ?_⟩
  · unfold kept
    rw [List.pairwise_map]
    have lt : ns.Pairwise (fun a b => a < b) := (List.pairwise_and_iff.mpr ⟨srt, nd⟩).imp fun {a b} h => by
      have h1 : a ≤ b := h.1
      have h2 : a ≠ b := h.2
      omega
    exact lt.filter _
  · unfold kept at hx
    obtain ⟨r, hr, rfl⟩ := List.mem_map.mp hx
    simpa using (List.mem_filter.mp hr).2
theorem kept_len (g : Int → Rat) (ns : List Int) : (kept g ns).length ≤ ns.length := by
  unfold kept
  rw [List.length_map]
  exact List.length_filter_le ..
theorem kept_snoc (g : Int → Rat) (ns : List Int) (r : Int) : kept g (ns ++ [r]) = kept g ns ++ (if g r ≠ 0 then [(r, g r)] else []) := by
  unfold kept
  rw [List.filter_append, List.map_append]
  congr 1
  by_cases h : g r ≠ 0
  · rw [if_pos h, List.filter_cons, if_pos (by simpa using h)]
    rfl
  · rw [if_neg h, List.filter_cons, if_neg (by simpa using h)]
    rfl
theorem val_take {M : List (Int × Rat)} (c : Canon M) : ∀ {i : Nat} {x : Int × Rat} (s : Int), M[i]? = some x → val (M.take i) x.1 = 0 ∧ val (M.take (i + 1)) s = if s = x.1 then x.2 else val (M.take i) s := by
  induction M with
  | nil =>
    intro i x s h
    simp at h
  | cons y M ih =>
    intro i x s h
    obtain ⟨a, q⟩ := y
    cases i with
    | zero =>
      have e : (a, q) = x := Option.some.inj h
      subst e
      refine ⟨rfl, ?_⟩
      show (if a = s then q else 0) = if s = a then q else 0
      by_cases e : a = s
      · rw [if_pos e, if_pos e.symm]
      · rw [if_neg e, if_neg fun z => e z.symm]
    | succ i =>
      have h' : M[i]? = some x := h
      obtain ⟨h1, h2⟩ := ih c.tail s h'
      have lt : a < x.1 := (List.pairwise_cons.mp c.srt).1 x (List.mem_of_getElem? h')
      refine ⟨?_, ?_⟩
      · show (if a = x.1 then q else val (M.take i) x.1) = 0
        rw [if_neg (by omega), h1]
      · show (if a = s then q else val (M.take (i + 1)) s) = if s = x.1 then x.2 else (if a = s then q else val (M.take i) s)
        rw [h2]
        by_cases e : a = s
        · rw [if_pos e, if_neg (by omega), if_pos e]
        · rw [if_neg e, if_neg e]
theorem Sz.val {B : Nat} {L : List (Int × Rat)} (h0 : 0 < B) (h : ∀ x ∈ L, Sz B x.2) (r : Int) : Sz B (val L r) := by
  induction L with
  | nil => exact Sz.zero h0
  | cons y L ih =>
    obtain ⟨a, q⟩ := y
    show Sz B (if a = r then q else TCR.val L r)
    split
    · exact h _ (List.mem_cons_self ..)
    · exact ih fun x hx => h x (List.mem_cons_of_mem _ hx)
def negL (L : List (Int × Rat)) : List (Int × Rat) := L.map fun x => (x.1, -x.2)
theorem val_neg : ∀ (L : List (Int × Rat)) (r : Int), val (negL L) r = -val L r
  | [], r => by
    show (0 : Rat) = -0
    rfl
  | (a, q) :: L, r => by
    show (if a = r then -q else val (negL L) r) = -(if a = r then q else val L r)
    split
    · rfl
    · exact val_neg L r
theorem canon_neg {L : List (Int × Rat)} (c : Canon L) : Canon (negL L) := by
  refine ⟨?_, fun x hx => ?_⟩
  · unfold negL
    rw [List.pairwise_map]
    exact c.srt
  · obtain ⟨y, hy, rfl⟩ := List.mem_map.mp hx
    have z := c.nz y hy
    show -y.2 ≠ 0
    grind
theorem canon_one {r : Int} {q : Rat} (h : q ≠ 0) : Canon [(r, q)] := ⟨List.pairwise_singleton .., fun x hx => by rw [List.mem_singleton.mp hx]; exact h⟩
theorem canon_nil : Canon [] := ⟨List.Pairwise.nil, fun x hx => by cases hx⟩
end TCR
namespace TC
open PySem PySem.Spec PyProof.Rows L2 TCA
theorem iteNT {c A B : Prop} [Decidable c] (hc : ¬ c) (h : A) : if (!decide c) = true then A else B := by
  rw [decide_eq_false hc]
  exact iteT h
theorem iteD1 {c A B : Prop} [Decidable c] (hc : c) (h : A) : if decide c = true then A else B := by
  rw [decide_eq_true hc]
  exact iteT h
theorem iteD0 {c A B : Prop} [Decidable c] (hc : ¬ c) (h : B) : if decide c = true then A else B := by
  rw [decide_eq_false hc]
  exact iteF h
theorem ine {a b : Int} (h : a ≠ b) : ¬ (V.int a = V.int b) := fun e => h (V.int.inj e)
theorem same_upd {H : Hp} {p : Addr} {o : HO} (h : H p = none) : Same H (upd H p o) := fun b x e => by
  rw [upd_ne (ne_of_none e h)]
  exact e
section
variable {P : Program} {w : World} {K : PySem.W.Frag} {mg : Str → Option Value} {base : Heap} {f : Addr} {fd : FuncData}
/-! ### is_whole -/
def spWhole : Sp := fun vs H Q _ => ∃ n : Int, vs = [.int n] ∧ Q (.bl true) H
theorem scWhole : FnScope ["thing"] ["thing"] (defScope sWhole) := ⟨rfl, rfl, rfl, by decide +kernel, rfl, by decide +kernel, by decide +kernel⟩
theorem ok_whole (F : FnP K "is_whole" sWhole f fd) (gI : mg "isinstance" = none) (gi : mg "int" = none) (gb : mg "bool" = none) : FnOk P w K mg base CX0 1 f fd ["thing"] spWhole := by
  refine F.ok scWhole (fun vs H Q E h => ?_) (fun cdv A outer s H vs Q E hr h => ?_)
  · obtain ⟨n, rfl, _⟩ := h
    rfl
  · obtain ⟨n, rfl, q⟩ := h
    refine ⟨_, PSs.nox (pss_one (ps_ret (pe_and (pe_callB call_isi (by rfl) gI (by decide +kernel) (pa_cons (pv 0) (pa_cons (pe_bltn (v := .ty "int") (by rfl) gi (by decide +kernel) rfl) pa_nil)))
      (pe_one (pe_not (pe_callB call_isi (by rfl) gI (by decide +kernel) (pa_cons (pv 0) (pa_cons (pe_bltn (v := .ty "bool") (by rfl) gb (by decide +kernel) rfl) pa_nil)))))))), ?_⟩
    refine ⟨_, rfl, _, _, _, _, true, rfl, .ty "int", .base (.int n), kit_ty (by decide +kernel), true, rfl, iteT ?_⟩
    refine ⟨_, rfl, _, _, _, _, false, rfl, .ty "bool", .base (.int n), kit_ty (by decide +kernel), false, rfl, q⟩
/-! ### shared -/
def spShared : Sp := fun vs H Q _ => ∃ a b : Int, vs = [.int a, .int b] ∧ Q (.int ((Int.gcd a b : Nat) : Int)) H
theorem scShared : FnScope ["one", "other"] ["one", "other"] (defScope sShared) := ⟨rfl, rfl, rfl, by decide +kernel, rfl, by decide +kernel, by decide +kernel⟩
theorem ok_shared (F : FnP K "shared" sShared f fd) (gA : mg "abs" = none) : FnOk P w K mg base CX0 1 f fd ["one", "other"] spShared := by
  refine F.ok scShared (fun vs H Q E h => ?_) (fun cdv A outer s H vs Q E hr h => ?_)
  · obtain ⟨a, b, rfl, _⟩ := h
    rfl
  · obtain ⟨a, b, rfl, q⟩ := h
    refine ⟨_, PSs.nox (pss_cons (ps_while PassesOwn.never (pt_cmpR op_ne (pv 1) pe_int (nomark _))
        (pss_one (ps_par (i := 0) (j := 1) rfl scShared.nd rfl rfl (by decide) rfl rfl (pa_cons (pv 1) (pa_cons (pe_op op_modN (pv 0) (pv 1)) pa_nil)) (by rfl))))
      (pss_one (ps_ret (pe_callB call_abs (by rfl) gA (by decide +kernel) (pa_cons (pv 0) pa_nil))))), ?_⟩
    refine ⟨fun m σ H' => ∃ x y : Int, σ = [some (.int x), some (.int y)] ∧ H' = H ∧ Int.gcd x y = Int.gcd a b ∧ y.natAbs = m, ⟨_, a, b, rfl, rfl, rfl, rfl⟩, fun m σ H' hW => ?_⟩
    obtain ⟨x, y, rfl, rfl, eg, em⟩ := hW
    refine ⟨_, rfl, rfl, _, rfl, ?_⟩
    by_cases hy : y = 0
    · subst hy
      refine iteNS rfl ?_
      refine ⟨_, rfl, x, rfl, ?_⟩
      rw [TCM.abs_eq, ← show Int.gcd x 0 = x.natAbs from Int.gcd_zero_right x, eg]
      exact q
    · refine iteNT (ine hy) ?_
      refine ⟨fun σ' H'' => ∃ x' y' : Int, σ' = [some (.int x'), some (.int y')] ∧ H'' = H' ∧ Int.gcd x' y' = Int.gcd a b ∧ y'.natAbs < m, fun σ' H'' hN => ?_, ?_⟩
      · obtain ⟨x', y', e1, e2, e3, e4⟩ := hN
        exact ⟨_, e4, x', y', e1, e2, e3, rfl⟩
      · refine ⟨_, rfl, _, rfl, _, rfl, x, y, rfl, rfl, hy, _, _, rfl, y, x.fmod y, rfl, rfl, ?_, ?_⟩
        · rw [TCM.gcd_fmod, eg]
        · rw [← em]
          exact TCM.fmod_lt x y hy
/-! ### in_lowest -/
def spLowest : Sp := fun vs H Q _ => ∃ (t b : Int) (A : Nat), vs = [.int t, .int b] ∧ b ≠ 0 ∧ b.natAbs < 2 ^ A ∧ 0 < A ∧ A ≤ 8000 ∧ ∀ p, H p = none → Q (.ref p) (upd H p (.tup [.int (TCM.low t b).1, .int (TCM.low t b).2]))
theorem scLowest : FnScope ["top", "bottom", "common"] ["top", "bottom"] (defScope sLowest) := ⟨rfl, rfl, rfl, by decide +kernel, rfl, by decide +kernel, by decide +kernel⟩
theorem log_lt {d : Int} {n : Nat} (h : n ≤ 9000) (hn : 0 < n) (hd : d.natAbs < 2 ^ n) : d.natAbs.log2 < 9000 := Nat.lt_of_lt_of_le (PySem.Flt.log2_lt_of hn hd) h
theorem ok_lowest {fS : Addr} {fdS : FuncData} (F : FnP K "in_lowest" sLowest f fd) (GS : FnOk P w K mg base CX0 1 fS fdS ["one", "other"] spShared) (bS : L2.Binds K fdS ["one", "other"] []) (kS : PySem.W.keepIn K (.ref fS) = true) (gS : mg "shared" = some (.ref fS)) :
    FnOk P w K mg base CX0 2 f fd ["top", "bottom"] spLowest := by
  refine F.ok scLowest (fun vs H Q E h => ?_) (fun cdv A outer s H vs Q E hr h => ?_)
  · obtain ⟨a, b, _, rfl, _⟩ := h
    rfl
  · obtain ⟨t, b, Ab, rfl, hb, hz, hA0, hA8, q⟩ := h
    refine ⟨_, PSs.nox (pss_cons (ps_set (i := 2) scLowest.nd rfl (.inl rfl) (pe_call GS hr (by rfl) gS kS bS .nil pass0 (pa_cons (pv 0) (pa_cons (pv 1) pa_nil))))
      (pss_cons (ps_if (pt_cmpR op_lt (pv 1) pe_int (nomark _)) (pss_one (ps_set (i := 2) scLowest.nd rfl (.inl rfl) (pe_un un_neg (pv 2)))) pss_nil)
      (pss_one (ps_ret (pe_tup (pa_cons (pe_op op_fdivNW (pv 0) (pv 2)) (pa_cons (pe_op op_fdivNW (pv 1) (pv 2)) pa_nil))))))), ?_⟩
    refine ⟨_, rfl, _, rfl, t, b, rfl, ?_⟩
    have fin : ∀ σ : L2.St, σ = [some (.int t), some (.int b), some (.int (TCM.sgn t b))] → tRet (tTup (tCons (tOp (rI CDivNW fun i j => .int (i.fdiv j)) (tVar 0) (tVar 2)) (tCons (tOp (rI CDivNW fun i j => .int (i.fdiv j)) (tVar 1) (tVar 2)) tNil))) { nx := fun _ H' => Q .non H', rt := Q } σ H := by
      rintro σ rfl
      have hs : CDivNW t (TCM.sgn t b) := ⟨TCM.sgn_ne t b hb, log_lt (n := Ab) (by omega) hA0 (Nat.lt_of_le_of_lt (by rw [TCM.sgn_abs]; exact TCM.gcd_le t b hb) hz)⟩
      exact ⟨_, rfl, _, rfl, t, _, rfl, rfl, hs, _, rfl, _, rfl, b, _, rfl, rfl, hs, by show 2 ≤ sizeLine; decide, fun p hp => q p hp⟩
    refine ⟨_, rfl, b, 0, rfl, rfl, _, rfl, ?_⟩
    by_cases hb0 : b < 0
    · refine iteD1 hb0 ?_
      refine ⟨_, rfl, _, rfl, ?_⟩
      refine fin _ ?_
      show [some (V.int t), some (V.int b), some (V.int (-((Int.gcd t b : Nat) : Int)))] = _
      rw [show TCM.sgn t b = -((Int.gcd t b : Nat) : Int) from if_pos hb0]
    · refine iteD0 hb0 ?_
      refine fin _ ?_
      show [some (V.int t), some (V.int b), some (V.int ((Int.gcd t b : Nat) : Int))] = _
      rw [show TCM.sgn t b = ((Int.gcd t b : Nat) : Int) from if_neg hb0]
end
theorem primes_ok : ∀ p ∈ TCM.primes, 2 ≤ p ∧ p ≤ 997 := by decide
theorem pp_le {p : Int} {m : Int} (h : 2 ≤ p) (h2 : p ≤ m) : 4 ≤ p * p ∧ p * p ≤ m * m := ⟨TCM.pp4 h, Int.mul_le_mul h2 h2 (by omega) (by omega)⟩
/-- the inner loop's word: k more turns -/
def WInn (p n0 o0 n o : Int) (k : Nat) : Prop := 0 < n ∧ n ≤ 1000000 ∧ n < 4 ^ k ∧ TCM.whl k p n o = TCM.whl 10 p n0 o0
theorem WInn.start {p n o : Int} (h : 0 < n) (h2 : n ≤ 1000000) : WInn p n o n o 10 := ⟨h, h2, Int.lt_of_le_of_lt h2 (by decide), rfl⟩
theorem WInn.turn {p n0 o0 n o : Int} {k : Nat} (w : WInn p n0 o0 n o k) (hp : 2 ≤ p) (h : n % (p * p) = 0) : ∃ j, WInn p n0 o0 (n / (p * p)) (o * p) j ∧ (n / (p * p)).toNat < n.toNat := by
  obtain ⟨h0, h1, h2, h3⟩ := w
  obtain ⟨a, b, c⟩ := TCM.sq_div h0 (TCM.pp4 hp) h
  cases k with
  | zero =>
    have : n < 1 := h2
    omega
  | succ k =>
    refine ⟨k, ⟨a, by omega, ?_, ?_⟩, by omega⟩
    · have e : (4 : Int) ^ (k + 1) = 4 ^ k * 4 := Int.pow_succ ..
      omega
    · rw [← h3]
      show _ = (if n % (p * p) = 0 then TCM.whl k p (n / (p * p)) (o * p) else (n, o))
      rw [if_pos h]
theorem WInn.stop {p n0 o0 n o : Int} {k : Nat} (w : WInn p n0 o0 n o k) (h : ¬ n % (p * p) = 0) : TCM.whl 10 p n0 o0 = (n, o) := by
  obtain ⟨h0, h1, h2, h3⟩ := w
  rw [← h3]
  cases k with
  | zero => rfl
  | succ k =>
    show (if n % (p * p) = 0 then TCM.whl k p (n / (p * p)) (o * p) else (n, o)) = _
    rw [if_neg h]
theorem cmul_r {i j : Int} (h1 : -1000000 ≤ j) (h2 : j ≤ 1000000) : CMul i j := .inr ⟨by omega, by omega⟩
section
variable {P : Program} {w : World} {K : PySem.W.Frag} {mg : Str → Option Value} {base : Heap} {f : Addr} {fd : FuncData}
/-! ### squares_out -/
def spSquares : Sp := fun vs H Q _ => ∃ n : Int, vs = [.int n] ∧ 0 ≤ n ∧ n ≤ 1000000 ∧ ∀ p H', Same H H' → H p = none → H' p = some (.tup [.int (TCM.sqOut n).1, .int (TCM.sqOut n).2.1, .int (TCM.sqOut n).2.2]) → Q (.ref p) H'
theorem scSquares : FnScope ["number", "outside", "inside", "prime"] ["number"] (defScope sSquares) := ⟨rfl, rfl, rfl, by decide +kernel, rfl, by decide +kernel, by decide +kernel⟩
theorem ok_squares {aP : Addr} (F : FnP K "squares_out" sSquares f fd) (gP : mg "PRIMES" = some (.ref aP)) (hT : ∀ H, SqT K H aP (TCM.primes.map V.int)) : FnOk P w K mg base CX0 1 f fd ["number"] spSquares := by
  refine F.ok scSquares (fun vs H Q E h => ?_) (fun cdv A outer s H vs Q E hr h => ?_)
  · obtain ⟨a, rfl, _⟩ := h
    rfl
  · obtain ⟨n, rfl, h0, h1, q⟩ := h
    refine ⟨_, PSs.nox (pss_cons (ps_if (pt_cmpR op_eq (pv 0) pe_int (nomark _)) (pss_one (ps_ret (pe_tup (pa_cons pe_int (pa_cons pe_int (pa_cons pe_int pa_nil)))))) pss_nil)
      (pss_cons (ps_asg (pe_tup (pa_cons pe_int (pa_cons pe_int pa_nil))) (pg_tup rfl (pgs_cons (pg_name (i := 1) scSquares.nd rfl (.inl rfl)) (pgs_cons (pg_name (i := 2) scSquares.nd rfl (.inl rfl)) pgs_nil))))
      (pss_cons (ps_for PassesOwn.never rfl (pi_tup (pe_glob (v := .ref aP) (by rfl) gP rfl)) (pg_name (i := 3) scSquares.nd rfl (.inl rfl))
        (pss_cons (ps_if (pt_cmpR op_eq (pv 0) pe_int (nomark _)) (pss_one ps_break) pss_nil)
        (pss_cons (ps_while PassesOwn.never (pt_cmpR op_eq (pe_op op_mod (pv 0) (pe_op op_mul (pv 3) (pv 3))) pe_int (nomark _))
          (pss_cons (ps_aug (i := 0) scSquares.nd rfl (.inl rfl) (pe_op op_mul (pv 3) (pv 3)) iop_fdiv) (pss_one (ps_aug (i := 1) scSquares.nd rfl (.inl rfl) (pv 3) iop_mul))))
        (pss_one (ps_if (pt_cmpR op_eq (pe_op op_mod (pv 0) (pv 3)) pe_int (nomark _))
          (pss_cons (ps_aug (i := 0) scSquares.nd rfl (.inl rfl) (pv 3) iop_fdiv) (pss_one (ps_aug (i := 2) scSquares.nd rfl (.inl rfl) (pv 3) iop_mul))) pss_nil)))))
      (pss_one (ps_ret (pe_tup (pa_cons (pv 1) (pa_cons (pv 2) (pa_cons (pv 0) pa_nil))))))))), ?_⟩
    refine ⟨_, rfl, rfl, _, rfl, ?_⟩
    by_cases hn : n = 0
    · subst hn
      refine iteD1 rfl ?_
      exact ⟨by show 3 ≤ sizeLine; decide, fun p hp => q p _ (same_upd hp) hp upd_same⟩
    · refine iteD0 (ine hn) ?_
      have eq0 : TCM.sqOut n = TCM.sqL TCM.primes n 1 1 := if_neg hn
      refine ⟨by show 2 ≤ sizeLine; decide, fun c hc => ?_⟩
      refine ⟨c, _, rfl, SqT.of upd_same, rfl, _, _, rfl, _, _, rfl, rfl, ?_⟩
      have sm1 : Same H (upd H c (.tup [.int 1, .int 1])) := same_upd hc
      replace q : ∀ p, (upd H c (.tup [.int 1, .int 1])) p = none → Q (.ref p) (upd (upd H c (.tup [.int 1, .int 1])) p (.tup [.int (TCM.sqOut n).1, .int (TCM.sqOut n).2.1, .int (TCM.sqOut n).2.2])) := fun p hp => q p _ (sm1.trans (same_upd hp)) (sm1.free hp) upd_same
      generalize upd H c (.tup [.int 1, .int 1]) = H at q ⊢
      refine ⟨aP, rfl, ⟨_, hT H⟩, for_tup (xs := TCM.primes.map V.int) (fun j σ H' => ∃ (n' o i : Int) (pr : Option V), σ = [some (.int n'), some (.int o), some (.int i), pr] ∧ H' = H ∧ 0 < n' ∧ n' ≤ 1000000 ∧ TCM.sqL (TCM.primes.drop j) n' o i = TCM.sqOut n)
        ⟨n, 1, 1, none, rfl, rfl, by omega, h1, eq0.symm⟩ (fun j σ H' _ hP => ?_) (fun j x σ H' hx hP => ?_) (fun σ H' hP => ?_)⟩
      · obtain ⟨_, _, _, _, _, rfl, _⟩ := hP
        exact hT _
      · obtain ⟨n', o, i, pr, rfl, rfl, g0, g1, ge⟩ := hP
        rw [List.getElem?_map] at hx
        obtain ⟨p, hp, rfl⟩ : ∃ p, TCM.primes[j]? = some p ∧ V.int p = x := by
          cases e : TCM.primes[j]? with
          | none =>
            rw [e] at hx
            cases hx
          | some p =>
            rw [e] at hx
            exact ⟨p, rfl, Option.some.inj hx⟩
        obtain ⟨p2, p9⟩ := primes_ok p (List.mem_of_getElem? hp)
        have hdrop : TCM.primes.drop j = p :: TCM.primes.drop (j + 1) := by
          obtain ⟨hl, e⟩ := List.getElem?_eq_some_iff.mp hp
          rw [List.drop_eq_getElem_cons hl, e]
        rw [hdrop] at ge
        obtain ⟨pp1, pp2⟩ := pp_le p2 p9
        have cd : CDiv n' (p * p) := ⟨by omega, by omega⟩
        refine ⟨_, rfl, rfl, _, rfl, ?_⟩
        by_cases hn1 : n' = 1
        · subst hn1
          refine iteD1 rfl ?_
          have e2 : (o, i, (1 : Int)) = TCM.sqOut n := by
            rw [← ge]
            show _ = (if (1 : Int) = 1 then (o, i, (1 : Int)) else _)
            rw [if_pos rfl]
          rw [← e2] at q
          exact ⟨_, rfl, _, rfl, _, rfl, by show 3 ≤ sizeLine; decide, fun p hp => q p hp⟩
        · refine iteD0 (ine hn1) ?_
          refine ⟨fun m σ H'' => ∃ (n2 o2 : Int) (k : Nat), σ = [some (.int n2), some (.int o2), some (.int i), some (.int p)] ∧ H'' = H' ∧ WInn p n' o n2 o2 k ∧ n2.toNat = m,
            ⟨_, n', o, 10, rfl, rfl, WInn.start g0 g1, rfl⟩, fun m σ H'' hW => ?_⟩
          obtain ⟨n2, o2, k, rfl, rfl, hw, hm⟩ := hW
          refine ⟨_, rfl, _, rfl, _, rfl, p, p, rfl, rfl, cmul_r (by omega) (by omega), n2, p * p, rfl, rfl, by show 0 < p * p; omega, rfl, _, rfl, ?_⟩
          by_cases hz : n2 % (p * p) = 0
          · refine iteD1 (congrArg V.int hz) ?_
            obtain ⟨k2, hw2, hlt⟩ := hw.turn p2 hz
            refine ⟨fun σ' H3 => σ' = [some (.int (n2 / (p * p))), some (.int (o2 * p)), some (.int i), some (.int p)] ∧ H3 = H'', fun σ' H3 hN => ?_, ?_⟩
            · obtain ⟨rfl, rfl⟩ := hN
              exact ⟨_, hm ▸ hlt, _, _, k2, rfl, rfl, hw2, rfl⟩
            · exact ⟨_, rfl, _, rfl, _, rfl, p, p, rfl, rfl, cmul_r (by omega) (by omega), n2, p * p, rfl, rfl, ⟨by omega, by omega⟩, _, rfl, _, rfl, o2, p, rfl, rfl, cmul_r (by omega) (by omega), rfl, rfl⟩
          · refine iteD0 (ine hz) ?_
            have ew := hw.stop hz
            obtain ⟨w0, w1, _, _⟩ := hw
            have ge2 : (if n2 % p = 0 then TCM.sqL (TCM.primes.drop (j + 1)) (n2 / p) o2 (i * p) else TCM.sqL (TCM.primes.drop (j + 1)) n2 o2 i) = TCM.sqOut n := by
              rw [← ge]
              show _ = (if n' = 1 then (o, i, n') else if (TCM.whl 10 p n' o).1 % p = 0 then TCM.sqL (TCM.primes.drop (j + 1)) ((TCM.whl 10 p n' o).1 / p) (TCM.whl 10 p n' o).2 (i * p) else TCM.sqL (TCM.primes.drop (j + 1)) (TCM.whl 10 p n' o).1 (TCM.whl 10 p n' o).2 i)
              rw [if_neg hn1, ew]
            refine ⟨_, rfl, _, rfl, n2, p, rfl, rfl, by show 0 < p; omega, rfl, _, rfl, ?_⟩
            by_cases hz2 : n2 % p = 0
            · refine iteD1 (congrArg V.int hz2) ?_
              rw [if_pos hz2] at ge2
              have e3 := Int.mul_ediv_add_emod n2 p
              have l1 : 0 < n2 / p := by
                rcases Int.lt_or_le 0 (n2 / p) with z | z
                · exact z
                · have := Int.mul_le_mul_of_nonneg_left z (show 0 ≤ p by omega)
                  rw [Int.mul_zero] at this
                  omega
              have l2 : n2 / p ≤ 1000000 := Int.le_trans (Int.ediv_le_self _ (by omega)) w1
              exact ⟨_, rfl, _, rfl, n2, p, rfl, rfl, ⟨by omega, by omega⟩, _, rfl, _, rfl, i, p, rfl, rfl, cmul_r (by omega) (by omega), n2 / p, o2, i * p, some (.int p), rfl, rfl, l1, l2, ge2⟩
            · refine iteD0 (ine hz2) ?_
              rw [if_neg hz2] at ge2
              exact ⟨n2, o2, i, some (.int p), rfl, rfl, w0, w1, ge2⟩
      · obtain ⟨n', o, i, pr, rfl, rfl, g0, g1, ge⟩ := hP
        rw [List.length_map, List.drop_length] at ge
        have e2 : (o, i, n') = TCM.sqOut n := ge
        rw [← e2] at q
        exact ⟨_, rfl, _, rfl, _, rfl, by show 3 ≤ sizeLine; decide, fun p hp => q p hp⟩
/-! ### _law_low -/
def spLowL : Sp := fun vs H Q _ => ∃ (t b : Int) (A : Nat), vs = [.int t, .int b] ∧ b ≠ 0 ∧ b.natAbs < 2 ^ A ∧ 0 < A ∧ A ≤ 8000 ∧ ∀ p, H p = none → Q (.ref p) (upd H p (.tup [.int (TCM.lowL t b).1, .int (TCM.lowL t b).2]))
theorem scLowL : FnScope ["_law_up", "_law_under", "_law_one", "_law_other"] ["_law_up", "_law_under"] (defScope sLow) := ⟨rfl, rfl, rfl, by decide +kernel, rfl, by decide +kernel, by decide +kernel⟩
theorem ok_lowL (F : FnP K "_law_low" sLow f fd) (gA : mg "abs" = none) : FnOk P w K mg base CX0 1 f fd ["_law_up", "_law_under"] spLowL := by
  refine F.ok scLowL (fun vs H Q E h => ?_) (fun cdv A outer s H vs Q E hr h => ?_)
  · obtain ⟨a, b, _, rfl, _⟩ := h
    rfl
  · obtain ⟨t, b, Ab, rfl, hb, hz, hA0, hA8, q⟩ := h
    refine ⟨_, PSs.nox (pss_cons (ps_par (i := 2) (j := 3) rfl scLowL.nd rfl rfl (by decide) rfl rfl (pa_cons (pe_callB call_abs (by rfl) gA (by decide +kernel) (pa_cons (pv 0) pa_nil)) (pa_cons (pe_callB call_abs (by rfl) gA (by decide +kernel) (pa_cons (pv 1) pa_nil)) pa_nil)) (by rfl))
      (pss_cons (ps_while PassesOwn.never (pt_cmpR op_gt (pv 3) pe_int (nomark _))
        (pss_one (ps_par (i := 2) (j := 3) rfl scLowL.nd rfl rfl (by decide) rfl rfl (pa_cons (pv 3) (pa_cons (pe_op op_modN (pv 2) (pv 3)) pa_nil)) (by rfl))))
      (pss_one (ps_ret (pe_ifExp (pt_cmpR op_gt (pv 1) pe_int (nomark _))
        (pe_tup (pa_cons (pe_op op_fdivNW (pv 0) (pv 2)) (pa_cons (pe_op op_fdivNW (pv 1) (pv 2)) pa_nil)))
        (pe_tup (pa_cons (pe_op op_fdivNW (pe_un un_neg (pv 0)) (pv 2)) (pa_cons (pe_op op_fdivNW (pe_un un_neg (pv 1)) (pv 2)) pa_nil)))))))), ?_⟩
    refine ⟨_, rfl, t, rfl, _, rfl, b, rfl, _, _, rfl, ?_⟩
    refine ⟨fun m σ H' => ∃ x y : Int, σ = [some (.int t), some (.int b), some (.int x), some (.int y)] ∧ H' = H ∧ 0 ≤ x ∧ 0 ≤ y ∧ Int.gcd x y = Int.gcd t b ∧ y.natAbs = m,
      ⟨_, ((t.natAbs : Nat) : Int), ((b.natAbs : Nat) : Int), ?_, rfl, by omega, by omega, rfl, rfl⟩, fun m σ H' hW => ?_⟩
    · show [some (V.int t), some (V.int b), some (V.int (if t < 0 then -t else t)), some (V.int (if b < 0 then -b else b))] = _
      rw [TCM.abs_eq, TCM.abs_eq]
    · obtain ⟨x, y, rfl, rfl, x0, y0, eg, em⟩ := hW
      refine ⟨_, rfl, y, 0, rfl, rfl, _, rfl, ?_⟩
      by_cases hy : y > 0
      · refine iteD1 hy ?_
        refine ⟨fun σ' H'' => ∃ x' y' : Int, σ' = [some (.int t), some (.int b), some (.int x'), some (.int y')] ∧ H'' = H' ∧ 0 ≤ x' ∧ 0 ≤ y' ∧ Int.gcd x' y' = Int.gcd t b ∧ y'.natAbs < m, fun σ' H'' hN => ?_, ?_⟩
        · obtain ⟨x', y', e1, e2, e3, e4, e5, e6⟩ := hN
          exact ⟨_, e6, x', y', e1, e2, e3, e4, e5, rfl⟩
        · refine ⟨_, rfl, _, rfl, _, rfl, x, y, rfl, rfl, by show y ≠ 0; omega, _, _, rfl, y, x.fmod y, rfl, rfl, y0, Int.fmod_nonneg_of_pos x hy, ?_, ?_⟩
          · rw [TCM.gcd_fmod, eg]
          · rw [← em]
            exact TCM.fmod_lt x y (by omega)
      · refine iteD0 hy ?_
        have ey : y = 0 := by omega
        subst ey
        have ex : x = ((Int.gcd t b : Nat) : Int) := by
          rw [← eg, show Int.gcd x 0 = x.natAbs from Int.gcd_zero_right x]
          omega
        subst ex
        have gp := TCM.gcd_pos t b hb
        have hs : ∀ z, CDivNW z ((Int.gcd t b : Nat) : Int) := fun z => ⟨by omega, log_lt (n := Ab) (by omega) hA0 (Nat.lt_of_le_of_lt (by
          have := TCM.gcd_le t b hb
          omega) hz)⟩
        refine ⟨_, rfl, b, 0, rfl, rfl, _, rfl, ?_⟩
        by_cases hb0 : b > 0
        · refine iteD1 hb0 ?_
          have e : TCM.lowL t b = (t.fdiv ((Int.gcd t b : Nat) : Int), b.fdiv ((Int.gcd t b : Nat) : Int)) := if_pos hb0
          rw [e] at q
          exact ⟨_, rfl, _, rfl, t, _, rfl, rfl, hs _, _, rfl, _, rfl, b, _, rfl, rfl, hs _, by show 2 ≤ sizeLine; decide, fun p hp => q p hp⟩
        · refine iteD0 hb0 ?_
          have e : TCM.lowL t b = ((-t).fdiv ((Int.gcd t b : Nat) : Int), (-b).fdiv ((Int.gcd t b : Nat) : Int)) := if_neg hb0
          rw [e] at q
          exact ⟨_, rfl, t, rfl, _, rfl, -t, _, rfl, rfl, hs _, _, rfl, b, rfl, _, rfl, -b, _, rfl, rfl, hs _, by show 2 ≤ sizeLine; decide, fun p hp => q p hp⟩
/-! ### _law_pen -/
def spPen (K : PySem.W.Frag) : Sp := fun vs H Q _ => ∃ (a : Addr) (ns : List Int), vs = [.ref a] ∧ SqL K H a (ns.map V.int) ∧ ns.length ≤ 63 ∧
  ∀ (p c : Addr) (ms : List Int) H', Same H H' → H p = none → H' p = some (.lst [.ref c, .int 0, .int 0]) → H' c = some (.lst (ms.map V.int)) → p ≠ c → Q (.ref p) H'
theorem scPen : FnScope ["_law_script"] ["_law_script"] (defScope sPen) := ⟨rfl, rfl, rfl, by decide +kernel, rfl, by decide +kernel, by decide +kernel⟩
theorem ok_pen (F : FnP K "_law_pen" sPen f fd) (gl : mg "list" = none) : FnOk P w K mg base CX0 1 f fd ["_law_script"] (spPen K) := by
  refine F.ok scPen (fun vs H Q E h => ?_) (fun cdv A outer s H vs Q E hr h => ?_)
  · obtain ⟨a, ns, rfl, _⟩ := h
    rfl
  · obtain ⟨a, ns, rfl, hS, hn, q⟩ := h
    refine ⟨_, PSs.nox (pss_one (ps_ret (pe_lst (pa_cons (pe_callTy call_list_of (by rfl) gl (by decide +kernel) (pa_cons (pe_slice sl_list (pv 0) po_none (po_some pe_int)) pa_nil)) (pa_cons pe_int (pa_cons pe_int pa_nil)))))), ?_⟩
    refine ⟨_, rfl, _, rfl, a, _, rfl, hS, fun c1 hc1 => ?_⟩
    have sm1 := same_upd (o := .lst (cutV (ns.map V.int) none (some 63))) hc1
    refine ⟨c1, _, rfl, .inl (SqL.of upd_same), fun c hc => ?_⟩
    have sm2 := same_upd (o := .lst (cutV (ns.map V.int) none (some 63))) hc
    refine ⟨by show 3 ≤ sizeLine; decide, fun p hp => ?_⟩
    have sm3 := same_upd (o := .lst [.ref c, .int 0, .int 0]) hp
    have ec : cutV (ns.map V.int) none (some 63) = ((ns.drop (HT.sIx (ns.map V.int).length 0 none)).take (HT.sIx (ns.map V.int).length (ns.map V.int).length (some 63) - HT.sIx (ns.map V.int).length 0 none)).map V.int := by
      rw [List.map_take, List.map_drop]
      rfl
    refine q p c ((ns.drop (HT.sIx (ns.map V.int).length 0 none)).take (HT.sIx (ns.map V.int).length (ns.map V.int).length (some 63) - HT.sIx (ns.map V.int).length 0 none)) _ ((sm1.trans sm2).trans sm3) ((sm1.trans sm2).free hp) upd_same ?_ ?_
    · rw [← ec]
      exact sm3 _ _ upd_same
    · exact fun e => by
        rw [e, upd_same] at hp
        cases hp
/-! ### _law_draw -/
/-- the pen: its cells at c, where it stands, what is left of a great cell -/
def PenAt (H : Hp) (p c : Addr) (ms : List Int) (n : Int) : Prop := ∃ left : Int, H p = some (.lst [.ref c, .int n, .int left]) ∧ H c = some (.lst (ms.map V.int)) ∧ p ≠ c
/-- all but the pen is as it was -/
def SameBut (p : Addr) (H H' : Hp) : Prop := ∀ b o, b ≠ p → H b = some o → H' b = some o
def spDraw : Sp := fun vs H Q _ => ∃ (p c : Addr) (ms : List Int) (n m : Int), vs = [.ref p, .int m] ∧ PenAt H p c ms n ∧ 0 ≤ n ∧ n ≤ 1000000 ∧ 0 < m ∧ m < 2 ^ 1000 ∧
  ∀ (d n' : Int) H', 0 ≤ d → d < m → n ≤ n' → n' ≤ n + 1 → PenAt H' p c ms n' → SameBut p H H' → Q (.int d) H'
theorem scDraw : FnScope ["_law_pen_here", "_law_many", "_law_found", "_law_at", "_law_cell", "_law_number"] ["_law_pen_here", "_law_many"] (defScope sDraw) := ⟨rfl, rfl, rfl, by decide +kernel, rfl, by decide +kernel, by decide +kernel⟩
theorem but_upd {p : Addr} {H H1 : Hp} {o : HO} (s : SameBut p H H1) : SameBut p H (upd H1 p o) := fun b x hb e => by
  rw [upd_ne hb]
  exact s b x hb e
set_option exponentiation.threshold 2000 in
theorem wdiv {i m : Int} (h : 0 < m) (h2 : m < 2 ^ 1000) : CDivW i m := ⟨h, Nat.lt_of_lt_of_le (PySem.Flt.log2_lt_of (show 0 < 1000 by decide) (show m.natAbs < 2 ^ 1000 by omega)) (by decide)⟩
theorem ok_draw (F : FnP K "_law_draw" sDraw f fd) (gl : mg "len" = none) : FnOk P w K mg base CX0 1 f fd ["_law_pen_here", "_law_many"] spDraw := by
  refine F.ok scDraw (fun vs H Q E h => ?_) (fun cdv A outer s H vs Q E hr h => ?_)
  · obtain ⟨p, c, ms, n, m, rfl, _⟩ := h
    rfl
  · obtain ⟨p, c, ms, n, m, rfl, ⟨left, hp, hc, hpc⟩, n0, n1, m0, m1, q⟩ := h
    refine ⟨_, PSs.nox (pss_cons (ps_if (pt_cmpR op_gt (pe_ix ix_list (pv 0) pe_int (fun _ _ => rfl)) pe_int (nomark _))
        (pss_cons (ps_set (i := 2) scDraw.nd rfl (.inl rfl) (pe_op op_mod (pe_ix ix_list (pv 0) pe_int (fun _ _ => rfl)) (pv 1)))
        (pss_cons (ps_asg (pe_op op_fdivW (pe_ix ix_list (pv 0) pe_int (fun _ _ => rfl)) (pv 1)) (pg_sub (pv 0) pe_int set_list))
        (pss_one (ps_ret (pv 2))))) pss_nil)
      (pss_cons (ps_set (i := 3) scDraw.nd rfl (.inl rfl) (pe_ix ix_list (pv 0) pe_int (fun _ _ => rfl)))
      (pss_cons (ps_asg (pe_op op_add (pv 3) pe_int) (pg_sub (pv 0) pe_int set_list))
      (pss_cons (ps_set (i := 4) scDraw.nd rfl (.inl rfl) pe_int)
      (C8.pss_cut (ps_if (pt_cmpR op_gt (pe_callB call_len_seq (by rfl) gl PySem.boot_len (pa_cons (pe_ix ix_list (pv 0) pe_int (fun _ _ => rfl)) pa_nil)) pe_int (nomark _))
        (pss_one (ps_set (i := 4) scDraw.nd rfl (.inl rfl) (pe_ix ix_list (pe_ix ix_list (pv 0) pe_int (fun _ _ => rfl)) (pe_op op_mod (pv 3) (pe_callB call_len_seq (by rfl) gl PySem.boot_len (pa_cons (pe_ix ix_list (pv 0) pe_int (fun _ _ => rfl)) pa_nil))) (fun _ _ => rfl)))) pss_nil)
      (C8.pss_cut (ps_if (PW.pt (pw_and (pt_cmpR op_lt (pv 3) (pe_callB call_len_seq (by rfl) gl PySem.boot_len (pa_cons (pe_ix ix_list (pv 0) pe_int (fun _ _ => rfl)) pa_nil)) (nomark _)) (pw_and1 (pt_cmpR op_ge (pv 4) (pe_op op_pow pe_int pe_int) (nomark _)))))
        (pss_cons (ps_asg (pe_op op_fdivW (pv 4) (pv 1)) (pg_sub (pv 0) pe_int set_list)) (pss_one (ps_ret (pe_op op_mod (pv 4) (pv 1))))) pss_nil)
      (pss_cons (ps_set (i := 5) scDraw.nd rfl (.inl rfl) (pe_op op_mod (pe_op op_mul (pe_op op_add (pe_op op_mod (pv 4) pe_int) pe_int) (pe_op op_add (pe_op op_add (pe_op op_mul (pv 3) (pv 3)) (pe_op op_mul pe_int (pv 3))) pe_int)) pe_int))
      (pss_cons (ps_set (i := 5) scDraw.nd rfl (.inl rfl) (pe_op op_mod (pe_op op_mul (pe_op op_mod (pe_op op_add (pe_op op_pow (pv 5) pe_int) (pe_op op_mul pe_int (pv 3))) pe_int) pe_int) pe_int))
      (C8.pss_cut (ps_if (pt_cmpR op_gt (pv 1) (pe_op op_pow pe_int pe_int) (nomark _))
        (pss_one (ps_set (i := 5) scDraw.nd rfl (.inl rfl) (pe_op op_add (pe_op op_mul (pv 5) pe_int) (pe_op op_mod (pe_op op_mul (pe_op op_mod (pv 5) pe_int) pe_int) pe_int)))) pss_nil)
      (pss_one (ps_ret (pe_op op_mod (pe_op op_fdiv (pv 5) pe_int) (pv 1))))))))))))), ?_⟩
    have i2 : atI ([.ref c, .int n, .int left] : List V) 2 = some (.int left) := atI_nat (j := 2) rfl
    have i1 : atI ([.ref c, .int n, .int left] : List V) 1 = some (.int n) := atI_nat (j := 1) rfl
    refine ⟨_, rfl, p, _, 2, _, rfl, rfl, SqL.of hp, i2, left, 0, rfl, rfl, _, rfl, ?_⟩
    by_cases hl : 0 < left
    · refine iteD1 hl ?_
      refine ⟨_, rfl, p, _, 2, _, rfl, rfl, SqL.of hp, i2, _, rfl, left, m, rfl, rfl, m0, ?_⟩
      refine ⟨_, rfl, p, _, 2, _, rfl, rfl, SqL.of hp, i2, _, rfl, left, m, rfl, rfl, wdiv m0 m1, ?_⟩
      refine ⟨_, rfl, p, _, 2, 2, rfl, rfl, hp, rfl, ?_⟩
      refine ⟨_, rfl, ?_⟩
      exact q _ n _ (Int.emod_nonneg _ (by omega)) (Int.emod_lt_of_pos _ m0) (by omega) (by omega) ⟨left / m, upd_same, by rw [upd_ne hpc.symm]; exact hc, hpc⟩ (but_upd fun _ _ _ e => e)
    · refine iteD0 hl ?_
      refine ⟨_, rfl, p, _, 1, _, rfl, rfl, SqL.of hp, i1, ?_⟩
      refine ⟨_, rfl, n, 1, rfl, rfl, _, rfl, p, _, 1, 1, rfl, rfl, hp, rfl, ?_⟩
      have hp2u : (upd H p (.lst [.ref c, .int (n + 1), .int left])) p = some (.lst [.ref c, .int (n + 1), .int left]) := upd_same
      have hc2u : (upd H p (.lst [.ref c, .int (n + 1), .int left])) c = some (.lst (ms.map V.int)) := by
        rw [upd_ne hpc.symm]
        exact hc
      obtain ⟨H2, eH2⟩ : ∃ H2 : Hp, upd H p (.lst [.ref c, .int (n + 1), .int left]) = H2 := ⟨_, rfl⟩
      have hp2 : H2 p = some (.lst [.ref c, .int (n + 1), .int left]) := by
        rw [← eH2]
        exact hp2u
      have hc2 : H2 c = some (.lst (ms.map V.int)) := by
        rw [← eH2]
        exact hc2u
      have sb : SameBut p H H2 := by
        rw [← eH2]
        exact but_upd fun _ _ _ e => e
      have j0 : atI ([.ref c, .int (n + 1), .int left] : List V) 0 = some (.ref c) := atI_nat (j := 0) rfl
      refine ⟨fun σ H' => ∃ cell : Int, σ = [some (.ref p), some (.int m), none, some (.int n), some (.int cell), none] ∧ H' = H2, ?_, fun σ' H' hM => ?_⟩
      · refine ⟨_, rfl, p, _, 0, _, rfl, rfl, SqL.of hp2u, j0, c, _, rfl, .inl (SqL.of hc2u), _, 0, rfl, rfl, _, rfl, ite2 (fun e => ?_) (fun e => ?_)⟩
        · have e2 : 0 < ((ms.map V.int).length : Int) := of_decide_eq_true e
          rw [List.length_map] at e2
          have hk0 := Int.emod_nonneg n (show (ms.length : Int) ≠ 0 by omega)
          have hk1 := Int.emod_lt_of_pos n e2
          have hk : (n % (ms.length : Int)).toNat < ms.length := by omega
          refine ⟨_, rfl, p, _, 0, _, rfl, rfl, SqL.of hp2u, j0, _, rfl, _, rfl, p, _, 0, _, rfl, rfl, SqL.of hp2u, j0, c, _, rfl, .inl (SqL.of hc2u), n, _, rfl, rfl, by
            show 0 < ((ms.map V.int).length : Int)
            rw [List.length_map]
            exact e2, c, _, _, .int (ms[(n % (ms.length : Int)).toNat]), rfl, rfl, SqL.of hc2u, ?_, ?_⟩
          · rw [List.length_map]
            exact at_of (j := (n % (ms.length : Int)).toNat) (by omega) (by rw [List.getElem?_map, List.getElem?_eq_getElem hk]; rfl)
          · exact ⟨_, rfl, eH2⟩
        · exact ⟨7, rfl, eH2⟩
      · obtain ⟨cell, rfl, eM⟩ := hM
        replace eM := eM.symm
        subst eM
        refine ⟨fun σ H' => σ = [some (.ref p), some (.int m), none, some (.int n), some (.int cell), none] ∧ H' = H2, ?_, fun σ' H' hM => ?_⟩
        · refine ⟨_, rfl, _, rfl, p, _, 0, _, rfl, rfl, SqL.of hp2, j0, c, _, rfl, .inl (SqL.of hc2), n, _, rfl, rfl, _, rfl, ite2 (fun _ => ?_) (fun _ => iteF ⟨rfl, rfl⟩)⟩
          refine ⟨_, rfl, 10, 18, rfl, rfl, ⟨by decide, by decide, by decide⟩, cell, _, rfl, rfl, _, rfl, ite2 (fun _ => ?_) (fun _ => ⟨rfl, rfl⟩)⟩
          refine ⟨_, rfl, _, rfl, cell, m, rfl, rfl, wdiv m0 m1, _, rfl, p, _, 2, 2, rfl, rfl, hp2, rfl, ?_⟩
          refine ⟨_, rfl, _, rfl, cell, m, rfl, rfl, m0, ?_⟩
          exact q _ (n + 1) _ (Int.emod_nonneg _ (by omega)) (Int.emod_lt_of_pos _ m0) (by omega) (by omega) ⟨cell / m, upd_same, by rw [upd_ne hpc.symm]; exact hc2, hpc⟩ (but_upd sb)
        · obtain ⟨rfl, eM⟩ := hM
          replace eM := eM.symm
          subst eM
          have c0 := Int.emod_nonneg cell (show (2147483629 : Int) ≠ 0 by decide)
          have c1 := Int.emod_lt_of_pos cell (show (0 : Int) < 2147483629 by decide)
          refine ⟨_, rfl, cell, 2147483629, rfl, rfl, (show (0 : Int) < 2147483629 by decide), _, 11, rfl, rfl, _, rfl, _, rfl, n, n, rfl, rfl, .inl ⟨by omega, by omega⟩, _, rfl, 5, n, rfl, rfl, .inl ⟨by decide, by decide⟩, _, _, rfl, rfl, _, 3, rfl, rfl, _, _, rfl, rfl, .inl ⟨by omega, by omega⟩, _, 2147483647, rfl, rfl, (show (0 : Int) < 2147483647 by decide), ?_⟩
          have hz2 : ∀ z : Int, (z % 2147483647).natAbs < 2 ^ 64 := fun z => by
            have d0 := Int.emod_nonneg z (show (2147483647 : Int) ≠ 0 by decide)
            have d1 := Int.emod_lt_of_pos z (show (0 : Int) < 2147483647 by decide)
            omega
          refine ⟨_, rfl, _, 3, rfl, rfl, ⟨by decide, by decide, hz2 _⟩, _, rfl, 69621, n, rfl, rfl, .inl ⟨by decide, by decide⟩, _, _, rfl, rfl, _, 2147483587, rfl, rfl, (show (0 : Int) < 2147483587 by decide), _, 40692, rfl, rfl, .inr ⟨by decide, by decide⟩, _, 2147483399, rfl, rfl, (show (0 : Int) < 2147483399 by decide), ?_⟩
          refine ⟨fun σ H' => ∃ z : Int, σ = [some (.ref p), some (.int m), none, some (.int n), some (.int cell), some (.int z)] ∧ H' = H2, ?_, fun σ' H' hM => ?_⟩
          · refine ⟨_, rfl, 10, 6, rfl, rfl, ⟨by decide, by decide, by decide⟩, m, _, rfl, rfl, _, rfl, ite2 (fun _ => ?_) (fun _ => ⟨_, rfl, rfl⟩)⟩
            exact ⟨_, rfl, _, 2147483629, rfl, rfl, .inr ⟨by decide, by decide⟩, _, rfl, _, 1000003, rfl, rfl, (show (0 : Int) < 1000003 by decide), _, 48271, rfl, rfl, .inr ⟨by decide, by decide⟩, _, 2147483587, rfl, rfl, (show (0 : Int) < 2147483587 by decide), _, _, rfl, rfl, _, rfl, rfl⟩
          · obtain ⟨z, rfl, eM⟩ := hM
            replace eM := eM.symm
            subst eM
            refine ⟨_, rfl, z, 64, rfl, rfl, ⟨by decide, by decide⟩, _, rfl, _, m, rfl, rfl, m0, ?_⟩
            exact q _ (n + 1) _ (Int.emod_nonneg _ (by omega)) (Int.emod_lt_of_pos _ m0) (by omega) (by omega) ⟨left, hp2, hc2, hpc⟩ sb
end
end TC
/-! name = {k: v for ..}, the name a local: the dict is stored while the comprehension's block still stands. -/
namespace TCA
open PySem PySem.Spec PyProof.Rows L2
section
variable {X : Cx}
theorem sw_dict {kx vx : Expr} {gs : List Comprehension} {scope : Scope} {pos py : Pos} {y : Str} {l : Nat} {env : Env} (hk : env.scope.kind = .function) (hy : env.scope.names.lookup y = some .local) (hl : (py.line == pos.line) = true)
    (ha : (scope.names.any fun (n, k) => n == y && (k == .local || k == .cell)) = false) : swapsWith (.DictComp kx vx gs scope pos) (some (.Name y py)) l env = pure true := by
  have e1 : env.kindOf y = some .local := hy
  have e2 : env.blockKind = .function := by
    unfold Env.blockKind
    rw [hk]
    rfl
  unfold swapsWith
  simp only [e2, e1, ha, Expr.pos, hl]
  rfl
theorem ps_setDc {i : Nat} {y : Str} {py : Pos} {kx vx tg iter : Expr} {ifs : List Expr} {scope : Scope} {own : List (Str × Nat)} {pos spos : Pos} {wi : TI} {g : TG} {tt : TT} {tk tv : TE} (hc : X.calm = true) (hN : X.N.Nodup) (hy : X.N[i]? = some y) (hyl : X.env.scope.names.lookup y = some .local)
    (hsw : swapsWith (.DictComp kx vx [⟨tg, iter, ifs, 0⟩] scope pos) (some (.Name y py)) spos.line X.env = pure true) (hi : PI X tg iter wi) (ok : BlkOk X.N X.env.scope scope own)
    (hg : ∀ (s : Shared) (H : Hp) (C : Addr) (cl : List (Str × Addr)) (fp : List Addr), PG (X.blk s H scope (compEnvC scope cl C X.env) fp) tg g)
    (ht : ∀ (s : Shared) (H : Hp) (C : Addr) (cl : List (Str × Addr)) (fp : List Addr), PTs (X.blk s H scope (compEnvC scope cl C X.env) fp) ifs tt)
    (hk : ∀ (s : Shared) (H : Hp) (C : Addr) (cl : List (Str × Addr)) (fp : List Addr), PE (X.blk s H scope (compEnvC scope cl C X.env) fp) kx tk)
    (hv : ∀ (s : Shared) (H : Hp) (C : Addr) (cl : List (Str × Addr)) (fp : List Addr), PE (X.blk s H scope (compEnvC scope cl C X.env) fp) vx tv)
    (hs : ∀ x, foldedSetIterable iter X.env x = pure x := by intro _; rfl) :
    PS X (.Assign [.Name y py] (.DictComp kx vx [⟨tg, iter, ifs, 0⟩] scope pos) spos) (tAsg (tDc wi g tt tk tv (own.map (·.2))) (gName i)) := by
  refine ⟨fun pins s σ H D I h => ?_⟩
  rw [exec_Assign_Name_used _ _ _ _ hsw]
  refine wpAny_bind (wpAny_standAt (wpAny_bind ?_))
  show wpAny _ X.A (do let _ ← comprehension (.DictComp kx vx [⟨tg, iter, ifs, 0⟩] scope pos) scope X.env (firstIterPos [⟨tg, iter, ifs, 0⟩] pos) newDict false (eval iter X.env) (some (assign (.Name y py) X.env))) _ _ s
  have h' : tDc wi g tt tk tv (own.map (·.2)) σ H (fun x H1 => gName i x σ H1 D.nx) := h
  have core := dc_core (Qf := fun _ s' => SP X pins D .next s') (pos := pos) (pos' := firstIterPos [⟨tg, iter, ifs, 0⟩] pos) (use := some (assign (.Name y py) X.env)) hc hN I hi ok hg ht hk hv hs h' fun d C s' m H' I' q hn fp => by
    show wpAny _ _ (assign (.Name y py) X.env (.ref d)) _ _ _
    refine wpAny_assign_Name (store_ok2 (v := V.ref d) I' hN hy (.inl hyl) rfl (fun s2 I2 ⟨a, sb, ha⟩ => ?_) (.inr hyl))
    obtain ⟨f0, f1, f2, f3, f4, f5⟩ := fp
    have hCa : C ≠ a := by
      rcases ha with z | z
      · rw [z]
        exact f1
      · exact fun e => f4 y a z e.symm
    exact ⟨m, hn.sameBut sb hCa, fun h3 sb3 => ⟨_, H', I2.turned (t' := s2.toks) (fun b o hb e => (sb3.2 b hb).trans e) f0 f1 f3 f4 f5, q⟩⟩
  exact wpAny_bind (thn core fun _ s' hq => wpAny_pure (wpAny_pure hq))
/-! a for over a list or a tuple, whichever it is -/
theorem seqL_at {K : PySem.W.Frag} {H H' : Hp} {a : Addr} {xs : List V} (e : ∀ u, H a = some u → H' a = some u) (h : SqL K H a xs) : SqL K H' a xs := by
  rcases h with (h | ⟨o, h⟩) | h
  · exact .inl (.inl (e _ h))
  · exact .inl (.inr ⟨o, e _ h⟩)
  · exact .inr h
theorem seqT_at {K : PySem.W.Frag} {H H' : Hp} {a : Addr} {xs : List V} (e : ∀ u, H a = some u → H' a = some u) (h : SqT K H a xs) : SqT K H' a xs := by
  rcases h with (h | ⟨o, h⟩) | h
  · exact .inl (.inl (e _ h))
  · exact .inl (.inr ⟨o, e _ h⟩)
  · exact .inr h
def iSeq (K : PySem.W.Frag) (tl : TE) : TI := fun σ H R => tl σ H fun x H1 => ∃ a xs, x = .ref a ∧ (SqL K H1 a xs ∨ SqT K H1 a xs) ∧ ∀ (J : It) (G : Hp → Prop), (∀ H', (∀ u, H1 a = some u → H' a = some u) → G H') → Walk J xs.length G (YAt xs) → R J H1
theorem pi_seq {tg l : Expr} {tl : TE} (hl : PE X l tl) : PI X tg l (iSeq X.K tl) := by
  refine ⟨fun pins s σ H R I h => thn (hl.run pins s σ H _ I h) fun v s1 ⟨x, H1, I1, r1, q1⟩ => ?_⟩
  obtain ⟨a, xs, ex, hq, q⟩ := q1
  subst ex
  cases r1
  have own : ∀ b ∈ [s1.heap.objs.size], FpOk X pins H1 b := fun b hb => by
    rw [List.mem_singleton.mp hb]
    exact I1.fpOk (Nat.le_refl _) (I1.hok.fresh (Nat.le_refl _))
  rcases hq with hq | hq
  · obtain ⟨its, _, pl, _⟩ := I1.list hq
    exact wpAny_pyIter_list pl.isList ⟨s1.heap.objs.size, [s1.heap.objs.size], _, _, H1, rfl, I1.kept (t' := s1.toks) fun b o e => Heap.get?_push_of_some _ e, turn_list a _, ⟨_, Heap.get?_push_size _ rfl, rfl, rfl⟩, own, q _ _ (fun H' e => seqL_at e hq) walk_list⟩
  · obtain ⟨its, _, pl, _⟩ := I1.tuple hq
    exact wpAny_pyIter_tuple (show s1.heap.IsTuple a its.toArray from pl) ⟨s1.heap.objs.size, [s1.heap.objs.size], _, _, H1, rfl, I1.kept (t' := s1.toks) fun b o e => Heap.get?_push_of_some _ e, turn_tuple a _, ⟨_, Heap.get?_push_size _ rfl, rfl, rfl⟩, own, q _ _ (fun H' e => seqT_at e hq) walk_tup⟩
end
end TCA
namespace TC
open PySem PySem.Spec PyProof.Rows L2 TCA
/-! ### what stands in the heap -/
abbrev Part : Type := Int × Rat
def parV (x : Part) : HO := .tup [.int x.1, .int x.2.num, .int (x.2.den : Int)]
def fraV (q : Rat) : HO := .tup [.int q.num, .int (q.den : Int)]
def Refs (H : Hp) : List Addr → List Part → Prop
  | [], [] => True
  | u :: us, x :: L => H u = some (parV x) ∧ Refs H us L
  | _, _ => False
theorem Refs.same {H H' : Hp} (e : Same H H') : ∀ {us : List Addr} {L : List Part}, Refs H us L → Refs H' us L
  | [], [], _ => trivial
  | u :: us, x :: L, h => ⟨e _ _ h.1, Refs.same e h.2⟩
  | [], _ :: _, h => h.elim
  | _ :: _, [], h => h.elim
theorem Refs.len {H : Hp} : ∀ {us : List Addr} {L : List Part}, Refs H us L → us.length = L.length
  | [], [], _ => rfl
  | u :: us, x :: L, h => congrArg Nat.succ (Refs.len h.2)
  | [], _ :: _, h => h.elim
  | _ :: _, [], h => h.elim
theorem Refs.get {H : Hp} : ∀ {us : List Addr} {L : List Part} {i : Nat} {v : V}, Refs H us L → (us.map V.ref)[i]? = some v → ∃ u x, v = .ref u ∧ us[i]? = some u ∧ L[i]? = some x ∧ H u = some (parV x)
  | [], [], i, v, _, e => by simp at e
  | u :: us, x :: L, 0, v, h, e => ⟨u, x, (Option.some.inj e).symm, rfl, rfl, h.1⟩
  | u :: us, x :: L, i + 1, v, h, e => by
    have e' : (us.map V.ref)[i]? = some v := e
    obtain ⟨u', x', a, b, c, d⟩ := Refs.get h.2 e'
    exact ⟨u', x', a, b, c, d⟩
  | [], _ :: _, _, _, h, _ => h.elim
  | _ :: _, [], _, _, h, _ => h.elim
theorem Refs.snoc {H : Hp} {u : Addr} {x : Part} (hu : H u = some (parV x)) : ∀ {us : List Addr} {L : List Part}, Refs H us L → Refs H (us ++ [u]) (L ++ [x])
  | [], [], _ => ⟨hu, trivial⟩
  | v :: us, y :: L, h => ⟨h.1, Refs.snoc hu h.2⟩
  | [], _ :: _, h => h.elim
  | _ :: _, [], h => h.elim
theorem Refs.all {H : Hp} : ∀ {us : List Addr} {L : List Part}, Refs H us L → ∀ u ∈ us, ∃ x, H u = some (parV x)
  | [], [], _, u, hu => by cases hu
  | v :: us, y :: L, h, u, hu => by
    rcases List.mem_cons.mp hu with e | e
    · rw [e]
      exact ⟨y, h.1⟩
    · exact Refs.all h.2 u e
  | [], _ :: _, h, _, _ => h.elim
  | _ :: _, [], h, _, _ => h.elim
theorem Refs.upd {H : Hp} {l : Addr} {o : HO} (hl : ∀ x, H l ≠ some (parV x)) : ∀ {us : List Addr} {L : List Part}, Refs H us L → Refs (L2.upd H l o) us L
  | [], [], _ => trivial
  | u :: us, x :: L, h => ⟨by
    rw [upd_ne fun e => hl x (by rw [← e]; exact h.1)]
    exact h.1, Refs.upd hl h.2⟩
  | [], _ :: _, h => h.elim
  | _ :: _, [], h => h.elim
def PartsL (H : Hp) (p : Addr) (L : List Part) : Prop := ∃ us, H p = some (.tup (us.map V.ref)) ∧ Refs H us L
theorem PartsL.same {H H' : Hp} {p : Addr} {L : List Part} (e : Same H H') (h : PartsL H p L) : PartsL H' p L := by
  obtain ⟨us, h1, h2⟩ := h
  exact ⟨us, e _ _ h1, h2.same e⟩
def NumAt (C : Addr) (H : Hp) (x : Addr) (L : List Part) : Prop := ∃ dx p, H x = some (.ins C dx [("parts", .ref p)]) ∧ PartsL H p L
theorem NumAt.same {C : Addr} {H H' : Hp} {x : Addr} {L : List Part} (e : Same H H') (h : NumAt C H x L) : NumAt C H' x L := by
  obtain ⟨dx, p, h1, h2⟩ := h
  exact ⟨dx, p, e _ _ h1, h2.same e⟩
/-! ### as data -/
def parD (x : Part) : PyData := .tuple [.int x.1, .int x.2.num, .int (x.2.den : Int)]
def toD (L : List Part) : PyData := .tuple (L.map parD)
theorem Refs.dp {K : PySem.W.Frag} {H : Hp} : ∀ {us : List Addr} {L : List Part}, Refs H us L → DpAll K H (us.map V.ref) (L.map parD)
  | [], [], _ => .nil
  | u :: us, x :: L, h => .cons (.tup (SqT.of h.1) (.cons (.int _) (.cons (.int _) (.cons (.int _) .nil)))) (Refs.dp h.2)
  | [], _ :: _, h => h.elim
  | _ :: _, [], h => h.elim
theorem PartsL.dp {K : PySem.W.Frag} {H : Hp} {p : Addr} {L : List Part} (h : PartsL H p L) : Dp K H (.ref p) (toD L) := by
  obtain ⟨us, h1, h2⟩ := h
  exact .tup (SqT.of h1) h2.dp
theorem toD_shaped (L : List Part) : SeqAt.shaped (toD L) = true := by
  have h1 : ∀ L : List Part, PyData.canLayAll0 (L.map parD) = true := fun L => by
    induction L with
    | nil => rfl
    | cons x L ih =>
      show (PyData.canLay0 (parD x) && PyData.canLayAll0 (L.map parD)) = true
      rw [ih]
      rfl
  have h2 : ∀ L : List Part, PyData.depthAll (L.map parD) ≤ 1 := fun L => by
    induction L with
    | nil => exact Nat.zero_le _
    | cons x L ih =>
      show max (PyData.depth (parD x)) (PyData.depthAll (L.map parD)) ≤ 1
      exact Nat.max_le.mpr ⟨Nat.le_refl 1, ih⟩
  show (PyData.canLayAll0 (L.map parD) && decide (PyData.depthAll (L.map parD) + 1 ≤ 64)) = true
  rw [h1, decide_eq_true (by have := h2 L; omega)]
  rfl
theorem parD_eqv (x y : Part) : PyData.eqv (parD x) (parD y) = decide (x = y) := by
  obtain ⟨r, q⟩ := x
  obtain ⟨s, p⟩ := y
  simp only [parD, PyData.eqv, PyData.eqvAll]
  by_cases h1 : r = s
  · by_cases h2 : q = p
    · subst h1
      subst h2
      simp
    · have h3 : ¬ (q.num = p.num ∧ (q.den : Int) = (p.den : Int)) := fun z => h2 (Rat.ext z.1 (by omega))
      have h4 : ¬ ((r, q) = (s, p)) := fun z => h2 (Prod.ext_iff.mp z).2
      rw [decide_eq_false h4]
      rcases Classical.not_and_iff_not_or_not.mp h3 with z | z
      · simp [z]
      · have z2 : ¬ q.den = p.den := fun w => z (by rw [w])
        simp [z2]
        exact fun _ _ => z
  · have h4 : ¬ ((r, q) = (s, p)) := fun z => h1 (Prod.ext_iff.mp z).1
    rw [decide_eq_false h4]
    simp [h1]
theorem toD_eqv (L M : List Part) : PyData.eqv (toD L) (toD M) = decide (L = M) := by
  show PyData.eqvAll (L.map parD) (M.map parD) = decide (L = M)
  induction L generalizing M with
  | nil =>
    cases M with
    | nil => rfl
    | cons y M => rfl
  | cons x L ih =>
    cases M with
    | nil => rfl
    | cons y M =>
      show (PyData.eqv (parD x) (parD y) && PyData.eqvAll (L.map parD) (M.map parD)) = _
      rw [parD_eqv, ih]
      by_cases h1 : x = y <;> by_cases h2 : L = M <;> simp [h1, h2]
/-! ### dicts from roots to fractions -/
def DictAt (H : Hp) (d : Addr) (ks : List Int) (g : Int → Rat) : Prop := ∃ kvs, H d = some (.dK kvs) ∧ kvs.map (·.1) = ks.map (Sum.inl : Int → Key) ∧
  (∀ r ∈ ks, ∃ u, valV kvs (Sum.inl r : Key) = some (.ref u) ∧ H u = some (fraV (g r))) ∧ ks.Nodup ∧ ∀ r, r ∉ ks → g r = 0
theorem DictAt.same {H H' : Hp} {d : Addr} {ks : List Int} {g : Int → Rat} (e : Same H H') (h : DictAt H d ks g) : DictAt H' d ks g := by
  obtain ⟨kvs, h1, h2, h3, h4⟩ := h
  exact ⟨kvs, e _ _ h1, h2, fun r hr => by
    obtain ⟨u, a, b⟩ := h3 r hr
    exact ⟨u, a, e _ _ b⟩, h4⟩
theorem DictAt.imp {H : Hp} {d : Addr} {ks : List Int} {g g' : Int → Rat} (h : DictAt H d ks g) (e : ∀ r, g r = g' r) : DictAt H d ks g' := by
  have : g = g' := funext e
  rw [← this]
  exact h
def addKey (ks : List Int) (r : Int) : List Int := if r ∈ ks then ks else ks ++ [r]
def setF (g : Int → Rat) (r : Int) (q : Rat) : Int → Rat := fun s => if s = r then q else g s
theorem addKey_len (ks : List Int) (r : Int) : (addKey ks r).length ≤ ks.length + 1 := by
  unfold addKey
  split
  · omega
  · rw [List.length_append, List.length_singleton]
    exact Nat.le_refl _
theorem mem_addKey {ks : List Int} {r s : Int} : s ∈ addKey ks r ↔ s ∈ ks ∨ s = r := by
  unfold addKey
  split
  · rename_i h
    exact ⟨.inl, fun z => z.elim id fun e => e ▸ h⟩
  · simp
theorem inl_ne {a b : Int} (h : a ≠ b) : (Sum.inl a : Key) ≠ Sum.inl b := fun e => h (Sum.inl.inj e)
theorem valV_out {kvs : List (Key × V)} {ks : List Int} {r : Int} (e : kvs.map (·.1) = ks.map (Sum.inl : Int → Key)) (h : r ∉ ks) : valV kvs (Sum.inl r : Key) = none := by
  cases z : valV kvs (Sum.inl r : Key) with
  | none => rfl
  | some v =>
    have m := valV_in z
    rw [e] at m
    obtain ⟨s, hs, es⟩ := List.mem_map.mp m
    exact absurd (Sum.inl.inj es ▸ hs) h
theorem keys_put {kvs : List (Key × V)} {ks : List Int} {r : Int} {v : V} (e : kvs.map (·.1) = ks.map (Sum.inl : Int → Key)) : (putK kvs (Sum.inl r : Key) v).map (·.1) = (addKey ks r).map (Sum.inl : Int → Key) := by
  unfold putK addKey
  by_cases h : r ∈ ks
  · have a : (kvs.any fun kv => decide (kv.1 = (Sum.inl r : Key))) = true := by
      have m : (Sum.inl r : Key) ∈ kvs.map (·.1) := by
        rw [e]
        exact List.mem_map.mpr ⟨r, h, rfl⟩
      obtain ⟨p, hp, ep⟩ := List.mem_map.mp m
      exact List.any_eq_true.mpr ⟨p, hp, decide_eq_true ep⟩
    rw [if_pos a, if_pos h, List.map_map, ← e]
    refine List.map_congr_left fun kv _ => ?_
    show (if kv.1 = (Sum.inl r : Key) then (kv.1, v) else kv).1 = kv.1
    split <;> rfl
  · have a : ¬ (kvs.any fun kv => decide (kv.1 = (Sum.inl r : Key))) = true := by
      rw [valV_any, valV_out e h]
      decide
    rw [if_neg a, if_neg h, List.map_append, List.map_append, e]
    rfl
theorem nd_addKey {ks : List Int} {r : Int} (h : ks.Nodup) : (addKey ks r).Nodup := by
  unfold addKey
  split
  · exact h
  · rename_i z
    rw [List.nodup_append]
    refine ⟨h, by simp, fun a ha b hb => ?_⟩
    rw [List.mem_singleton.mp hb]
    exact fun e => z (e ▸ ha)
theorem put_ok {H : Hp} {d u : Addr} {kvs : List (Key × V)} {ks : List Int} {g : Int → Rat} {r : Int} {q : Rat} (e : H d = some (.dK kvs)) (ek : kvs.map (·.1) = ks.map (Sum.inl : Int → Key))
    (hv : ∀ r ∈ ks, ∃ u, valV kvs (Sum.inl r : Key) = some (.ref u) ∧ H u = some (fraV (g r))) (nd : ks.Nodup) (out : ∀ r, r ∉ ks → g r = 0) (hu : H u = some (fraV q)) :
    DictAt (upd H d (.dK (putK kvs (Sum.inl r : Key) (.ref u)))) d (addKey ks r) (setF g r q) := by
  have nu : ∀ {v : Addr} {p : Rat}, H v = some (fraV p) → v ≠ d := fun {v p} hv z => by
    rw [z, e] at hv
    cases hv
  refine ⟨_, upd_same, keys_put ek, fun s hs => ?_, nd_addKey nd, fun s hs => ?_⟩
  · rw [valV_put]
    by_cases es : s = r
    · subst es
      refine ⟨u, if_pos rfl, ?_⟩
      rw [upd_ne (nu hu)]
      show H u = some (fraV (if s = s then q else g s))
      rw [if_pos rfl]
      exact hu
    · have hs' : s ∈ ks := (mem_addKey.mp hs).resolve_right es
      obtain ⟨v, a, b⟩ := hv s hs'
      refine ⟨v, by rw [if_neg (inl_ne es)]; exact a, ?_⟩
      rw [upd_ne (nu b)]
      show H v = some (fraV (if s = r then q else g s))
      rw [if_neg es]
      exact b
  · have h1 : s ∉ ks := fun z => hs (mem_addKey.mpr (.inl z))
    have h2 : s ≠ r := fun z => hs (mem_addKey.mpr (.inr z))
    show (if s = r then q else g s) = 0
    rw [if_neg h2, out s h1]
theorem dget_in {H : Hp} {d : Addr} {kvs : List (Key × V)} {r : Int} {v : V} (e : H d = some (.dK kvs)) (h : valV kvs (Sum.inl r : Key) = some v) : DGet H d (.int r) (some v) := by
  have z := DGet.k (k := (Sum.inl r : Key)) e
  rw [h] at z
  exact z
theorem dget_out {H : Hp} {d : Addr} {kvs : List (Key × V)} {r : Int} (e : H d = some (.dK kvs)) (h : valV kvs (Sum.inl r : Key) = none) : DGet H d (.int r) none := by
  have z := DGet.k (k := (Sum.inl r : Key)) e
  rw [h] at z
  exact z
theorem len_keys {kvs : List (Key × V)} {ks : List Int} (e : kvs.map (·.1) = ks.map (Sum.inl : Int → Key)) : kvs.length = ks.length := by
  have := congrArg List.length e
  simpa using this
end TC
namespace TC
open PySem PySem.Spec PyProof.Rows L2 TCA
theorem fdiv_nat (m n : Nat) : (m : Int).fdiv (n : Int) = ((m / n : Nat) : Int) := by
  rw [Int.fdiv_eq_ediv_of_nonneg _ (by omega)]
  rfl
theorem cdivn {i : Int} {n B : Nat} (h0 : 0 < n) (h : n < 2 ^ B) (hB : 0 < B) (hB2 : B ≤ 8000) : CDivNW i (n : Int) := ⟨by omega, log_lt (n := B) (by omega) hB (by rw [Int.natAbs_natCast]; exact h)⟩
theorem cmulw {i j : Int} {A B : Nat} (h1 : i.natAbs < 2 ^ A) (h2 : j.natAbs < 2 ^ B) (hA : 0 < A) (hB : 0 < B) (h : A + B ≤ 100000) : CMulW i j := wide_mul h1 h2 hA hB (by omega)
/-- what is asked of the class Exact as the top has made it -/
structure TxtN (K : PySem.W.Frag) (mg : Str → Option Value) (C fI fQ : Addr) : Prop where
  cl : Cls K C
  nP : NoAttr K C "parts"
  mkr : Mk K C fI
  mq : Meth K C "__eq__" fQ
  mgC : mg "Exact" = some (.ref C)
  ne : PySem.W.findIn K (.ref C) "__ne__" = some (some (.builtin "object.__ne__"))
  ca : PySem.W.findIn K (.ref C) "__class__" = some (some (.builtin "object.__class__"))
  cn : PySem.W.specialIn K (.builtin "object.__class__") "__get__" = some (some (.builtin "getset_descriptor.__get__"))
  ct : PySem.W.takesIn K (.builtin "object.__class__") = some true
  cm : PySem.W.mroIn K C (.type "object") = some true
abbrev kwE : List (Str × V) := [("bottom", .int 1), ("root", .int 1)]
abbrev psE : List Str := ["top", "bottom", "root"]
abbrev FnE (K : PySem.W.Frag) (f : Addr) (fd : FuncData) : Prop := FunD K "exact" "exact" (defArgs sExact) (defBody sExact) (defScope sExact) [] kwE f fd
abbrev FnM (K : PySem.W.Frag) (m q : Str) (st : Stmt) (f : Addr) (fd : FuncData) : Prop := FunD K m q (defArgs st) (defBody st) (defScope st) [] [] f fd
/-- the parts of top / bottom times the root of a number with the squares taken out -/
def oneL (r t b : Int) : List Part := if t = 0 then [] else [(r, Rat.divInt t b)]
def exL (t b r : Int) : List Part := oneL (TCM.sqOut r).2.1 (t * (TCM.sqOut r).1) b
def RootOk (r : Int) : Prop := 0 ≤ r ∧ r ≤ 1000000 ∧ (TCM.sqOut r).2.2 = 1 ∧ 0 ≤ (TCM.sqOut r).1 ∧ (TCM.sqOut r).1 ≤ 1000
section
variable {P : Program} {w : World} {K : PySem.W.Frag} {mg : Str → Option Value} {base : Heap} {f : Addr} {fd : FuncData} {C fI fQ : Addr}
theorem TxtN.ty (T : TxtN K mg C fI fQ) {H : Hp} {a dx : Addr} {fs : List (Str × V)} (e : H a = some (.ins C dx fs)) : TyX K H (.ref a) (.ref C) := .base (.ins e T.cl T.ca T.cn T.ct T.cm)
theorem kit_self : PySem.W.kitOne K (.ref C) (.ref C) = some true := by
  show (if ((Value.ref C) == (Value.ref C)) = true then some true else _) = some true
  rw [if_pos (by simp)]
/-! ### sum_in_lowest -/
def spSumLow : Sp := fun vs H Q _ => ∃ (p q : Rat) (A B : Nat), vs = [.int p.num, .int (p.den : Int), .int q.num, .int (q.den : Int)] ∧ TCR.Sz A p ∧ TCR.Sz B q ∧ 0 < A ∧ 0 < B ∧ A + B ≤ 8000 ∧ ∀ c, H c = none → Q (.ref c) (upd H c (fraV (p + q)))
theorem scSumLow : FnScope ["top", "bottom", "other", "below", "common", "found", "left"] ["top", "bottom", "other", "below"] (defScope sSumLow) := ⟨rfl, rfl, rfl, by decide +kernel, rfl, by decide +kernel, by decide +kernel⟩
theorem ok_sumLow {fS : Addr} {fdS : FuncData} (F : FnP K "sum_in_lowest" sSumLow f fd) (GS : FnOk P w K mg base CX0 1 fS fdS ["one", "other"] spShared) (bS : L2.Binds K fdS ["one", "other"] []) (kS : PySem.W.keepIn K (.ref fS) = true) (gS : mg "shared" = some (.ref fS)) :
    FnOk P w K mg base CX0 2 f fd ["top", "bottom", "other", "below"] spSumLow := by
  refine F.ok scSumLow (fun vs H Q E h => ?_) (fun cdv A outer s H vs Q E hr h => ?_)
  · obtain ⟨p, q, A, B, rfl, _⟩ := h
    rfl
  · obtain ⟨p, q, a, b, rfl, zp, zq, a0, b0, ab, k⟩ := h
    refine ⟨_, PSs.nox (pss_cons (ps_set (i := 4) scSumLow.nd rfl (.inl rfl) (pe_call GS hr (by rfl) gS kS bS .nil pass0 (pa_cons (pv 1) (pa_cons (pv 3) pa_nil))))
      (pss_cons (ps_set (i := 5) scSumLow.nd rfl (.inl rfl) (pe_op op_add (pe_op op_mulW (pv 0) (pe_op op_fdivNW (pv 3) (pv 4))) (pe_op op_mulW (pv 2) (pe_op op_fdivNW (pv 1) (pv 4)))))
      (pss_cons (ps_set (i := 6) scSumLow.nd rfl (.inl rfl) (pe_call GS hr (by rfl) gS kS bS .nil pass0 (pa_cons (pv 5) (pa_cons (pv 4) pa_nil))))
      (pss_one (ps_ret (pe_tup (pa_cons (pe_op op_fdivNW (pv 5) (pv 6)) (pa_cons (pe_op op_mulW (pe_op op_fdivNW (pv 1) (pv 4)) (pe_op op_fdivNW (pv 3) (pv 6))) pa_nil)))))))), ?_⟩
    obtain ⟨e1, e2, g0, l0, ga, gb, ln, lb⟩ := TCR.sum_low p q
    have gle : Nat.gcd p.den q.den ≤ p.den := Nat.le_of_dvd p.den_pos ga
    have cg : ∀ i, CDivNW i ((Nat.gcd p.den q.den : Nat) : Int) := fun i => cdivn g0 (Nat.lt_of_le_of_lt gle zp.2) a0 (by omega)
    have qd : ((q.den / Nat.gcd p.den q.den : Nat) : Int).natAbs < 2 ^ b := by
      rw [Int.natAbs_natCast]
      exact Nat.lt_of_le_of_lt (Nat.div_le_self ..) zq.2
    have pd : ((p.den / Nat.gcd p.den q.den : Nat) : Int).natAbs < 2 ^ a := by
      rw [Int.natAbs_natCast]
      exact Nat.lt_of_le_of_lt (Nat.div_le_self ..) zp.2
    refine ⟨_, rfl, _, rfl, (p.den : Int), (q.den : Int), rfl, ?_⟩
    show tSeq _ _ _ [some (V.int p.num), some (V.int (p.den : Int)), some (V.int q.num), some (V.int (q.den : Int)), some (V.int ((Nat.gcd p.den q.den : Nat) : Int)), none, none] H
    refine ⟨_, rfl, _, rfl, _, rfl, (q.den : Int), _, rfl, rfl, cg _, p.num, _, rfl, rfl, ?_, ?_⟩
    · rw [fdiv_nat]
      exact cmulw zp.1 qd a0 b0 (by omega)
    refine ⟨_, rfl, _, rfl, _, rfl, (p.den : Int), _, rfl, rfl, cg _, q.num, _, rfl, rfl, ?_, _, _, rfl, rfl, ?_⟩
    · rw [fdiv_nat]
      exact cmulw zq.1 pd b0 a0 (by omega)
    rw [fdiv_nat, fdiv_nat]
    show tSeq _ _ _ [some (V.int p.num), some (V.int (p.den : Int)), some (V.int q.num), some (V.int (q.den : Int)), some (V.int ((Nat.gcd p.den q.den : Nat) : Int)), some (V.int (p.num * ((q.den / Nat.gcd p.den q.den : Nat) : Int) + q.num * ((p.den / Nat.gcd p.den q.den : Nat) : Int))), none] H
    generalize hnum : p.num * ((q.den / Nat.gcd p.den q.den : Nat) : Int) + q.num * ((p.den / Nat.gcd p.den q.den : Nat) : Int) = num at e1 e2 l0 ln lb ⊢
    refine ⟨_, rfl, _, rfl, num, ((Nat.gcd p.den q.den : Nat) : Int), rfl, ?_⟩
    rw [show Int.gcd num ((Nat.gcd p.den q.den : Nat) : Int) = Nat.gcd num.natAbs (Nat.gcd p.den q.den) from rfl]
    generalize hl : Nat.gcd num.natAbs (Nat.gcd p.den q.den) = l at e1 e2 l0 ln lb ⊢
    have ll : l ≤ q.den := Nat.le_of_dvd q.den_pos lb
    have cl : ∀ i, CDivNW i ((l : Nat) : Int) := fun i => cdivn l0 (Nat.lt_of_le_of_lt ll zq.2) b0 (by omega)
    refine ⟨_, rfl, _, rfl, num, _, rfl, rfl, cl _, _, rfl, _, rfl, (p.den : Int), _, rfl, rfl, cg _, _, rfl, _, rfl, (q.den : Int), _, rfl, rfl, cl _, _, _, rfl, rfl, ?_, by show 2 ≤ sizeLine; decide, fun c hc => ?_⟩
    · rw [fdiv_nat, fdiv_nat]
      exact cmulw pd (by rw [Int.natAbs_natCast]; exact Nat.lt_of_le_of_lt (Nat.div_le_self ..) zq.2) a0 b0 (by omega)
    · have z := k c hc
      have ef : fraV (p + q) = .tup [.int (num.fdiv (l : Int)), .int ((p.den : Int).fdiv ((Nat.gcd p.den q.den : Nat) : Int) * (q.den : Int).fdiv (l : Int))] := by
        unfold fraV
        rw [e1, e2, fdiv_nat, fdiv_nat, Int.fdiv_eq_ediv_of_nonneg _ (by omega)]
        rfl
      rw [ef] at z
      exact z
/-! ### __init__ -/
def spInit (C : Addr) : Sp := fun vs H Q _ => ∃ (x dx : Addr) (v : V), vs = [.ref x, v] ∧ H x = some (.ins C dx []) ∧ Q .non (upd H x (.ins C dx [("parts", v)]))
theorem scInit : FnScope ["self", "parts"] ["self", "parts"] (defScope sInit) := ⟨rfl, rfl, rfl, by decide +kernel, rfl, by decide +kernel, by decide +kernel⟩
theorem ok_init (F : FnM K "__init__" "Exact.__init__" sInit f fd) (T : TxtN K mg C fI fQ) : FnOk P w K mg base CX0 1 f fd ["self", "parts"] (spInit C) := by
  refine F.ok scInit (fun vs H Q E h => ?_) (fun cdv A outer s H vs Q E hr h => ?_)
  · obtain ⟨x, dx, v, rfl, _⟩ := h
    rfl
  · obtain ⟨x, dx, v, rfl, hx, q⟩ := h
    refine ⟨_, PSs.nox (pss_one (ps_fld (pv 0) (pv 1) rfl)), ?_⟩
    exact ⟨_, rfl, _, rfl, x, C, dx, [], rfl, hx, T.cl, T.nP, (by show 0 < 1000; decide), q⟩
/-- Exact(p) behind its making -/
theorem made_num {H : Hp} {p : Addr} {L : List Part} {Q : VK} (hp : PartsL H p L) (q : ∀ x H', Same H H' → H x = none → NumAt C H' x L → Q (.ref x) H') :
    ∀ x dx, H x = none → H dx = none → dx ≠ x → spInit C (.ref x :: ([.ref p] ++ [])) (upd (upd H dx (.own x)) x (.ins C dx [])) (fun v H2 => v = .non ∧ Q (.ref x) H2) E0 := by
  intro x dx hx hdx hne
  refine ⟨x, dx, .ref p, rfl, upd_same, rfl, ?_⟩
  have smx : Same H (upd (upd (upd H dx (.own x)) x (.ins C dx [])) x (.ins C dx [("parts", .ref p)])) := fun b o e => by
    rw [upd_ne (ne_of_none e hx), upd_ne (ne_of_none e hx), upd_ne (ne_of_none e hdx)]
    exact e
  exact q x _ smx hx ⟨dx, p, upd_same, hp.same smx⟩
/-! ### __eq__ -/
def spEqN (C : Addr) : Sp := fun vs H Q _ => ∃ (x y : Addr) (L M : List Part), vs = [.ref x, .ref y] ∧ NumAt C H x L ∧ NumAt C H y M ∧ Q (.bl (decide (L = M))) H
theorem scEq : FnScope ["self", "other"] ["self", "other"] (defScope sEq) := ⟨rfl, rfl, rfl, by decide +kernel, rfl, by decide +kernel, by decide +kernel⟩
theorem ok_eq (F : FnM K "__eq__" "Exact.__eq__" sEq f fd) (T : TxtN K mg C fI fQ) (gI : mg "isinstance" = none) : FnOk P w K mg base CX0 1 f fd ["self", "other"] (spEqN C) := by
  refine F.ok scEq (fun vs H Q E h => ?_) (fun cdv A outer s H vs Q E hr h => ?_)
  · obtain ⟨x, y, L, M, rfl, _⟩ := h
    rfl
  · obtain ⟨x, y, L, M, rfl, ⟨dx, p, hx, hp⟩, ⟨dy, p', hy, hp'⟩, q⟩ := h
    have hu : (A.deeper (envOfC "Exact.__eq__" (defScope sEq) s.heap.objs.size f cdv)).units + 64 < cLine := by
      have := hr.un
      omega
    refine ⟨_, PSs.nox (pss_one (ps_ret (pe_and (pe_callB call_isi (by rfl) gI (by decide +kernel) (pa_cons (pv 1) (pa_cons (pe_glob (v := .ref C) (by rfl) T.mgC rfl) pa_nil)))
      (pe_one (pe_cmpR (op_eqD hu) (pe_fld (pv 0) rfl) (pe_fld (pv 1) rfl) (nomark _)))))), ?_⟩
    refine ⟨_, rfl, _, _, _, _, true, rfl, .own C, T.ty hy, kit_self, true, rfl, iteT ?_⟩
    refine ⟨_, rfl, x, C, dx, _, _, rfl, hx, T.cl, T.nP, rfl, _, rfl, y, C, dy, _, _, rfl, hy, T.cl, T.nP, rfl, toD L, toD M, hp.dp, hp'.dp, toD_shaped L, toD_shaped M, ?_⟩
    rw [toD_eqv]
    exact q
/-! ### need_exact -/
def spNeed (C : Addr) : Sp := fun vs H Q _ => ∃ (x : Addr) (L : List Part), vs = [.ref x] ∧ NumAt C H x L ∧ Q .non H
theorem scNeed : FnScope ["thing"] ["thing"] (defScope sNeed) := ⟨rfl, rfl, rfl, by decide +kernel, rfl, by decide +kernel, by decide +kernel⟩
theorem ok_need (F : FnP K "need_exact" sNeed f fd) (T : TxtN K mg C fI fQ) (gI : mg "isinstance" = none) : FnOk P w K mg base CX0 1 f fd ["thing"] (spNeed C) := by
  refine F.ok scNeed (fun vs H Q E h => ?_) (fun cdv A outer s H vs Q E hr h => ?_)
  · obtain ⟨x, L, rfl, _⟩ := h
    rfl
  · obtain ⟨x, L, rfl, ⟨dx, p, hx, hp⟩, q⟩ := h
    refine ⟨_, PSs.nox (pss_one (ps_if (pt_not (pt_val (pe_callB call_isi (by rfl) gI (by decide +kernel) (pa_cons (pv 0) (pa_cons (pe_glob (v := .ref C) (by rfl) T.mgC rfl) pa_nil))))) pss_never pss_nil)), ?_⟩
    exact ⟨_, rfl, _, _, _, _, true, rfl, .own C, T.ty hx, kit_self, true, rfl, iteF q⟩
/-! ### lowered, of one root -/
end
end TC
namespace TC
open PySem PySem.Spec PyProof.Rows L2 TCA
theorem same_at {H H1 : Hp} {d : Addr} {o : HO} (s : Same H H1) (h : H d = none) : Same H (upd H1 d o) := fun b x e => by
  rw [upd_ne (ne_of_none e h)]
  exact s _ _ e
theorem rfst (x : Part) : parV x = .tup [.int x.1, .int x.2.num, .int (x.2.den : Int)] := rfl
section
variable {P : Program} {w : World} {K : PySem.W.Frag} {mg : Str → Option Value} {base : Heap} {f : Addr} {fd : FuncData} {C fI fQ : Addr}
/-! ### merged -/
def spMerged : Sp := fun vs H Q _ => ∃ (a o : Addr) (L M : List Part) (us : List Addr) (A B : Nat), vs = [.ref a, .ref o] ∧ PartsL H a L ∧ TCR.Canon L ∧ (H o = some (.tup (us.map V.ref)) ∨ H o = some (.lst (us.map V.ref))) ∧ Refs H us M ∧ TCR.Canon M ∧
  (∀ x ∈ L, TCR.Sz A x.2) ∧ (∀ x ∈ M, TCR.Sz B x.2) ∧ 0 < A ∧ 0 < B ∧ A + B ≤ 7000 ∧ L.length + M.length ≤ 60 ∧
  ∀ p N H', Same H H' → H p = none → PartsL H' p N → TCR.Canon N → (∀ r, TCR.val N r = TCR.val L r + TCR.val M r) → N.length ≤ L.length + M.length → Q (.ref p) H'
theorem scMerged : FnScope ["parts", "others", "root", "top", "bottom", "fractions", "first", "below", "kept"] ["parts", "others"] (defScope sMerged) := ⟨rfl, rfl, rfl, by decide +kernel, rfl, by decide +kernel, by decide +kernel⟩
theorem ok_merged {fS : Addr} {fdS : FuncData} (F : FnP K "merged" sMerged f fd) (GS : FnOk P w K mg base CX0 2 fS fdS ["top", "bottom", "other", "below"] spSumLow) (bS : L2.Binds K fdS ["top", "bottom", "other", "below"] []) (kS : PySem.W.keepIn K (.ref fS) = true) (gS : mg "sum_in_lowest" = some (.ref fS))
    (gs : mg "sorted" = none) (gl : mg "list" = none) (gt : mg "tuple" = none) : FnOk P w K mg base CX0 3 f fd ["parts", "others"] spMerged := by
  refine F.ok scMerged (fun vs H Q E h => ?_) (fun cdv Ar outer s H vs Q E hr h => ?_)
  · obtain ⟨a, o, L, M, us, A, B, rfl, _⟩ := h
    rfl
  · obtain ⟨a, o, L, M, us, A, B, rfl, ⟨ul, ha, hL⟩, cL, ho, hM, cM, zL, zM, A0, B0, AB, len, q⟩ := h
    have hu := hu_of hr
    refine ⟨_, PSs.nox (pss_cons (ps_setDc (own := [("root", 2), ("top", 3), ("bottom", 4)]) (g := gTup K 3 (gCons (gName 2) (gCons (gName 3) (gCons (gName 4) gNil)))) (tt := tYes) (i := 5) rfl scMerged.nd rfl rfl (sw_dict rfl rfl rfl (by decide +kernel)) (pi_tup (pv 0))
          (blkOk_by (N := ["parts", "others", "root", "top", "bottom", "fractions", "first", "below", "kept"]) (sc := defScope sMerged) (by decide +kernel))
          (fun _ _ _ _ _ => pg_tup rfl (pgs_cons (pg_name (i := 2) scMerged.nd rfl (.inl rfl)) (pgs_cons (pg_name (i := 3) scMerged.nd rfl (.inl rfl)) (pgs_cons (pg_name (i := 4) scMerged.nd rfl (.inl rfl)) pgs_nil)))) (fun _ _ _ _ _ => pts_nil) (fun _ _ _ _ _ => pv 2) (fun _ _ _ _ _ => pe_tup (pa_cons (pv 3) (pa_cons (pv 4) pa_nil))))
      (pss_cons (ps_for PassesOwn.never rfl (pi_seq (pv 1)) (pg_tup rfl (pgs_cons (pg_name (i := 2) scMerged.nd rfl (.inl rfl)) (pgs_cons (pg_name (i := 3) scMerged.nd rfl (.inl rfl)) (pgs_cons (pg_name (i := 4) scMerged.nd rfl (.inl rfl)) pgs_nil))))
        (pss_one (ps_if (pt_cmp (pc_din hu (pv 2) (pv 5)))
          (pss_cons (ps_asg (pe_dget hu (pv 5) (pv 2) (fun _ _ => rfl)) (pg_tup rfl (pgs_cons (pg_name (i := 6) scMerged.nd rfl (.inl rfl)) (pgs_cons (pg_name (i := 7) scMerged.nd rfl (.inl rfl)) pgs_nil))))
            (pss_one (ps_dput hu (pv 5) (pv 2) (pe_call GS hr (by rfl) gS kS bS .nil pass0 (pa_cons (pv 6) (pa_cons (pv 7) (pa_cons (pv 3) (pa_cons (pv 4) pa_nil))))) rfl)))
          (pss_one (ps_dput hu (pv 5) (pv 2) (pe_tup (pa_cons (pv 3) (pa_cons (pv 4) pa_nil))) rfl)))))
      (pss_cons (ps_set (i := 8) scMerged.nd rfl (.inl rfl) (pe_lst pa_nil))
      (pss_cons (ps_for PassesOwn.never rfl (pi_list (pe_callB cr_sorted (by rfl) gs (by decide +kernel) (pa_cons (pe_callTy (call_listD rfl) (by rfl) gl (by decide +kernel) (pa_cons (pv 5) pa_nil)) pa_nil))) (pg_name (i := 2) scMerged.nd rfl (.inl rfl))
        (pss_cons (ps_asg (pe_dget hu (pv 5) (pv 2) (fun _ _ => rfl)) (pg_tup rfl (pgs_cons (pg_name (i := 3) scMerged.nd rfl (.inl rfl)) (pgs_cons (pg_name (i := 4) scMerged.nd rfl (.inl rfl)) pgs_nil))))
          (pss_one (ps_if (pt_cmpR op_ne (pv 3) pe_int (nomark _)) (pss_one (ps_expr (pe_bm PySem.F.plainAttrs_list PySem.F.slot_list_append PySem.F.type_list_append mt_append (pv 8) (pa_cons (pe_tup (pa_cons (pv 2) (pa_cons (pv 3) (pa_cons (pv 4) pa_nil)))) pa_nil)))) pss_nil))))
      (pss_one (ps_ret (pe_callTy call_tuple_of (by rfl) gt (by decide +kernel) (pa_cons (pv 8) pa_nil)))))))), ?_⟩
    -- fractions
    refine ⟨_, rfl, a, rfl, ⟨_, SqT.of ha⟩, fun D hD => dc_tup (xs := ul.map V.ref) (fun i H' => Same H H' ∧ ∃ ks, DictAt H' D ks (TCR.val (L.take i)) ∧ ks.length ≤ i) ?_ (fun i H' _ hP => SqT.of (hP.1 _ _ ha)) (fun i x H' hx hP => ?_) (fun H' hP => ?_)⟩
    · exact ⟨same_upd hD, [], ⟨[], upd_same, rfl, (fun r hr => by cases hr), List.nodup_nil, fun _ _ => rfl⟩, Nat.le_refl _⟩
    · obtain ⟨sm, ks, hD', lk⟩ := hP
      obtain ⟨u, y, rfl, hu', hy, hyv⟩ := (hL.same sm).get hx
      have il : i < L.length := (List.getElem?_eq_some_iff.mp hy).1
      refine ⟨u, _, rfl, SqT.of hyv, rfl, _, _, rfl, _, _, rfl, _, _, rfl, rfl, rfl, ?_⟩
      refine ⟨_, rfl, _, rfl, _, rfl, by show 2 ≤ sizeLine; decide, fun c hc => ?_⟩
      have smc := same_upd (o := fraV y.2) hc
      obtain ⟨kvs, e1, e2, e3, e4, e5⟩ := hD'.same smc
      refine ⟨kvs, Sum.inl y.1, rfl, e1, small1000 (by rw [len_keys e2]; omega), same_at (sm.trans smc) hD, addKey ks y.1, ?_, ?_⟩
      · refine (put_ok (r := y.1) (q := y.2) e1 e2 e3 e4 e5 upd_same).imp fun s => ?_
        exact (TCR.val_take cL s hy).2.symm
      · exact Nat.le_trans (addKey_len ks y.1) (by omega)
    obtain ⟨sm1, ks1, hD1, lk1⟩ := hP
    rw [List.length_map, hL.len, List.take_length] at hD1
    rw [List.length_map, hL.len] at lk1
    -- others
    refine ⟨_, rfl, o, us.map V.ref, rfl, ?_, fun J G hG wk => ?_⟩
    · rcases ho with ho | ho
      · exact .inr (SqT.of (sm1 _ _ ho))
      · exact .inl (SqL.of (sm1 _ _ ho))
    refine for_it wk (fun i σ H2 => ∃ (v2 v3 v4 v6 v7 : Option V) (ks : List Int), σ = [some (.ref a), some (.ref o), v2, v3, v4, some (.ref D), v6, v7, none] ∧ Same H H2 ∧ DictAt H2 D ks (fun r => TCR.val L r + TCR.val (M.take i) r) ∧ ks.length ≤ L.length + i)
      ⟨none, none, none, none, none, ks1, rfl, sm1, hD1.imp fun r => by show TCR.val L r = TCR.val L r + 0; grind, lk1⟩ (fun i σ H2 _ hP => ?_) (fun i x σ H2 H3 hi hP hy => ?_) (fun σ H2 hP => ?_)
    · obtain ⟨_, _, _, _, _, _, _, sm, _⟩ := hP
      refine hG H2 fun u eu => ?_
      rcases ho with ho | ho
      · rw [sm1 _ _ ho] at eu
        rw [← eu]
        exact sm _ _ ho
      · rw [sm1 _ _ ho] at eu
        rw [← eu]
        exact sm _ _ ho
    · obtain ⟨rfl, hx⟩ := hy
      obtain ⟨v2, v3, v4, v6, v7, ks, rfl, sm, hD2, lk⟩ := hP
      obtain ⟨u, y, rfl, hu', hy, hyv⟩ := (hM.same sm).get hx
      have il : i < M.length := (List.getElem?_eq_some_iff.mp hy).1
      have t0 := (TCR.val_take cM y.1 hy).1
      have t1 := fun s => (TCR.val_take cM s hy).2
      refine ⟨u, _, rfl, SqT.of hyv, rfl, _, _, rfl, _, _, rfl, _, _, rfl, rfl, ?_⟩
      obtain ⟨kvs, e1, e2, e3, e4, e5⟩ := id hD2
      by_cases hk : y.1 ∈ ks
      · obtain ⟨u1, f1, f2⟩ := e3 y.1 hk
        refine ⟨_, rfl, _, rfl, D, _, rfl, dget_in e1 f1, _, rfl, iteT ?_⟩
        refine ⟨_, rfl, _, rfl, D, _, rfl, dget_in e1 f1, u1, _, rfl, SqT.of f2, rfl, _, _, rfl, _, _, rfl, rfl, ?_⟩
        have zg : TCR.Sz A (TCR.val L y.1 + TCR.val (M.take i) y.1) := by
          rw [t0]
          have z := TCR.Sz.val A0 zL y.1
          have e : TCR.val L y.1 + 0 = TCR.val L y.1 := by grind
          rw [e]
          exact z
        refine ⟨_, rfl, _, rfl, _, rfl, _, rfl, _, y.2, A, B, rfl, zg, zM y (List.mem_of_getElem? hy), A0, B0, by omega, fun c hc => ?_⟩
        have smc := same_upd (o := fraV (TCR.val L y.1 + TCR.val (M.take i) y.1 + y.2)) hc
        obtain ⟨kvs', e1', e2', e3', e4', e5'⟩ := hD2.same smc
        refine ⟨_, rfl, _, rfl, D, _, rfl, DPut.k (k := Sum.inl y.1) e1' (small1000 (by rw [len_keys e2']; omega)), ?_⟩
        refine ⟨_, _, _, _, _, addKey ks y.1, rfl, same_at (sm.trans smc) hD, ?_, ?_⟩
        · refine (put_ok (r := y.1) e1' e2' e3' e4' e5' upd_same).imp fun s => ?_
          rw [t1 s]
          unfold setF
          by_cases es : s = y.1
          · rw [if_pos es, if_pos es, es, t0]
            grind
          · rw [if_neg es, if_neg es]
        · exact Nat.le_trans (addKey_len ks y.1) (by omega)
      · refine ⟨_, rfl, _, rfl, D, _, rfl, dget_out e1 (valV_out e2 hk), _, rfl, iteF ?_⟩
        refine ⟨_, rfl, _, rfl, by show 2 ≤ sizeLine; decide, fun c hc => ?_⟩
        have smc := same_upd (o := fraV y.2) hc
        obtain ⟨kvs', e1', e2', e3', e4', e5'⟩ := hD2.same smc
        refine ⟨_, rfl, _, rfl, D, _, rfl, DPut.k (k := Sum.inl y.1) e1' (small1000 (by rw [len_keys e2']; omega)), ?_⟩
        refine ⟨_, _, _, _, _, addKey ks y.1, rfl, same_at (sm.trans smc) hD, ?_, ?_⟩
        · refine (put_ok (r := y.1) (q := y.2) e1' e2' e3' e4' e5' upd_same).imp fun s => ?_
          rw [t1 s]
          unfold setF
          by_cases es : s = y.1
          · have z : TCR.val L y.1 + TCR.val (M.take i) y.1 = 0 := e5 y.1 hk
            rw [if_pos es, if_pos es, es]
            rw [t0] at z
            grind
          · rw [if_neg es, if_neg es]
        · exact Nat.le_trans (addKey_len ks y.1) (by omega)
    obtain ⟨v2, v3, v4, v6, v7, ks, rfl, sm2, hD2, lk⟩ := hP
    rw [List.length_map, hM.len, List.take_length] at hD2
    rw [List.length_map, hM.len] at lk
    generalize hg : (fun r => TCR.val L r + TCR.val M r) = g at hD2
    have hgv : ∀ r, g r = TCR.val L r + TCR.val M r := fun r => by rw [← hg]
    -- kept
    refine ⟨Nat.zero_le _, fun l hl => ?_⟩
    have sm3 := same_upd (o := .lst []) hl
    obtain ⟨kvs, e1, e2, e3, e4, e5⟩ := hD2.same sm3
    have elist : kvs.map (fun kv => kV kv.1) = ks.map V.int := by
      have z := congrArg (List.map kV) e2
      rw [List.map_map, List.map_map] at z
      exact z
    refine ⟨_, rfl, D, kvs, rfl, .inl e1, fun l2 hl2 => ?_⟩
    rw [elist]
    have sm4 := same_upd (o := .lst (ks.map V.int)) hl2
    refine ⟨l2, ks, rfl, SqL.of upd_same, by omega, fun ns l3 hperm hsort hl3 => ?_⟩
    have sm5 := same_upd (o := .lst (ns.map V.int)) hl3
    have ndn : ns.Nodup := hperm.nodup_iff.mpr e4
    have nl3 : l ≠ l3 := ne_of_none (sm4 l _ (upd_same (H := H2))) hl3
    have nDl : D ≠ l := by
      obtain ⟨_, z, _⟩ := hD2
      exact ne_of_none z hl
    have smA := sm2.trans (sm3.trans (sm4.trans sm5))
    have nHl : H l = none := sm2.free hl
    have nHl3 : H l3 = none := (sm2.trans (sm3.trans sm4)).free hl3
    refine ⟨l3, rfl, ⟨_, SqL.of upd_same⟩, for_list (xs := ns.map V.int) (fun i σ H' => ∃ (w2 w3 w4 : Option V) (vs : List Addr), σ = [some (.ref a), some (.ref o), w2, w3, w4, some (.ref D), v6, v7, some (.ref l)] ∧ Same H H' ∧ H' l = some (.lst (vs.map V.ref)) ∧ H' l3 = some (.lst (ns.map V.int)) ∧ DictAt H' D ks g ∧ Refs H' vs (TCR.kept g (ns.take i)))
      ⟨v2, v3, v4, [], rfl, smA, sm5 _ _ (sm4 _ _ upd_same), upd_same, hD2.same (sm3.trans (sm4.trans sm5)), trivial⟩ (fun i σ H' _ hP => ?_) (fun i x σ H' hx hP => ?_) (fun σ H' hP => ?_)⟩
    · obtain ⟨_, _, _, _, _, _, _, z, _⟩ := hP
      exact SqL.of z
    · obtain ⟨w2, w3, w4, vs, rfl, sm, el, el3, hD3, hR⟩ := hP
      rw [List.getElem?_map] at hx
      obtain ⟨r, hr', rfl⟩ : ∃ r, ns[i]? = some r ∧ V.int r = x := by
        cases e : ns[i]? with
        | none =>
          rw [e] at hx
          cases hx
        | some p =>
          rw [e] at hx
          exact ⟨p, rfl, Option.some.inj hx⟩
      have rk : r ∈ ks := hperm.mem_iff.mp (List.mem_of_getElem? hr')
      have etake : ns.take (i + 1) = ns.take i ++ [r] := by
        rw [List.take_add_one, hr']
        rfl
      obtain ⟨kvs3, d1, d2, d3, d4, d5⟩ := id hD3
      obtain ⟨u1, f1, f2⟩ := d3 r rk
      refine ⟨_, rfl, _, rfl, D, _, rfl, dget_in d1 f1, u1, _, rfl, SqT.of f2, rfl, _, _, rfl, _, _, rfl, rfl, ?_⟩
      refine ⟨_, rfl, rfl, _, rfl, ?_⟩
      by_cases hz : g r = 0
      · have hn0 : (g r).num = 0 := by rw [hz]; rfl
        refine iteNS (congrArg V.int hn0) ?_
        refine ⟨_, _, _, vs, rfl, sm, el, el3, hD3, ?_⟩
        rw [etake, TCR.kept_snoc, if_neg (by simpa using hz), List.append_nil]
        exact hR
      · have hn0 : (g r).num ≠ 0 := fun e => hz (Rat.num_eq_zero.mp e)
        refine iteNT (ine hn0) ?_
        refine ⟨_, rfl, .inl ⟨rfl, _, SqL.of el⟩, _, rfl, _, rfl, _, rfl, by show 3 ≤ sizeLine; decide, fun c hc => ?_⟩
        have smc := same_upd (o := parV (r, g r)) hc
        have vlen : vs.length ≤ 60 := by
          have z1 := hR.len
          have z2 := TCR.kept_len g (ns.take i)
          have z3 : (ns.take i).length ≤ ns.length := by
            rw [List.length_take]
            exact Nat.min_le_right ..
          have z4 := hperm.length_eq
          omega
        have ncl : c ≠ l := (ne_of_none el hc).symm
        refine ⟨l, _, _, rfl, rfl, smc _ _ el, small1000 (by rw [List.length_map]; omega), ?_⟩
        have hl' : ∀ x, (upd H' c (parV (r, g r))) l ≠ some (parV x) := fun x e => by
          rw [smc _ _ el] at e
          cases e
        refine ⟨_, _, _, vs ++ [c], rfl, same_at (sm.trans smc) nHl, ?_, ?_, ?_, ?_⟩
        · rw [upd_same, List.map_append]
          rfl
        · rw [upd_ne nl3.symm]
          exact smc _ _ el3
        · obtain ⟨kvs4, g1, g2, g3, g4, g5⟩ := hD3.same smc
          refine ⟨kvs4, ?_, g2, fun s hs => ?_, g4, g5⟩
          · rw [upd_ne nDl]
            exact g1
          · obtain ⟨u2, k1, k2⟩ := g3 s hs
            refine ⟨u2, k1, ?_⟩
            rw [upd_ne fun e => by
              rw [e, smc _ _ el] at k2
              cases k2]
            exact k2
        · rw [etake, TCR.kept_snoc, if_pos (by simpa using hz)]
          refine Refs.upd hl' (Refs.snoc upd_same (hR.same smc))
    · obtain ⟨w2, w3, w4, vs, rfl, sm, el, el3, hD3, hR⟩ := hP
      rw [List.length_map, List.take_length] at hR
      refine ⟨_, rfl, l, _, rfl, .inl ⟨SqL.of el, fun p hp => ?_⟩⟩
      have smp := same_upd (o := .tup (vs.map V.ref)) hp
      refine q p (TCR.kept g ns) _ (sm.trans smp) (sm.free hp) ⟨vs, upd_same, hR.same smp⟩ (TCR.canon_kept g ndn hsort) (fun r => ?_) ?_
      · rw [TCR.val_kept g r fun z => e5 r fun m => z (hperm.mem_iff.mpr m), hgv]
      · have z2 := TCR.kept_len g ns
        have z4 := hperm.length_eq
        omega
end
end TC
namespace TC
open PySem PySem.Spec PyProof.Rows L2 TCA
def Good (A : Nat) (L : List Part) : Prop := TCR.Canon L ∧ ∀ x ∈ L, TCR.Sz A x.2
theorem good_of {N : List Part} {A : Nat} (c : TCR.Canon N) (h : ∀ r, TCR.Sz A (TCR.val N r)) : Good A N := ⟨c, fun x hx => by
  rw [← c.mem hx]
  exact h _⟩
theorem Good.val {N : List Part} {A : Nat} (h : Good A N) (h0 : 0 < A) (r : Int) : TCR.Sz A (TCR.val N r) := TCR.Sz.val h0 h.2 r
theorem Good.mono {N : List Part} {A B : Nat} (h : Good A N) (l : A ≤ B) : Good B N := ⟨h.1, fun x hx => (h.2 x hx).mono l⟩
theorem Good.nil {A : Nat} : Good A [] := ⟨TCR.canon_nil, fun x hx => by cases hx⟩
theorem negL_len (L : List Part) : (TCR.negL L).length = L.length := List.length_map ..
theorem negL_snoc (L : List Part) (x : Part) : TCR.negL (L ++ [x]) = TCR.negL L ++ [(x.1, -x.2)] := List.map_append ..
section
variable {P : Program} {w : World} {K : PySem.W.Frag} {mg : Str → Option Value} {base : Heap} {f : Addr} {fd : FuncData} {C fI fQ : Addr}
/-! ### plus, minus -/
def spPlus (C : Addr) : Sp := fun vs H Q _ => ∃ (x y : Addr) (L M : List Part) (A B : Nat), vs = [.ref x, .ref y] ∧ NumAt C H x L ∧ NumAt C H y M ∧ Good A L ∧ Good B M ∧ 0 < A ∧ 0 < B ∧ A + B ≤ 7000 ∧ L.length + M.length ≤ 60 ∧
  ∀ z N H', Same H H' → H z = none → NumAt C H' z N → Good (A + B + 1) N → (∀ r, TCR.val N r = TCR.val L r + TCR.val M r) → N.length ≤ L.length + M.length → Q (.ref z) H'
theorem scPlus : FnScope ["one", "other"] ["one", "other"] (defScope sPlus) := ⟨rfl, rfl, rfl, by decide +kernel, rfl, by decide +kernel, by decide +kernel⟩
theorem ok_plus {fN fM : Addr} {fdN fdM fdI : FuncData} (F : FnP K "plus" sPlus f fd) (T : TxtN K mg C fI fQ) (GN : FnOk P w K mg base CX0 1 fN fdN ["thing"] (spNeed C)) (bN : L2.Binds K fdN ["thing"] []) (kN : PySem.W.keepIn K (.ref fN) = true) (gN : mg "need_exact" = some (.ref fN))
    (GM : FnOk P w K mg base CX0 3 fM fdM ["parts", "others"] spMerged) (bM : L2.Binds K fdM ["parts", "others"] []) (kM : PySem.W.keepIn K (.ref fM) = true) (gM : mg "merged" = some (.ref fM))
    (GI : FnOk P w K mg base CX0 1 fI fdI ["self", "parts"] (spInit C)) (bI : L2.Binds K fdI ["self", "parts"] []) : FnOk P w K mg base CX0 4 f fd ["one", "other"] (spPlus C) := by
  refine F.ok scPlus (fun vs H Q E h => ?_) (fun cdv Ar outer s H vs Q E hr h => ?_)
  · obtain ⟨x, y, L, M, A, B, rfl, _⟩ := h
    rfl
  · obtain ⟨x, y, L, M, A, B, rfl, hx, hy, gL, gMm, A0, B0, AB, len, q⟩ := h
    have hr1 := hr.mono (j := 1) (by decide)
    refine ⟨_, PSs.nox (pss_cons (ps_expr (pe_call GN hr1 (by rfl) gN kN bN .nil pass0 (pa_cons (pv 0) pa_nil)))
      (pss_cons (ps_expr (pe_call GN hr1 (by rfl) gN kN bN .nil pass0 (pa_cons (pv 1) pa_nil)))
      (pss_one (ps_ret (pe_make T.mkr GI (hr.mono (by decide)) (by rfl) T.mgC bI .nil pass0 (pa_cons (pe_call GM hr (by rfl) gM kM bM .nil pass0 (pa_cons (pe_fld (pv 0) rfl) (pa_cons (pe_fld (pv 1) rfl) pa_nil))) pa_nil)))))), ?_⟩
    refine ⟨_, rfl, x, L, rfl, hx, ?_⟩
    refine ⟨_, rfl, y, M, rfl, hy, ?_⟩
    obtain ⟨dx, p, hx1, hp⟩ := hx
    obtain ⟨dy, p', hy1, us, hp1, hp2⟩ := hy
    refine ⟨_, rfl, x, C, dx, _, _, rfl, hx1, T.cl, T.nP, rfl, _, rfl, y, C, dy, _, _, rfl, hy1, T.cl, T.nP, rfl, ?_⟩
    refine ⟨p, p', L, M, us, A, B, rfl, hp, gL.1, .inl hp1, hp2, gMm.1, gL.2, gMm.2, A0, B0, AB, len, fun r N H' sm hr' hN cN vN lN => ?_⟩
    refine made_num (C := C) hN fun z H2 sm2 hz hZ => q z N H2 (sm.trans sm2) (sm.free hz) hZ (good_of cN fun r => ?_) vN lN
    rw [vN]
    exact (gL.val A0 r).add (gMm.val B0 r)
end
end TC
namespace TC
open PySem PySem.Spec PyProof.Rows L2 TCA
/-- a dict of roots to whole tops -/
def IntD (H : Hp) (d : Addr) (ks : List Int) (t : Int → Int) : Prop := ∃ kvs, H d = some (.dK kvs) ∧ kvs.map (·.1) = ks.map (Sum.inl : Int → Key) ∧ (∀ r ∈ ks, valV kvs (Sum.inl r : Key) = some (.int (t r))) ∧ ks.Nodup ∧ ∀ r, r ∉ ks → t r = 0
theorem IntD.same {H H' : Hp} {d : Addr} {ks : List Int} {t : Int → Int} (e : Same H H') (h : IntD H d ks t) : IntD H' d ks t := by
  obtain ⟨kvs, h1, h2⟩ := h
  exact ⟨kvs, e _ _ h1, h2⟩
theorem IntD.upd {H : Hp} {d l : Addr} {o : HO} {ks : List Int} {t : Int → Int} (n : d ≠ l) (h : IntD H d ks t) : IntD (L2.upd H l o) d ks t := by
  obtain ⟨kvs, h1, h2⟩ := h
  exact ⟨kvs, by rw [upd_ne n]; exact h1, h2⟩
theorem IntD.imp {H : Hp} {d : Addr} {ks : List Int} {t t' : Int → Int} (h : IntD H d ks t) (e : ∀ r, t r = t' r) : IntD H d ks t' := by
  have : t = t' := funext e
  rw [← this]
  exact h
theorem divInt_zero (b : Int) : Rat.divInt 0 b = 0 := Rat.zero_divInt b
theorem divInt_ne {t b : Int} (hb : b ≠ 0) (ht : t ≠ 0) : Rat.divInt t b ≠ 0 := fun e => by
  rw [← divInt_zero 1, Rat.divInt_eq_divInt_iff hb (by decide)] at e
  simp at e
  exact ht e
section
variable {P : Program} {w : World} {K : PySem.W.Frag} {mg : Str → Option Value} {base : Heap} {f : Addr} {fd : FuncData} {C fI fQ : Addr}
/-! ### lowered, of many roots -/
def spLowered (C : Addr) : Sp := fun vs H Q _ => ∃ (d : Addr) (ks : List Int) (t : Int → Int) (b : Int) (A : Nat), vs = [.ref d, .int b] ∧ IntD H d ks t ∧ b ≠ 0 ∧ b.natAbs < 2 ^ A ∧ 0 < A ∧ A ≤ 8000 ∧ ks.length ≤ 5000 ∧
  ∀ x N H', Same H H' → H x = none → NumAt C H' x N → TCR.Canon N → (∀ r, TCR.val N r = Rat.divInt (t r) b) → N.length ≤ ks.length → Q (.ref x) H'
theorem scLowered : FnScope ["tops", "bottom", "parts", "root", "top", "below"] ["tops", "bottom"] (defScope sLowered) := ⟨rfl, rfl, rfl, by decide +kernel, rfl, by decide +kernel, by decide +kernel⟩
theorem ok_lowered {fL : Addr} {fdL fdI : FuncData} (F : FnP K "lowered" sLowered f fd) (T : TxtN K mg C fI fQ) (GL : FnOk P w K mg base CX0 2 fL fdL ["top", "bottom"] spLowest) (bL : L2.Binds K fdL ["top", "bottom"] []) (kL : PySem.W.keepIn K (.ref fL) = true) (gL : mg "in_lowest" = some (.ref fL))
    (GI : FnOk P w K mg base CX0 1 fI fdI ["self", "parts"] (spInit C)) (bI : L2.Binds K fdI ["self", "parts"] []) (gs : mg "sorted" = none) (gl : mg "list" = none) (gt : mg "tuple" = none) : FnOk P w K mg base CX0 3 f fd ["tops", "bottom"] (spLowered C) := by
  refine F.ok scLowered (fun vs H Q E h => ?_) (fun cdv Ar outer s H vs Q E hr h => ?_)
  · obtain ⟨d, ks, t, b, A, rfl, _⟩ := h
    rfl
  · obtain ⟨d, ks, t, b, A, rfl, hd, hb, hz, A0, A8, len, q⟩ := h
    have hu := hu_of hr
    refine ⟨_, PSs.nox (pss_cons (ps_set (i := 2) scLowered.nd rfl (.inl rfl) (pe_lst pa_nil))
      (pss_cons (ps_for PassesOwn.never rfl (pi_list (pe_callB cr_sortedI (by rfl) gs (by decide +kernel) (pa_cons (pe_callTy (call_listD rfl) (by rfl) gl (by decide +kernel) (pa_cons (pv 0) pa_nil)) pa_nil))) (pg_name (i := 3) scLowered.nd rfl (.inl rfl))
        (pss_one (ps_if (pt_cmpR op_ne (pe_dget hu (pv 0) (pv 3) (fun _ _ => rfl)) pe_int (nomark _))
          (pss_cons (ps_asg (pe_call GL hr (by rfl) gL kL bL .nil pass0 (pa_cons (pe_dget hu (pv 0) (pv 3) (fun _ _ => rfl)) (pa_cons (pv 1) pa_nil))) (pg_tup rfl (pgs_cons (pg_name (i := 4) scLowered.nd rfl (.inl rfl)) (pgs_cons (pg_name (i := 5) scLowered.nd rfl (.inl rfl)) pgs_nil))))
          (pss_one (ps_expr (pe_bm PySem.F.plainAttrs_list PySem.F.slot_list_append PySem.F.type_list_append mt_append (pv 2) (pa_cons (pe_tup (pa_cons (pv 3) (pa_cons (pv 4) (pa_cons (pv 5) pa_nil)))) pa_nil))))) pss_nil)))
      (pss_one (ps_ret (pe_make T.mkr GI (hr.mono (by decide)) (by rfl) T.mgC bI .nil pass0 (pa_cons (pe_callTy call_tuple_of (by rfl) gt (by decide +kernel) (pa_cons (pv 2) pa_nil)) pa_nil)))))), ?_⟩
    refine ⟨Nat.zero_le _, fun l hl => ?_⟩
    have sm3 := same_upd (o := .lst []) hl
    obtain ⟨kvs, e1, e2, e3, e4, e5⟩ := hd.same sm3
    have elist : kvs.map (fun kv => kV kv.1) = ks.map V.int := by
      have z := congrArg (List.map kV) e2
      rw [List.map_map, List.map_map] at z
      exact z
    refine ⟨_, rfl, d, kvs, rfl, .inl e1, fun l2 hl2 => ?_⟩
    rw [elist]
    have sm4 := same_upd (o := .lst (ks.map V.int)) hl2
    refine ⟨l2, ks, rfl, SqL.of upd_same, fun ns l3 hperm hsort hl3 => ?_⟩
    have sm5 := same_upd (o := .lst (ns.map V.int)) hl3
    have ndn : ns.Nodup := hperm.nodup_iff.mpr e4
    have nl3 : l ≠ l3 := ne_of_none (sm4 l _ (upd_same (H := H))) hl3
    have ndl : d ≠ l := by
      obtain ⟨_, z, _⟩ := hd
      exact ne_of_none z hl
    have smA := sm3.trans (sm4.trans sm5)
    refine ⟨l3, rfl, ⟨_, SqL.of upd_same⟩, for_list (xs := ns.map V.int) (fun i σ H' => ∃ (w3 w4 w5 : Option V) (vs : List Addr), σ = [some (.ref d), some (.int b), some (.ref l), w3, w4, w5] ∧ Same H H' ∧ H' l = some (.lst (vs.map V.ref)) ∧ H' l3 = some (.lst (ns.map V.int)) ∧ IntD H' d ks t ∧ Refs H' vs (TCR.kept (fun r => Rat.divInt (t r) b) (ns.take i)))
      ⟨none, none, none, [], rfl, smA, sm5 _ _ (sm4 _ _ upd_same), upd_same, hd.same smA, trivial⟩ (fun i σ H' _ hP => ?_) (fun i x σ H' hx hP => ?_) (fun σ H' hP => ?_)⟩
    · obtain ⟨_, _, _, _, _, _, _, z, _⟩ := hP
      exact SqL.of z
    · obtain ⟨w3, w4, w5, vs, rfl, sm, el, el3, hD3, hR⟩ := hP
      rw [List.getElem?_map] at hx
      obtain ⟨r, hr', rfl⟩ : ∃ r, ns[i]? = some r ∧ V.int r = x := by
        cases e : ns[i]? with
        | none =>
          rw [e] at hx
          cases hx
        | some p =>
          rw [e] at hx
          exact ⟨p, rfl, Option.some.inj hx⟩
      have rk : r ∈ ks := hperm.mem_iff.mp (List.mem_of_getElem? hr')
      have etake : ns.take (i + 1) = ns.take i ++ [r] := by
        rw [List.take_add_one, hr']
        rfl
      obtain ⟨kvs3, d1, d2, d3, d4, d5⟩ := id hD3
      have dg := dget_in d1 (d3 r rk)
      refine ⟨_, rfl, _, rfl, d, _, rfl, dg, rfl, _, rfl, ?_⟩
      by_cases ht : t r = 0
      · refine iteNS (congrArg V.int ht) ?_
        refine ⟨_, _, _, vs, rfl, sm, el, el3, hD3, ?_⟩
        rw [etake, TCR.kept_snoc, if_neg (by rw [ht, divInt_zero]; simp), List.append_nil]
        exact hR
      · refine iteNT (ine ht) ?_
        refine ⟨_, rfl, _, rfl, d, _, rfl, dg, _, rfl, t r, b, A, rfl, hb, hz, A0, A8, fun c hc => ?_⟩
        refine ⟨c, _, rfl, SqT.of upd_same, rfl, _, _, rfl, _, _, rfl, rfl, ?_⟩
        have smc : Same H' (upd H' c (.tup [.int (TCM.low (t r) b).1, .int (TCM.low (t r) b).2])) := same_upd hc
        refine ⟨_, rfl, .inl ⟨rfl, _, SqL.of (smc _ _ el)⟩, _, rfl, _, rfl, _, rfl, by show 3 ≤ sizeLine; decide, fun u hu2 => ?_⟩
        have epar : HO.tup [.int r, .int (TCM.low (t r) b).1, .int (TCM.low (t r) b).2] = parV (r, Rat.divInt (t r) b) := by
          rw [TCR.low_rat (t r) b hb]
          rfl
        rw [epar]
        have smu := same_upd (o := parV (r, Rat.divInt (t r) b)) hu2
        have vlen : vs.length ≤ 5000 := by
          have z1 := hR.len
          have z2 := TCR.kept_len (fun r => Rat.divInt (t r) b) (ns.take i)
          have z3 : (ns.take i).length ≤ ns.length := by
            rw [List.length_take]
            exact Nat.min_le_right ..
          have z4 := hperm.length_eq
          omega
        have elu := smu _ _ (smc _ _ el)
        refine ⟨l, _, _, rfl, rfl, elu, Nat.lt_of_le_of_lt (m := 5000) (by rw [List.length_map]; omega) (by decide), ?_⟩
        have hl' : ∀ x, (upd (upd H' c (.tup [.int (TCM.low (t r) b).1, .int (TCM.low (t r) b).2])) u (parV (r, Rat.divInt (t r) b))) l ≠ some (parV x) := fun x e => by
          rw [elu] at e
          cases e
        refine ⟨_, _, _, vs ++ [u], rfl, same_at ((sm.trans smc).trans smu) hl, ?_, ?_, ((hD3.same smc).same smu).upd ndl, ?_⟩
        · rw [upd_same, List.map_append]
          rfl
        · rw [upd_ne nl3.symm]
          exact smu _ _ (smc _ _ el3)
        · rw [etake, TCR.kept_snoc, if_pos (divInt_ne hb ht)]
          exact Refs.upd hl' (Refs.snoc upd_same ((hR.same smc).same smu))
    · obtain ⟨w3, w4, w5, vs, rfl, sm, el, el3, hD3, hR⟩ := hP
      rw [List.length_map, List.take_length] at hR
      refine ⟨_, rfl, l, _, rfl, .inl ⟨SqL.of el, fun p hp => ?_⟩⟩
      have smp := same_upd (o := .tup (vs.map V.ref)) hp
      refine made_num (C := C) (L := TCR.kept (fun r => Rat.divInt (t r) b) ns) ⟨vs, upd_same, hR.same smp⟩ fun x H2 sm2 hx hN => q x _ H2 ((sm.trans smp).trans sm2) ((sm.trans smp).free hx) hN (TCR.canon_kept _ ndn hsort) (fun r => ?_) ?_
      · refine TCR.val_kept (fun r => Rat.divInt (t r) b) r fun z => ?_
        show Rat.divInt (t r) b = 0
        rw [e5 r fun m => z (hperm.mem_iff.mpr m), divInt_zero]
      · have z2 := TCR.kept_len (fun r => Rat.divInt (t r) b) ns
        have z4 := hperm.length_eq
        omega
end
end TC
namespace TC
open PySem PySem.Spec PyProof.Rows L2 TCA
def setI (t : Int → Int) (r z : Int) : Int → Int := fun s => if s = r then z else t s
theorem putI_ok {H : Hp} {d : Addr} {kvs : List (Key × V)} {ks : List Int} {t : Int → Int} {r z : Int} (ek : kvs.map (·.1) = ks.map (Sum.inl : Int → Key))
    (hv : ∀ r ∈ ks, valV kvs (Sum.inl r : Key) = some (.int (t r))) (nd : ks.Nodup) (out : ∀ r, r ∉ ks → t r = 0) :
    IntD (upd H d (.dK (putK kvs (Sum.inl r : Key) (.int z)))) d (addKey ks r) (setI t r z) := by
  refine ⟨_, upd_same, keys_put ek, fun s hs => ?_, nd_addKey nd, fun s hs => ?_⟩
  · rw [valV_put]
    by_cases es : s = r
    · rw [es, if_pos rfl]
      show some (V.int z) = some (V.int (if r = r then z else t r))
      rw [if_pos rfl]
    · have hs' : s ∈ ks := (mem_addKey.mp hs).resolve_right es
      rw [if_neg (inl_ne es), hv s hs']
      show _ = some (V.int (if s = r then z else t s))
      rw [if_neg es]
  · have h1 : s ∉ ks := fun z => hs (mem_addKey.mpr (.inl z))
    have h2 : s ≠ r := fun z => hs (mem_addKey.mpr (.inr z))
    show (if s = r then z else t s) = 0
    rw [if_neg h2, out s h1]
/-- the tops over one bottom -/
def topsOf (L : List Part) (c : Nat) (r : Int) : Int := (TCR.val L r).num * ((c / (TCR.val L r).den : Nat) : Int)
theorem topsOf_div {L : List Part} {c : Nat} (hc : 0 < c) (r : Int) (h : (TCR.val L r).den ∣ c) : Rat.divInt (topsOf L c r) (c : Int) = TCR.val L r := by
  have dp := (TCR.val L r).den_pos
  have d0 : ((TCR.val L r).den : Int) ≠ 0 := by omega
  have c0 : ((c : Nat) : Int) ≠ 0 := by omega
  have e : Rat.divInt (topsOf L c r) (c : Int) = Rat.divInt (TCR.val L r).num ((TCR.val L r).den : Int) := by
    rw [Rat.divInt_eq_divInt_iff c0 d0]
    unfold topsOf
    rw [Int.mul_assoc]
    congr 1
    rw [← Int.natCast_mul, Nat.div_mul_cancel h]
  rw [e, Rat.num_divInt_den]
theorem den_val {L : List Part} {D : Nat} (h : ∀ x ∈ L, x.2.den ∣ D) (c : TCR.Canon L) (r : Int) : (TCR.val L r).den ∣ D := by
  rcases Classical.em (∃ q, (r, q) ∈ L) with ⟨q, z⟩ | z
  · rw [c.mem z]
    exact h _ z
  · rw [TCR.val_not fun x hx e => z ⟨x.2, by rw [← e]; exact hx⟩]
    exact Nat.one_dvd _
section
variable {P : Program} {w : World} {K : PySem.W.Frag} {mg : Str → Option Value} {base : Heap} {f : Addr} {fd : FuncData} {C fI fQ : Addr}
/-! ### on_one_bottom -/
def spOneB : Sp := fun vs H Q _ => ∃ (p : Addr) (L : List Part) (D A B : Nat), vs = [.ref p] ∧ PartsL H p L ∧ TCR.Canon L ∧ (∀ x ∈ L, x.2.den ∣ D) ∧ 0 < D ∧ D < 2 ^ B ∧ 0 < B ∧ B ≤ 8000 ∧ (∀ x ∈ L, x.2.num.natAbs < 2 ^ A) ∧ 0 < A ∧ A ≤ 20000 ∧ L.length ≤ 1000 ∧
  ∀ (v d : Addr) (c : Nat) H', Same H H' → H v = none → H' v = some (.tup [.ref d, .int (c : Int)]) → H d = none → IntD H' d (L.map (·.1)) (topsOf L c) → 0 < c → c ∣ D → (∀ x ∈ L, x.2.den ∣ c) → Q (.ref v) H'
theorem scOneB : FnScope ["parts", "common", "root", "top", "bottom"] ["parts"] (defScope sOneBottom) := ⟨rfl, rfl, rfl, by decide +kernel, rfl, by decide +kernel, by decide +kernel⟩
theorem ok_oneB {fS : Addr} {fdS : FuncData} (F : FnP K "on_one_bottom" sOneBottom f fd) (GS : FnOk P w K mg base CX0 1 fS fdS ["one", "other"] spShared) (bS : L2.Binds K fdS ["one", "other"] []) (kS : PySem.W.keepIn K (.ref fS) = true) (gS : mg "shared" = some (.ref fS)) :
    FnOk P w K mg base CX0 2 f fd ["parts"] spOneB := by
  refine F.ok scOneB (fun vs H Q E h => ?_) (fun cdv Ar outer s H vs Q E hr h => ?_)
  · obtain ⟨p, L, D, A, B, rfl, _⟩ := h
    rfl
  · obtain ⟨p, L, D, A, B, rfl, ⟨us, hp, hL⟩, cL, dD, D0, DB, B0, B8, zA, A0, A2, len, q⟩ := h
    have hu := hu_of hr
    refine ⟨_, PSs.nox (pss_cons (ps_set (i := 1) scOneB.nd rfl (.inr rfl) pe_int)
      (pss_cons (ps_for PassesOwn.never rfl (pi_tup (pv 0)) (pg_tup rfl (pgs_cons (pg_name (i := 2) scOneB.nd rfl (.inl rfl)) (pgs_cons (pg_name (i := 3) scOneB.nd rfl (.inl rfl)) (pgs_cons (pg_name (i := 4) scOneB.nd rfl (.inl rfl)) pgs_nil))))
        (pss_one (ps_set (i := 1) scOneB.nd rfl (.inr rfl) (pe_op op_mulW (pe_op op_fdivNW (pv 1) (pe_call GS hr (by rfl) gS kS bS .nil pass0 (pa_cons (pv 1) (pa_cons (pv 4) pa_nil)))) (pv 4)))))
      (pss_one (ps_ret (pe_tup (pa_cons (pe_dc (own := [("root", 2), ("top", 3), ("bottom", 4)]) (g := gTup K 3 (gCons (gName 2) (gCons (gName 3) (gCons (gName 4) gNil)))) (tt := tYes) (tk := tVar 2) (tv := tOp (rI CMulW fun i j => .int (i * j)) (tVar 3) (tOp (rI CDivNW fun i j => .int (i.fdiv j)) (tVar 1) (tVar 4))) rfl scOneB.nd (pi_tup (pv 0))
          (blkOk_by (N := ["parts", "common", "root", "top", "bottom"]) (sc := defScope sOneBottom) (by decide +kernel))
          (fun _ _ _ _ _ => pg_tup rfl (pgs_cons (pg_name (i := 2) scOneB.nd rfl (.inl rfl)) (pgs_cons (pg_name (i := 3) scOneB.nd rfl (.inl rfl)) (pgs_cons (pg_name (i := 4) scOneB.nd rfl (.inl rfl)) pgs_nil)))) (fun _ _ _ _ _ => pts_nil) (fun _ _ _ _ _ => pv 2) (fun _ _ _ _ _ => pe_op op_mulW (pv 3) (pe_op op_fdivNW (pv 1) (pv 4))))
          (pa_cons (pv 1) pa_nil))))))), ?_⟩
    refine ⟨_, rfl, p, rfl, ⟨_, SqT.of hp⟩, for_tup (xs := us.map V.ref) (fun i σ H' => ∃ (v2 v3 v4 : Option V) (c : Nat), σ = [some (.ref p), some (.int (c : Int)), v2, v3, v4] ∧ H' = H ∧ 0 < c ∧ (∀ x ∈ L.take i, x.2.den ∣ c) ∧ (∀ E, (∀ x ∈ L.take i, x.2.den ∣ E) → c ∣ E))
      ⟨none, none, none, 1, rfl, rfl, by decide, (fun x hx => by simp at hx), fun E _ => Nat.one_dvd E⟩ (fun i σ H' _ hP => ?_) (fun i x σ H' hx hP => ?_) (fun σ H' hP => ?_)⟩
    · obtain ⟨_, _, _, _, _, rfl, _⟩ := hP
      exact SqT.of hp
    · obtain ⟨v2, v3, v4, c, rfl, rfl, c0, cd, cm⟩ := hP
      obtain ⟨u, y, rfl, hu', hy, hyv⟩ := hL.get hx
      have hyL : y ∈ L := List.mem_of_getElem? hy
      have et : L.take (i + 1) = L.take i ++ [y] := by
        rw [List.take_add_one, hy]
        rfl
      have cD : c ∣ D := cm D fun x hx => dD x (List.mem_of_mem_take hx)
      have cB : c < 2 ^ B := Nat.lt_of_le_of_lt (Nat.le_of_dvd D0 cD) DB
      have yB : y.2.den < 2 ^ B := Nat.lt_of_le_of_lt (Nat.le_of_dvd D0 (dD y hyL)) DB
      have dp := y.2.den_pos
      have gp : 0 < Nat.gcd c y.2.den := Nat.gcd_pos_of_pos_left _ c0
      have gB : Nat.gcd c y.2.den < 2 ^ B := Nat.lt_of_le_of_lt (Nat.le_of_dvd c0 (Nat.gcd_dvd_left ..)) cB
      have eg : Int.gcd (c : Int) (y.2.den : Int) = Nat.gcd c y.2.den := by
        rw [Int.gcd_natCast_natCast]
      have el : c / Nat.gcd c y.2.den * y.2.den = Nat.lcm c y.2.den := by
        rw [Nat.lcm, Nat.div_mul_right_comm (Nat.gcd_dvd_left ..)]
      refine ⟨u, _, rfl, SqT.of hyv, rfl, _, _, rfl, _, _, rfl, _, _, rfl, rfl, ?_⟩
      refine ⟨_, rfl, _, rfl, _, rfl, (c : Int), (y.2.den : Int), rfl, ?_⟩
      rw [eg]
      refine ⟨(c : Int), ((Nat.gcd c y.2.den : Nat) : Int), rfl, rfl, cdivn gp gB B0 B8, _, rfl, _, (y.2.den : Int), rfl, rfl, ?_, ?_⟩
      · show CMulW ((c : Int).fdiv ((Nat.gcd c y.2.den : Nat) : Int)) (y.2.den : Int)
        rw [fdiv_nat]
        exact cmulw (A := B) (B := B) (by rw [Int.natAbs_natCast]; exact Nat.lt_of_le_of_lt (Nat.div_le_self ..) cB) (by rw [Int.natAbs_natCast]; exact yB) B0 B0 (by omega)
      · refine ⟨some (.int y.1), some (.int y.2.num), some (.int (y.2.den : Int)), Nat.lcm c y.2.den, ?_, rfl, Nat.pos_of_ne_zero (fun z => ?_), fun x hx => ?_, fun E hE => ?_⟩
        · show [some (V.ref p), some (V.int ((c : Int).fdiv ((Nat.gcd c y.2.den : Nat) : Int) * (y.2.den : Int))), some (V.int y.1), some (V.int y.2.num), some (V.int (y.2.den : Int))] = _
          rw [fdiv_nat, ← Int.natCast_mul, el]
        · rcases Nat.lcm_eq_zero_iff.mp z with z | z <;> omega
        · rw [et] at hx
          rcases List.mem_append.mp hx with z | z
          · exact Nat.dvd_trans (cd x z) (Nat.dvd_lcm_left ..)
          · rw [List.mem_singleton.mp z]
            exact Nat.dvd_lcm_right ..
        · rw [et] at hE
          exact Nat.lcm_dvd (cm E fun x hx => hE x (List.mem_append_left _ hx)) (hE y (List.mem_append_right _ (List.mem_singleton.mpr rfl)))
    · obtain ⟨v2, v3, v4, c, rfl, rfl, c0, cd, cm⟩ := hP
      rw [List.length_map, hL.len, List.take_length] at cd cm
      have cD : c ∣ D := cm D dD
      have cB : c < 2 ^ B := Nat.lt_of_le_of_lt (Nat.le_of_dvd D0 cD) DB
      refine ⟨_, rfl, p, rfl, ⟨_, SqT.of hp⟩, fun d hd => dc_tup (xs := us.map V.ref) (fun i H2 => Same H' H2 ∧ IntD H2 d ((L.take i).map (·.1)) (topsOf (L.take i) c)) ?_ (fun i H2 _ hP => SqT.of (hP.1 _ _ hp)) (fun i x H2 hx hP => ?_) (fun H2 hP => ?_)⟩
      · exact ⟨same_upd hd, [], upd_same, rfl, (fun r hr => by cases hr), List.nodup_nil, fun r _ => by unfold topsOf; exact Int.zero_mul _⟩
      · obtain ⟨sm, kvs, e1, e2, e3, e4, e5⟩ := hP
        obtain ⟨u, y, rfl, hu', hy, hyv⟩ := (hL.same sm).get hx
        have hyL : y ∈ L := List.mem_of_getElem? hy
        have il : i < L.length := (List.getElem?_eq_some_iff.mp hy).1
        have et : L.take (i + 1) = L.take i ++ [y] := by
          rw [List.take_add_one, hy]
          rfl
        have dp := y.2.den_pos
        have yB : y.2.den < 2 ^ B := Nat.lt_of_le_of_lt (Nat.le_of_dvd D0 (dD y hyL)) DB
        have t0 := (TCR.val_take cL y.1 hy).1
        have t1 := fun s => (TCR.val_take cL s hy).2
        have nin : y.1 ∉ (L.take i).map (·.1) := fun m => by
          obtain ⟨z, hz, ez⟩ := List.mem_map.mp m
          have cT : TCR.Canon (L.take i) := ⟨cL.srt.sublist (List.take_sublist ..), fun x hx => cL.nz x (List.mem_of_mem_take hx)⟩
          have := cT.mem hz
          rw [ez, t0] at this
          exact cT.nz z hz this.symm
        refine ⟨u, _, rfl, SqT.of hyv, rfl, _, _, rfl, _, _, rfl, _, _, rfl, rfl, rfl, ?_⟩
        refine ⟨_, rfl, _, rfl, _, rfl, _, rfl, (c : Int), (y.2.den : Int), rfl, rfl, cdivn dp yB B0 B8, y.2.num, _, rfl, rfl, ?_, ?_⟩
        · show CMulW y.2.num ((c : Int).fdiv (y.2.den : Int))
          rw [fdiv_nat]
          exact cmulw (A := A) (B := B) (zA y hyL) (by rw [Int.natAbs_natCast]; exact Nat.lt_of_le_of_lt (Nat.div_le_self ..) cB) A0 B0 (by omega)
        · refine ⟨kvs, Sum.inl y.1, rfl, e1, small1000 (by rw [len_keys e2, List.length_map, List.length_take]; omega), same_at sm hd, ?_⟩
          show IntD (upd H2 d (.dK (putK kvs (Sum.inl y.1) (.int (y.2.num * (c : Int).fdiv (y.2.den : Int)))))) d _ _
          rw [fdiv_nat]
          have z := putI_ok (H := H2) (d := d) (r := y.1) (z := y.2.num * ((c / y.2.den : Nat) : Int)) e2 e3 e4 e5
          have ek : addKey ((L.take i).map (·.1)) y.1 = (L.take (i + 1)).map (·.1) := by
            unfold addKey
            rw [if_neg nin, et, List.map_append]
            rfl
          rw [ek] at z
          refine z.imp fun s => ?_
          unfold setI topsOf
          rw [t1 s]
          by_cases es : s = y.1
          · rw [if_pos es, if_pos es]
          · rw [if_neg es, if_neg es]
      · obtain ⟨sm, hI⟩ := hP
        rw [List.length_map, hL.len, List.take_length] at hI
        refine ⟨_, rfl, by show 2 ≤ sizeLine; decide, fun v hv => ?_⟩
        have sv := same_upd (o := .tup [.ref d, .int (c : Int)]) hv
        exact q v d c _ (sm.trans sv) (sm.free hv) upd_same hd (hI.same sv) c0 cD cd
end
end TC
namespace TC
open PySem PySem.Spec PyProof.Rows L2 TCA
theorem dget_rd {H : Hp} {d : Addr} {kvs : List (Key × V)} {r : Int} {v : V} (e : Rd H d (.dK kvs)) (h : valV kvs (Sum.inl r : Key) = some v) : DGet H d (.int r) (some v) := by
  have z : DGet H d (kV (Sum.inl r : Key)) (valV kvs (Sum.inl r : Key)) := .inl ⟨kvs, Sum.inl r, e, rfl, rfl⟩
  rw [h] at z
  exact z
theorem key_at {kvs : List (Key × V)} {ks : List Int} {i : Nat} {k : Key} {v : V} (e : kvs.map (·.1) = ks.map (Sum.inl : Int → Key)) (h : kvs[i]? = some (k, v)) : ∃ r, ks[i]? = some r ∧ k = Sum.inl r := by
  have z : (kvs.map (·.1))[i]? = some k := by
    rw [List.getElem?_map, h]
    rfl
  rw [e, List.getElem?_map] at z
  cases q : ks[i]? with
  | none =>
    rw [q] at z
    cases z
  | some r =>
    rw [q] at z
    exact ⟨r, rfl, (Option.some.inj z).symm⟩
theorem valV_drop {kvs : List (Key × V)} {k j : Key} : valV (dropK kvs k) j = if j = k then none else valV kvs j := by
  induction kvs with
  | nil => simp [dropK, valV]
  | cons p r ih =>
    by_cases e : p.1 = k
    · rw [dropK_pos e, ih]
      by_cases ej : j = k
      · rw [if_pos ej, if_pos ej]
      · rw [if_neg ej, if_neg ej, valV_neg (p := p) fun z => ej (z.symm.trans e)]
    · rw [dropK_neg e]
      by_cases ep : p.1 = j
      · rw [valV_pos ep, valV_pos ep, if_neg fun z => e (ep.trans z)]
      · rw [valV_neg ep, valV_neg ep, ih]
theorem keys_drop {kvs : List (Key × V)} {ks : List Int} {r : Int} (e : kvs.map (·.1) = ks.map (Sum.inl : Int → Key)) : (dropK kvs (Sum.inl r : Key)).map (·.1) = (ks.filter fun s => decide (s ≠ r)).map (Sum.inl : Int → Key) := by
  induction kvs generalizing ks with
  | nil =>
    cases ks with
    | nil => rfl
    | cons a ks => cases e
  | cons p kvs ih =>
    cases ks with
    | nil => cases e
    | cons a ks =>
      have e1 : p.1 = Sum.inl a := (List.cons.inj e).1
      have e2 : kvs.map (·.1) = ks.map (Sum.inl : Int → Key) := (List.cons.inj e).2
      by_cases h : a = r
      · rw [dropK_pos (by rw [e1, h]), List.filter_cons, if_neg (by simp [h])]
        exact ih e2
      · rw [dropK_neg (by rw [e1]; exact inl_ne h), List.filter_cons, if_pos (by simp [h]), List.map_cons, List.map_cons, ih e2, e1]
theorem mem_take_succ {ks : List Int} {i : Nat} {r s : Int} (h : ks[i]? = some r) : s ∈ ks.take (i + 1) ↔ s ∈ ks.take i ∨ s = r := by
  rw [List.take_add_one, h]
  simp
theorem mem_drop_of {ks : List Int} {i : Nat} {r : Int} (h : ks[i]? = some r) : ks.drop i = r :: ks.drop (i + 1) := by
  obtain ⟨hl, e⟩ := List.getElem?_eq_some_iff.mp h
  rw [List.drop_eq_getElem_cons hl, e]
theorem nd_not_take {ks : List Int} (nd : ks.Nodup) {i : Nat} {r : Int} (h : ks[i]? = some r) : r ∉ ks.take i := fun m => by
  obtain ⟨j, hj, e⟩ := List.mem_iff_getElem.mp m
  rw [List.length_take] at hj
  rw [List.getElem_take] at e
  obtain ⟨hl, e2⟩ := List.getElem?_eq_some_iff.mp h
  have := (List.getElem_inj nd (h₀ := by omega) (h₁ := hl)).mp (e.trans e2.symm)
  omega
def Clear (ks : List Int) (g : Int → Rat) : Prop := ∀ r ∈ ks, g r ≠ 0
section
variable {P : Program} {w : World} {K : PySem.W.Frag} {mg : Str → Option Value} {base : Heap} {f : Addr} {fd : FuncData} {C fI fQ : Addr}
/-! ### _law_cleared -/
def spCleared : Sp := fun vs H Q _ => ∃ (d : Addr) (ks : List Int) (g : Int → Rat), vs = [.ref d] ∧ DictAt H d ks g ∧ ks.length ≤ 900 ∧
  ∀ d' ks' H', Same H H' → H d' = none → DictAt H' d' ks' g → Clear ks' g → ks'.length ≤ ks.length → (∀ r ∈ ks', r ∈ ks) → Q (.ref d') H'
theorem scCleared : FnScope ["_law_some_here", "_law_found", "_law_r"] ["_law_some_here"] (defScope sCleared) := ⟨rfl, rfl, rfl, by decide +kernel, rfl, by decide +kernel, by decide +kernel⟩
theorem ok_cleared (F : FnP K "_law_cleared" sCleared f fd) (gd : mg "dict" = none) : FnOk P w K mg base CX0 1 f fd ["_law_some_here"] spCleared := by
  refine F.ok scCleared (fun vs H Q E h => ?_) (fun cdv Ar outer s H vs Q E hr h => ?_)
  · obtain ⟨d, ks, g, rfl, _⟩ := h
    rfl
  · obtain ⟨d, ks, g, rfl, hd, len, q⟩ := h
    have hu := hu_of hr
    refine ⟨_, PSs.nox (pss_cons (ps_set (i := 1) scCleared.nd rfl (.inl rfl) (pe_callTy call_dictD (by rfl) gd (by decide +kernel) (pa_cons (pv 0) pa_nil)))
      (pss_cons (ps_lock (ps_for PassesOwn.never rfl (pi_keys (pv 0)) (pg_name (i := 2) scCleared.nd rfl (.inl rfl))
        (pss_one (ps_if (pt_cmpR op_eq (pe_ix ix_tup (pe_dget hu (pv 0) (pv 2) (fun _ _ => rfl)) pe_int (fun _ _ => rfl)) pe_int (nomark _))
          (pss_one (ps_expr (pe_dpop1 (pv 1) (pv 2) ⟨rfl, rfl, rfl, rfl⟩))) pss_nil))))
      (pss_one (ps_ret (pv 1))))), ?_⟩
    obtain ⟨kvs, e1, e2, e3, e4, e5⟩ := id hd
    refine ⟨_, rfl, d, kvs, rfl, .inl e1, fun p hp => ?_⟩
    have smp := same_upd (o := .dK kvs) hp
    have npd : p ≠ d := (ne_of_none e1 hp).symm
    refine ⟨d, .dK kvs, smp _ _ e1, trivial, fun od => ?_⟩
    refine ⟨_, rfl, d, od, rfl, .inl ⟨kvs, upd_same, ?_⟩⟩
    -- u's are none of d, p
    have nud : ∀ {u : Addr} {q : Rat}, H u = some (fraV q) → u ≠ d := fun {u q} hu z => by
      rw [z, e1] at hu
      cases hu
    refine for_it (walk_keys (d := d) (o := od) (kvs := kvs)) (fun i σ H' => ∃ (v2 : Option V) (ks' : List Int), σ = [some (.ref d), some (.ref p), v2] ∧ H' d = some (.frz od (.dK kvs)) ∧ (∀ b o, H b = some o → b ≠ d → H' b = some o) ∧ DictAt H' p ks' g ∧ ks'.length ≤ ks.length ∧ (∀ r ∈ ks', r ∈ ks) ∧ (∀ r ∈ ks.drop i, r ∈ ks') ∧ ∀ r ∈ ks.take i, r ∈ ks' → g r ≠ 0)
      ⟨none, ks, rfl, upd_same, fun b o e hb => by rw [upd_ne hb]; exact smp _ _ e, ?_, Nat.le_refl _, fun r hr => hr, fun r hr => hr, (fun r hr => by simp at hr)⟩ (fun i σ H' _ hP => ?_) (fun i x σ H' H2 hi hP hy => ?_) (fun σ H' hP => ?_)
    · refine ⟨kvs, by rw [upd_ne npd, upd_same], e2, fun r hr => ?_, e4, e5⟩
      obtain ⟨u, a, b⟩ := e3 r hr
      exact ⟨u, a, by rw [upd_ne (nud b)]; exact smp _ _ b⟩
    · obtain ⟨_, _, _, z, _⟩ := hP
      exact z
    · obtain ⟨rfl, k, v, hkv, rfl⟩ := hy
      obtain ⟨v2, ks', rfl, hfz, keep, hp', l', sub, dr, tk⟩ := hP
      obtain ⟨r, hr', rfl⟩ := key_at e2 hkv
      have rk : r ∈ ks := List.mem_of_getElem? hr'
      obtain ⟨u, a, b⟩ := e3 r rk
      have bu := keep _ _ b (nud b)
      have edr := mem_drop_of hr'
      have rk' : r ∈ ks' := dr r (by rw [edr]; exact List.mem_cons_self ..)
      refine ⟨_, rfl, _, rfl, d, _, rfl, dget_rd (.inr ⟨od, hfz⟩) a, u, _, 0, _, rfl, rfl, SqT.of bu, atI_nat (j := 0) rfl, rfl, _, rfl, ?_⟩
      by_cases hz : g r = 0
      · have hn0 : (g r).num = 0 := by rw [hz]; rfl
        refine iteD1 (congrArg V.int hn0) ?_
        obtain ⟨kv2, f1, f2, f3, f4, f5⟩ := id hp'
        obtain ⟨u2, c1, c2⟩ := f3 r rk'
        refine ⟨_, rfl, p, rfl, .inl ⟨_, .inl f1⟩, _, rfl, kv2, Sum.inl r, _, f1, rfl, c1, ?_⟩
        have nup : ∀ {u : Addr} {q : Rat}, H2 u = some (fraV q) → u ≠ p := fun {u q} hu z => by
          rw [z, f1] at hu
          cases hu
        refine ⟨_, ks'.filter (fun s => decide (s ≠ r)), rfl, by rw [upd_ne npd.symm]; exact hfz, fun b o e hb => ?_, ?_, Nat.le_trans (List.length_filter_le ..) l', fun s hs => sub s (List.mem_filter.mp hs).1, fun s hs => ?_, fun s hs hs' => ?_⟩
        · rw [upd_ne (ne_of_none e hp)]
          exact keep b o e hb
        · refine ⟨_, upd_same, keys_drop f2, fun s hs => ?_, f4.filter _, fun s hs => ?_⟩
          · obtain ⟨hs1, hs2⟩ := List.mem_filter.mp hs
            have sr : s ≠ r := of_decide_eq_true hs2
            obtain ⟨u3, g1, g2⟩ := f3 s hs1
            refine ⟨u3, ?_, by rw [upd_ne (nup g2)]; exact g2⟩
            rw [valV_drop, if_neg (inl_ne sr)]
            exact g1
          · by_cases sr : s = r
            · rw [sr]
              exact hz
            · exact f5 s fun m => hs (List.mem_filter.mpr ⟨m, decide_eq_true sr⟩)
        · have s1 : s ∈ ks.drop i := by
            rw [edr]
            exact List.mem_cons_of_mem _ hs
          refine List.mem_filter.mpr ⟨dr s s1, decide_eq_true fun e => ?_⟩
          have nd2 : (r :: ks.drop (i + 1)).Nodup := by
            rw [← edr]
            exact e4.sublist (List.drop_sublist ..)
          exact (List.nodup_cons.mp nd2).1 (e ▸ hs)
        · obtain ⟨hs1, hs2⟩ := List.mem_filter.mp hs'
          rcases (mem_take_succ hr').mp hs with m | m
          · exact tk s m hs1
          · exact absurd m (of_decide_eq_true hs2)
      · have hn0 : (g r).num ≠ 0 := fun e => hz (Rat.num_eq_zero.mp e)
        refine iteD0 (ine hn0) ?_
        refine ⟨_, ks', rfl, hfz, keep, hp', l', sub, fun s hs => dr s (by rw [edr]; exact List.mem_cons_of_mem _ hs), fun s hs hs' => ?_⟩
        rcases (mem_take_succ hr').mp hs with m | m
        · exact tk s m hs'
        · rw [m]
          exact hz
    · obtain ⟨v2, ks', rfl, hfz, keep, hp', l', sub, dr, tk⟩ := hP
      refine ⟨hfz, _, rfl, ?_⟩
      have lk := len_keys e2
      have smf : Same H (upd H' d (.dK kvs)) := fun b o e => by
        by_cases hb : b = d
        · rw [hb, upd_same]
          rw [hb, e1] at e
          exact e
        · rw [upd_ne hb]
          exact keep b o e hb
      refine q p ks' _ smf hp ?_ (fun r hr => ?_) l' sub
      · obtain ⟨kv2, f1, f2, f3, f4, f5⟩ := hp'
        refine ⟨kv2, by rw [upd_ne npd]; exact f1, f2, fun r hr => ?_, f4, f5⟩
        obtain ⟨u2, c1, c2⟩ := f3 r hr
        refine ⟨u2, c1, ?_⟩
        rw [upd_ne fun z => by
          rw [z, hfz] at c2
          cases c2]
        exact c2
      · refine tk r ?_ hr
        rw [lk, List.take_length]
        exact sub r hr
end
end TC
namespace TC
open PySem PySem.Spec PyProof.Rows L2 TCA
/-! ### sums over pairs of roots -/
def sumI : List Int → Int
  | [] => 0
  | a :: l => a + sumI l
theorem sumI_append : ∀ (l m : List Int), sumI (l ++ m) = sumI l + sumI m
  | [], m => by show sumI m = 0 + sumI m; omega
  | a :: l, m => by
    show a + sumI (l ++ m) = a + sumI l + sumI m
    rw [sumI_append l m]
    omega
def gR (r s : Int) : Int := ((Int.gcd r s : Nat) : Int)
def mulR (r s : Int) : Int := r.fdiv (gR r s) * s.fdiv (gR r s)
def rowI (r z : Int) (k2 : List Int) (t2 : Int → Int) (u : Int) : Int := sumI (k2.map fun s => if mulR r s = u then z * t2 s * gR r s else 0)
def prodI (k1 k2 : List Int) (t1 t2 : Int → Int) (u : Int) : Int := sumI (k1.map fun r => rowI r (t1 r) k2 t2 u)
theorem rowI_succ {r z : Int} {k2 : List Int} {t2 : Int → Int} {j : Nat} {s : Int} (h : k2[j]? = some s) (u : Int) : rowI r z (k2.take (j + 1)) t2 u = rowI r z (k2.take j) t2 u + if mulR r s = u then z * t2 s * gR r s else 0 := by
  unfold rowI
  rw [List.take_add_one, h, List.map_append, sumI_append]
  show _ + (_ + 0) = _
  rw [Int.add_zero]
theorem prodI_succ {k1 k2 : List Int} {t1 t2 : Int → Int} {i : Nat} {r : Int} (h : k1[i]? = some r) (u : Int) : prodI (k1.take (i + 1)) k2 t1 t2 u = prodI (k1.take i) k2 t1 t2 u + rowI r (t1 r) k2 t2 u := by
  unfold prodI
  rw [List.take_add_one, h, List.map_append, sumI_append]
  show _ + (_ + 0) = _
  rw [Int.add_zero]
theorem valV_get : ∀ {kvs : List (Key × V)} {i : Nat} {k : Key} {v : V}, (kvs.map (·.1)).Nodup → kvs[i]? = some (k, v) → valV kvs k = some v
  | [], i, k, v, _, h => by simp at h
  | p :: kvs, 0, k, v, _, h => by
    have e : p = (k, v) := by simpa using h
    rw [e]
    exact valV_pos rfl
  | p :: kvs, i + 1, k, v, nd, h => by
    have h' : kvs[i]? = some (k, v) := by simpa using h
    have n := List.nodup_cons.mp nd
    rw [valV_neg fun e => n.1 (by
      show p.1 ∈ _
      rw [e]
      exact List.mem_map.mpr ⟨_, List.mem_of_getElem? h', rfl⟩)]
    exact valV_get n.2 h'
theorem int_at {kvs : List (Key × V)} {ks : List Int} {t : Int → Int} {i : Nat} {x y : V} (e2 : kvs.map (·.1) = ks.map (Sum.inl : Int → Key)) (e3 : ∀ r ∈ ks, valV kvs (Sum.inl r : Key) = some (.int (t r))) (nd : ks.Nodup)
    (hx : (kvs[i]?.map fun kv => kV kv.1) = some x) (hy : (kvs[i]?.map Prod.snd) = some y) : ∃ r, ks[i]? = some r ∧ x = .int r ∧ y = .int (t r) := by
  cases e : kvs[i]? with
  | none =>
    rw [e] at hx
    cases hx
  | some kv =>
    obtain ⟨k, v⟩ := kv
    rw [e] at hx hy
    obtain ⟨r, hr, rfl⟩ := key_at e2 e
    have ndk : (kvs.map (·.1)).Nodup := by
      rw [e2]
      exact List.pairwise_map.mpr (nd.imp fun {a b} z => inl_ne z)
    have hv := valV_get ndk e
    rw [e3 r (List.mem_of_getElem? hr)] at hv
    refine ⟨r, hr, (Option.some.inj hx).symm, ?_⟩
    rw [Option.some.inj hv]
    exact (Option.some.inj hy).symm
section
variable {J : It} {n : Nat} {G : Hp → Prop} {Y : Nat → Hp → V → Hp → Prop}
theorem dc_it (w : Walk J n G Y) {g : TG} {tt : TT} {tk tv : TE} {vs : List Nat} {σ : L2.St} {H1 : Hp} {D : Addr} {Qd : Hp → Prop} (Pv : Nat → Hp → Prop) (h0 : Pv 0 (upd H1 D (.dK []))) (hG : ∀ i H, i ≤ n → Pv i H → G H)
    (hs : ∀ i x H H', i < n → Pv i H → Y i H x H' → g x (wipe σ vs) H' fun σ2 H2 => wipe σ2 vs = wipe σ vs ∧ tt σ2 H2 fun b H3 =>
      if b = true then tk σ2 H3 fun y H4 => tv σ2 H4 fun z H5 => ∃ kvs k, y = kV k ∧ H5 D = some (.dK kvs) ∧ kvs.length < sizeLine ∧ Pv (i + 1) (upd H5 D (.dK (putK kvs k z))) else Pv (i + 1) H3) (hd : ∀ H, Pv n H → Qd H) :
    ∃ W : Nat → Nat → Hp → Prop, (∃ m, W 0 m (upd H1 D (.dK []))) ∧ ∀ i m H, W i m H →
      (J.stop i H ∧ Qd H) ∨ (J.go i H ∧ ∃ Nx : Hp → Prop, (∀ H', Nx H' → ∃ m', m' < m ∧ W (i + 1) m' H') ∧ ∀ x H', J.yld i H x H' → g x (wipe σ vs) H' fun σ2 H2 => wipe σ2 vs = wipe σ vs ∧ tt σ2 H2 fun b H3 =>
        if b = true then tk σ2 H3 fun y H4 => tv σ2 H4 fun z H5 => ∃ kvs k, y = kV k ∧ H5 D = some (.dK kvs) ∧ kvs.length < sizeLine ∧ Nx (upd H5 D (.dK (putK kvs k z))) else Nx H3) := by
  refine ⟨fun i m H => m = n - i ∧ i ≤ n ∧ Pv i H, ⟨n, by simp, Nat.zero_le _, h0⟩, ?_⟩
  rintro i m H ⟨rfl, hi, p⟩
  have q := hG i H hi p
  by_cases hlt : i < n
  · exact .inr ⟨w.goes i H hlt q, Pv (i + 1), fun H' p' => ⟨n - (i + 1), by omega, rfl, hlt, p'⟩, fun x H' y => hs i x H H' hlt p (w.yields i H x H' hlt q y)⟩
  · have e : i = n := by omega
    subst e
    exact .inl ⟨w.stops H q, hd H p⟩
end
section
variable {P : Program} {w : World} {K : PySem.W.Frag} {mg : Str → Option Value} {base : Heap} {f : Addr} {fd : FuncData} {C fI fQ : Addr}
/-! ### products -/
def spProducts : Sp := fun vs H Q _ => ∃ (d1 d2 : Addr) (k1 k2 : List Int) (t1 t2 : Int → Int) (A B R : Nat), vs = [.ref d1, .ref d2] ∧ d1 ≠ d2 ∧ IntD H d1 k1 t1 ∧ IntD H d2 k2 t2 ∧ (∀ r ∈ k1, 0 < r ∧ r.natAbs < 2 ^ R) ∧ (∀ r ∈ k2, 0 < r ∧ r.natAbs < 2 ^ R) ∧
  (∀ r, (t1 r).natAbs < 2 ^ A) ∧ (∀ r, (t2 r).natAbs < 2 ^ B) ∧ 0 < A ∧ 0 < B ∧ A + B ≤ 80000 ∧ 0 < R ∧ R ≤ 5000 ∧ k1.length * k2.length ≤ 5000 ∧
  ∀ d ks H', Same H H' → H d = none → IntD H' d ks (prodI k1 k2 t1 t2) → ks.length ≤ k1.length * k2.length → (∀ u ∈ ks, ∃ r ∈ k1, ∃ s ∈ k2, u = mulR r s) → Q (.ref d) H'
theorem scProducts : FnScope ["tops", "others", "found", "root", "top", "by", "number", "common", "left"] ["tops", "others"] (defScope sProducts) := ⟨rfl, rfl, rfl, by decide +kernel, rfl, by decide +kernel, by decide +kernel⟩
theorem ok_products {fS : Addr} {fdS : FuncData} (F : FnP K "products" sProducts f fd) (GS : FnOk P w K mg base CX0 1 fS fdS ["one", "other"] spShared) (bS : L2.Binds K fdS ["one", "other"] []) (kS : PySem.W.keepIn K (.ref fS) = true) (gS : mg "shared" = some (.ref fS)) :
    FnOk P w K mg base CX0 2 f fd ["tops", "others"] spProducts := by
  refine F.ok scProducts (fun vs H Q E h => ?_) (fun cdv Ar outer s H vs Q E hr h => ?_)
  · obtain ⟨d1, d2, k1, k2, t1, t2, A, B, R, rfl, _⟩ := h
    rfl
  · obtain ⟨d1, d2, k1, k2, t1, t2, A, B, R, rfl, ndd, h1, h2, r1, r2, z1, z2, A0, B0, AB, R0, R5, len, q⟩ := h
    have hu := hu_of hr
    refine ⟨_, PSs.nox (pss_cons (ps_set (i := 2) scProducts.nd rfl (.inl rfl) pe_dnewK)
      (pss_cons (ps_lock (ps_for PassesOwn.never rfl (pi_items (pv 0)) (pg_tup rfl (pgs_cons (pg_name (i := 3) scProducts.nd rfl (.inl rfl)) (pgs_cons (pg_name (i := 4) scProducts.nd rfl (.inl rfl)) pgs_nil)))
        (pss_one (ps_lock (ps_for PassesOwn.never rfl (pi_items (pv 1)) (pg_tup rfl (pgs_cons (pg_name (i := 5) scProducts.nd rfl (.inl rfl)) (pgs_cons (pg_name (i := 6) scProducts.nd rfl (.inl rfl)) pgs_nil)))
          (pss_cons (ps_set (i := 7) scProducts.nd rfl (.inl rfl) (pe_call GS hr (by rfl) gS kS bS .nil pass0 (pa_cons (pv 3) (pa_cons (pv 5) pa_nil))))
          (pss_cons (ps_set (i := 8) scProducts.nd rfl (.inl rfl) (pe_op op_mulW (pe_op op_fdivNW (pv 3) (pv 7)) (pe_op op_fdivNW (pv 5) (pv 7))))
          (pss_one (ps_dput hu (pv 2) (pv 8) (pe_op op_add (pe_dget2 hu (pv 2) (pv 8) pe_int ⟨rfl, rfl, rfl, rfl⟩) (pe_op op_mulW (pe_op op_mulW (pv 4) (pv 6)) (pv 7))) rfl)))))))))
      (pss_one (ps_ret (pe_lock (pe_dc (own := [("root", 3), ("top", 4)]) (g := gTup K 2 (gCons (gName 3) (gCons (gName 4) gNil))) (tt := tTest (tOp rNe (tVar 4) (tC (.int 0)))) (tk := tVar 3) (tv := tVar 4) rfl scProducts.nd (pi_items (pv 2))
          (blkOk_by (N := ["tops", "others", "found", "root", "top", "by", "number", "common", "left"]) (sc := defScope sProducts) (by decide +kernel))
          (fun _ _ _ _ _ => pg_tup rfl (pgs_cons (pg_name (i := 3) scProducts.nd rfl (.inl rfl)) (pgs_cons (pg_name (i := 4) scProducts.nd rfl (.inl rfl)) pgs_nil))) (fun _ _ _ _ _ => pts_one (pt_cmpR op_ne (pv 4) pe_int (nomark _))) (fun _ _ _ _ _ => pv 3) (fun _ _ _ _ _ => pv 4))))))), ?_⟩
    obtain ⟨kv1, a1, a2, a3, a4, a5⟩ := id h1
    obtain ⟨kv2, b1, b2, b3, b4, b5⟩ := id h2
    have lk1 := len_keys a2
    have lk2 := len_keys b2
    intro p hp
    have smp := same_upd (o := .dK []) hp
    have np1 : p ≠ d1 := (ne_of_none a1 hp).symm
    have np2 : p ≠ d2 := (ne_of_none b1 hp).symm
    refine ⟨d1, .dK kv1, smp _ _ a1, trivial, fun o1 => ?_⟩
    refine ⟨_, rfl, d1, o1, kv1, rfl, upd_same, ?_⟩
    refine for_it (walk_items (d := d1) (o := o1) (kvs := kv1)) (fun i σ H' => ∃ (v3 v4 v5 v6 v7 v8 : Option V) (ks : List Int), σ = [some (.ref d1), some (.ref d2), some (.ref p), v3, v4, v5, v6, v7, v8] ∧ H' d1 = some (.frz o1 (.dK kv1)) ∧ (∀ b o, H b = some o → b ≠ d1 → H' b = some o) ∧
        IntD H' p ks (prodI (k1.take i) k2 t1 t2) ∧ ks.length ≤ i * k2.length ∧ (∀ u ∈ ks, ∃ r ∈ k1, ∃ s ∈ k2, u = mulR r s))
      ⟨none, none, none, none, none, none, [], rfl, upd_same, fun b o e hb => by rw [upd_ne hb]; exact smp _ _ e, ⟨[], by rw [upd_ne np1, upd_same], rfl, (fun r hr => by cases hr), List.nodup_nil, fun r _ => rfl⟩, Nat.zero_le _, (fun u hu => by cases hu)⟩ (fun i σ H' _ hP => ?_) (fun i x σ H' H2 hi hP hy => ?_) (fun σ H' hP => ?_)
    · obtain ⟨_, _, _, _, _, _, _, _, z, _⟩ := hP
      exact z
    · obtain ⟨T, x, y, rfl, hT, rfl, hx, hy⟩ := hy
      obtain ⟨v3, v4, v5, v6, v7, v8, ks, rfl, hf1, keep, hI, lks, sub⟩ := hP
      obtain ⟨r, hr', rfl, rfl⟩ := int_at a2 a3 a4 hx hy
      have rk : r ∈ k1 := List.mem_of_getElem? hr'
      have smT := same_upd (o := .tup [.int r, .int (t1 r)]) hT
      refine ⟨T, _, rfl, SqT.of upd_same, rfl, _, _, rfl, _, _, rfl, rfl, ?_⟩
      refine ⟨d2, .dK kv2, smT _ _ (keep _ _ b1 ndd.symm), trivial, fun o2 => ?_⟩
      refine ⟨_, rfl, d2, o2, kv2, rfl, upd_same, ?_⟩
      refine for_it (walk_items (d := d2) (o := o2) (kvs := kv2)) (fun j σ H3 => ∃ (v5 v6 v7 v8 : Option V) (ks : List Int), σ = [some (.ref d1), some (.ref d2), some (.ref p), some (.int r), some (.int (t1 r)), v5, v6, v7, v8] ∧ H3 d1 = some (.frz o1 (.dK kv1)) ∧ H3 d2 = some (.frz o2 (.dK kv2)) ∧ (∀ b o, H b = some o → b ≠ d1 → b ≠ d2 → H3 b = some o) ∧
          IntD H3 p ks (fun u => prodI (k1.take i) k2 t1 t2 u + rowI r (t1 r) (k2.take j) t2 u) ∧ ks.length ≤ i * k2.length + j ∧ (∀ u ∈ ks, ∃ r ∈ k1, ∃ s ∈ k2, u = mulR r s))
        ⟨v5, v6, v7, v8, ks, rfl, by rw [upd_ne ndd]; exact smT _ _ hf1, upd_same, fun b o e hb hb2 => by rw [upd_ne hb2]; exact smT _ _ (keep _ _ e hb), ((hI.same smT).upd np2).imp fun u => (Int.add_zero _).symm, by omega, sub⟩ (fun j σ H3 _ hP => ?_) (fun j x σ H3 H4 hj hP hy => ?_) (fun σ H3 hP => ?_)
      · obtain ⟨_, _, _, _, _, _, _, z, _⟩ := hP
        exact z
      · obtain ⟨T2, x, y, rfl, hT2, rfl, hx, hy⟩ := hy
        obtain ⟨v5, v6, v7, v8, ks, rfl, hf1', hf2', keep', hI', lks', sub'⟩ := hP
        obtain ⟨s, hs', rfl, rfl⟩ := int_at b2 b3 b4 hx hy
        have sk : s ∈ k2 := List.mem_of_getElem? hs'
        have il : j < k2.length := (List.getElem?_eq_some_iff.mp hs').1
        have il1 : i < k1.length := (List.getElem?_eq_some_iff.mp hr').1
        have smT2 := same_upd (o := .tup [.int s, .int (t2 s)]) hT2
        obtain ⟨r0, rR⟩ := r1 r rk
        obtain ⟨s0, sR⟩ := r2 s sk
        have gp : 0 < Int.gcd r s := Int.gcd_pos_iff.mpr (.inl (by omega))
        have gle : Int.gcd r s ≤ r.natAbs := Nat.le_of_dvd (by omega) (Int.gcd_dvd_natAbs_left r s)
        have gB : Int.gcd r s < 2 ^ R := Nat.lt_of_le_of_lt gle rR
        have gRB : (gR r s).natAbs < 2 ^ R := by
          unfold gR
          rw [Int.natAbs_natCast]
          exact gB
        have cdv' : ∀ z, CDivNW z (gR r s) := fun z => cdivn gp gB R0 (by omega)
        have fB : ∀ z : Int, 0 < z → z.natAbs < 2 ^ R → (z.fdiv (gR r s)).natAbs < 2 ^ R := fun z hz hzR => by
          have e : z = ((z.natAbs : Nat) : Int) := by omega
          rw [e]
          unfold gR
          rw [fdiv_nat, Int.natAbs_natCast]
          exact Nat.lt_of_le_of_lt (Nat.div_le_self ..) hzR
        refine ⟨T2, _, rfl, SqT.of upd_same, rfl, _, _, rfl, _, _, rfl, rfl, ?_⟩
        refine ⟨_, rfl, _, rfl, r, s, rfl, ?_⟩
        refine ⟨_, rfl, _, rfl, r, gR r s, rfl, rfl, cdv' _, _, rfl, _, rfl, s, gR r s, rfl, rfl, cdv' _, _, _, rfl, rfl, cmulw (fB r r0 rR) (fB s s0 sR) R0 R0 (by omega), ?_⟩
        obtain ⟨kvp, p1, p2, p3, p4, p5⟩ := hI'.same smT2
        have len9 : ks.length ≤ 5000 := by
          have : (i + 1) * k2.length ≤ k1.length * k2.length := Nat.mul_le_mul_right _ il1
          rw [Nat.succ_mul] at this
          omega
        have got : ∃ o, DGet (upd H3 T2 (.tup [.int s, .int (t2 s)])) p (.int (mulR r s)) o ∧ o.getD (.int 0) = .int (prodI (k1.take i) k2 t1 t2 (mulR r s) + rowI r (t1 r) (k2.take j) t2 (mulR r s)) := by
          by_cases hk : mulR r s ∈ ks
          · exact ⟨_, dget_in p1 (p3 _ hk), rfl⟩
          · refine ⟨none, dget_out p1 (valV_out p2 hk), ?_⟩
            have z := p5 _ hk
            show V.int 0 = _
            rw [show prodI (k1.take i) k2 t1 t2 (mulR r s) + rowI r (t1 r) (k2.take j) t2 (mulR r s) = 0 from z]
        obtain ⟨o, dg, eo⟩ := got
        refine ⟨_, rfl, p, rfl, .inl ⟨_, .inl p1⟩, _, rfl, o, dg, ?_⟩
        rw [eo]
        refine ⟨_, rfl, _, rfl, t1 r, t2 s, rfl, rfl, cmulw (z1 r) (z2 s) A0 B0 (by omega), _, rfl, _, gR r s, rfl, rfl, cmulw (wide_lt (z1 r) (z2 s)) gRB (by omega) R0 (by omega), _, _, rfl, rfl, ?_⟩
        refine ⟨_, rfl, _, rfl, p, _, rfl, DPut.k (k := Sum.inl (mulR r s)) p1 (Nat.lt_of_le_of_lt (m := 5000) (by rw [len_keys p2]; omega) (by decide)), ?_⟩
        have hfp : ∀ {b : Addr} {o : HO}, b ≠ p → (upd H3 T2 (.tup [.int s, .int (t2 s)])) b = some o → (upd (upd H3 T2 (.tup [.int s, .int (t2 s)])) p (.dK (putK kvp (Sum.inl (mulR r s)) (.int (prodI (k1.take i) k2 t1 t2 (mulR r s) + rowI r (t1 r) (k2.take j) t2 (mulR r s) + t1 r * t2 s * gR r s))))) b = some o := fun {b o} hb e => by
          rw [upd_ne hb]
          exact e
        refine ⟨_, _, _, _, addKey ks (mulR r s), rfl, hfp np1.symm (smT2 _ _ hf1'), hfp np2.symm (smT2 _ _ hf2'), fun b o e hb hb2 => hfp (ne_of_none e hp) (smT2 _ _ (keep' _ _ e hb hb2)), ?_, Nat.le_trans (addKey_len ks _) (by omega), fun u hu' => ?_⟩
        · refine (putI_ok (H := upd H3 T2 (.tup [.int s, .int (t2 s)])) (d := p) (r := mulR r s) p2 p3 p4 p5).imp fun u => ?_
          unfold setI
          show (if u = mulR r s then _ else prodI (k1.take i) k2 t1 t2 u + rowI r (t1 r) (k2.take j) t2 u) = prodI (k1.take i) k2 t1 t2 u + rowI r (t1 r) (k2.take (j + 1)) t2 u
          rw [rowI_succ hs' u]
          by_cases es : u = mulR r s
          · rw [if_pos es, if_pos es.symm, es, Int.add_assoc]
          · rw [if_neg es, if_neg fun z => es z.symm, Int.add_zero]
        · rcases mem_addKey.mp hu' with m | m
          · exact sub' u m
          · exact ⟨r, rk, s, sk, m⟩
      · obtain ⟨v5, v6, v7, v8, ks, rfl, hf1', hf2', keep', hI', lks', sub'⟩ := hP
        refine ⟨hf2', _, _, _, _, _, _, ks, rfl, by rw [upd_ne ndd]; exact hf1', fun b o e hb => ?_, (hI'.upd np2).imp fun u => ?_, ?_, sub'⟩
        · by_cases hb2 : b = d2
          · rw [hb2, upd_same]
            rw [hb2, b1] at e
            exact e
          · rw [upd_ne hb2]
            exact keep' _ _ e hb hb2
        · show _ + rowI r (t1 r) (k2.take kv2.length) t2 u = _
          rw [lk2, List.take_length, prodI_succ hr' u]
        · rw [Nat.succ_mul]
          omega
    · obtain ⟨v3, v4, v5, v6, v7, v8, ks, rfl, hf1, keep, hI, lks, sub⟩ := hP
      refine ⟨hf1, ?_⟩
      rw [lk1, List.take_length] at hI
      rw [lk1] at lks
      have smq : Same H (upd H' d1 (.dK kv1)) := fun b o e => by
        by_cases hb : b = d1
        · rw [hb, upd_same]
          rw [hb, a1] at e
          exact e
        · rw [upd_ne hb]
          exact keep _ _ e hb
      have hIq := hI.upd (o := .dK kv1) np1
      generalize upd H' d1 (.dK kv1) = Hq at smq hIq ⊢
      obtain ⟨kvp, p1, p2, p3, p4, p5⟩ := hIq
      have lkp := len_keys p2
      refine ⟨p, .dK kvp, p1, trivial, fun o3 => ?_⟩
      refine ⟨_, rfl, p, o3, kvp, rfl, upd_same, fun D hD => dc_it (walk_items (d := p) (o := o3) (kvs := kvp)) (fun i H2 => (∀ b o, Hq b = some o → b ≠ p → H2 b = some o) ∧ H2 p = some (.frz o3 (.dK kvp)) ∧ ∃ ks', IntD H2 D ks' (fun u => if u ∈ ks.take i then prodI k1 k2 t1 t2 u else 0) ∧ ks'.length ≤ i ∧ ∀ u ∈ ks', u ∈ ks) ?_ (fun i H2 _ hP => hP.2.1) (fun i x H2 H3 hi hP hy => ?_) (fun H2 hP => ?_)⟩
      · have nDp : p ≠ D := ne_of_none (upd_same (H := Hq) (a := p) (o := .frz o3 (.dK kvp))) hD
        refine ⟨fun b o e hb => ?_, by rw [upd_ne nDp]; exact upd_same, [], ⟨[], upd_same, rfl, (fun r hr => by cases hr), List.nodup_nil, fun r _ => by simp⟩, Nat.le_refl _, (fun u hu => by cases hu)⟩
        exact same_upd hD _ _ (by rw [upd_ne hb]; exact e)
      · obtain ⟨T3, x, y, rfl, hT3, rfl, hx, hy⟩ := hy
        obtain ⟨keep3, hfp, ks', hI3, l3, sub3⟩ := hP
        obtain ⟨u, hu', rfl, rfl⟩ := int_at p2 p3 p4 hx hy
        have uk : u ∈ ks := List.mem_of_getElem? hu'
        have iu : i < ks.length := (List.getElem?_eq_some_iff.mp hu').1
        have sm3 := same_upd (o := .tup [.int u, .int (prodI k1 k2 t1 t2 u)]) hT3
        have nDp : p ≠ D := fun z => by
          obtain ⟨kvD, q1, _⟩ := hI3
          rw [← z, hfp] at q1
          cases q1
        refine ⟨T3, _, rfl, SqT.of upd_same, rfl, _, _, rfl, _, _, rfl, rfl, rfl, ?_⟩
        refine ⟨_, rfl, rfl, _, rfl, ?_⟩
        by_cases hz : prodI k1 k2 t1 t2 u = 0
        · refine iteNS (congrArg V.int hz) ?_
          refine ⟨fun b o e hb => sm3 _ _ (keep3 _ _ e hb), sm3 _ _ hfp, ks', (hI3.same sm3).imp fun s => ?_, Nat.le_succ_of_le l3, sub3⟩
          show (if s ∈ ks.take i then prodI k1 k2 t1 t2 s else 0) = (if s ∈ ks.take (i + 1) then prodI k1 k2 t1 t2 s else 0)
          by_cases m : s ∈ ks.take i
          · rw [if_pos m, if_pos ((mem_take_succ hu').mpr (.inl m))]
          · rw [if_neg m]
            by_cases es : s = u
            · rw [es, hz]
              split <;> rfl
            · rw [if_neg fun z => ((mem_take_succ hu').mp z).elim m es]
        · refine iteNT (ine hz) ?_
          obtain ⟨kvD, q1, q2, q3, q4, q5⟩ := hI3.same sm3
          refine ⟨_, rfl, _, rfl, kvD, Sum.inl u, rfl, q1, Nat.lt_of_le_of_lt (m := 5000) (by rw [len_keys q2]; omega) (by decide), fun b o e hb => ?_, ?_, addKey ks' u, (putI_ok (r := u) q2 q3 q4 q5).imp fun s => ?_, Nat.le_trans (addKey_len ks' u) (by omega), fun s hs => ?_⟩
          · have nb : b ≠ D := fun z => by
              rw [z] at e hb
              have := (by rw [upd_ne hb]; exact e : (upd Hq p (.frz o3 (.dK kvp))) D = some o)
              rw [hD] at this
              cases this
            rw [upd_ne nb]
            exact sm3 _ _ (keep3 _ _ e hb)
          · rw [upd_ne nDp]
            exact sm3 _ _ hfp
          · unfold setI
            show (if s = u then _ else if s ∈ ks.take i then prodI k1 k2 t1 t2 s else 0) = (if s ∈ ks.take (i + 1) then prodI k1 k2 t1 t2 s else 0)
            by_cases es : s = u
            · rw [if_pos es, if_pos ((mem_take_succ hu').mpr (.inr es)), es]
            · rw [if_neg es]
              by_cases m : s ∈ ks.take i
              · rw [if_pos m, if_pos ((mem_take_succ hu').mpr (.inl m))]
              · rw [if_neg m, if_neg fun z => ((mem_take_succ hu').mp z).elim m es]
          · rcases mem_addKey.mp hs with m | m
            · exact sub3 s m
            · rw [m]
              exact uk
      · obtain ⟨keep3, hfp, ks', hI3, l3, sub3⟩ := hP
        have nDp : D ≠ p := fun z => by
          obtain ⟨kvD, q1, _⟩ := hI3
          rw [z, hfp] at q1
          cases q1
        refine ⟨hfp, q D ks' _ (fun b o e => ?_) ?_ ((hI3.upd nDp).imp fun u => ?_) (by omega) fun u hu' => sub u (sub3 u hu')⟩
        · rw [upd_ne (ne_of_none e hp)]
          exact keep3 _ _ (smq _ _ e) (ne_of_none e hp)
        · refine smq.free ?_
          have z := hD
          rw [upd_ne nDp] at z
          exact z
        · show (if u ∈ ks.take kvp.length then prodI k1 k2 t1 t2 u else 0) = _
          rw [lkp, List.take_length]
          by_cases m : u ∈ ks
          · rw [if_pos m]
          · rw [if_neg m, p5 u m]
end
end TC
namespace TC
open PySem PySem.Spec PyProof.Rows L2 TCA
/-! ### products of numbers, as fractions -/
def sumQ : List Rat → Rat
  | [] => 0
  | a :: l => a + sumQ l
/-- the product at a root, by the roots of both -/
def prodG (k1 k2 : List Int) (g1 g2 : Int → Rat) (u : Int) : Rat := sumQ (k1.map fun r => sumQ (k2.map fun s => if mulR r s = u then g1 r * g2 s * ((gR r s : Int) : Rat) else 0))
/-- the tops over one bottom D -/
def topsG (g : Int → Rat) (D : Nat) (r : Int) : Int := (g r).num * ((D / (g r).den : Nat) : Int)
theorem topsG_div {g : Int → Rat} {c : Nat} (hc : 0 < c) (r : Int) (h : (g r).den ∣ c) : Rat.divInt (topsG g c r) (c : Int) = g r := by
  have dp := (g r).den_pos
  have d0 : ((g r).den : Int) ≠ 0 := by omega
  have c0 : ((c : Nat) : Int) ≠ 0 := by omega
  have e : Rat.divInt (topsG g c r) (c : Int) = Rat.divInt (g r).num ((g r).den : Int) := by
    rw [Rat.divInt_eq_divInt_iff c0 d0]
    unfold topsG
    rw [Int.mul_assoc]
    congr 1
    rw [← Int.natCast_mul, Nat.div_mul_cancel h]
  rw [e, Rat.num_divInt_den]
theorem divInt_add {d : Int} (hd : d ≠ 0) (a b : Int) : Rat.divInt (a + b) d = Rat.divInt a d + Rat.divInt b d := by
  rw [Rat.divInt_add_divInt a b hd hd, Rat.divInt_eq_divInt_iff hd (Int.mul_ne_zero hd hd), ← Int.add_mul, Int.mul_assoc]
theorem sum_div {α : Type} {d : Int} (hd : d ≠ 0) {f : α → Int} {g : α → Rat} : ∀ {l : List α}, (∀ a ∈ l, Rat.divInt (f a) d = g a) → Rat.divInt (sumI (l.map f)) d = sumQ (l.map g)
  | [], _ => Rat.zero_divInt d
  | a :: l, h => by
    show Rat.divInt (f a + sumI (l.map f)) d = g a + sumQ (l.map g)
    rw [divInt_add hd, h a (List.mem_cons_self ..), sum_div hd fun b hb => h b (List.mem_cons_of_mem _ hb)]
theorem divInt_of_one (g : Int) : Rat.divInt g 1 = (g : Rat) := by
  rw [Rat.divInt_eq_div]
  grind
theorem term_div (a b g c1 c2 : Int) : Rat.divInt (a * b * g) (c1 * c2) = Rat.divInt a c1 * Rat.divInt b c2 * (g : Rat) := by
  rw [← divInt_of_one g, Rat.divInt_mul_divInt, Rat.divInt_mul_divInt, Int.mul_one]
theorem row_divG {k2 : List Int} {g1 g2 : Int → Rat} {c1 c2 : Nat} (h1 : 0 < c1) (h2 : 0 < c2) (d1 : ∀ r, (g1 r).den ∣ c1) (d2 : ∀ r, (g2 r).den ∣ c2) (r u : Int) :
    Rat.divInt (rowI r (topsG g1 c1 r) k2 (topsG g2 c2) u) ((c1 : Int) * (c2 : Int)) = sumQ (k2.map fun s => if mulR r s = u then g1 r * g2 s * ((gR r s : Int) : Rat) else 0) := by
  have c0 : (c1 : Int) * (c2 : Int) ≠ 0 := Int.mul_ne_zero (by omega) (by omega)
  unfold rowI
  refine sum_div c0 fun s hs => ?_
  by_cases e : mulR r s = u
  · rw [if_pos e, if_pos e, term_div, topsG_div h1 r (d1 r), topsG_div h2 s (d2 s)]
  · rw [if_neg e, if_neg e, Rat.zero_divInt]
theorem prod_divG {k1 k2 : List Int} {g1 g2 : Int → Rat} {c1 c2 : Nat} (h1 : 0 < c1) (h2 : 0 < c2) (d1 : ∀ r, (g1 r).den ∣ c1) (d2 : ∀ r, (g2 r).den ∣ c2) (u : Int) :
    Rat.divInt (prodI k1 k2 (topsG g1 c1) (topsG g2 c2) u) ((c1 : Int) * (c2 : Int)) = prodG k1 k2 g1 g2 u := by
  have c0 : (c1 : Int) * (c2 : Int) ≠ 0 := Int.mul_ne_zero (by omega) (by omega)
  unfold prodI prodG
  exact sum_div c0 fun r hr => row_divG h1 h2 d1 d2 r u
theorem den_divInt {t : Int} {c : Nat} (hc : 0 < c) : (Rat.divInt t (c : Int)).den ∣ c := by
  have e2 := congrArg Prod.snd (TCR.low_rat t (c : Int) (by omega))
  have es : TCM.sgn t (c : Int) = ((Int.gcd t (c : Int) : Nat) : Int) := if_neg (by omega)
  have e3 : (c : Int).fdiv ((Int.gcd t (c : Int) : Nat) : Int) = ((Rat.divInt t (c : Int)).den : Int) := by
    rw [← es]
    exact e2
  rw [fdiv_nat] at e3
  have e4 : c / Int.gcd t (c : Int) = (Rat.divInt t (c : Int)).den := Int.ofNat.inj e3
  rw [← e4]
  exact Nat.div_dvd_of_dvd (by
    have := Int.gcd_dvd_natAbs_right t (c : Int)
    rwa [Int.natAbs_natCast] at this)
theorem sumI_le {α : Type} {K : Nat} {f : α → Int} : ∀ {l : List α}, (∀ a ∈ l, (f a).natAbs ≤ K) → (sumI (l.map f)).natAbs ≤ l.length * K
  | [], _ => Nat.zero_le _
  | a :: l, h => by
    have e1 := h a (List.mem_cons_self ..)
    have e2 := sumI_le (f := f) fun b hb => h b (List.mem_cons_of_mem _ hb)
    show (f a + sumI (l.map f)).natAbs ≤ (l.length + 1) * K
    rw [Nat.succ_mul]
    omega
theorem prodI_le {k1 k2 : List Int} {t1 t2 : Int → Int} {K : Nat} (h : ∀ r ∈ k1, ∀ s ∈ k2, (t1 r * t2 s * gR r s).natAbs ≤ K) (u : Int) : (prodI k1 k2 t1 t2 u).natAbs ≤ k1.length * k2.length * K := by
  rw [Nat.mul_assoc]
  refine sumI_le fun r hr => sumI_le fun s hs => ?_
  split
  · exact h r hr s hs
  · exact Nat.zero_le _
theorem tops_lt {L : List Part} {c A B : Nat} (hc : c < 2 ^ B) (zA : ∀ r, (TCR.val L r).num.natAbs < 2 ^ A) (r : Int) : (topsOf L c r).natAbs < 2 ^ (A + B) := wide_lt (zA r) (by rw [Int.natAbs_natCast]; exact Nat.lt_of_le_of_lt (Nat.div_le_self ..) hc)
/-- how large a number's parts are: bottoms that divide D, tops and roots below a power of 2 -/
structure Fit (D A R : Nat) (L : List Part) : Prop where
  can : TCR.Canon L
  den : ∀ x ∈ L, x.2.den ∣ D
  num : ∀ x ∈ L, x.2.num.natAbs < 2 ^ A
  pos : ∀ x ∈ L, 0 < x.1 ∧ x.1.natAbs < 2 ^ R
theorem Fit.val {D A R : Nat} {L : List Part} (h : Fit D A R L) (r : Int) : (TCR.val L r).num.natAbs < 2 ^ A := by
  rcases Classical.em (∃ q, (r, q) ∈ L) with ⟨q, z⟩ | z
  · rw [h.can.mem z]
    exact h.num _ z
  · rw [TCR.val_not fun x hx e => z ⟨x.2, by rw [← e]; exact hx⟩]
    exact Nat.pow_pos (by decide)
section
variable {P : Program} {w : World} {K : PySem.W.Frag} {mg : Str → Option Value} {base : Heap} {f : Addr} {fd : FuncData} {C fI fQ : Addr}
/-! ### times -/
def spTimes (C : Addr) : Sp := fun vs H Q _ => ∃ (x y : Addr) (L M : List Part) (D1 D2 A1 A2 B1 B2 R : Nat), vs = [.ref x, .ref y] ∧ NumAt C H x L ∧ NumAt C H y M ∧ Fit D1 A1 R L ∧ Fit D2 A2 R M ∧ 0 < D1 ∧ 0 < D2 ∧ D1 < 2 ^ B1 ∧ D2 < 2 ^ B2 ∧ 0 < A1 ∧ 0 < A2 ∧ 0 < B1 ∧ 0 < B2 ∧ B1 + B2 ≤ 8000 ∧ A1 + A2 ≤ 20000 ∧ 0 < R ∧ R ≤ 5000 ∧
  L.length ≤ 1000 ∧ M.length ≤ 1000 ∧ L.length * M.length ≤ 5000 ∧
  ∀ z N H', Same H H' → H z = none → NumAt C H' z N → Fit (D1 * D2) (A1 + B1 + (A2 + B2) + R + 13) (R + R) N → (∀ u, TCR.val N u = prodG (L.map (·.1)) (M.map (·.1)) (TCR.val L) (TCR.val M) u) → N.length ≤ L.length * M.length → Q (.ref z) H'
theorem scTimes : FnScope ["one", "other", "tops", "bottom", "others", "below"] ["one", "other"] (defScope sTimes) := ⟨rfl, rfl, rfl, by decide +kernel, rfl, by decide +kernel, by decide +kernel⟩
theorem fdiv_pos {z g : Int} (hz : 0 < z) (hg : 0 < g) (h : g ∣ z) : 0 < z.fdiv g := by
  obtain ⟨k, rfl⟩ := h
  rw [Int.mul_fdiv_cancel_left _ (by omega)]
  rcases Int.lt_trichotomy 0 k with h | h | h
  · exact h
  · rw [← h] at hz
    omega
  · have := Int.mul_neg_of_pos_of_neg hg h
    omega
theorem mulR_pos {r s : Int} {R : Nat} (hr : 0 < r) (hs : 0 < s) (zr : r.natAbs < 2 ^ R) (zs : s.natAbs < 2 ^ R) : 0 < mulR r s ∧ (mulR r s).natAbs < 2 ^ (R + R) := by
  have gp : 0 < Int.gcd r s := Int.gcd_pos_iff.mpr (.inl (by omega))
  have gp' : 0 < gR r s := by
    unfold gR
    omega
  have fB : ∀ z : Int, 0 < z → z.natAbs < 2 ^ R → (z.fdiv (gR r s)).natAbs < 2 ^ R := fun z hz hzR => by
    have e : z = ((z.natAbs : Nat) : Int) := by omega
    rw [e]
    unfold gR
    rw [fdiv_nat, Int.natAbs_natCast]
    exact Nat.lt_of_le_of_lt (Nat.div_le_self ..) hzR
  exact ⟨Int.mul_pos (fdiv_pos hr gp' (Int.gcd_dvd_left ..)) (fdiv_pos hs gp' (Int.gcd_dvd_right ..)), wide_lt (fB r hr zr) (fB s hs zs)⟩
theorem ok_times {fN fO fP fW : Addr} {fdN fdO fdP fdW : FuncData} (F : FnP K "times" sTimes f fd) (T : TxtN K mg C fI fQ) (GN : FnOk P w K mg base CX0 1 fN fdN ["thing"] (spNeed C)) (bN : L2.Binds K fdN ["thing"] []) (kN : PySem.W.keepIn K (.ref fN) = true) (gN : mg "need_exact" = some (.ref fN))
    (GO : FnOk P w K mg base CX0 2 fO fdO ["parts"] spOneB) (bO : L2.Binds K fdO ["parts"] []) (kO : PySem.W.keepIn K (.ref fO) = true) (gO : mg "on_one_bottom" = some (.ref fO))
    (GP : FnOk P w K mg base CX0 2 fP fdP ["tops", "others"] spProducts) (bP : L2.Binds K fdP ["tops", "others"] []) (kP : PySem.W.keepIn K (.ref fP) = true) (gP : mg "products" = some (.ref fP))
    (GW : FnOk P w K mg base CX0 3 fW fdW ["tops", "bottom"] (spLowered C)) (bW : L2.Binds K fdW ["tops", "bottom"] []) (kW : PySem.W.keepIn K (.ref fW) = true) (gW : mg "lowered" = some (.ref fW)) :
    FnOk P w K mg base CX0 4 f fd ["one", "other"] (spTimes C) := by
  refine F.ok scTimes (fun vs H Q E h => ?_) (fun cdv Ar outer s H vs Q E hr h => ?_)
  · obtain ⟨x, y, L, M, D1, D2, A1, A2, B1, B2, R, rfl, _⟩ := h
    rfl
  · obtain ⟨x, y, L, M, D1, D2, A1, A2, B1, B2, R, rfl, hx, hy, fL, fM, D10, D20, z1, z2, A10, A20, B10, B20, BB, AA, R0, R5, l1, l2, l12, q⟩ := h
    have hr1 := hr.mono (j := 1) (by decide)
    have hr2 := hr.mono (j := 2) (by decide)
    refine ⟨_, PSs.nox (pss_cons (ps_expr (pe_call GN hr1 (by rfl) gN kN bN .nil pass0 (pa_cons (pv 0) pa_nil)))
      (pss_cons (ps_expr (pe_call GN hr1 (by rfl) gN kN bN .nil pass0 (pa_cons (pv 1) pa_nil)))
      (pss_cons (ps_asg (pe_call GO hr2 (by rfl) gO kO bO .nil pass0 (pa_cons (pe_fld (pv 0) rfl) pa_nil)) (pg_tup rfl (pgs_cons (pg_name (i := 2) scTimes.nd rfl (.inl rfl)) (pgs_cons (pg_name (i := 3) scTimes.nd rfl (.inl rfl)) pgs_nil))))
      (pss_cons (ps_asg (pe_call GO hr2 (by rfl) gO kO bO .nil pass0 (pa_cons (pe_fld (pv 1) rfl) pa_nil)) (pg_tup rfl (pgs_cons (pg_name (i := 4) scTimes.nd rfl (.inl rfl)) (pgs_cons (pg_name (i := 5) scTimes.nd rfl (.inl rfl)) pgs_nil))))
      (pss_one (ps_ret (pe_call GW hr (by rfl) gW kW bW .nil pass0 (pa_cons (pe_call GP hr2 (by rfl) gP kP bP .nil pass0 (pa_cons (pv 2) (pa_cons (pv 4) pa_nil))) (pa_cons (pe_op op_mulW (pv 3) (pv 5)) pa_nil))))))))), ?_⟩
    refine ⟨_, rfl, x, L, rfl, hx, ?_⟩
    refine ⟨_, rfl, y, M, rfl, hy, ?_⟩
    obtain ⟨dx, p1, hx1, hp1⟩ := id hx
    obtain ⟨dy, p2, hy1, hp2⟩ := id hy
    refine ⟨_, rfl, x, C, dx, _, _, rfl, hx1, T.cl, T.nP, rfl, p1, L, D1, A1, B1, rfl, hp1, fL.can, fL.den, D10, z1, B10, by omega, fL.num, A10, by omega, l1, fun v1 d1 c1 H1 s1 hv1 ev1 hd1 i1 c10 c1D c1d => ?_⟩
    refine ⟨v1, _, rfl, SqT.of ev1, rfl, _, _, rfl, _, _, rfl, rfl, ?_⟩
    refine ⟨_, rfl, y, C, dy, _, _, rfl, s1 _ _ hy1, T.cl, T.nP, rfl, p2, M, D2, A2, B2, rfl, hp2.same s1, fM.can, fM.den, D20, z2, B20, by omega, fM.num, A20, by omega, l2, fun v2 d2 c2 H2 s2 hv2 ev2 hd2 i2 c20 c2D c2d => ?_⟩
    refine ⟨v2, _, rfl, SqT.of ev2, rfl, _, _, rfl, _, _, rfl, rfl, ?_⟩
    have c1B : c1 < 2 ^ B1 := Nat.lt_of_le_of_lt (Nat.le_of_dvd D10 c1D) z1
    have c2B : c2 < 2 ^ B2 := Nat.lt_of_le_of_lt (Nat.le_of_dvd D20 c2D) z2
    have ndd : d1 ≠ d2 := by
      obtain ⟨_, z, _⟩ := i1
      exact ne_of_none z hd2
    have kp : ∀ {N : List Part} {D A : Nat}, Fit D A R N → ∀ r ∈ N.map (·.1), 0 < r ∧ r.natAbs < 2 ^ R := fun {N D A} h r hr => by
      obtain ⟨z, hz, e⟩ := List.mem_map.mp hr
      rw [← e]
      exact h.pos z hz
    have tl1 := tops_lt c1B fL.val
    have tl2 := tops_lt c2B fM.val
    refine ⟨_, rfl, _, rfl, d1, d2, L.map (·.1), M.map (·.1), _, _, A1 + B1, A2 + B2, R, rfl, ndd, i1.same s2, i2, kp fL, kp fM, tl1, tl2, by omega, by omega, by omega, R0, R5, by rw [List.length_map, List.length_map]; exact (Nat.le_trans l12 (by decide)), fun d ks H3 s3 hd i3 lk sub => ?_⟩
    rw [List.length_map, List.length_map] at lk
    have b0 : (c1 : Int) * (c2 : Int) ≠ 0 := Int.mul_ne_zero (by omega) (by omega)
    have n1 : ((c1 : Nat) : Int).natAbs < 2 ^ B1 := by rw [Int.natAbs_natCast]; exact c1B
    have n2 : ((c2 : Nat) : Int).natAbs < 2 ^ B2 := by rw [Int.natAbs_natCast]; exact c2B
    refine ⟨_, rfl, _, rfl, (c1 : Int), (c2 : Int), rfl, rfl, cmulw n1 n2 B10 B20 (by omega), ?_⟩
    refine ⟨d, ks, _, _, B1 + B2, rfl, i3, b0, wide_lt n1 n2, by omega, BB, by omega, fun z N H4 s4 hz hN cN vN lN => ?_⟩
    have vQ : ∀ u, TCR.val N u = prodG (L.map (·.1)) (M.map (·.1)) (TCR.val L) (TCR.val M) u := fun u => (vN u).trans (prod_divG (g1 := TCR.val L) (g2 := TCR.val M) c10 c20 (den_val c1d fL.can) (den_val c2d fM.can) u)
    refine q z N H4 (((s1.trans s2).trans s3).trans s4) ((((s1.trans s2).trans s3)).free hz) hN ⟨cN, fun e he => ?_, fun e he => ?_, fun e he => ?_⟩ vQ (Nat.le_trans lN lk)
    · rw [← cN.mem he, vN e.1, ← Int.natCast_mul]
      exact Nat.dvd_trans (den_divInt (Nat.mul_pos c10 c20)) (Nat.mul_dvd_mul c1D c2D)
    · rw [← cN.mem he, vN e.1]
      have lo := (TCM.low_abs (prodI (L.map (·.1)) (M.map (·.1)) (topsOf L c1) (topsOf M c2) e.1) _ b0).1
      rw [TCR.low_rat _ _ b0] at lo
      refine Nat.lt_of_le_of_lt lo ?_
      have bt : ∀ r ∈ L.map (·.1), ∀ s ∈ M.map (·.1), (topsOf L c1 r * topsOf M c2 s * gR r s).natAbs ≤ 2 ^ (A1 + B1 + (A2 + B2) + R) := fun r hr s hs => by
        refine Nat.le_of_lt (wide_lt (wide_lt (tl1 r) (tl2 s)) ?_)
        unfold gR
        rw [Int.natAbs_natCast]
        obtain ⟨r0, rR⟩ := kp fL r hr
        exact Nat.lt_of_le_of_lt (Nat.le_of_dvd (by omega) (Int.gcd_dvd_natAbs_left r s)) rR
      refine Nat.lt_of_le_of_lt (prodI_le bt e.1) ?_
      rw [List.length_map, List.length_map, Nat.pow_add 2 _ 13, Nat.mul_comm]
      exact Nat.mul_lt_mul_of_pos_left (show L.length * M.length < 2 ^ 13 by omega) (Nat.pow_pos (by decide))
    · have nz : TCR.val N e.1 ≠ 0 := by
        rw [cN.mem he]
        exact cN.nz e he
      have uk : e.1 ∈ ks := Classical.byContradiction fun m => nz (by
        rw [vN e.1]
        obtain ⟨_, _, _, _, _, out⟩ := i3
        rw [out e.1 m, Rat.zero_divInt])
      obtain ⟨r, hr', s, hs', eu⟩ := sub e.1 uk
      obtain ⟨r0, rR⟩ := kp fL r hr'
      obtain ⟨s0, sR⟩ := kp fM s hs'
      rw [eu]
      exact mulR_pos r0 s0 rR sR
end
end TC
namespace TC
/-! ### facts of the product, as fractions -/
theorem sumQ_zero {α : Type} {f : α → Rat} : ∀ {l : List α}, (∀ a ∈ l, f a = 0) → sumQ (l.map f) = 0
  | [], _ => rfl
  | a :: l, h => by
    show f a + sumQ (l.map f) = 0
    rw [h a (List.mem_cons_self ..), sumQ_zero fun b hb => h b (List.mem_cons_of_mem _ hb)]
    grind
theorem sumQ_add {α : Type} (f g : α → Rat) : ∀ l : List α, sumQ (l.map fun a => f a + g a) = sumQ (l.map f) + sumQ (l.map g)
  | [] => by show (0 : Rat) = 0 + 0; grind
  | a :: l => by
    show f a + g a + sumQ (l.map fun a => f a + g a) = f a + sumQ (l.map f) + (g a + sumQ (l.map g))
    rw [sumQ_add f g l]
    grind
theorem sumQ_mul {α : Type} (c : Rat) (f : α → Rat) : ∀ l : List α, sumQ (l.map fun a => c * f a) = c * sumQ (l.map f)
  | [] => by show (0 : Rat) = c * 0; grind
  | a :: l => by
    show c * f a + sumQ (l.map fun a => c * f a) = c * (f a + sumQ (l.map f))
    rw [sumQ_mul c f l]
    grind
theorem sumQ_congr {α : Type} {f g : α → Rat} {l : List α} (h : ∀ a ∈ l, f a = g a) : sumQ (l.map f) = sumQ (l.map g) := by
  rw [List.map_congr_left h]
theorem sumQ_swap {α β : Type} (f : α → β → Rat) (m : List β) : ∀ l : List α, sumQ (l.map fun a => sumQ (m.map fun b => f a b)) = sumQ (m.map fun b => sumQ (l.map fun a => f a b))
  | [] => (sumQ_zero fun b _ => rfl).symm
  | a :: l => by
    show sumQ (m.map fun b => f a b) + sumQ (l.map fun a => sumQ (m.map fun b => f a b)) = sumQ (m.map fun b => f a b + sumQ (l.map fun a => f a b))
    rw [sumQ_add (fun b => f a b) (fun b => sumQ (l.map fun a => f a b)) m, sumQ_swap f m l]
theorem sumQ_perm {l m : List Rat} (h : l.Perm m) : sumQ l = sumQ m := by
  induction h with
  | nil => rfl
  | cons a _ ih =>
    show a + _ = a + _
    rw [ih]
  | swap a b l =>
    show b + (a + sumQ l) = a + (b + sumQ l)
    grind
  | trans _ _ h1 h2 => exact h1.trans h2
theorem sumQ_filter {f : Int → Rat} : ∀ l : List Int, sumQ (l.map f) = sumQ ((l.filter fun r => decide (f r ≠ 0)).map f)
  | [] => rfl
  | a :: l => by
    rw [List.filter_cons]
    by_cases h : f a = 0
    · rw [if_neg (by simp [h])]
      show f a + sumQ (l.map f) = _
      rw [h, sumQ_filter l]
      grind
    · rw [if_pos (by simp [h])]
      show f a + sumQ (l.map f) = f a + sumQ ((l.filter fun r => decide (f r ≠ 0)).map f)
      rw [sumQ_filter l]
theorem sum_supp {k k' : List Int} {f : Int → Rat} (nd : k.Nodup) (nd' : k'.Nodup) (h : ∀ r, f r ≠ 0 → r ∈ k) (h' : ∀ r, f r ≠ 0 → r ∈ k') : sumQ (k.map f) = sumQ (k'.map f) := by
  rw [sumQ_filter k, sumQ_filter k']
  refine sumQ_perm (List.Perm.map f ((List.perm_ext_iff_of_nodup (nd.filter _) (nd'.filter _)).mpr fun r => ?_))
  rw [List.mem_filter, List.mem_filter]
  refine ⟨fun z => ⟨h' r (of_decide_eq_true z.2), z.2⟩, fun z => ⟨h r (of_decide_eq_true z.2), z.2⟩⟩
theorem sum_pick {k : List Int} {f : Int → Rat} (nd : k.Nodup) (u : Int) (h : f u ≠ 0 → u ∈ k) : sumQ (k.map fun r => if r = u then f r else 0) = f u := by
  have z := sum_supp (k' := [u]) (f := fun r => if r = u then f r else 0) nd (by simp) (fun r hr => ?_) (fun r hr => ?_)
  · rw [z]
    show (if u = u then f u else 0) + 0 = f u
    rw [if_pos rfl]
    grind
  · by_cases e : r = u
    · rw [e]
      refine h fun z => hr ?_
      rw [e, if_pos rfl]
      exact z
    · exact absurd (if_neg e) hr
  · by_cases e : r = u
    · exact List.mem_singleton.mpr e
    · exact absurd (if_neg e) hr
/-- where a function's support lies -/
def Cov (g : Int → Rat) (k : List Int) : Prop := k.Nodup ∧ ∀ r, g r ≠ 0 → r ∈ k
theorem prodG_supp {k1 k1' k2 k2' : List Int} {g1 g2 : Int → Rat} (h1 : Cov g1 k1) (h1' : Cov g1 k1') (h2 : Cov g2 k2) (h2' : Cov g2 k2') (u : Int) : prodG k1 k2 g1 g2 u = prodG k1' k2' g1 g2 u := by
  have inner : ∀ r, sumQ (k2.map fun s => if mulR r s = u then g1 r * g2 s * ((gR r s : Int) : Rat) else 0) = sumQ (k2'.map fun s => if mulR r s = u then g1 r * g2 s * ((gR r s : Int) : Rat) else 0) := fun r => by
    have nz : ∀ s, (if mulR r s = u then g1 r * g2 s * ((gR r s : Int) : Rat) else 0) ≠ 0 → g2 s ≠ 0 := fun s hs e => hs (by
      split
      · rw [e]
        grind
      · rfl)
    exact sum_supp h2.1 h2'.1 (fun s hs => h2.2 s (nz s hs)) fun s hs => h2'.2 s (nz s hs)
  unfold prodG
  rw [sumQ_congr fun r _ => inner r]
  have nz : ∀ r, sumQ (k2'.map fun s => if mulR r s = u then g1 r * g2 s * ((gR r s : Int) : Rat) else 0) ≠ 0 → g1 r ≠ 0 := fun r hr e => hr (sumQ_zero fun s _ => by
    split
    · rw [e]
      grind
    · rfl)
  exact sum_supp h1.1 h1'.1 (fun r hr => h1.2 r (nz r hr)) fun r hr => h1'.2 r (nz r hr)
theorem gR_comm (r s : Int) : gR r s = gR s r := by
  unfold gR
  rw [Int.gcd_comm]
theorem mulR_comm (r s : Int) : mulR r s = mulR s r := by
  unfold mulR
  rw [gR_comm r s, Int.mul_comm]
theorem prodG_comm (k1 k2 : List Int) (g1 g2 : Int → Rat) (u : Int) : prodG k1 k2 g1 g2 u = prodG k2 k1 g2 g1 u := by
  unfold prodG
  rw [sumQ_swap]
  refine sumQ_congr fun s _ => sumQ_congr fun r _ => ?_
  rw [mulR_comm r s, gR_comm r s, Rat.mul_comm (g1 r) (g2 s)]
theorem prodG_add (k1 k2 : List Int) (g1 g2 h2 : Int → Rat) (u : Int) : prodG k1 k2 g1 (fun s => g2 s + h2 s) u = prodG k1 k2 g1 g2 u + prodG k1 k2 g1 h2 u := by
  unfold prodG
  rw [← sumQ_add]
  refine sumQ_congr fun r _ => ?_
  rw [← sumQ_add]
  refine sumQ_congr fun s _ => ?_
  split <;> grind
theorem prodG_zero (k1 k2 : List Int) (g1 g2 : Int → Rat) (u : Int) (h : ∀ s, g2 s = 0) : prodG k1 k2 g1 g2 u = 0 := by
  refine sumQ_zero fun r _ => sumQ_zero fun s _ => ?_
  rw [h s]
  split <;> grind
theorem mulR_one {r : Int} (h : 0 < r) : mulR r 1 = r ∧ gR r 1 = 1 := by
  have e : gR r 1 = 1 := by
    unfold gR
    rw [Int.gcd_one_right]
    rfl
  refine ⟨?_, e⟩
  unfold mulR
  rw [e, Int.fdiv_one, Int.fdiv_one, Int.mul_one]
/-- times a fraction -/
theorem prodG_one {k : List Int} {g : Int → Rat} (c : Rat) (hk : Cov g k) (pos : ∀ r ∈ k, 0 < r) (u : Int) : prodG k [1] g (fun s => if s = 1 then c else 0) u = c * g u := by
  have z : prodG k [1] g (fun s => if s = 1 then c else 0) u = sumQ (k.map fun r => if r = u then c * g r else 0) := by
    refine sumQ_congr fun r hr => ?_
    obtain ⟨e1, e2⟩ := mulR_one (pos r hr)
    show (if mulR r 1 = u then g r * (if (1 : Int) = 1 then c else 0) * ((gR r 1 : Int) : Rat) else 0) + 0 = _
    rw [e1, e2, if_pos rfl]
    split <;> grind
  rw [z]
  exact sum_pick (f := fun r => c * g r) hk.1 u fun h => hk.2 u fun e => h (by
    show c * g u = 0
    rw [e]
    grind)
/-- a number by its twin has no root left that p divides -/
theorem prodG_twin {k : List Int} {g : Int → Rat} {p u : Int} (ep : ∀ r ∈ k, ∀ s ∈ k, mulR r s = u → ((r % p = 0) ↔ ¬ (s % p = 0))) : prodG k k g (fun s => g s * (if s % p = 0 then -1 else 1)) u = 0 := by
  have e1 := prodG_comm k k g (fun s => g s * (if s % p = 0 then -1 else 1)) u
  have e2 : prodG k k g (fun s => g s * (if s % p = 0 then -1 else 1)) u + prodG k k (fun s => g s * (if s % p = 0 then -1 else 1)) g u = 0 := by
    unfold prodG
    rw [← sumQ_add]
    refine sumQ_zero fun r hr => ?_
    show sumQ _ + sumQ _ = 0
    rw [← sumQ_add]
    refine sumQ_zero fun s hs => ?_
    show (if mulR r s = u then _ else (0 : Rat)) + (if mulR r s = u then _ else 0) = 0
    by_cases e : mulR r s = u
    · rw [if_pos e, if_pos e]
      show g r * (g s * (if s % p = 0 then (-1 : Rat) else 1)) * ((gR r s : Int) : Rat) + g r * (if r % p = 0 then (-1 : Rat) else 1) * g s * ((gR r s : Int) : Rat) = 0
      have := ep r hr s hs e
      by_cases a : r % p = 0
      · rw [if_pos a, if_neg (this.mp a)]
        grind
      · have b : s % p = 0 := Classical.byContradiction fun z => a (this.mpr z)
        rw [if_neg a, if_pos b]
        grind
    · rw [if_neg e, if_neg e]
      grind
  grind
end TC
/-! roots of factorials: a square times a number free of squares, in one way only. -/
namespace TCX
/-- free of squares -/
def SqF (r : Nat) : Prop := ∀ d : Nat, d * d ∣ r → d = 1
theorem SqF.dvd {r s : Nat} (h : SqF r) (e : s ∣ r) : SqF s := fun d hd => h d (Nat.dvd_trans hd e)
theorem SqF.pos {r : Nat} (h : SqF r) : 0 < r := by
  refine Nat.pos_of_ne_zero fun e => ?_
  have := h 0 (by rw [e]; exact Nat.dvd_refl 0)
  cases this
/-- for coprime x, y: x x r = y y f with both free of squares makes x = y = 1 -/
theorem sq_cop {x y r f : Nat} (c : Nat.Coprime x y) (hr : SqF r) (hf : SqF f) (e : x * x * r = y * y * f) : x = 1 ∧ y = 1 := by
  have c2 : Nat.Coprime (x * x) (y * y) := Nat.Coprime.mul_left (Nat.Coprime.mul_right c c) (Nat.Coprime.mul_right c c)
  refine ⟨hf x ?_, hr y ?_⟩
  · exact Nat.Coprime.dvd_of_dvd_mul_left c2 (by rw [← e]; exact Nat.dvd_mul_right _ _)
  · exact Nat.Coprime.dvd_of_dvd_mul_left c2.symm (by rw [e]; exact Nat.dvd_mul_right _ _)
theorem sq_uniq {x y r f : Nat} (hx : 0 < x) (hr : SqF r) (hf : SqF f) (e : x * x * r = y * y * f) : x = y ∧ r = f := by
  have g0 : 0 < Nat.gcd x y := Nat.gcd_pos_of_pos_left _ hx
  obtain ⟨a, ha⟩ := Nat.gcd_dvd_left x y
  obtain ⟨b, hb⟩ := Nat.gcd_dvd_right x y
  have cop : Nat.Coprime a b := by
    have z := Nat.gcd_mul_left (Nat.gcd x y) a b
    rw [← ha, ← hb] at z
    have z2 : Nat.gcd x y * 1 = Nat.gcd x y * Nat.gcd a b := by rw [Nat.mul_one]; exact z
    exact (Nat.eq_of_mul_eq_mul_left g0 z2).symm
  have e2 : a * a * r = b * b * f := by
    have h1 : x * x * r = (Nat.gcd x y * Nat.gcd x y) * (a * a * r) := by
      conv => lhs; rw [ha]
      simp only [Nat.mul_assoc, Nat.mul_left_comm, Nat.mul_comm]
    have h2 : y * y * f = (Nat.gcd x y * Nat.gcd x y) * (b * b * f) := by
      conv => lhs; rw [hb]
      simp only [Nat.mul_assoc, Nat.mul_left_comm, Nat.mul_comm]
    rw [h1, h2] at e
    exact Nat.eq_of_mul_eq_mul_left (Nat.mul_pos g0 g0) e
  obtain ⟨ea, eb⟩ := sq_cop cop hr hf e2
  subst ea eb
  refine ⟨?_, by simpa using e2⟩
  rw [ha]
  conv => rhs; rw [hb]
/-! ### primes -/
def IsP (p : Nat) : Prop := 1 < p ∧ ∀ d, d ∣ p → d = 1 ∨ d = p
def pr30 : List Nat := [2, 3, 5, 7, 11, 13, 17, 19, 23, 29, 31, 37, 41, 43, 47, 53, 59, 61, 67, 71, 73, 79, 83, 89, 97, 101, 103, 107, 109, 113]
theorem pr30_b : ∀ p ∈ pr30, 1 < p ∧ ∀ d, d < p + 1 → d ∣ p → d = 1 ∨ d = p := by decide +kernel
theorem pr30_p : ∀ p ∈ pr30, IsP p := fun p hp => by
  obtain ⟨h1, h2⟩ := pr30_b p hp
  exact ⟨h1, fun d hd => h2 d (Nat.lt_succ_of_le (Nat.le_of_dvd (by omega) hd)) hd⟩
theorem pr30_nd : pr30.Nodup := by decide +kernel
theorem IsP.cop {p d : Nat} (h : IsP p) (hd : ¬ p ∣ d) : Nat.Coprime p d := by
  rcases h.2 _ (Nat.gcd_dvd_left p d) with e | e
  · exact e
  · exact absurd (e ▸ Nat.gcd_dvd_right p d) hd
theorem SqF.one : SqF 1 := fun d hd => by
  have := Nat.eq_one_of_dvd_one hd
  exact Nat.eq_one_of_mul_eq_one_left this
theorem SqF.mul {p m : Nat} (hp : IsP p) (hm : SqF m) (hn : ¬ p ∣ m) : SqF (p * m) := fun d hd => by
  by_cases h : p ∣ d
  · obtain ⟨k, rfl⟩ := h
    refine absurd ?_ hn
    have z : p * (p * (k * k)) ∣ p * m := by
      have e : p * k * (p * k) = p * (p * (k * k)) := by
        simp only [Nat.mul_assoc, Nat.mul_left_comm, Nat.mul_comm]
      rw [e] at hd
      exact hd
    have z2 := Nat.dvd_of_mul_dvd_mul_left (by have := hp.1; omega) z
    exact Nat.dvd_trans (Nat.dvd_mul_right _ _) z2
  · have c := hp.cop h
    have c2 : Nat.Coprime (d * d) p := (Nat.Coprime.mul_right c c).symm
    exact hm d (Nat.Coprime.dvd_of_dvd_mul_left c2 hd)
theorem IsP.dvd_mul {p a b : Nat} (h : IsP p) (hd : p ∣ a * b) : p ∣ a ∨ p ∣ b := by
  by_cases z : p ∣ a
  · exact .inl z
  · exact .inr (Nat.Coprime.dvd_of_dvd_mul_left (h.cop z) hd)
/-- the product of those of a list that are asked for -/
def pickP (f : Nat → Bool) (l : List Nat) : Nat := l.foldr (fun p m => if f p then p * m else m) 1
theorem pick_not {f : Nat → Bool} {q : Nat} (hq : IsP q) : ∀ {l : List Nat}, (∀ p ∈ l, IsP p) → q ∉ l → ¬ q ∣ pickP f l
  | [], _, _ => fun h => by
    have := Nat.eq_one_of_dvd_one h
    have := hq.1
    omega
  | p :: l, hp, hn => fun h => by
    have ih := pick_not (f := f) hq (fun r hr => hp r (List.mem_cons_of_mem _ hr)) (fun z => hn (List.mem_cons_of_mem _ z))
    have e : pickP f (p :: l) = if f p then p * pickP f l else pickP f l := rfl
    rw [e] at h
    split at h
    · rcases hq.dvd_mul h with h | h
      · rcases (hp p (by simp)).2 q h with e | e
        · have := hq.1
          omega
        · exact hn (by rw [e]; simp)
      · exact ih h
    · exact ih h
theorem pick_sqF {f : Nat → Bool} : ∀ {l : List Nat}, (∀ p ∈ l, IsP p) → l.Nodup → SqF (pickP f l)
  | [], _, _ => SqF.one
  | p :: l, hp, nd => by
    have n := List.nodup_cons.mp nd
    have hl : ∀ r ∈ l, IsP r := fun r hr => hp r (List.mem_cons_of_mem _ hr)
    have ih := pick_sqF (f := f) hl n.2
    have e : pickP f (p :: l) = if f p then p * pickP f l else pickP f l := rfl
    rw [e]
    split
    · exact SqF.mul (hp p (by simp)) ih (pick_not (hp p (by simp)) hl n.1)
    · exact ih
/-! ### factorials -/
def factN : Nat → Nat
  | 0 => 1
  | n + 1 => (n + 1) * factN n
/-- how often p is in n!, by the powers of p to 122 -/
def legN (n p : Nat) : Nat := n / p + n / (p * p) + n / (p * p * p) + n / (p * p * p * p) + n / (p * p * p * p * p) + n / (p * p * p * p * p * p)
def powP (e : Nat → Nat) (l : List Nat) : Nat := l.foldr (fun p m => p ^ e p * m) 1
theorem fact_leg : ∀ n, n < 123 → factN n = powP (legN n) pr30 := by decide +kernel
theorem powP_mul (e f : Nat → Nat) : ∀ l : List Nat, powP e l * powP f l = powP (fun p => e p + f p) l
  | [] => rfl
  | p :: l => by
    show p ^ e p * powP e l * (p ^ f p * powP f l) = p ^ (e p + f p) * powP (fun p => e p + f p) l
    rw [← powP_mul e f l, Nat.pow_add]
    simp only [Nat.mul_assoc, Nat.mul_left_comm, Nat.mul_comm]
theorem powP_congr {e f : Nat → Nat} : ∀ {l : List Nat}, (∀ p ∈ l, e p = f p) → powP e l = powP f l
  | [], _ => rfl
  | p :: l, h => by
    show p ^ e p * powP e l = p ^ f p * powP f l
    rw [h p (by simp), powP_congr fun r hr => h r (List.mem_cons_of_mem _ hr)]
theorem powP_pos {e : Nat → Nat} : ∀ {l : List Nat}, (∀ p ∈ l, IsP p) → 0 < powP e l
  | [], _ => Nat.one_pos
  | p :: l, h => by
    have h1 := (h p (by simp)).1
    exact Nat.mul_pos (Nat.pow_pos (by omega)) (powP_pos fun r hr => h r (List.mem_cons_of_mem _ hr))
theorem pick_pow (f : Nat → Bool) : ∀ l : List Nat, pickP f l = powP (fun p => if f p then 1 else 0) l
  | [] => rfl
  | p :: l => by
    have e : pickP f (p :: l) = if f p then p * pickP f l else pickP f l := rfl
    rw [e, pick_pow f l]
    show _ = p ^ (if f p then 1 else 0) * powP (fun p => if f p then 1 else 0) l
    split
    · rw [Nat.pow_one]
    · rw [Nat.pow_zero, Nat.one_mul]
/-- the factorials of a list, multiplied -/
def prodF (l : List Nat) : Nat := l.foldr (fun n m => factN n * m) 1
def sumL (l : List Nat) (p : Nat) : Nat := l.foldr (fun n m => legN n p + m) 0
theorem powP_zero : ∀ l : List Nat, powP (fun _ => 0) l = 1
  | [] => rfl
  | p :: l => by
    show p ^ 0 * powP (fun _ => 0) l = 1
    rw [powP_zero l]
    rfl
theorem prodF_leg : ∀ {l : List Nat}, (∀ n ∈ l, n < 123) → prodF l = powP (sumL l) pr30
  | [], _ => (powP_zero pr30).symm
  | n :: l, h => by
    show factN n * prodF l = _
    rw [fact_leg n (h n (by simp)), prodF_leg fun m hm => h m (List.mem_cons_of_mem _ hm), powP_mul]
    rfl
/-- the power of p in the quotient of two products of factorials -/
def expE (above below : List Nat) (p : Nat) : Int := (sumL above p : Int) - (sumL below p : Int)
def topE (above below : List Nat) : Nat := powP (fun p => (expE above below p / 2).toNat) pr30
def botE (above below : List Nat) : Nat := powP (fun p => (-(expE above below p / 2)).toNat) pr30
def rootE (above below : List Nat) : Nat := pickP (fun p => decide (expE above below p % 2 = 1)) pr30
theorem rootE_sqF (above below : List Nat) : SqF (rootE above below) := pick_sqF pr30_p pr30_nd
theorem topE_pos (above below : List Nat) : 0 < topE above below := powP_pos pr30_p
theorem botE_pos (above below : List Nat) : 0 < botE above below := powP_pos pr30_p
/-- (top / bottom) squared times the root is the quotient -/
theorem rootE_ok {above below : List Nat} (ha : ∀ n ∈ above, n < 123) (hb : ∀ n ∈ below, n < 123) :
    topE above below * topE above below * rootE above below * prodF below = botE above below * botE above below * prodF above := by
  unfold topE botE rootE
  rw [pick_pow, prodF_leg ha, prodF_leg hb]
  simp only [powP_mul]
  refine powP_congr fun p _ => ?_
  have e : expE above below p = (sumL above p : Int) - (sumL below p : Int) := rfl
  generalize sumL above p = A at e ⊢
  generalize sumL below p = B at e ⊢
  generalize expE above below p = x at e ⊢
  by_cases h : x % 2 = 1
  · rw [decide_eq_true h]
    simp only [if_true]
    omega
  · rw [decide_eq_false h]
    show _ + _ + 0 + _ = _
    omega
/-- powers of different primes have no divisor in common -/
theorem cop_pow {q : Nat} (hq : IsP q) {e : Nat → Nat} : ∀ {l : List Nat}, (∀ p ∈ l, IsP p) → q ∉ l → Nat.Coprime q (powP e l)
  | [], _, _ => Nat.coprime_one_right q
  | p :: l, hp, hn => by
    have ih := cop_pow hq (e := e) (fun r hr => hp r (List.mem_cons_of_mem _ hr)) (fun z => hn (List.mem_cons_of_mem _ z))
    have c : Nat.Coprime q p := hq.cop fun z => by
      rcases (hp p (by simp)).2 q z with e | e
      · have := hq.1
        omega
      · exact hn (by rw [e]; simp)
    exact Nat.Coprime.mul_right (Nat.Coprime.pow_right _ c) ih
theorem powP_cop {e f : Nat → Nat} : ∀ {l : List Nat}, (∀ p ∈ l, IsP p) → l.Nodup → (∀ p ∈ l, e p = 0 ∨ f p = 0) → Nat.Coprime (powP e l) (powP f l)
  | [], _, _, _ => Nat.coprime_one_right 1
  | p :: l, hp, nd, h => by
    have n := List.nodup_cons.mp nd
    have hl : ∀ r ∈ l, IsP r := fun r hr => hp r (List.mem_cons_of_mem _ hr)
    have ih := powP_cop hl n.2 fun r hr => h r (List.mem_cons_of_mem _ hr)
    have hpp := hp p (by simp)
    show Nat.Coprime (p ^ e p * powP e l) (p ^ f p * powP f l)
    rcases h p (by simp) with z | z
    · rw [z, Nat.pow_zero, Nat.one_mul]
      exact Nat.Coprime.mul_right (Nat.Coprime.pow_right _ (cop_pow hpp hl n.1).symm) ih
    · rw [z, Nat.pow_zero, Nat.one_mul]
      exact Nat.Coprime.mul_left (Nat.Coprime.pow_left _ (cop_pow hpp hl n.1)) ih
theorem topE_cop (above below : List Nat) : Nat.Coprime (topE above below) (botE above below) := powP_cop pr30_p pr30_nd fun p _ => by omega
end TCX
/-! the powers of primes by counts. -/
namespace TCX
/-- how many of l are at least m -/
def geL (l : List Nat) (m : Nat) : Int := l.foldr (fun n k => (if m ≤ n then 1 else 0) + k) 0
/-- how many of l are m -/
def eqL (l : List Nat) (m : Nat) : Int := l.foldr (fun n k => (if n = m then 1 else 0) + k) 0
theorem ge_step (l : List Nat) (m : Nat) : geL l m = eqL l m + geL l (m + 1) := by
  induction l with
  | nil => rfl
  | cons n l ih =>
    show (if m ≤ n then 1 else 0) + geL l m = (if n = m then 1 else 0) + eqL l m + ((if m + 1 ≤ n then 1 else 0) + geL l (m + 1))
    rw [ih]
    split <;> split <;> split <;> omega
theorem ge_top {l : List Nat} {h m : Nat} (hl : ∀ n ∈ l, n ≤ h) (hm : h < m) : geL l m = 0 := by
  induction l with
  | nil => rfl
  | cons n l ih =>
    show (if m ≤ n then 1 else 0) + geL l m = 0
    rw [ih fun r hr => hl r (List.mem_cons_of_mem _ hr), if_neg (by have := hl n (by simp); omega)]
    rfl
/-- the quotients by s, summed -/
def divS (l : List Nat) (s : Nat) : Int := l.foldr (fun n k => ((n / s : Nat) : Int) + k) 0
theorem one_mult (n s : Nat) (s0 : 0 < s) : ∀ J : Nat, ((List.range J).map fun j => if (j + 1) * s ≤ n then (1 : Int) else 0).sum = ((min J (n / s) : Nat) : Int)
  | 0 => by simp
  | J + 1 => by
    rw [List.range_succ, List.map_append, List.sum_append, one_mult n s s0 J]
    show _ + ((if (J + 1) * s ≤ n then (1 : Int) else 0) + 0) = _
    have e : (J + 1) * s ≤ n ↔ J + 1 ≤ n / s := (Nat.le_div_iff_mul_le s0).symm
    by_cases h : (J + 1) * s ≤ n
    · have h2 := e.mp h
      rw [if_pos h]
      omega
    · have h2 : ¬ J + 1 ≤ n / s := fun z => h (e.mpr z)
      rw [if_neg h]
      omega
theorem sum_add (f g : Nat → Int) : ∀ l : List Nat, (l.map fun j => f j + g j).sum = (l.map f).sum + (l.map g).sum
  | [] => rfl
  | x :: l => by
    rw [List.map_cons, List.sum_cons, List.map_cons, List.sum_cons, List.map_cons, List.sum_cons, sum_add f g l]
    omega
theorem mult_sum {h s : Nat} (s0 : 0 < s) : ∀ {l : List Nat}, (∀ n ∈ l, n ≤ h) → ((List.range (h / s)).map fun j => geL l ((j + 1) * s)).sum = divS l s
  | [], _ => by
    have : ∀ J : Nat, ((List.range J).map fun j => geL [] ((j + 1) * s)).sum = 0 := fun J => by
      induction J with
      | zero => rfl
      | succ J ih =>
        rw [List.range_succ, List.map_append, List.sum_append, ih]
        rfl
    exact this _
  | n :: l, hl => by
    show ((List.range (h / s)).map fun j => (if (j + 1) * s ≤ n then (1 : Int) else 0) + geL l ((j + 1) * s)).sum = ((n / s : Nat) : Int) + divS l s
    rw [sum_add, mult_sum s0 fun r hr => hl r (List.mem_cons_of_mem _ hr), one_mult n s s0]
    have := Nat.div_le_div_right (c := s) (hl n (by simp))
    rw [Nat.min_eq_right this]
theorem divS_zero {h s : Nat} {l : List Nat} (hl : ∀ n ∈ l, n ≤ h) (hs : h < s) : divS l s = 0 := by
  induction l with
  | nil => rfl
  | cons n l ih =>
    show ((n / s : Nat) : Int) + divS l s = 0
    rw [ih fun r hr => hl r (List.mem_cons_of_mem _ hr), Nat.div_eq_of_lt (by have := hl n (by simp); omega)]
    rfl
theorem sumL_div (l : List Nat) (p : Nat) : (sumL l p : Int) = divS l p + divS l (p * p) + divS l (p * p * p) + divS l (p * p * p * p) + divS l (p * p * p * p * p) + divS l (p * p * p * p * p * p) := by
  induction l with
  | nil => rfl
  | cons n l ih =>
    show ((legN n p + sumL l p : Nat) : Int) = _
    unfold legN
    show _ = (((n / p : Nat) : Int) + divS l p) + (((n / (p * p) : Nat) : Int) + divS l (p * p)) + (((n / (p * p * p) : Nat) : Int) + divS l (p * p * p)) + (((n / (p * p * p * p) : Nat) : Int) + divS l (p * p * p * p)) + (((n / (p * p * p * p * p) : Nat) : Int) + divS l (p * p * p * p * p)) + (((n / (p * p * p * p * p * p) : Nat) : Int) + divS l (p * p * p * p * p * p))
    omega
/-- what is counted at s -/
def atS (above below : List Nat) (s : Nat) : Int := divS above s - divS below s
def runE (above below : List Nat) (p : Nat) : Nat → Int
  | 0 => 0
  | k + 1 => runE above below p k + atS above below (p ^ (k + 1))
theorem runE_all (above below : List Nat) (p : Nat) : runE above below p 6 = expE above below p := by
  unfold expE
  rw [sumL_div, sumL_div]
  show 0 + atS above below (p ^ 1) + atS above below (p ^ 2) + atS above below (p ^ 3) + atS above below (p ^ 4) + atS above below (p ^ 5) + atS above below (p ^ 6) = _
  have e1 : p ^ 1 = p := Nat.pow_one p
  have e2 : p ^ 2 = p * p := by rw [Nat.pow_succ, e1]
  have e3 : p ^ 3 = p * p * p := by rw [Nat.pow_succ, e2]
  have e4 : p ^ 4 = p * p * p * p := by rw [Nat.pow_succ, e3]
  have e5 : p ^ 5 = p * p * p * p * p := by rw [Nat.pow_succ, e4]
  have e6 : p ^ 6 = p * p * p * p * p * p := by rw [Nat.pow_succ, e5]
  rw [e1, e2, e3, e4, e5, e6]
  unfold atS
  omega
/-- nothing more is counted beyond the highest -/
theorem runE_end {above below : List Nat} {h p k : Nat} (p1 : 1 < p) (ha : ∀ n ∈ above, n ≤ h) (hb : ∀ n ∈ below, n ≤ h) (hk : h < p ^ (k + 1)) (k6 : k ≤ 6) : runE above below p k = expE above below p := by
  rw [← runE_all]
  have key : ∀ d, runE above below p (k + d) = runE above below p k := fun d => by
    induction d with
    | zero => rfl
    | succ d ih =>
      show runE above below p (k + d) + atS above below (p ^ (k + d + 1)) = _
      have : p ^ (k + 1) ≤ p ^ (k + d + 1) := Nat.pow_le_pow_right (by omega) (by omega)
      unfold atS
      rw [ih, divS_zero ha (by omega), divS_zero hb (by omega)]
      omega
  have e := key (6 - k)
  rw [show k + (6 - k) = 6 by omega] at e
  exact e.symm
end TCX
/-! a number parted into a square and what is free of squares, by trying. -/
namespace TCX
structure RootI (N left free square p : Nat) : Prop where
  eq : left * free * (square * square) = N
  l0 : 0 < left
  s0 : 0 < square
  p1 : 1 < p
  sf : SqF free
  i1 : ∀ d, 1 < d → d < p → ¬ d ∣ left
  i2 : p ∣ free → ¬ p ∣ left
  i3 : ∀ d, 1 < d → d ∣ free → ∃ q, 1 < q ∧ q ≤ p ∧ q ∣ d
theorem RootI.start {N : Nat} (h : 0 < N) : RootI N N 1 1 2 :=
  ⟨by simp, h, by decide, by decide, SqF.one, fun d h1 h2 => by omega, fun z => by have := Nat.eq_one_of_dvd_one z; omega, fun d h1 h2 => by have := Nat.eq_one_of_dvd_one h2; omega⟩
/-- where p divides what is left, it is a prime -/
theorem RootI.prime {N left free square p : Nat} (h : RootI N left free square p) (hd : p ∣ left) : IsP p := by
  refine ⟨h.p1, fun d dp => ?_⟩
  by_cases h1 : d = 1
  · exact .inl h1
  · by_cases h2 : d = p
    · exact .inr h2
    · have h3 := Nat.le_of_dvd (by have := h.p1; omega) dp
      have h4 : 0 < d := Nat.pos_of_dvd_of_pos dp (by have := h.p1; omega)
      exact absurd (Nat.dvd_trans dp hd) (h.i1 d (by omega) (by omega))
theorem RootI.le {N left free square p : Nat} (h : RootI N left free square p) (hl : 1 < left) : p ≤ left := by
  refine Nat.le_of_not_lt fun z => ?_
  exact h.i1 left hl z (Nat.dvd_refl _)
theorem RootI.sq {N left free square p : Nat} (h : RootI N left free square p) (hd : p * p ∣ left) : RootI N (left / (p * p)) free (square * p) p := by
  have pp : 0 < p * p := Nat.mul_pos (by have := h.p1; omega) (by have := h.p1; omega)
  obtain ⟨k, rfl⟩ := hd
  rw [Nat.mul_div_cancel_left k pp]
  have kd : ∀ d, d ∣ k → d ∣ p * p * k := fun d z => Nat.dvd_trans z (Nat.dvd_mul_left _ _)
  have k0 : 0 < k := Nat.pos_of_ne_zero fun e => by
    have := h.l0
    rw [e, Nat.mul_zero] at this
    omega
  refine ⟨?_, k0, Nat.mul_pos h.s0 (by have := h.p1; omega), h.p1, h.sf, fun d h1 h2 z => h.i1 d h1 h2 (kd d z), fun z y => h.i2 z (kd p y), h.i3⟩
  rw [← h.eq]
  simp only [Nat.mul_assoc, Nat.mul_left_comm, Nat.mul_comm]
theorem RootI.once {N left free square p : Nat} (h : RootI N left free square p) (hn : ¬ p * p ∣ left) (hd : p ∣ left) : RootI N (left / p) (free * p) square p := by
  have hp := h.prime hd
  have p0 : 0 < p := by have := h.p1; omega
  have nf : ¬ p ∣ free := fun z => h.i2 z hd
  obtain ⟨k, rfl⟩ := hd
  rw [Nat.mul_div_cancel_left k p0]
  have kd : ∀ d, d ∣ k → d ∣ p * k := fun d z => Nat.dvd_trans z (Nat.dvd_mul_left _ _)
  have k0 : 0 < k := Nat.pos_of_ne_zero fun e => by
    have := h.l0
    rw [e, Nat.mul_zero] at this
    omega
  refine ⟨?_, k0, h.s0, h.p1, ?_, fun d h1 h2 z => h.i1 d h1 h2 (kd d z), fun _ y => hn (Nat.mul_dvd_mul_left p y), fun d h1 h2 => ?_⟩
  · rw [← h.eq]
    simp only [Nat.mul_assoc, Nat.mul_left_comm, Nat.mul_comm]
  · rw [Nat.mul_comm]
    exact SqF.mul hp h.sf nf
  · by_cases z : p ∣ d
    · exact ⟨p, h.p1, Nat.le_refl _, z⟩
    · have c := (hp.cop z).symm
      rw [Nat.mul_comm] at h2
      exact h.i3 d h1 (Nat.Coprime.dvd_of_dvd_mul_left c h2)
theorem RootI.up {N left free square p : Nat} (h : RootI N left free square p) (hd : ¬ p ∣ left) : RootI N left free square (p + 1) := by
  have i1 : ∀ d, 1 < d → d < p + 1 → ¬ d ∣ left := fun d h1 h2 => by
    by_cases e : d = p
    · rw [e]
      exact hd
    · exact h.i1 d h1 (by omega)
  refine ⟨h.eq, h.l0, h.s0, by have := h.p1; omega, h.sf, i1, fun z y => ?_, fun d h1 h2 => ?_⟩
  · obtain ⟨q, q1, q2, q3⟩ := h.i3 (p + 1) (by have := h.p1; omega) z
    exact i1 q q1 (by omega) (Nat.dvd_trans q3 y)
  · obtain ⟨q, q1, q2, q3⟩ := h.i3 d h1 h2
    exact ⟨q, q1, by omega, q3⟩
theorem RootI.done {N left free square p : Nat} (h : RootI N left free square p) (hl : ¬ 1 < left) : N = square * square * free ∧ SqF free ∧ 0 < square := by
  have e : left = 1 := by have := h.l0; omega
  refine ⟨?_, h.sf, h.s0⟩
  rw [← h.eq, e, Nat.one_mul, Nat.mul_comm]
/-- the root by the primes and the root by trying are one: root and fraction -/
theorem root_one {above below : List Nat} (ha : ∀ n ∈ above, n < 123) (hb : ∀ n ∈ below, n < 123) {up under free square : Nat} (hu : 0 < under) (hq : up * prodF below = under * prodF above) (hN : up * under = square * square * free) (hs : 0 < square) (hf : SqF free) :
    rootE above below = free ∧ topE above below * under = square * botE above below := by
  have pb : 0 < prodF below := by
    rw [prodF_leg hb]
    exact powP_pos pr30_p
  have pa : 0 < prodF above := by
    rw [prodF_leg ha]
    exact powP_pos pr30_p
  have e := rootE_ok ha hb
  -- (top * under)^2 root = (square * bot)^2 free
  have key : (topE above below * under) * (topE above below * under) * rootE above below = (square * botE above below) * (square * botE above below) * free := by
    have z : (topE above below * under) * (topE above below * under) * rootE above below * prodF below = (square * botE above below) * (square * botE above below) * free * prodF below := by
      calc (topE above below * under) * (topE above below * under) * rootE above below * prodF below
          = under * under * (topE above below * topE above below * rootE above below * prodF below) := by simp only [Nat.mul_assoc, Nat.mul_left_comm, Nat.mul_comm]
        _ = under * under * (botE above below * botE above below * prodF above) := by rw [e]
        _ = (botE above below * botE above below * under) * (under * prodF above) := by simp only [Nat.mul_assoc, Nat.mul_left_comm, Nat.mul_comm]
        _ = (botE above below * botE above below * under) * (up * prodF below) := by rw [hq]
        _ = (botE above below * botE above below) * (up * under) * prodF below := by simp only [Nat.mul_assoc, Nat.mul_left_comm, Nat.mul_comm]
        _ = (botE above below * botE above below) * (square * square * free) * prodF below := by rw [hN]
        _ = _ := by simp only [Nat.mul_assoc, Nat.mul_left_comm, Nat.mul_comm]
    exact Nat.eq_of_mul_eq_mul_right pb z
  obtain ⟨h1, h2⟩ := sq_uniq (Nat.mul_pos (topE_pos _ _) hu) (rootE_sqF _ _) hf key
  exact ⟨h2, h1⟩
end TCX
namespace TC
open PySem PySem.Spec PyProof.Rows L2 TCX
section
variable {P : Program} {w : World} {K : PySem.W.Frag} {mg : Str → Option Value} {base : Heap} {f : Addr} {fd : FuncData}
/-! ### is_odd -/
def spOdd : Sp := fun vs H Q _ => ∃ n : Int, vs = [.int n] ∧ Q (.bl (decide (n % 2 = 1))) H
abbrev nOdd : List Str := ["number"]
/-! ### _law_factorial -/
def spFactL : Sp := fun vs H Q _ => ∃ n : Nat, vs = [.int n] ∧ n ≤ 200 ∧ Q (.int (factN n : Nat)) H
abbrev nFactorial : List Str := ["_law_n", "_law_found", "_law_k"]
/-! ### factorials -/
def spFacts : Sp := fun vs H Q _ => ∃ n : Nat, vs = [.int n] ∧ n ≤ 200 ∧ ∀ l, H l = none → Q (.ref l) (upd H l (.lst ((List.range (n + 1)).map fun m => V.int (factN m : Nat))))
abbrev nFacts : List Str := ["high", "found", "number"]
end
end TC
namespace TC
set_option exponentiation.threshold 20000
open PySem PySem.Spec PyProof.Rows L2 TCX
theorem iteB {b : Bool} {A B : Prop} (h1 : b = true → A) (h2 : b = false → B) : if b = true then A else B := by
  cases b
  · exact iteF (h2 rfl)
  · exact iteT (h1 rfl)
theorem nat_bits {n : Nat} {A : Nat} (h : n < 2 ^ A) : (n : Int).natAbs < 2 ^ A := by
  rw [Int.natAbs_natCast]
  exact h
def muR : L2.St → Nat
  | [_, _, some (.int l), _, _, some (.int p)] => (2 * l - p).toNat
  | _ => 0
theorem RootI.bound {N left free square p : Nat} (h : RootI N left free square p) (h0 : 0 < N) : left ≤ N ∧ free ≤ N ∧ square ≤ N := by
  have e := h.eq
  have f0 := h.sf.pos
  have s0 := h.s0
  have l0 := h.l0
  refine ⟨Nat.le_of_dvd h0 ⟨free * (square * square), by rw [← e, Nat.mul_assoc]⟩, Nat.le_of_dvd h0 ⟨left * (square * square), ?_⟩, Nat.le_of_dvd h0 ⟨left * free * square, ?_⟩⟩
  · rw [← e]
    simp only [Nat.mul_assoc, Nat.mul_left_comm, Nat.mul_comm]
  · rw [← e]
    simp only [Nat.mul_assoc, Nat.mul_left_comm, Nat.mul_comm]
theorem mod_dvd {a b : Nat} : decide (V.int ((a : Int) % (b : Int)) = V.int 0) = decide (b ∣ a) := by
  by_cases h : b ∣ a
  · rw [decide_eq_true h]
    refine decide_eq_true ?_
    obtain ⟨k, rfl⟩ := h
    rw [Int.natCast_mul, Int.mul_emod_right]
  · rw [decide_eq_false h]
    refine decide_eq_false fun z => h ?_
    have z2 : (a : Int) % (b : Int) = 0 := V.int.inj z
    exact Int.natCast_dvd_natCast.mp (Int.dvd_of_emod_eq_zero z2)
section
variable {P : Program} {w : World} {K : PySem.W.Frag} {mg : Str → Option Value} {base : Heap} {f : Addr} {fd : FuncData}
/-! ### _law_rooted -/
def spRooted : Sp := fun vs H Q _ => ∃ up under : Nat, vs = [.int up, .int under] ∧ 0 < up ∧ 0 < under ∧ up < 2 ^ 3000 ∧ under < 2 ^ 3000 ∧
  ∀ (sq fr : Nat) (d T : Addr) H', H d = none → up * under = sq * sq * fr → SqF fr → 0 < sq → Same H H' → H' d = some (.dK [((Sum.inl (fr : Int) : Key), .ref T)]) → H' T = some (.tup [.int (TCM.lowL sq under).1, .int (TCM.lowL sq under).2]) → Q (.ref d) H'
abbrev nRooted : List Str := ["_law_up", "_law_under", "_law_left", "_law_free", "_law_square", "_law_p"]
end
end TC
/-! the sum of two joined: by whole terms over one bottom. -/
namespace TCX
theorem fact_pos : ∀ n, 0 < factN n
  | 0 => Nat.one_pos
  | n + 1 => Nat.mul_pos (Nat.succ_pos n) (fact_pos n)
theorem fact_dvdS : ∀ s m n, m + n = s → factN m * factN n ∣ factN (m + n) := by
  intro s
  induction s with
  | zero =>
    intro m n h
    obtain ⟨rfl, rfl⟩ : m = 0 ∧ n = 0 := by omega
    exact Nat.dvd_refl _
  | succ s ih =>
    intro m n h
    match m, n with
    | 0, n =>
      rw [show factN 0 = 1 from rfl, Nat.one_mul, Nat.zero_add]
      exact Nat.dvd_refl _
    | m + 1, 0 =>
      rw [show factN 0 = 1 from rfl, Nat.mul_one, Nat.add_zero]
      exact Nat.dvd_refl _
    | m + 1, n + 1 =>
      have h1 := ih m (n + 1) (by omega)
      have h2 := ih (m + 1) n (by omega)
      have e : factN (m + 1 + (n + 1)) = (m + 1) * factN (m + (n + 1)) + (n + 1) * factN (m + 1 + n) := by
        rw [show m + 1 + (n + 1) = (m + n + 1) + 1 by omega]
        show (m + n + 1 + 1) * factN (m + n + 1) = _
        rw [show m + (n + 1) = m + n + 1 by omega, show m + 1 + n = m + n + 1 by omega, ← Nat.add_mul]
        congr 1
        omega
      rw [e]
      refine Nat.dvd_add ?_ ?_
      · show (m + 1) * factN m * factN (n + 1) ∣ _
        rw [Nat.mul_assoc]
        exact Nat.mul_dvd_mul_left _ h1
      · have z : factN (m + 1) * factN (n + 1) = (n + 1) * (factN (m + 1) * factN n) := by
          show factN (m + 1) * ((n + 1) * factN n) = _
          simp only [Nat.mul_assoc, Nat.mul_left_comm, Nat.mul_comm]
        rw [z]
        exact Nat.mul_dvd_mul_left _ h2
theorem fact_dvd (m n : Nat) : factN m * factN n ∣ factN (m + n) := fact_dvdS _ m n rfl
def okK (A B C : Nat) (D E : Int) (k : Nat) : Bool := decide (k ≤ A ∧ k ≤ B ∧ k ≤ C ∧ 0 ≤ D + k ∧ 0 ≤ E + k)
def botK (A B C : Nat) (D E : Int) (k : Nat) : Nat := factN k * factN (A - k) * factN (B - k) * factN (C - k) * factN (D + k).toNat * factN (E + k).toNat
def comK (A B C : Nat) (D E : Int) : Nat := factN A * factN (B + D).toNat * factN (C + E).toNat
theorem botK_pos (A B C : Nat) (D E : Int) (k : Nat) : 0 < botK A B C D E k := by
  unfold botK
  exact Nat.mul_pos (Nat.mul_pos (Nat.mul_pos (Nat.mul_pos (Nat.mul_pos (fact_pos _) (fact_pos _)) (fact_pos _)) (fact_pos _)) (fact_pos _)) (fact_pos _)
theorem comK_pos (A B C : Nat) (D E : Int) : 0 < comK A B C D E := Nat.mul_pos (Nat.mul_pos (fact_pos _) (fact_pos _)) (fact_pos _)
theorem botK_dvd {A B C : Nat} {D E : Int} {k : Nat} (h : okK A B C D E k = true) : botK A B C D E k ∣ comK A B C D E := by
  obtain ⟨h1, h2, h3, h4, h5⟩ := of_decide_eq_true h
  have e : botK A B C D E k = (factN k * factN (A - k)) * (factN (B - k) * factN (D + k).toNat) * (factN (C - k) * factN (E + k).toNat) := by
    unfold botK
    simp only [Nat.mul_assoc, Nat.mul_left_comm, Nat.mul_comm]
  rw [e]
  unfold comK
  have a1 := fact_dvd k (A - k)
  have a2 := fact_dvd (B - k) (D + k).toNat
  have a3 := fact_dvd (C - k) (E + k).toNat
  rw [show k + (A - k) = A by omega] at a1
  rw [show B - k + (D + k).toNat = (B + D).toNat by omega] at a2
  rw [show C - k + (E + k).toNat = (C + E).toNat by omega] at a3
  exact Nat.mul_dvd_mul (Nat.mul_dvd_mul a1 a2) a3
def sgK (k : Nat) : Int := if k % 2 = 1 then -1 else 1
def tmK (A B C : Nat) (D E : Int) (k : Nat) : Int := if okK A B C D E k = true then sgK k * ((comK A B C D E / botK A B C D E k : Nat) : Int) else 0
def sumK (f : Nat → Int) (n : Nat) : Int := ((List.range n).map f).sum
theorem sumK_succ (f : Nat → Int) (n : Nat) : sumK f (n + 1) = sumK f n + f n := by
  unfold sumK
  rw [List.range_succ, List.map_append, List.sum_append]
  show _ + (f n + 0) = _
  omega
theorem sumK_add (f : Nat → Int) (a : Nat) : ∀ b, sumK f (a + b) = sumK f a + sumK (fun i => f (a + i)) b
  | 0 => by
    show sumK f a = sumK f a + 0
    omega
  | b + 1 => by
    rw [← Nat.add_assoc, sumK_succ, sumK_succ, sumK_add f a b]
    omega
theorem sumK_zero {f : Nat → Int} : ∀ {n : Nat}, (∀ i, i < n → f i = 0) → sumK f n = 0
  | 0, _ => rfl
  | n + 1, h => by
    rw [sumK_succ, sumK_zero fun i hi => h i (by omega), h n (by omega)]
    rfl
/-- the sum is that of those k that are let -/
theorem sumK_let {A B C : Nat} {D E lo hi : Int} (l0 : 0 ≤ lo) (h1 : ∀ k : Nat, okK A B C D E k = true ↔ lo ≤ k ∧ (k : Int) ≤ hi) (hA : hi ≤ A) :
    sumK (tmK A B C D E) (A + 1) = sumK (fun i => tmK A B C D E (lo.toNat + i)) (hi + 1 - lo).toNat := by
  have out : ∀ k : Nat, ¬ (lo ≤ k ∧ (k : Int) ≤ hi) → tmK A B C D E k = 0 := fun k hk => if_neg fun z => hk ((h1 k).mp z)
  by_cases h : lo ≤ hi
  · have e : A + 1 = lo.toNat + ((hi + 1 - lo).toNat + (A - hi.toNat)) := by omega
    rw [e, sumK_add, sumK_add, sumK_zero fun i hi' => out i (by omega), sumK_zero (n := A - hi.toNat) fun i hi' => out _ (by omega)]
    omega
  · rw [show (hi + 1 - lo).toNat = 0 by omega, sumK_zero fun i _ => out i (by omega)]
    rfl
/-- one term more, as fractions in lowest terms -/
theorem frac_step (q : Rat) (low sg : Int) (h : low ≠ 0) : Rat.divInt (q.num * low + (q.den : Int) * sg) ((q.den : Int) * low) = q + Rat.divInt sg low := by
  have d0 : (q.den : Int) ≠ 0 := by have := q.den_pos; omega
  have e := Rat.divInt_add_divInt q.num sg d0 h
  rw [Rat.num_divInt_den] at e
  rw [e, Int.mul_comm sg]
theorem frac_com {A B C : Nat} {D E : Int} {k : Nat} (h : okK A B C D E k = true) : Rat.divInt (sgK k) ((botK A B C D E k : Nat) : Int) = Rat.divInt (tmK A B C D E k) ((comK A B C D E : Nat) : Int) := by
  have b0 := botK_pos A B C D E k
  have c0 := comK_pos A B C D E
  rw [Rat.divInt_eq_divInt_iff (by omega) (by omega)]
  unfold tmK
  rw [if_pos h, Int.mul_assoc, ← Int.natCast_mul, Nat.div_mul_cancel (botK_dvd h)]
theorem divInt_sum (x y : Int) {c : Int} (h : c ≠ 0) : Rat.divInt x c + Rat.divInt y c = Rat.divInt (x + y) c := by
  rw [Rat.divInt_add_divInt _ _ h h, ← Int.add_mul, Rat.divInt_mul_right h]
/-- the law's sum, step by step -/
theorem total_step {A B C : Nat} {D E : Int} {k : Nat} (h : okK A B C D E k = true) {q : Rat} (hq : q = Rat.divInt (sumK (tmK A B C D E) k) ((comK A B C D E : Nat) : Int)) :
    Rat.divInt (q.num * ((botK A B C D E k : Nat) : Int) + (q.den : Int) * sgK k) ((q.den : Int) * ((botK A B C D E k : Nat) : Int)) = Rat.divInt (sumK (tmK A B C D E) (k + 1)) ((comK A B C D E : Nat) : Int) := by
  have b0 := botK_pos A B C D E k
  have c0 := comK_pos A B C D E
  rw [frac_step q _ _ (by omega), frac_com h]
  conv => lhs; rw [hq]
  rw [divInt_sum _ _ (by omega), sumK_succ]
theorem total_skip {A B C : Nat} {D E : Int} {k : Nat} (h : ¬ okK A B C D E k = true) : sumK (tmK A B C D E) (k + 1) = sumK (tmK A B C D E) k := by
  rw [sumK_succ]
  have : tmK A B C D E k = 0 := if_neg h
  omega
/-- the root by the primes and the root by trying, a square of a common one beside -/
theorem root_two {above below : List Nat} (ha : ∀ n ∈ above, n < 123) (hb : ∀ n ∈ below, n < 123) {up under free square com : Nat} (hu : 0 < under) (hc : 0 < com) (hq : up * prodF below = under * prodF above * (com * com)) (hN : up * under = square * square * free) (hf : SqF free) :
    rootE above below = free ∧ topE above below * under * com = square * botE above below := by
  have pb : 0 < prodF below := by
    rw [prodF_leg hb]
    exact powP_pos pr30_p
  have e := rootE_ok ha hb
  have key : (topE above below * under * com) * (topE above below * under * com) * rootE above below = (square * botE above below) * (square * botE above below) * free := by
    have z : (topE above below * under * com) * (topE above below * under * com) * rootE above below * prodF below = (square * botE above below) * (square * botE above below) * free * prodF below := by
      calc (topE above below * under * com) * (topE above below * under * com) * rootE above below * prodF below
          = under * under * (com * com) * (topE above below * topE above below * rootE above below * prodF below) := by simp only [Nat.mul_assoc, Nat.mul_left_comm, Nat.mul_comm]
        _ = under * under * (com * com) * (botE above below * botE above below * prodF above) := by rw [e]
        _ = (botE above below * botE above below * under) * (under * prodF above * (com * com)) := by simp only [Nat.mul_assoc, Nat.mul_left_comm, Nat.mul_comm]
        _ = (botE above below * botE above below * under) * (up * prodF below) := by rw [hq]
        _ = (botE above below * botE above below) * (up * under) * prodF below := by simp only [Nat.mul_assoc, Nat.mul_left_comm, Nat.mul_comm]
        _ = (botE above below * botE above below) * (square * square * free) * prodF below := by rw [hN]
        _ = _ := by simp only [Nat.mul_assoc, Nat.mul_left_comm, Nat.mul_comm]
    exact Nat.eq_of_mul_eq_mul_right pb z
  obtain ⟨h1, h2⟩ := sq_uniq (Nat.mul_pos (Nat.mul_pos (topE_pos _ _) hu) hc) (rootE_sqF _ _) hf key
  exact ⟨h2, h1⟩
/-- both answers are one: top / bot times the whole sum, square / under times the sum's fraction -/
theorem both_one {top bot under square com : Nat} {W : Int} (hb : 0 < bot) (hu : 0 < under) (hc : 0 < com) (h : top * under * com = square * bot) :
    Rat.divInt W 1 * Rat.divInt (top : Int) (bot : Int) = Rat.divInt (square : Int) (under : Int) * Rat.divInt W (com : Int) := by
  rw [Rat.divInt_mul_divInt, Rat.divInt_mul_divInt, Rat.divInt_eq_divInt_iff (by omega) (by
    intro z
    rcases Int.mul_eq_zero.mp z with z | z <;> omega)]
  have h' : (top : Int) * under * com = square * bot := by
    have := congrArg (Nat.cast : Nat → Int) h
    push_cast at this
    exact this
  grind
end TCX
/-! xs[i] op= e: the reading of a list's item. -/
namespace TCX
open PySem PySem.Spec PyProof.Rows L2
def rGetL (K : PySem.W.Frag) : V → V → Hp → VK → Prop := fun o i H Q => ∃ (p : Addr) (xs : List V) (j : Nat) (v : V), o = .ref p ∧ i = .int (j : Nat) ∧ SqL K H p xs ∧ xs[j]? = some v ∧ Q v H
theorem get_list {X : Cx} : PGet X (rGetL X.K) := by
  intro pins s σ H o i ov iv Q I ro ri h
  obtain ⟨p, xs, j, z, rfl, rfl, hq, he, q⟩ := h
  cases ro
  obtain ⟨t, rfl⟩ := ri
  obtain ⟨its, r, pl, hz⟩ := I.list hq
  obtain ⟨w, ew, rw'⟩ := r.get he
  have hl := r.length
  have hn := line63
  have jl : j < xs.length := (List.getElem?_eq_some_iff.mp he).1
  exact wpAny_getItem_list pl.isList (by omega) (by omega) (by simpa using ew) ⟨z, H, I, rw', q⟩
end TCX
namespace TCX
open PySem PySem.Spec PyProof.Rows L2 HT
theorem same_new {H : Hp} {p : Addr} {o : HO} (h : H p = none) : Same H (upd H p o) := fun b x e => by
  rw [upd_ne (ne_of_none e h)]
  exact e
section
variable {X : Cx}
/-- t + u, whatever they hold: some tuple of both -/
def rCatS : R2 := fun x y H Q => ∃ a b xs ys, x = .ref a ∧ y = .ref b ∧ H a = some (.tup xs) ∧ H b = some (.tup ys) ∧ xs.length + ys.length ≤ sizeLine ∧ ∀ p H', Same H H' → H' p = some (.tup (xs ++ ys)) → Q (.ref p) H'
theorem op_catS : OpR X (binaryOp .Add) (rCatS) := by
  intro pins s σ H x y v u Q I rx ry h
  obtain ⟨a, b, xs, ys, rfl, rfl, ha, hb, hz, q⟩ := h
  refine op_catA pins s σ H _ _ v u Q I rx ry ⟨a, b, xs, ys, rfl, rfl, SqT.of ha, SqT.of hb, hz, fun e => ?_, fun _ e => ?_, fun _ _ p hp => ?_⟩
  · subst e
    exact q b H (fun _ _ z => z) hb
  · subst e
    exact q a H (fun _ _ z => z) (by rw [List.append_nil]; exact ha)
  · exact q p _ (same_new hp) upd_same
/-- t[lo:hi], whatever it is: some tuple of the part -/
def rSlS : V → Option Int → Option Int → Hp → VK → Prop := fun x lo hi H Q => ∃ a xs, x = .ref a ∧ H a = some (.tup xs) ∧ ∀ p H', Same H H' → H' p = some (.tup (cutV xs lo hi)) → Q (.ref p) H'
theorem sl_tupS : SlR X (rSlS) := by
  intro pins s σ H x v vl vu lo hi sl Q I rx hs pl pu h
  obtain ⟨a, xs, rfl, hx, q⟩ := h
  refine sl_tupA pins s σ H _ v vl vu lo hi sl Q I rx hs pl pu ⟨a, xs, rfl, SqT.of hx, fun e => ?_, fun _ p hp => ?_⟩
  · refine q a H (fun _ _ z => z) ?_
    unfold cutV
    rw [e.1, e.2]
    simpa using hx
  · exact q p _ (same_new hp) upd_same
end
theorem cut_take {xs : List V} {k : Nat} : cutV xs none (some (k : Int)) = xs.take k := by
  unfold cutV
  rw [sIx_nat, sIx_none]
  show xs.take (min k xs.length) = xs.take k
  by_cases h : k ≤ xs.length
  · rw [Nat.min_eq_left h]
  · rw [Nat.min_eq_right (by omega), List.take_length, List.take_of_length_le (by omega)]
theorem cut_drop {xs : List V} {k : Nat} : cutV xs (some (k : Int)) none = xs.drop k := by
  unfold cutV
  rw [sIx_nat, sIx_none]
  by_cases h : k ≤ xs.length
  · rw [Nat.min_eq_left h, List.take_of_length_le (by rw [List.length_drop]; omega)]
  · rw [Nat.min_eq_right (by omega), List.drop_length, List.drop_of_length_le (by omega)]
    exact List.take_nil
end TCX
/-! slices of a list with a step. -/
namespace TCX
open PySem PySem.Spec PyProof.Rows L2
theorem vals_at {xs : List V} {us : List Value} (h : Vals xs us) : ∀ i : Nat, (xs[i]? = none ∧ us[i]? = none) ∨ ∃ x u, xs[i]? = some x ∧ us[i]? = some u ∧ RelV x u := by
  induction h with
  | nil => exact fun i => .inl ⟨rfl, rfl⟩
  | cons r t ih =>
    intro i
    cases i with
    | zero => exact .inr ⟨_, _, rfl, rfl, r⟩
    | succ i => exact ih i
theorem vals_pick {xs : List V} {us : List Value} (h : Vals xs us) : ∀ is : List Nat, Vals (is.filterMap (xs[·]?)) (is.filterMap (us[·]?))
  | [] => .nil
  | i :: is => by
    rcases vals_at h i with ⟨e1, e2⟩ | ⟨x, u, e1, e2, r⟩
    · rw [List.filterMap_cons, List.filterMap_cons, e1, e2]
      exact vals_pick h is
    · rw [List.filterMap_cons, List.filterMap_cons, e1, e2]
      exact .cons r (vals_pick h is)
/-- the items of xs[lo:hi:st] -/
def stepV (xs : List V) (lo hi st : Option Int) : List V := (sliceRange (sliceBounds lo hi st xs.length).1 (sliceBounds lo hi st xs.length).2.1 (sliceBounds lo hi st xs.length).2.2).filterMap (xs[·]?)
section
variable {X : Cx} {e : Expr} {te : TE} {lo hi : Option Expr} {se : Expr} {tl th ts : TO} {pos p2 : Pos}
def tSl3 (K : PySem.W.Frag) (te : TE) (tl th ts : TO) : TE := fun σ H Q => te σ H fun x H1 => tl σ H1 fun l H2 => th σ H2 fun u H3 => ts σ H3 fun c H4 => ∃ a xs, x = .ref a ∧ SqL K H4 a xs ∧ c ≠ some 0 ∧ (stepV xs l u c).length ≤ sizeLine ∧ ∀ p, H4 p = none → Q (.ref p) (upd H4 p (.lst (stepV xs l u c)))
theorem pe_slice3 (he : PE X e te) (hl : PO X lo tl) (hu : PO X hi th) (hs : PO X (some se) ts) : PE X (.Subscript e (.Slice lo hi (some se) p2) pos) (tSl3 X.K te tl th ts) := by
  refine ⟨fun pins s σ H Q I h => ?_⟩
  refine Subscript_ (thn (he.run pins s σ H _ I h) fun v s1 ⟨x, H1, I1, r1, q1⟩ => ?_)
  refine wpAny_Slice (thn (hl.run pins s1 σ H1 _ I1 q1) fun vl s2 ⟨l, H2, I2, pl, q2⟩ => thn (hu.run pins s2 σ H2 _ I2 q2) fun vu s3 ⟨u, H3, I3, pu, q3⟩ => thn (hs.run pins s3 σ H3 _ I3 q3) fun vs s4 ⟨c, H4, I4, ps, q4⟩ => ?_)
  obtain ⟨a, xs, rfl, hx, hc, hz, q⟩ := q4
  have I5 : Inv X pins σ H4 { s4 with heap := s4.heap.push { cls := .type "slice", data := .fields #[vl, vu, vs] } } := I4.kept (t' := s4.toks) fun b ob q => Heap.get?_push_of_some _ q
  cases r1
  obtain ⟨its, r, ht, hz'⟩ := I5.list hx
  have hlen := r.length
  refine tail_any (ops := [.ref a, .ref s4.heap.objs.size]) (T := "list") ht.isList.typeIs slot_list_getitem.lookup ?_ (by with_unfolding_all rfl)
  refine wpAny_getItem_list_slice ht.isList (Heap.IsSliceOf.new ..) pl pu ps hc ?_ (by rw [List.size_toArray] <;> omega)
  have e : slicePick its.toArray l u c = ((sliceRange (sliceBounds l u c its.length).1 (sliceBounds l u c its.length).2.1 (sliceBounds l u c its.length).2.2).filterMap (its[·]?)).toArray := by
    unfold slicePick
    rw [List.size_toArray]
    simp only [List.getElem?_toArray]
  rw [e, ← hlen]
  refine ⟨.ref _, _, I5.laid (t' := s4.toks) (o := .lst (stepV xs l u c)) (fun b ob q => Heap.get?_push_of_some _ q) (Nat.le_refl _) ?_, rfl, q _ (I5.hok.fresh (Nat.le_refl _))⟩
  exact ⟨hz, _, 0, vals_pick r _, Heap.get?_push_size _ rfl⟩
end
end TCX
namespace TCX
open PySem PySem.Spec PyProof.Rows L2
theorem range_down (n : Nat) (hi : Nat) (h : hi ≤ n) : sliceRange ((n : Int) - 1) ((hi : Int) - 1) (-1) = (List.range (n - hi)).map fun k => n - 1 - k := by
  unfold sliceRange
  by_cases hn : hi < n
  · have e : ((n : Int) - 1 - ((hi : Int) - 1) - -1 - 1) / (- -1) = ((n - hi : Nat) : Int) := by
      rw [show (- -1 : Int) = 1 from rfl, Int.ediv_one]
      omega
    simp only [show ¬ ((-1 : Int) > 0) by decide, if_false, show ((n : Int) - 1 > (hi : Int) - 1) by omega, if_true, e, Int.toNat_natCast]
    refine List.map_congr_left fun k hk => ?_
    have := List.mem_range.mp hk
    omega
  · have e : n - hi = 0 := by omega
    simp only [show ¬ ((-1 : Int) > 0) by decide, if_false, show ¬ ((n : Int) - 1 > (hi : Int) - 1) by omega, e]
    rfl
theorem pick_down {α : Type} (xs : List α) : ∀ k : Nat, k ≤ xs.length → ((List.range k).map fun i => xs.length - 1 - i).filterMap (xs[·]?) = (xs.drop (xs.length - k)).reverse
  | 0, _ => by simp
  | k + 1, h => by
    rw [List.range_succ, List.map_append, List.filterMap_append, pick_down xs k (by omega)]
    have h1 : xs.length - 1 - k < xs.length := by omega
    have e : xs.length - (k + 1) = xs.length - 1 - k := by omega
    rw [e, List.drop_eq_getElem_cons h1, List.reverse_cons]
    have e2 : xs.length - 1 - k + 1 = xs.length - k := by omega
    rw [e2]
    congr 1
    simp [List.getElem?_eq_getElem h1]
/-- xs[::-1] -/
theorem step_rev (xs : List V) : stepV xs none none (some (-1)) = xs.reverse := by
  unfold stepV
  have e : sliceBounds none none (some (-1)) xs.length = ((xs.length : Int) - 1, ((0 : Nat) : Int) - 1, -1) := by
    unfold sliceBounds
    simp
  rw [e, range_down xs.length 0 (Nat.zero_le _), Nat.sub_zero, pick_down xs xs.length (Nat.le_refl _), Nat.sub_self]
  rfl
/-- xs[:0:-1] -/
theorem step_tail (xs : List V) : stepV xs none (some 0) (some (-1)) = (xs.drop 1).reverse := by
  unfold stepV
  cases xs with
  | nil => rfl
  | cons x xs =>
    have e : sliceBounds none (some 0) (some (-1)) (x :: xs).length = (((x :: xs).length : Int) - 1, ((1 : Nat) : Int) - 1, -1) := by
      unfold sliceBounds
      simp
      omega
    rw [e, range_down (x :: xs).length 1 (by simp), pick_down (x :: xs) _ (by omega)]
    have e2 : (x :: xs).length - ((x :: xs).length - 1) = 1 := by simp
    rw [e2]
end TCX
/-! xs[s::s] of a list told by a function. -/
namespace TCX
open PySem PySem.Spec PyProof.Rows L2
theorem fm_all {α β : Type} {g : α → Option β} {f : α → β} : ∀ {l : List α}, (∀ x ∈ l, g x = some (f x)) → l.filterMap g = l.map f
  | [], _ => rfl
  | x :: l, h => by
    rw [List.filterMap_cons, h x (by simp), List.map_cons, fm_all fun y hy => h y (List.mem_cons_of_mem _ hy)]
theorem step_up (f : Nat → Int) (h s : Nat) (s0 : 0 < s) (hs : s ≤ h) : stepV ((List.range (h + 1)).map fun m => V.int (f m)) (some (s : Int)) none (some (s : Int)) = ((List.range (h / s)).map fun j => f ((j + 1) * s)).map V.int := by
  unfold stepV
  rw [List.length_map, List.length_range]
  have e : sliceBounds (some (s : Int)) none (some (s : Int)) (h + 1) = ((s : Int), ((h + 1 : Nat) : Int), (s : Int)) := by
    unfold sliceBounds
    have h1 : (0 : Int) < (s : Int) := by omega
    have h2 : ¬ ((s : Int) < 0) := by omega
    have h3 : ¬ (((h + 1 : Nat) : Int) < (s : Int)) := by omega
    simp [h1, h2, h3]
    omega
  rw [e]
  have er : sliceRange (s : Int) ((h + 1 : Nat) : Int) (s : Int) = (List.range (h / s)).map fun k => (k + 1) * s := by
    unfold sliceRange
    have h1 : (s : Int) > 0 := by omega
    have h2 : (s : Int) < ((h + 1 : Nat) : Int) := by omega
    have e1 : (((h + 1 : Nat) : Int) - (s : Int) + (s : Int) - 1) / (s : Int) = ((h / s : Nat) : Int) := by
      rw [show ((h + 1 : Nat) : Int) - (s : Int) + (s : Int) - 1 = (h : Int) by omega]
      exact (Int.natCast_ediv h s).symm
    simp only [h1, if_true, h2, e1, Int.toNat_natCast]
    refine List.map_congr_left fun k _ => ?_
    have : (s : Int) + (s : Int) * (k : Int) = (((k + 1) * s : Nat) : Int) := by
      rw [Nat.add_mul, Nat.one_mul, Nat.mul_comm k s]
      push_cast
      omega
    rw [this, Int.toNat_natCast]
  rw [er, List.map_map]
  rw [List.filterMap_map]
  refine fm_all fun k hk => ?_
  have hk' := List.mem_range.mp hk
  have hb : (k + 1) * s ≤ h := by
    have := Nat.mul_le_mul_right s (show k + 1 ≤ h / s by omega)
    exact Nat.le_trans this (Nat.div_mul_le_self h s)
  show ((List.range (h + 1)).map fun m => V.int (f m))[(k + 1) * s]? = _
  rw [List.getElem?_map, List.getElem?_range (by omega)]
  rfl
end TCX
namespace TC
open PySem PySem.Spec PyProof.Rows L2 TCX
/-! ### a list told by a function -/
def natV (l : List Nat) : List V := l.map fun n : Nat => V.int (n : Int)
def lisF (h : Nat) (f : Nat → Int) : List V := (List.range (h + 1)).map fun m => V.int (f m)
theorem lisF_len (h : Nat) (f : Nat → Int) : (lisF h f).length = h + 1 := by rw [lisF, List.length_map, List.length_range]
theorem lisF_get {h : Nat} {f : Nat → Int} {j : Nat} (hj : j ≤ h) : (lisF h f)[j]? = some (.int (f j)) := by
  rw [lisF, List.getElem?_map, List.getElem?_range (by omega)]
  rfl
theorem lisF_set {h : Nat} {f : Nat → Int} {j : Nat} {z : Int} : (lisF h f).set j (.int z) = lisF h fun m => if m = j then z else f m := by
  refine List.ext_getElem? fun i => ?_
  rw [List.getElem?_set]
  by_cases e : j = i
  · subst e
    rw [if_pos rfl, lisF_len]
    by_cases hj : j < h + 1
    · rw [if_pos hj, lisF_get (by omega), if_pos rfl]
    · rw [if_neg hj, List.getElem?_eq_none (by rw [lisF_len]; omega)]
  · rw [if_neg e]
    by_cases hi : i ≤ h
    · rw [lisF_get hi, lisF_get hi, if_neg fun z => e z.symm]
    · rw [List.getElem?_eq_none (by rw [lisF_len]; omega), List.getElem?_eq_none (by rw [lisF_len]; omega)]
theorem lisF_rep (h : Nat) : (List.replicate (h + 1) ([V.int 0] : List V)).flatten = lisF h fun _ => 0 := by
  unfold lisF
  rw [List.map_const', List.length_range]
  induction h + 1 with
  | zero => rfl
  | succ n ih =>
    rw [List.replicate_succ, List.flatten_cons, ih, List.replicate_succ]
    rfl
theorem lisF_congr {h : Nat} {f g : Nat → Int} (e : ∀ m, m ≤ h → f m = g m) : lisF h f = lisF h g := by
  unfold lisF
  refine List.map_congr_left fun m hm => ?_
  rw [e m (by have := List.mem_range.mp hm; omega)]
theorem eqL_snoc (l : List Nat) (n m : Nat) : eqL (l ++ [n]) m = eqL l m + (if n = m then 1 else 0) := by
  induction l with
  | nil =>
    show (if n = m then (1 : Int) else 0) + 0 = 0 + _
    omega
  | cons a l ih =>
    show (if a = m then (1 : Int) else 0) + eqL (l ++ [n]) m = (if a = m then (1 : Int) else 0) + eqL l m + _
    rw [ih]
    omega
theorem ixN_nat {n j : Nat} (h : j < n) : ixN n (j : Int) = some j := by
  unfold ixN
  simp
  omega
theorem sum_sub (f g : Nat → Int) : ∀ l : List Nat, (l.map fun j => f j - g j).sum = (l.map f).sum - (l.map g).sum
  | [] => rfl
  | x :: l => by
    rw [List.map_cons, List.sum_cons, List.map_cons, List.sum_cons, List.map_cons, List.sum_cons, sum_sub f g l]
    omega
theorem at_sum {above below : List Nat} {h s : Nat} (s0 : 0 < s) (ha : ∀ n ∈ above, n ≤ h) (hb : ∀ n ∈ below, n ≤ h) : ((List.range (h / s)).map fun j => geL above ((j + 1) * s) - geL below ((j + 1) * s)).sum = atS above below s := by
  rw [sum_sub (fun j => geL above ((j + 1) * s)) (fun j => geL below ((j + 1) * s)), mult_sum s0 ha, mult_sum s0 hb]
  rfl
theorem legN_zero {n p : Nat} (h : n < p) : legN n p = 0 := by
  have z : ∀ q, p ≤ q → n / q = 0 := fun q hq => Nat.div_eq_of_lt (by omega)
  have p1 : 1 ≤ p := by omega
  have m1 : p ≤ p * p := Nat.le_mul_of_pos_right p p1
  have m2 : p ≤ p * p * p := Nat.le_trans m1 (Nat.le_mul_of_pos_right _ p1)
  have m3 : p ≤ p * p * p * p := Nat.le_trans m2 (Nat.le_mul_of_pos_right _ p1)
  have m4 : p ≤ p * p * p * p * p := Nat.le_trans m3 (Nat.le_mul_of_pos_right _ p1)
  have m5 : p ≤ p * p * p * p * p * p := Nat.le_trans m4 (Nat.le_mul_of_pos_right _ p1)
  unfold legN
  rw [z _ (Nat.le_refl p), z _ m1, z _ m2, z _ m3, z _ m4, z _ m5]
theorem sumL_zero {l : List Nat} {p : Nat} (h : ∀ n ∈ l, n < p) : sumL l p = 0 := by
  induction l with
  | nil => rfl
  | cons n l ih =>
    show legN n p + sumL l p = 0
    rw [legN_zero (h n (by simp)), ih fun m hm => h m (List.mem_cons_of_mem _ hm)]
theorem expE_zero {above below : List Nat} {p : Nat} (ha : ∀ n ∈ above, n < p) (hb : ∀ n ∈ below, n < p) : expE above below p = 0 := by
  unfold expE
  rw [sumL_zero ha, sumL_zero hb]
  rfl
theorem pr_at : ∀ i, i < 30 → primes[i]? = (pr30[i]?).map (Nat.cast : Nat → Int) := by decide +kernel
theorem pr_far : ∀ x ∈ primes.drop 30, 122 < x := by decide +kernel
theorem pr_up : ∀ i, i < 30 → ∀ q ∈ pr30.drop i, pr30.getD i 0 ≤ q := by decide +kernel
theorem pr_len : pr30.length = 30 ∧ primes.length = 168 := by decide +kernel
/-- pairs of a prime and its power -/
def PwR (H : Hp) (e : Nat → Int) : List Addr → List Nat → Prop
  | [], [] => True
  | u :: us, p :: ps => H u = some (.tup [.int (p : Int), .int (e p)]) ∧ PwR H e us ps
  | _, _ => False
theorem PwR.same {H H' : Hp} {e : Nat → Int} (s : Same H H') : ∀ {us : List Addr} {ps : List Nat}, PwR H e us ps → PwR H' e us ps
  | [], [], _ => trivial
  | _ :: _, _ :: _, h => ⟨s _ _ h.1, PwR.same s h.2⟩
  | [], _ :: _, h => h.elim
  | _ :: _, [], h => h.elim
theorem PwR.len {H : Hp} {e : Nat → Int} : ∀ {us : List Addr} {ps : List Nat}, PwR H e us ps → us.length = ps.length
  | [], [], _ => rfl
  | _ :: _, _ :: _, h => congrArg Nat.succ (PwR.len h.2)
  | [], _ :: _, h => h.elim
  | _ :: _, [], h => h.elim
theorem PwR.upd {H : Hp} {e : Nat → Int} {l : Addr} {o : HO} (hl : ∀ x, H l ≠ some (.tup x)) : ∀ {us : List Addr} {ps : List Nat}, PwR H e us ps → PwR (L2.upd H l o) e us ps
  | [], [], _ => trivial
  | u :: us, p :: ps, h => ⟨by
    rw [upd_ne fun z => hl _ (by rw [← z]; exact h.1)]
    exact h.1, PwR.upd hl h.2⟩
  | [], _ :: _, h => h.elim
  | _ :: _, [], h => h.elim
theorem PwR.snoc {H : Hp} {e : Nat → Int} {u : Addr} {p : Nat} (hu : H u = some (.tup [.int (p : Int), .int (e p)])) : ∀ {us : List Addr} {ps : List Nat}, PwR H e us ps → PwR H e (us ++ [u]) (ps ++ [p])
  | [], [], _ => ⟨hu, trivial⟩
  | _ :: _, _ :: _, h => ⟨h.1, PwR.snoc hu h.2⟩
  | [], _ :: _, h => h.elim
  | _ :: _, [], h => h.elim
theorem PwR.get {H : Hp} {e : Nat → Int} : ∀ {us : List Addr} {ps : List Nat} {i : Nat} {v : V}, PwR H e us ps → (us.map V.ref)[i]? = some v → ∃ u p, v = .ref u ∧ ps[i]? = some p ∧ H u = some (.tup [.int (p : Int), .int (e p)])
  | [], [], i, v, _, z => by simp at z
  | u :: us, p :: ps, 0, v, h, z => ⟨u, p, (Option.some.inj z).symm, rfl, h.1⟩
  | u :: us, p :: ps, i + 1, v, h, z => by
    have z' : (us.map V.ref)[i]? = some v := z
    obtain ⟨u', p', a, b, c⟩ := PwR.get h.2 z'
    exact ⟨u', p', a, b, c⟩
  | [], _ :: _, _, _, h, _ => h.elim
  | _ :: _, [], _, _, h, _ => h.elim
theorem nat_at {l : List Nat} {i : Nat} {x : V} (h : (natV l)[i]? = some x) : ∃ n : Nat, l[i]? = some n ∧ x = .int (n : Int) := by
  unfold natV at h
  rw [List.getElem?_map] at h
  cases e : l[i]? with
  | none =>
    rw [e] at h
    cases h
  | some n =>
    rw [e] at h
    exact ⟨n, rfl, (Option.some.inj h).symm⟩
theorem natV_len (l : List Nat) : (natV l).length = l.length := List.length_map ..
theorem take_at {l : List Nat} {i n : Nat} (h : l[i]? = some n) : l.take (i + 1) = l.take i ++ [n] := by
  rw [List.take_add_one, h]
  rfl
def muP (h : Nat) : L2.St → Nat
  | [_, _, _, _, _, _, _, _, some (.int s)] => (h + 1 - s).toNat
  | _ => 0
section
variable {P : Program} {w : World} {K : PySem.W.Frag} {mg : Str → Option Value} {base : Heap} {f : Addr} {fd : FuncData}
/-! ### primes_of_factorials -/
def spPrimesF (K : PySem.W.Frag) : Sp := fun vs H Q _ => ∃ (a b : Addr) (above below : List Nat), vs = [.ref a, .ref b] ∧ H a = some (.lst (natV above)) ∧ H b = some (.lst (natV below)) ∧ 0 < above.length ∧ above.length ≤ 50 ∧ below.length ≤ 50 ∧ (∀ n ∈ above, n < 123) ∧ (∀ n ∈ below, n < 123) ∧
  ∀ (l : Addr) (us : List Addr) (i : Nat) H', Same H H' → H' l = some (.lst (us.map V.ref)) → PwR H' (expE above below) us (pr30.take i) → i ≤ 30 → (∀ p ∈ pr30.drop i, expE above below p = 0) → Q (.ref l) H'
abbrev nPrimesF : List Str := ["above", "below", "high", "counts", "number", "found", "prime", "power", "step"]
end
end TC
namespace TCX
theorem powP_append (e : Nat → Nat) : ∀ l m : List Nat, powP e (l ++ m) = powP e l * powP e m
  | [], m => (Nat.one_mul _).symm
  | p :: l, m => by
    show p ^ e p * powP e (l ++ m) = p ^ e p * powP e l * powP e m
    rw [powP_append e l m, Nat.mul_assoc]
theorem powP_snoc (e : Nat → Nat) (l : List Nat) (p : Nat) : powP e (l ++ [p]) = powP e l * p ^ e p := by
  rw [powP_append]
  show powP e l * (p ^ e p * 1) = _
  rw [Nat.mul_one]
theorem powP_none {e : Nat → Nat} {l : List Nat} (h : ∀ p ∈ l, e p = 0) : powP e l = 1 := by
  rw [powP_congr (f := fun _ => 0) h, powP_zero]
theorem pick_append (f : Nat → Bool) (l m : List Nat) : pickP f (l ++ m) = pickP f l * pickP f m := by
  rw [pick_pow, pick_pow, pick_pow, powP_append]
theorem pick_snoc (f : Nat → Bool) (l : List Nat) (p : Nat) : pickP f (l ++ [p]) = pickP f l * (if f p then p else 1) := by
  rw [pick_append]
  congr 1
  show (if f p then p * 1 else 1) = _
  rw [Nat.mul_one]
theorem pick_none {f : Nat → Bool} {l : List Nat} (h : ∀ p ∈ l, f p = false) : pickP f l = 1 := by
  rw [pick_pow]
  exact powP_none fun p hp => by rw [h p hp]; rfl
theorem legN_le (n p : Nat) : legN n p ≤ 6 * n := by
  have h : ∀ q, n / q ≤ n := fun q => Nat.div_le_self n q
  unfold legN
  have h1 := h p
  have h2 := h (p * p)
  have h3 := h (p * p * p)
  have h4 := h (p * p * p * p)
  have h5 := h (p * p * p * p * p)
  have h6 := h (p * p * p * p * p * p)
  omega
theorem sumL_le {l : List Nat} (h : ∀ n ∈ l, n < 123) (p : Nat) : sumL l p ≤ 738 * l.length := by
  induction l with
  | nil => exact Nat.le_refl _
  | cons n l ih =>
    have h1 := ih fun m hm => h m (List.mem_cons_of_mem _ hm)
    have h2 := legN_le n p
    have h3 := h n (by simp)
    show legN n p + sumL l p ≤ 738 * (l.length + 1)
    omega
theorem rat_cop {t b : Nat} (hb : 0 < b) (c : Nat.Coprime t b) : (Rat.divInt (t : Int) (b : Int)).num = (t : Int) ∧ (Rat.divInt (t : Int) (b : Int)).den = b := by
  have e : (⟨(t : Int), b, by omega, by rw [Int.natAbs_natCast]; exact c⟩ : Rat) = Rat.divInt (t : Int) (b : Int) := Rat.mk_eq_divInt ..
  rw [← e]
  exact ⟨rfl, rfl⟩
end TCX
namespace TC
open PySem PySem.Spec PyProof.Rows L2 TCX
section
variable {P : Program} {w : World} {K : PySem.W.Frag} {mg : Str → Option Value} {base : Heap} {f : Addr} {fd : FuncData} {C fI fQ : Addr}
/-! ### root_of_factorials -/
def rootL (above below : List Nat) : List Part := [((rootE above below : Nat), Rat.divInt ((topE above below : Nat) : Int) ((botE above below : Nat) : Int))]
def spRootF (C : Addr) : Sp := fun vs H Q _ => ∃ (a b : Addr) (above below : List Nat), vs = [.ref a, .ref b] ∧ H a = some (.lst (natV above)) ∧ H b = some (.lst (natV below)) ∧ 0 < above.length ∧ above.length ≤ 50 ∧ below.length ≤ 50 ∧ (∀ n ∈ above, n < 123) ∧ (∀ n ∈ below, n < 123) ∧
  ∀ x H', Same H H' → H x = none → NumAt C H' x (rootL above below) → Q (.ref x) H'
abbrev nRootF : List Str := ["above", "below", "root", "top", "bottom", "prime", "power", "half", "turn"]
end
end TC
namespace TC
open PySem PySem.Spec PyProof.Rows L2 TCX
def canB (a b c : Int) : Bool := !decide ((a + b + c) % 2 = 1) && (decide (a ≤ b + c) && (decide (b ≤ a + c) && decide (c ≤ a + b)))
theorem canB_iff {a b c : Int} : canB a b c = true ↔ (a + b + c) % 2 = 0 ∧ a ≤ b + c ∧ b ≤ a + c ∧ c ≤ a + b := by
  unfold canB
  simp only [Bool.and_eq_true, Bool.not_eq_true', decide_eq_true_eq, decide_eq_false_iff_not]
  omega
/-- a size and an offset of it -/
structure PairP (t o : Int) : Prop where
  t0 : 0 ≤ t
  t1 : t ≤ 40
  lo : -t ≤ o
  hi : o ≤ t
  ev : (t - o) % 2 = 0
section
variable {X : Cx}
theorem iop_mulW : OpR X (inplaceOp .Mult) (rI CMulW fun i j => .int (i * j)) := opI fun _ _ _ _ _ _ _ hc q => imul_int q hc.ok
end
section
variable {P : Program} {w : World} {K : PySem.W.Frag} {mg : Str → Option Value} {base : Heap} {f : Addr} {fd : FuncData} {C fI fQ : Addr}
/-! ### can_join -/
def spCanJoin : Sp := fun vs H Q _ => ∃ a b c : Int, vs = [.int a, .int b, .int c] ∧ Q (.bl (canB a b c)) H
abbrev nCanJoin : List Str := ["one", "other", "third"]
/-! ### is_size, is_offset, need_sizes, need_pairs, of what is right -/
def spIsSize : Sp := fun vs H Q _ => ∃ n : Int, vs = [.int n] ∧ 0 ≤ n ∧ n ≤ 40 ∧ Q (.bl true) H
abbrev nIsSize : List Str := ["thing"]
def spIsOffset : Sp := fun vs H Q _ => ∃ t o : Int, vs = [.int o, .int t] ∧ PairP t o ∧ Q (.bl true) H
abbrev nIsOffset : List Str := ["thing", "size"]
def spNeedSizes : Sp := fun vs H Q _ => ∃ (l : Addr) (ns : List Int), vs = [.ref l] ∧ H l = some (.lst (ns.map V.int)) ∧ (∀ n ∈ ns, 0 ≤ n ∧ n ≤ 40) ∧ Q .non H
abbrev nNeedSizes : List Str := ["things", "thing"]
/-- pairs on the heap -/
def pairO (x : Int × Int) : HO := .tup [.int x.1, .int x.2]
def PrsAt (H : Hp) : List Addr → List (Int × Int) → Prop
  | [], [] => True
  | u :: us, x :: L => H u = some (pairO x) ∧ PrsAt H us L
  | _, _ => False
theorem PrsAt.get {H : Hp} : ∀ {us : List Addr} {L : List (Int × Int)} {i : Nat} {v : V}, PrsAt H us L → (us.map V.ref)[i]? = some v → ∃ u x, v = .ref u ∧ L[i]? = some x ∧ H u = some (pairO x)
  | [], [], i, v, _, z => by simp at z
  | u :: us, p :: ps, 0, v, h, z => ⟨u, p, (Option.some.inj z).symm, rfl, h.1⟩
  | u :: us, p :: ps, i + 1, v, h, z => by
    have z' : (us.map V.ref)[i]? = some v := z
    obtain ⟨u', p', a, b, c⟩ := PrsAt.get h.2 z'
    exact ⟨u', p', a, b, c⟩
  | [], _ :: _, _, _, h, _ => h.elim
  | _ :: _, [], _, _, h, _ => h.elim
theorem PrsAt.same {H H' : Hp} (s : Same H H') : ∀ {us : List Addr} {L : List (Int × Int)}, PrsAt H us L → PrsAt H' us L
  | [], [], _ => trivial
  | _ :: _, _ :: _, h => ⟨s _ _ h.1, PrsAt.same s h.2⟩
  | [], _ :: _, h => h.elim
  | _ :: _, [], h => h.elim
def spNeedPairs : Sp := fun vs H Q _ => ∃ (l : Addr) (us : List Addr) (L : List (Int × Int)), vs = [.ref l] ∧ H l = some (.lst (us.map V.ref)) ∧ PrsAt H us L ∧ (∀ x ∈ L, PairP x.1 x.2) ∧ ∀ H', Same H H' → Q .non H'
abbrev nNeedPairs : List Str := ["things", "thing", "size", "offset"]
end
end TC
namespace TCX
set_option exponentiation.threshold 20000
theorem fact_lt : ∀ n, n < 62 → factN n < 2 ^ 280 := by decide +kernel
def foldF (g : Int → Nat) (m : Nat) (l : List Int) : Nat := l.foldl (fun m x => m * factN (g x)) m
theorem foldF_snoc (g : Int → Nat) (m : Nat) (l : List Int) (x : Int) : foldF g m (l ++ [x]) = foldF g m l * factN (g x) := by
  unfold foldF
  rw [List.foldl_append]
  rfl
theorem foldF_lt {g : Int → Nat} : ∀ {l : List Int} {m B : Nat}, (∀ x ∈ l, g x < 62) → m < 2 ^ B → foldF g m l < 2 ^ (B + 280 * l.length)
  | [], m, B, _, hm => hm
  | x :: l, m, B, h, hm => by
    have h1 : m * factN (g x) < 2 ^ (B + 280) := by
      rw [Nat.pow_add]
      exact Nat.mul_lt_mul'' hm (fact_lt _ (h x (by simp)))
    have h2 := foldF_lt (l := l) (fun y hy => h y (List.mem_cons_of_mem _ hy)) h1
    show foldF g (m * factN (g x)) l < 2 ^ (B + 280 * (l.length + 1))
    rw [show B + 280 * (l.length + 1) = B + 280 + 280 * l.length by omega]
    exact h2
end TCX
namespace TC
set_option exponentiation.threshold 20000
open PySem PySem.Spec PyProof.Rows L2 TCX
theorem PrsAt.snoc {H : Hp} {u : Addr} {x : Int × Int} (hu : H u = some (pairO x)) : ∀ {us : List Addr} {L : List (Int × Int)}, PrsAt H us L → PrsAt H (us ++ [u]) (L ++ [x])
  | [], [], _ => ⟨hu, trivial⟩
  | _ :: _, _ :: _, h => ⟨h.1, PrsAt.snoc hu h.2⟩
  | [], _ :: _, h => h.elim
  | _ :: _, [], h => h.elim
theorem PrsAt.upd {H : Hp} {l : Addr} {o : HO} (hl : ∀ x, H l ≠ some (.tup x)) : ∀ {us : List Addr} {L : List (Int × Int)}, PrsAt H us L → PrsAt (L2.upd H l o) us L
  | [], [], _ => trivial
  | u :: us, p :: ps, h => ⟨by
    rw [upd_ne fun z => hl _ (by rw [← z]; exact h.1)]
    exact h.1, PrsAt.upd hl h.2⟩
  | [], _ :: _, h => h.elim
  | _ :: _, [], h => h.elim
theorem PrsAt.len {H : Hp} : ∀ {us : List Addr} {L : List (Int × Int)}, PrsAt H us L → us.length = L.length
  | [], [], _ => rfl
  | _ :: _, _ :: _, h => congrArg Nat.succ (PrsAt.len h.2)
  | [], _ :: _, h => h.elim
  | _ :: _, [], h => h.elim
theorem ints_at {l : List Int} {i : Nat} {x : V} (h : (l.map V.int)[i]? = some x) : ∃ n : Int, l[i]? = some n ∧ x = .int n := by
  rw [List.getElem?_map] at h
  cases e : l[i]? with
  | none =>
    rw [e] at h
    cases h
  | some n =>
    rw [e] at h
    exact ⟨n, rfl, (Option.some.inj h).symm⟩
theorem take_atI {l : List Int} {i : Nat} {n : Int} (h : l[i]? = some n) : l.take (i + 1) = l.take i ++ [n] := by
  rw [List.take_add_one, h]
  rfl
def factsL (n : Nat) : List V := (List.range (n + 1)).map fun m => V.int (factN m : Nat)
theorem facts_at {n : Nat} {i : Int} (h0 : 0 ≤ i) (h1 : i ≤ n) : atI (factsL n) i = some (.int (factN i.toNat : Nat)) := by
  refine at_of (j := i.toNat) (by omega) ?_
  unfold factsL
  rw [List.getElem?_map, List.getElem?_range (by omega)]
  rfl
/-- signs and bottoms -/
def tmL (A B C : Nat) (D E : Int) (lo n : Nat) : List (Int × Int) := (List.range n).map fun i => (sgK (lo + i), ((botK A B C D E (lo + i) : Nat) : Int))
theorem tmL_succ (A B C : Nat) (D E : Int) (lo n : Nat) : tmL A B C D E lo (n + 1) = tmL A B C D E lo n ++ [(sgK (lo + n), ((botK A B C D E (lo + n) : Nat) : Int))] := by
  unfold tmL
  rw [List.range_succ, List.map_append]
  rfl
section
variable {P : Program} {w : World} {K : PySem.W.Frag} {mg : Str → Option Value} {base : Heap} {f : Addr} {fd : FuncData} {C fI fQ : Addr}
/-! ### terms_of_joined -/
structure TmP (a u b v c : Int) (A B C : Nat) (D E : Int) (s : Nat) : Prop where
  eA : (a + b - c) / 2 = A
  eB : (a - u) / 2 = B
  eC : (b + v) / 2 = C
  eD : (c - b + u) / 2 = D
  eE : (c - a - v) / 2 = E
  eS : (a + b + c) / 2 = s
  lA : A ≤ s
  lB : B ≤ s
  lC : C ≤ s
  lD : B + D ≤ s
  lE : C + E ≤ s
  s1 : s < 62
def spTerms : Sp := fun vs H Q _ => ∃ (p1 p2 : Addr) (a u b v c : Int) (A B C : Nat) (D E : Int) (s : Nat), vs = [.ref p1, .ref p2, .int c] ∧ H p1 = some (pairO (a, u)) ∧ H p2 = some (pairO (b, v)) ∧ TmP a u b v c A B C D E s ∧
  ∀ (l : Addr) (us : List Addr) (lo hi : Int) H', Same H H' → H' l = some (.lst (us.map V.ref)) → 0 ≤ lo → (∀ k : Nat, okK A B C D E k = true ↔ lo ≤ k ∧ (k : Int) ≤ hi) → hi ≤ A → PrsAt H' us (tmL A B C D E lo.toNat (hi + 1 - lo).toNat) → Q (.ref l) H'
abbrev nTerms : List Str := ["one", "other", "c", "a", "u", "b", "v", "falling", "rising", "known", "terms", "k", "bottom", "number"]
end
end TC
namespace TC
open PySem PySem.Spec PyProof.Rows L2 TCA
section
variable {K : PySem.W.Frag} {x qual : Str} {params : Arguments} {body : List Stmt} {scope : Scope} {kws : List (Str × V)} {f : Addr} {fd : FuncData} {ps : List Str}
/-- a call with keywords of a def without other defaults -/
theorem kbinds0 (F : FunD K x qual params body scope [] kws f fd) (n : Nat) (ks : List Str) (ms : List (Str × V)) (g : {α : Type} → List α → List α → List α → List α) (hk : kws ≠ []) (hms : ∀ q ∈ ms, q ∈ kws)
    (hrel : ∀ {vs mz zs : List V} {us mv ws : List Value}, Vals vs us → Vals mz mv → Vals zs ws → Vals (g vs mz zs) (g us mv ws))
    (h : ∀ (D : Addr) (doc pm : Value) (an : Option Addr) (cdv ct : Value) (us mv ws : List Value), us.length = n → mv.length = ms.length → ws.length = ks.length →
      KwChain D ((ms.map (·.1)).zip mv) (bindArgs (PySem.W.fnOf x qual params body scope .none (.ref D) doc pm an cdv ct) ⟨us, ks.zip ws⟩) (ps.zip (g us mv ws))) :
    ∃ mv : List Value, KBn K fd ps n ks (fun us ws => g us mv ws) (fun vs zs => g vs (ms.map (·.2)) zs) := by
  obtain ⟨oc, od, dV, kV, doc, pm, an, cdv, ct, osl, rfl, lk, hcd, hD, hK⟩ := F.ex
  rcases hD with ⟨_, rfl⟩ | ⟨e, _⟩
  · rcases hK with e | ⟨D, rfl, hq⟩
    · exact absurd e hk
    · obtain ⟨mv, hl, rk, hks⟩ := kwd_vals (ms := ms) fun q hm => hq q (hms q hm)
      refine ⟨mv, ⟨fun s us ws X l1 l2 => ?_, fun r1 r2 => hrel r1 rk r2⟩⟩
      exact BindsTo.of_looks fun M => KwChain.looks X hks (h D doc pm an cdv ct us mv ws l1 hl l2)
  · exact absurd rfl e
end
theorem Vals.rev : ∀ {xs : List V} {us : List Value}, Vals xs us → Vals xs.reverse us.reverse
  | _, _, .nil => .nil
  | _, _, .cons r t => by
    rw [List.reverse_cons, List.reverse_cons]
    exact (Vals.rev t).append (.cons r .nil)
section
variable {K : PySem.W.Frag} {f : Addr} {fd : FuncData}
theorem bE0 (F : FnE K f fd) : ∃ ds, Vals [.int 1, .int 1] ds ∧ L2.Binds K fd psE ds :=
  F.binds0 1 (by intro z; cases z) rfl fun D doc pm an cdv ct us ks h1 h2 => match us, ks, h1, h2 with
    | [_], [_, _], _, _ => ⟨_, _, _, _, _, _, rfl, rfl, ⟨_, _, _, _, _, _, rfl, rfl, rfl⟩⟩
theorem bEbr (F : FnE K f fd) : ∃ mv : List Value, KBn K fd psE 1 ["bottom", "root"] (fun us ws => us ++ ws) (fun vs zs => vs ++ zs) := by
  obtain ⟨mv, h⟩ := kbinds0 F (ps := psE) 1 ["bottom", "root"] [] (fun us _ ws => us ++ ws) (by intro z; cases z) (fun q hq => by cases hq) (fun a _ c => a.append c) fun D doc pm an cdv ct us mv ws h1 h2 h3 => match us, mv, ws, h1, h2, h3 with
    | [_], [], [_, _], _, _, _ => rfl
  exact ⟨mv, h⟩
theorem bErb (F : FnE K f fd) : ∃ mv : List Value, KBn K fd psE 1 ["root", "bottom"] (fun us ws => us ++ ws.reverse) (fun vs zs => vs ++ zs.reverse) := by
  obtain ⟨mv, h⟩ := kbinds0 F (ps := psE) 1 ["root", "bottom"] [] (fun us _ ws => us ++ ws.reverse) (by intro z; cases z) (fun q hq => by cases hq) (fun a _ c => a.append (Vals.rev c)) fun D doc pm an cdv ct us mv ws h1 h2 h3 => match us, mv, ws, h1, h2, h3 with
    | [_], [], [_, _], _, _, _ => rfl
  exact ⟨mv, h⟩
end
theorem val_one (r s : Int) (q : Rat) : TCR.val [(r, q)] s = if s = r then q else 0 := by
  show (if r = s then q else 0) = _
  by_cases h : s = r
  · rw [if_pos h, if_pos h.symm]
  · rw [if_neg h, if_neg fun z => h z.symm]
theorem val_oneL (r t b s : Int) : TCR.val (oneL r t b) s = if s = r then Rat.divInt t b else 0 := by
  unfold oneL
  by_cases h : t = 0
  · rw [if_pos h, h, divInt_zero]
    split <;> rfl
  · rw [if_neg h, val_one]
theorem good_oneL {A : Nat} {r t b : Int} (hb : b ≠ 0) (h1 : t.natAbs < 2 ^ A) (h2 : b.natAbs < 2 ^ A) : Good A (oneL r t b) := by
  unfold oneL
  by_cases h : t = 0
  · rw [if_pos h]
    exact Good.nil
  · rw [if_neg h]
    exact ⟨TCR.canon_one (divInt_ne hb h), fun x hx => by
      rw [List.mem_singleton.mp hx]
      exact TCR.Sz.divInt hb h1 h2⟩
theorem len_oneL (r t b : Int) : (oneL r t b).length ≤ 1 := by
  unfold oneL
  split
  · exact Nat.zero_le _
  · exact Nat.le_refl _
theorem len_ex (t b r : Int) : (exL t b r).length ≤ 1 := len_oneL ..
theorem canon_oneL {r t b : Int} (hb : b ≠ 0) : TCR.Canon (oneL r t b) := by
  unfold oneL
  by_cases h : t = 0
  · rw [if_pos h]
    exact TCR.canon_nil
  · rw [if_neg h]
    exact TCR.canon_one (divInt_ne hb h)
section
variable {P : Program} {w : World} {K : PySem.W.Frag} {mg : Str → Option Value} {base : Heap} {f : Addr} {fd : FuncData} {C fI fQ : Addr}
/-! ### exact -/
def spExact (C : Addr) : Sp := fun vs H Q _ => ∃ (t b r : Int) (A : Nat), vs = [.int t, .int b, .int r] ∧ b ≠ 0 ∧ b.natAbs < 2 ^ A ∧ 0 < A ∧ A ≤ 8000 ∧ RootOk r ∧ ∀ x H', Same H H' → H x = none → NumAt C H' x (exL t b r) → Q (.ref x) H'
theorem scExact : FnScope ["top", "bottom", "root", "outside", "inside", "rest"] ["top", "bottom", "root"] (defScope sExact) := ⟨rfl, rfl, rfl, by decide +kernel, rfl, by decide +kernel, by decide +kernel⟩
theorem ok_exact {fW fSq fLw : Addr} {fdW fdSq fdLw : FuncData} {tH : Tok} (F : FnE K f fd) (GW : FnOk P w K mg base CX0 1 fW fdW ["thing"] spWhole) (bW : L2.Binds K fdW ["thing"] []) (kW : PySem.W.keepIn K (.ref fW) = true) (gW : mg "is_whole" = some (.ref fW))
    (GSq : FnOk P w K mg base CX0 1 fSq fdSq ["number"] spSquares) (bSq : L2.Binds K fdSq ["number"] []) (kSq : PySem.W.keepIn K (.ref fSq) = true) (gSq : mg "squares_out" = some (.ref fSq))
    (GLw : FnOk P w K mg base CX0 3 fLw fdLw ["tops", "bottom"] (spLowered C)) (bLw : L2.Binds K fdLw ["tops", "bottom"] []) (kLw : PySem.W.keepIn K (.ref fLw) = true) (gLw : mg "lowered" = some (.ref fLw))
    (gH : mg "HIGHEST_ROOT" = some (.int 1000000 tH)) : FnOk P w K mg base CX0 4 f fd psE (spExact C) := by
  refine F.ok scExact (fun vs H Q E h => ?_) (fun cdv A outer s H vs Q E hr h => ?_)
  · obtain ⟨t, b, r, _, rfl, _⟩ := h
    rfl
  · obtain ⟨t, b, r, A8, rfl, hb, hz, A0, A88, ⟨R0, R1, a1, a2, a3⟩, q⟩ := h
    have hr1 := hr.mono (j := 1) (by decide)
    refine ⟨_, PSs.nox (pss_cons (ps_if (pt_not (PW.pt (pw_and (pt_val (pe_call GW hr1 (by rfl) gW kW bW .nil pass0 (pa_cons (pv 0) pa_nil))) (pw_and (pt_val (pe_call GW hr1 (by rfl) gW kW bW .nil pass0 (pa_cons (pv 1) pa_nil))) (pw_and (pt_val (pe_call GW hr1 (by rfl) gW kW bW .nil pass0 (pa_cons (pv 2) pa_nil)))
        (pw_and1 (pt_chain op_le op_le pe_int (pv 2) (pe_glob (v := .int 1000000) (by rfl) gH ⟨_, rfl⟩)))))))) pss_never pss_nil)
      (pss_cons (ps_asg (pe_call GSq hr1 (by rfl) gSq kSq bSq .nil pass0 (pa_cons (pv 2) pa_nil)) (pg_tup rfl (pgs_cons (pg_name (i := 3) scExact.nd rfl (.inl rfl)) (pgs_cons (pg_name (i := 4) scExact.nd rfl (.inl rfl)) (pgs_cons (pg_name (i := 5) scExact.nd rfl (.inl rfl)) pgs_nil)))))
      (pss_cons (ps_if (pt_cmpR op_ne (pv 5) pe_int (nomark _)) pss_never pss_nil)
      (pss_cons (ps_if (pt_cmpR op_eq (pv 1) pe_int (nomark _)) pss_never pss_nil)
      (pss_one (ps_ret (pe_call GLw hr (by rfl) gLw kLw bLw .nil pass0 (pa_cons (pe_disp (pps_cons (pv 4) (pe_op op_mul (pv 0) (pv 3)) pps_nil) rfl rfl (by intro z; cases z) (by decide)) (pa_cons (pv 1) pa_nil))))))))), ?_⟩
    refine ⟨_, rfl, t, rfl, true, rfl, iteT ?_⟩
    refine ⟨_, rfl, b, rfl, true, rfl, iteT ?_⟩
    refine ⟨_, rfl, r, rfl, true, rfl, iteT ?_⟩
    refine ⟨_, rfl, 0, r, rfl, rfl, _, rfl, iteD1 R0 ?_⟩
    refine ⟨r, 1000000, rfl, rfl, _, rfl, iteNS R1 ?_⟩
    refine ⟨_, rfl, r, rfl, R0, R1, fun p H1 sm1 hp e1 => ?_⟩
    refine ⟨p, _, rfl, SqT.of e1, rfl, _, _, rfl, _, _, rfl, _, _, rfl, rfl, ?_⟩
    refine ⟨_, rfl, rfl, _, rfl, iteNS (congrArg V.int a1) ?_⟩
    refine ⟨_, rfl, rfl, _, rfl, iteD0 (ine hb) ?_⟩
    intro d hd
    refine ⟨_, rfl, _, rfl, _, rfl, t, _, rfl, rfl, .inr ⟨by omega, by omega⟩, upd_same, [(Sum.inl _, _)], rfl, by show 1 ≤ 15; decide, ?_⟩
    rw [upd_upd]
    have sm2 := same_upd (o := .dK (mergeK [] [((Sum.inl (TCM.sqOut r).2.1 : Key), V.int (t * (TCM.sqOut r).1))])) hd
    have hI : IntD (upd H1 d (.dK (mergeK [] [((Sum.inl (TCM.sqOut r).2.1 : Key), V.int (t * (TCM.sqOut r).1))]))) d [(TCM.sqOut r).2.1] (fun s => if s = (TCM.sqOut r).2.1 then t * (TCM.sqOut r).1 else 0) := by
      refine ⟨_, upd_same, rfl, fun s hs => ?_, by simp, fun s hs => if_neg fun z => hs (List.mem_singleton.mpr z)⟩
      rw [List.mem_singleton.mp hs]
      show valV [((Sum.inl (TCM.sqOut r).2.1 : Key), V.int (t * (TCM.sqOut r).1))] (Sum.inl (TCM.sqOut r).2.1) = some (V.int (if (TCM.sqOut r).2.1 = (TCM.sqOut r).2.1 then t * (TCM.sqOut r).1 else 0))
      rw [if_pos rfl]
      exact valV_pos rfl
    refine ⟨_, rfl, d, _, _, b, A8, rfl, hI, hb, hz, A0, A88, by show 1 ≤ 5000; decide, fun x N H' sm3 hx hN cN vN lN => ?_⟩
    have eN : N = exL t b r := TCR.canon_eq cN (canon_oneL hb) fun s => by
      rw [vN]
      unfold exL
      rw [val_oneL]
      split
      · rfl
      · exact divInt_zero b
    rw [eN] at hN
    exact q x H' ((sm1.trans sm2).trans sm3) ((sm1.trans sm2).free hx) hN
end
end TC
namespace TCX
set_option exponentiation.threshold 20000
theorem powP_le {e g : Nat → Nat} : ∀ {l : List Nat}, (∀ p ∈ l, IsP p) → (∀ p ∈ l, e p ≤ g p) → powP e l ≤ powP g l
  | [], _, _ => Nat.le_refl _
  | p :: l, hp, h => by
    have p1 := (hp p (by simp)).1
    exact Nat.mul_le_mul (Nat.pow_le_pow_right (by omega) (h p (by simp))) (powP_le (fun r hr => hp r (List.mem_cons_of_mem _ hr)) fun r hr => h r (List.mem_cons_of_mem _ hr))
theorem topE_le {above below : List Nat} (ha : ∀ n ∈ above, n < 123) : topE above below ≤ prodF above := by
  rw [prodF_leg ha]
  refine powP_le pr30_p fun p _ => ?_
  have e : expE above below p = (sumL above p : Int) - (sumL below p : Int) := rfl
  omega
theorem botE_le {above below : List Nat} (hb : ∀ n ∈ below, n < 123) : botE above below ≤ prodF below := by
  rw [prodF_leg hb]
  refine powP_le pr30_p fun p _ => ?_
  have e : expE above below p = (sumL above p : Int) - (sumL below p : Int) := rfl
  omega
theorem prodF_lt : ∀ {l : List Nat}, (∀ n ∈ l, n < 62) → prodF l < 2 ^ (280 * l.length + 1)
  | [], _ => by decide
  | n :: l, h => by
    have h1 := prodF_lt (l := l) fun m hm => h m (List.mem_cons_of_mem _ hm)
    show factN n * prodF l < 2 ^ (280 * (l.length + 1) + 1)
    rw [show 280 * (l.length + 1) + 1 = 280 + (280 * l.length + 1) by omega, Nat.pow_add]
    exact Nat.mul_lt_mul'' (fact_lt n (h n (by simp))) h1
theorem rootE_lt (above below : List Nat) : rootE above below < 2 ^ 200 := by
  have h1 : rootE above below ≤ powP (fun _ => 1) pr30 := by
    unfold rootE
    rw [pick_pow]
    exact powP_le pr30_p fun p _ => by split <;> omega
  exact Nat.lt_of_le_of_lt h1 (by decide +kernel)
theorem tmK_le (A B C : Nat) (D E : Int) (k : Nat) : (tmK A B C D E k).natAbs ≤ comK A B C D E := by
  unfold tmK
  split
  · rw [Int.natAbs_mul, Int.natAbs_natCast]
    have : (sgK k).natAbs = 1 := by
      unfold sgK
      split <;> rfl
    rw [this, Nat.one_mul]
    exact Nat.div_le_self _ _
  · exact Nat.zero_le _
theorem sumK_le {f : Nat → Int} {M : Nat} (h : ∀ i, (f i).natAbs ≤ M) : ∀ n, (sumK f n).natAbs ≤ n * M
  | 0 => Nat.zero_le _
  | n + 1 => by
    have h1 := sumK_le h n
    have h2 := h n
    rw [sumK_succ, Nat.add_mul, Nat.one_mul]
    omega
theorem comK_lt {A B C : Nat} {D E : Int} (h1 : A < 62) (h2 : B + D < 62) (h3 : C + E < 62) : comK A B C D E < 2 ^ 840 := by
  unfold comK
  have a1 := fact_lt A h1
  have a2 := fact_lt (B + D).toNat (by omega)
  have a3 := fact_lt (C + E).toNat (by omega)
  have z := Nat.mul_lt_mul'' (Nat.mul_lt_mul'' a1 a2) a3
  rw [← Nat.pow_add, ← Nat.pow_add] at z
  exact z
end TCX
namespace TC
set_option exponentiation.threshold 20000
open PySem PySem.Spec PyProof.Rows L2 TCX
def oneQ (r : Int) (q : Rat) : List Part := if q = 0 then [] else [(r, q)]
theorem val_oneQ (r : Int) (q : Rat) (s : Int) : TCR.val (oneQ r q) s = if s = r then q else 0 := by
  unfold oneQ
  by_cases h : q = 0
  · rw [if_pos h, h]
    split <;> rfl
  · rw [if_neg h, val_one]
theorem canon_oneQ (r : Int) (q : Rat) : TCR.Canon (oneQ r q) := by
  unfold oneQ
  split
  · exact TCR.canon_nil
  · exact TCR.canon_one (by assumption)
def jA (a b c : Int) : Nat := ((a + b - c) / 2).toNat
def jB (a u : Int) : Nat := ((a - u) / 2).toNat
def jC (b v : Int) : Nat := ((b + v) / 2).toNat
def jD (b u c : Int) : Int := (c - b + u) / 2
def jE (a v c : Int) : Int := (c - a - v) / 2
def jAb (a u b v c w : Int) : List Nat := [(c + 1).toNat, ((a + u) / 2).toNat, ((a - u) / 2).toNat, ((b + v) / 2).toNat, ((b - v) / 2).toNat, ((c + w) / 2).toNat, ((c - w) / 2).toNat]
def jBe (a b c : Int) : List Nat := [c.toNat, ((a + b + c) / 2 + 1).toNat, ((a + b - c) / 2).toNat, ((a - b + c) / 2).toNat, ((b - a + c) / 2).toNat]
def jT (a u b v c : Int) : Nat → Int := tmK (jA a b c) (jB a u) (jC b v) (jD b u c) (jE a v c)
def jCom (a u b v c : Int) : Nat := comK (jA a b c) (jB a u) (jC b v) (jD b u c) (jE a v c)
def jSum (a u b v c : Int) : Int := sumK (jT a u b v c) (jA a b c + 1)
def JoinP (a b c u v w : Int) : Prop := canB a b c = true ∧ u + v = w
instance (a b c u v w : Int) : Decidable (JoinP a b c u v w) := inferInstanceAs (Decidable (_ ∧ _))
def joinL (a u b v c w : Int) : List Part := if JoinP a b c u v w then oneQ ((rootE (jAb a u b v c w) (jBe a b c) : Nat) : Int) (Rat.divInt (jSum a u b v c) 1 * Rat.divInt ((topE (jAb a u b v c w) (jBe a b c) : Nat) : Int) ((botE (jAb a u b v c w) (jBe a b c) : Nat) : Int)) else []
theorem canon_joinL (a u b v c w : Int) : TCR.Canon (joinL a u b v c w) := by
  unfold joinL
  split
  · exact canon_oneQ _ _
  · exact TCR.canon_nil
section
variable {a u b v c w : Int}
theorem tmp_of (h1 : PairP a u) (h2 : PairP b v) (h3 : PairP c w) (j : JoinP a b c u v w) : TmP a u b v c (jA a b c) (jB a u) (jC b v) (jD b u c) (jE a v c) ((a + b + c) / 2).toNat := by
  obtain ⟨a0, a1, a2, a3, a4⟩ := h1
  obtain ⟨b0, b1, b2, b3, b4⟩ := h2
  obtain ⟨c0, c1, c2, c3, c4⟩ := h3
  obtain ⟨k1, k2, k3, k4⟩ := canB_iff.mp j.1
  have k5 := j.2
  unfold jA jB jC jD jE
  refine ⟨by omega, by omega, by omega, rfl, rfl, by omega, by omega, by omega, by omega, by omega, by omega, by omega⟩
theorem jAb_lt (h1 : PairP a u) (h2 : PairP b v) (h3 : PairP c w) : ∀ n ∈ jAb a u b v c w, n < 62 := by
  obtain ⟨a0, a1, a2, a3, a4⟩ := h1
  obtain ⟨b0, b1, b2, b3, b4⟩ := h2
  obtain ⟨c0, c1, c2, c3, c4⟩ := h3
  intro n hn
  unfold jAb at hn
  simp only [List.mem_cons, List.not_mem_nil, or_false] at hn
  omega
theorem jBe_lt (h1 : PairP a u) (h2 : PairP b v) (h3 : PairP c w) : ∀ n ∈ jBe a b c, n < 62 := by
  obtain ⟨a0, a1, a2, a3, a4⟩ := h1
  obtain ⟨b0, b1, b2, b3, b4⟩ := h2
  obtain ⟨c0, c1, c2, c3, c4⟩ := h3
  intro n hn
  unfold jBe at hn
  simp only [List.mem_cons, List.not_mem_nil, or_false] at hn
  omega
theorem jSum_lt (h1 : PairP a u) (h2 : PairP b v) (h3 : PairP c w) (j : JoinP a b c u v w) : (jSum a u b v c).natAbs < 2 ^ 900 := by
  have T := tmp_of h1 h2 h3 j
  have s1 := T.s1
  have cl := comK_lt (A := jA a b c) (B := jB a u) (C := jC b v) (D := jD b u c) (E := jE a v c) (by have := T.lA; omega) (by have := T.lD; omega) (by have := T.lE; omega)
  have z := sumK_le (f := jT a u b v c) (tmK_le _ _ _ _ _) (jA a b c + 1)
  refine Nat.lt_of_le_of_lt z ?_
  have y : jA a b c + 1 < 2 ^ 60 := Nat.lt_of_le_of_lt (show _ ≤ 62 by have := T.lA; omega) (by decide)
  have x := Nat.mul_lt_mul'' y cl
  rw [← Nat.pow_add] at x
  exact x
end
theorem root_ok1 : RootOk 1 := by
  unfold RootOk
  decide +kernel
theorem exL_one (t : Int) : exL t 1 1 = oneL 1 t 1 := by
  unfold exL
  rw [show TCM.sqOut 1 = (1, 1, 1) by decide +kernel, Int.mul_one]
theorem fit_abs {r t b : Nat} {A R : Nat} (r0 : 0 < r) (t0 : 0 < t) (b0 : 0 < b) (cp : Nat.Coprime t b) (tl : t < 2 ^ A) (rl : r < 2 ^ R) : Fit b A R [((r : Int), Rat.divInt (t : Int) (b : Int))] := by
  obtain ⟨c1, c2⟩ := rat_cop b0 cp
  refine ⟨TCR.canon_one (divInt_ne (by omega) (by omega)), fun x hx => ?_, fun x hx => ?_, fun x hx => ?_⟩
  · rw [List.mem_singleton.mp hx]
    show (Rat.divInt (t : Int) (b : Int)).den ∣ b
    rw [c2]
    exact Nat.dvd_refl _
  · rw [List.mem_singleton.mp hx]
    show (Rat.divInt (t : Int) (b : Int)).num.natAbs < 2 ^ A
    rw [c1, Int.natAbs_natCast]
    exact tl
  · rw [List.mem_singleton.mp hx]
    show 0 < (r : Int) ∧ (r : Int).natAbs < 2 ^ R
    exact ⟨by omega, by rw [Int.natAbs_natCast]; exact rl⟩
theorem fit_rootL {above below : List Nat} (la : ∀ n ∈ above, n < 62) (hl : above.length ≤ 7) : Fit (botE above below) 2000 200 (rootL above below) := by
  refine fit_abs (rootE_sqF above below).pos (topE_pos above below) (botE_pos above below) (topE_cop above below) ?_ (rootE_lt above below)
  exact Nat.lt_of_le_of_lt (topE_le fun n hn => by have := la n hn; omega) (Nat.lt_of_lt_of_le (prodF_lt la) (Nat.pow_le_pow_right (by decide) (by omega)))
theorem botE_lt {a u b v c w : Int} (h1 : PairP a u) (h2 : PairP b v) (h3 : PairP c w) : botE (jAb a u b v c w) (jBe a b c) < 2 ^ 1500 := by
  have lb := jBe_lt h1 h2 h3
  exact Nat.lt_of_le_of_lt (botE_le fun n hn => by have := lb n hn; omega) (Nat.lt_of_lt_of_le (prodF_lt lb) (Nat.pow_le_pow_right (by decide) (by rw [show (jBe a b c).length = 5 from rfl]; decide)))
theorem fit_one {t : Int} {A R : Nat} (ht : t.natAbs < 2 ^ A) (R0 : 1 < 2 ^ R) : Fit 1 A R (exL t 1 1) := by
  rw [exL_one]
  refine ⟨canon_oneL (by decide), ?_, ?_, ?_⟩ <;> unfold oneL <;> intro x hx <;> split at hx
  · cases hx
  · rw [List.mem_singleton.mp hx]
    exact den_divInt (c := 1) (by decide)
  · cases hx
  · rw [List.mem_singleton.mp hx]
    show (Rat.divInt t 1).num.natAbs < _
    have := (TCM.low_abs t 1 (by decide)).1
    rw [TCR.low_rat t 1 (by decide)] at this
    exact Nat.lt_of_le_of_lt this ht
  · cases hx
  · rw [List.mem_singleton.mp hx]
    exact ⟨by show (0 : Int) < 1; decide, R0⟩
/-- a root times a whole number -/
theorem times_one {r t : Int} {q : Rat} (hr : 0 < r) (hq : q ≠ 0) {N : List Part} (cN : TCR.Canon N) (hv : ∀ u, TCR.val N u = prodG ([((r, q) : Part)].map (·.1)) ((exL t 1 1).map (·.1)) (TCR.val [(r, q)]) (TCR.val (exL t 1 1)) u) : N = oneQ r (Rat.divInt t 1 * q) := by
  refine TCR.canon_eq cN (canon_oneQ _ _) fun u => ?_
  rw [hv u, val_oneQ, exL_one]
  unfold oneL
  by_cases ht : t = 0
  · rw [if_pos ht, ht, divInt_zero, prodG_zero _ _ _ (TCR.val []) u fun s => rfl]
    split <;> grind
  · rw [if_neg ht]
    have e : TCR.val [((1, Rat.divInt t 1) : Part)] = fun s => if s = 1 then Rat.divInt t 1 else 0 := funext fun s => val_one _ _ _
    rw [e]
    show prodG [r] [1] (TCR.val [(r, q)]) _ u = _
    rw [prodG_one (Rat.divInt t 1) ⟨by simp, fun s hs => ?_⟩ (fun s hs => by rw [List.mem_singleton.mp hs]; exact hr) u, val_one]
    · split <;> grind
    · rw [val_one] at hs
      exact List.mem_singleton.mpr (Classical.byContradiction fun z => hs (if_neg z))
end TC
namespace TC
open PySem PySem.Spec PyProof.Rows L2 TCA TCX
theorem dec_int (a b : Int) : decide (V.int a = V.int b) = decide (a = b) := by
  by_cases h : a = b
  · rw [h, decide_eq_true rfl, decide_eq_true rfl]
  · rw [decide_eq_false h, decide_eq_false fun z => h (V.int.inj z)]
theorem Same.but {H H' : Hp} {p : Addr} (s : Same H H') : SameBut p H H' := fun b o _ e => s b o e
theorem SameBut.trans {H H1 H2 : Hp} {p : Addr} (s : SameBut p H H1) (t : SameBut p H1 H2) : SameBut p H H2 := fun b o n e => t b o n (s b o n e)
theorem SameBut.refl {H : Hp} {p : Addr} : SameBut p H H := fun _ _ _ e => e
theorem SameBut.new {H H1 : Hp} {p q : Addr} {o : HO} (s : SameBut p H H1) (n : H1 q = none) : SameBut p H (upd H1 q o) := s.trans (Same.but (same_upd n))
theorem PenAt.same {H H' : Hp} {p c : Addr} {ms : List Int} {n : Int} (h : PenAt H p c ms n) (s : Same H H') : PenAt H' p c ms n := by
  obtain ⟨l, h1, h2, h3⟩ := h
  exact ⟨l, s _ _ h1, s _ _ h2, h3⟩
theorem PenAt.new {H : Hp} {p c q : Addr} {ms : List Int} {n : Int} {o : HO} (h : PenAt H p c ms n) (hq : H q = none) : PenAt (upd H q o) p c ms n := h.same (same_upd hq)
theorem PenAt.ne {H : Hp} {p c q : Addr} {ms : List Int} {n : Int} (h : PenAt H p c ms n) (hq : H q = none) : q ≠ p := by
  obtain ⟨l, h1, h2, h3⟩ := h
  exact fun e => by rw [e, h1] at hq; cases hq
end TC
namespace TC
open PySem PySem.Spec PyProof.Rows L2 TCA TCX
section
variable {P : Program} {w : World} {K : PySem.W.Frag} {mg : Str → Option Value} {base : Heap} {f fD : Addr} {fd fdD : FuncData}
/-! ### _law_size -/
theorem at4 {a b c d : V} {i : Int} (h0 : 0 ≤ i) (h1 : i < 4) : atI [a, b, c, d] i = some ([a, b, c, d].getD i.toNat a) := by
  have : i = 0 ∨ i = 1 ∨ i = 2 ∨ i = 3 := by omega
  rcases this with rfl | rfl | rfl | rfl <;> exact atI_nat rfl
/-! ### _law_fits -/
def fitsB (a b c : Int) : Bool := decide ((a + b + c) % 2 = 0) && (decide (c ≤ a + b) && (decide (a ≤ b + c) && decide (b ≤ a + c)))
def spFits : Sp := fun vs H Q _ => ∃ a b c : Int, vs = [.int a, .int b, .int c] ∧ Q (.bl (fitsB a b c)) H
end
end TC
namespace TC
open PySem PySem.Spec PyProof.Rows L2 TCA TCX
section
variable {P : Program} {w : World} {K : PySem.W.Frag} {mg : Str → Option Value} {base : Heap} {f fD fF : Addr} {fd fdD fdF : FuncData}
/-! ### _law_third -/
/-- the whole numbers from 0 to k - 1 that fit -/
def fitL (a b : Int) (k : Nat) : List Int := ((List.range k).map fun i => (0 : Int) + (i : Nat)).filter (fitsB a b)
theorem fitL_succ (a b : Int) (k : Nat) : fitL a b (k + 1) = fitL a b k ++ (if fitsB a b (0 + (k : Nat)) = true then [0 + ((k : Nat) : Int)] else []) := by
  unfold fitL
  rw [List.range_succ, List.map_append, List.filter_append]
  congr 1
  show List.filter (fitsB a b) [0 + ((k : Nat) : Int)] = _
  by_cases h : fitsB a b (0 + (k : Nat)) = true
  · rw [if_pos h, List.filter_cons_of_pos h]
    rfl
  · rw [if_neg h, List.filter_cons_of_neg h]
    rfl
theorem fitL_len (a b : Int) (k : Nat) : (fitL a b k).length ≤ k := by
  unfold fitL
  refine Nat.le_trans (List.length_filter_le _ _) ?_
  rw [List.length_map, List.length_range]
  exact Nat.le_refl _
theorem fitL_mem {a b : Int} {k : Nat} {c : Int} : c ∈ fitL a b k ↔ 0 ≤ c ∧ c < k ∧ fitsB a b c = true := by
  unfold fitL
  rw [List.mem_filter, List.mem_map]
  constructor
  · rintro ⟨⟨i, hi, rfl⟩, h⟩
    have := List.mem_range.mp hi
    exact ⟨by omega, by omega, h⟩
  · rintro ⟨h0, h1, h2⟩
    exact ⟨⟨c.toNat, List.mem_range.mpr (by omega), by omega⟩, h2⟩
def thirdL (a b h : Int) : List Int := fitL a b (h + 1).toNat ++ (if (if a - b < 0 then -(a - b) else a - b) > h then [h] else [])
theorem thirdL_ne {a b h : Int} (ha : 0 ≤ a) (hb : 0 ≤ b) (hh : 0 ≤ h) : 0 < (thirdL a b h).length := by
  unfold thirdL
  by_cases z : (if a - b < 0 then -(a - b) else a - b) > h
  · rw [if_pos z, List.length_append]
    show 0 < _ + 1
    omega
  · rw [if_neg z, List.append_nil]
    refine List.length_pos_of_mem (a := if a - b < 0 then -(a - b) else a - b) (fitL_mem.mpr ⟨?_, ?_, ?_⟩)
    · split <;> omega
    · split at z <;> split <;> omega
    · unfold fitsB
      have e : ∀ c : Int, (c = a - b ∨ c = b - a) → 0 ≤ c → (decide ((a + b + c) % 2 = 0) && (decide (c ≤ a + b) && (decide (a ≤ b + c) && decide (b ≤ a + c)))) = true := fun c hc h0 => by
        rw [decide_eq_true (by omega), decide_eq_true (by omega), decide_eq_true (by omega), decide_eq_true (by omega)]
        rfl
      split
      · exact e _ (by omega) (by omega)
      · exact e _ (by omega) (by omega)
def spThird : Sp := fun vs H Q _ => ∃ (p c : Addr) (ms : List Int) (n a b h : Int), vs = [.ref p, .int a, .int b, .int h] ∧ PenAt H p c ms n ∧ 0 ≤ n ∧ n ≤ 900000 ∧ 0 ≤ a ∧ 0 ≤ b ∧ 0 ≤ h ∧ h ≤ 1000 ∧
  ∀ (d n' : Int) H', d ∈ thirdL a b h → n ≤ n' → n' ≤ n + 1 → PenAt H' p c ms n' → SameBut p H H' → Q (.int d) H'
abbrev nThird : List Str := ["_law_pen_here", "_law_a", "_law_b", "_law_high", "_law_some", "_law_c"]
end
end TC
namespace TC
open PySem PySem.Spec PyProof.Rows L2 TCA TCX
theorem fits_iff {a b c : Int} : fitsB a b c = true ↔ (a + b + c) % 2 = 0 ∧ c ≤ a + b ∧ a ≤ b + c ∧ b ≤ a + c := by
  unfold fitsB
  simp only [Bool.and_eq_true, decide_eq_true_eq]
theorem third_fits {a b h d : Int} (a0 : 0 ≤ a) (a1 : a ≤ h) (b0 : 0 ≤ b) (b1 : b ≤ h) (hd : d ∈ thirdL a b h) : 0 ≤ d ∧ d ≤ h ∧ fitsB a b d = true := by
  unfold thirdL at hd
  have n : ¬ (if a - b < 0 then -(a - b) else a - b) > h := by
    split <;> omega
  rw [if_neg n, List.append_nil] at hd
  obtain ⟨h0, h1, h2⟩ := fitL_mem.mp hd
  exact ⟨h0, by omega, h2⟩
theorem lt_1000 {m : Int} (h : m ≤ 1000) : m < 2 ^ 1000 := Int.lt_of_le_of_lt h (by decide +kernel)
section
variable {P : Program} {w : World} {K : PySem.W.Frag} {mg : Str → Option Value} {base : Heap} {f fD fT fZ fP fS : Addr} {fd fdD fdT fdZ fdP fdS : FuncData}
end
end TC
namespace TC
open PySem PySem.Spec PyProof.Rows L2 TCA
theorem add_frac (p u : Rat) : Rat.divInt (p.num * (u.den : Int) + u.num * (p.den : Int)) ((p.den : Int) * (u.den : Int)) = p + u := by
  have h1 : (p.den : Int) ≠ 0 := by
    have := p.den_pos
    omega
  have h2 : (u.den : Int) ≠ 0 := by
    have := u.den_pos
    omega
  have z := Rat.divInt_add_divInt p.num u.num h1 h2
  rw [Rat.num_divInt_den, Rat.num_divInt_den] at z
  exact z.symm
theorem neg_frac (p : Rat) : Rat.divInt (p.num * -1) ((p.den : Int) * 1) = -p := by
  have z := Rat.num_divInt_den (-p)
  rw [Rat.neg_num, Rat.neg_den] at z
  rw [← z, Int.mul_one]
  congr 1
  omega
theorem natabs_mul_lt {i j : Int} {A B : Nat} (h1 : i.natAbs < 2 ^ A) (h2 : j.natAbs < 2 ^ B) : (i * j).natAbs < 2 ^ (A + B) := wide_lt h1 h2
theorem lowL_fra {t b : Int} {q : Rat} (hb : b ≠ 0) (e : Rat.divInt t b = q) : (HO.tup [.int (TCM.lowL t b).1, .int (TCM.lowL t b).2]) = fraV q := by
  rw [TCR.lowL_rat t b hb, e]
  rfl
set_option exponentiation.threshold 2000 in
theorem lt1000 {n : Int} {A : Nat} (h : n.natAbs < 2 ^ A) (hA : A ≤ 1000) : n.natAbs < 2 ^ 1000 := Nat.lt_of_lt_of_le h (Nat.pow_le_pow_right (by decide) hA)
section
variable {P : Program} {w : World} {K : PySem.W.Frag} {mg : Str → Option Value} {base : Heap} {f : Addr} {fd : FuncData} {C fI fQ : Addr}
/-! ### _law_sum -/
def spSum : Sp := fun vs H Q _ => ∃ (d1 d2 : Addr) (k1 k2 : List Int) (g1 g2 : Int → Rat) (A B : Nat), vs = [.ref d1, .ref d2] ∧ DictAt H d1 k1 g1 ∧ DictAt H d2 k2 g2 ∧ (∀ r, TCR.Sz A (g1 r)) ∧ (∀ r, TCR.Sz B (g2 r)) ∧ 0 < A ∧ 0 < B ∧ A + B ≤ 8000 ∧ k1.length + k2.length ≤ 900 ∧
  ∀ d' ks' H', Same H H' → H d' = none → DictAt H' d' ks' (fun r => g1 r + g2 r) → Clear ks' (fun r => g1 r + g2 r) → ks'.length ≤ k1.length + k2.length → (∀ r ∈ ks', r ∈ k1 ∨ r ∈ k2) → Q (.ref d') H'
theorem scSum : FnScope ["_law_one", "_law_other", "_law_found", "_law_r", "_law_p", "_law_q", "_law_u", "_law_v"] ["_law_one", "_law_other"] (defScope sSum) := ⟨rfl, rfl, rfl, by decide +kernel, rfl, by decide +kernel, by decide +kernel⟩
theorem ok_sum {fL fC : Addr} {fdL fdC : FuncData} (F : FnP K "_law_sum" sSum f fd) (GL : FnOk P w K mg base CX0 1 fL fdL ["_law_up", "_law_under"] spLowL) (bL : L2.Binds K fdL ["_law_up", "_law_under"] []) (kL : PySem.W.keepIn K (.ref fL) = true) (gL : mg "_law_low" = some (.ref fL))
    (GC : FnOk P w K mg base CX0 1 fC fdC ["_law_some_here"] spCleared) (bC : L2.Binds K fdC ["_law_some_here"] []) (kC : PySem.W.keepIn K (.ref fC) = true) (gC : mg "_law_cleared" = some (.ref fC)) (gd : mg "dict" = none) : FnOk P w K mg base CX0 2 f fd ["_law_one", "_law_other"] spSum := by
  refine F.ok scSum (fun vs H Q E h => ?_) (fun cdv Ar outer s H vs Q E hr h => ?_)
  · obtain ⟨d1, d2, k1, k2, g1, g2, A, B, rfl, _⟩ := h
    rfl
  · obtain ⟨d1, d2, k1, k2, g1, g2, A, B, rfl, h1, h2, z1, z2, A0, B0, AB, len, q⟩ := h
    have hu := hu_of hr
    refine ⟨_, PSs.nox (pss_cons (ps_set (i := 2) scSum.nd rfl (.inl rfl) (pe_callTy call_dictD (by rfl) gd (by decide +kernel) (pa_cons (pv 0) pa_nil)))
      (pss_cons (ps_lock (ps_for PassesOwn.never rfl (pi_keys (pv 1)) (pg_name (i := 3) scSum.nd rfl (.inl rfl))
        (pss_cons (ps_asg (pe_tup (pa_cons (pe_dget2 hu (pv 2) (pv 3) (pe_tup (pa_cons pe_int (pa_cons pe_int pa_nil))) ⟨rfl, rfl, rfl, rfl⟩) (pa_cons (pe_dget hu (pv 1) (pv 3) (fun _ _ => rfl)) pa_nil)))
            (pg_tup rfl (pgs_cons (pg_tup rfl (pgs_cons (pg_name (i := 4) scSum.nd rfl (.inl rfl)) (pgs_cons (pg_name (i := 5) scSum.nd rfl (.inl rfl)) pgs_nil))) (pgs_cons (pg_tup rfl (pgs_cons (pg_name (i := 6) scSum.nd rfl (.inl rfl)) (pgs_cons (pg_name (i := 7) scSum.nd rfl (.inl rfl)) pgs_nil))) pgs_nil))))
        (pss_one (ps_dput hu (pv 2) (pv 3) (pe_call GL hr (by rfl) gL kL bL .nil pass0 (pa_cons (pe_op op_add (pe_op op_mulW (pv 4) (pv 7)) (pe_op op_mulW (pv 6) (pv 5))) (pa_cons (pe_op op_mulW (pv 5) (pv 7)) pa_nil))) rfl)))))
      (pss_one (ps_ret (pe_call GC hr (by rfl) gC kC bC .nil pass0 (pa_cons (pv 2) pa_nil)))))), ?_⟩
    obtain ⟨kv1, a1, a2, a3, a4, a5⟩ := id h1
    obtain ⟨kv2, b1, b2, b3, b4, b5⟩ := id h2
    refine ⟨_, rfl, d1, kv1, rfl, .inl a1, fun p hp => ?_⟩
    have smp := same_upd (o := .dK kv1) hp
    have npd : p ≠ d2 := (ne_of_none b1 hp).symm
    refine ⟨d2, .dK kv2, smp _ _ b1, trivial, fun od => ?_⟩
    refine ⟨_, rfl, d2, od, rfl, .inl ⟨kv2, upd_same, ?_⟩⟩
    have nud : ∀ {u : Addr} {q : Rat}, H u = some (fraV q) → u ≠ d2 := fun {u q} hu z => by
      rw [z, b1] at hu
      cases hu
    refine for_it (walk_keys (d := d2) (o := od) (kvs := kv2)) (fun i σ H' => ∃ (v3 v4 v5 v6 v7 : Option V) (ks' : List Int), σ = [some (.ref d1), some (.ref d2), some (.ref p), v3, v4, v5, v6, v7] ∧ H' d2 = some (.frz od (.dK kv2)) ∧ (∀ b o, H b = some o → b ≠ d2 → H' b = some o) ∧
        DictAt H' p ks' (fun r => g1 r + if r ∈ k2.take i then g2 r else 0) ∧ ks'.length ≤ k1.length + i ∧ (∀ r ∈ ks', r ∈ k1 ∨ r ∈ k2))
      ⟨none, none, none, none, none, k1, rfl, upd_same, fun b o e hb => by rw [upd_ne hb]; exact smp _ _ e, ?_, Nat.le_refl _, fun r hr => .inl hr⟩ (fun i σ H' _ hP => ?_) (fun i x σ H' H2 hi hP hy => ?_) (fun σ H' hP => ?_)
    · refine ⟨kv1, by rw [upd_ne npd, upd_same], a2, fun r hr => ?_, a4, fun r hr => ?_⟩
      · obtain ⟨u, a, b⟩ := a3 r hr
        refine ⟨u, a, ?_⟩
        rw [upd_ne (nud b), smp _ _ b]
        show some (fraV (g1 r)) = some (fraV (g1 r + if r ∈ k2.take 0 then g2 r else 0))
        rw [List.take_zero, if_neg (by simp)]
        congr 2
        grind
      · show g1 r + (if r ∈ k2.take 0 then g2 r else 0) = 0
        rw [a5 r hr, List.take_zero, if_neg (by simp)]
        grind
    · obtain ⟨_, _, _, _, _, _, _, z, _⟩ := hP
      exact z
    · obtain ⟨rfl, k, v, hkv, rfl⟩ := hy
      obtain ⟨v3, v4, v5, v6, v7, ks', rfl, hfz, keep, hp', l', sub⟩ := hP
      obtain ⟨r, hr', rfl⟩ := key_at b2 hkv
      have rk : r ∈ k2 := List.mem_of_getElem? hr'
      have rnt : r ∉ k2.take i := nd_not_take b4 hr'
      have il : i < k2.length := (List.getElem?_eq_some_iff.mp hr').1
      obtain ⟨u, ua, ub⟩ := b3 r rk
      have bu := keep _ _ ub (nud ub)
      have eg : (fun r => g1 r + if r ∈ k2.take i then g2 r else 0) r = g1 r := by
        show g1 r + (if r ∈ k2.take i then g2 r else 0) = g1 r
        rw [if_neg rnt]
        grind
      -- what stands in found, or (0, 1)
      obtain ⟨kvp, p1, p2, p3, p4, p5⟩ := id hp'
      refine ⟨_, rfl, p, rfl, .inl ⟨_, .inl p1⟩, _, rfl, by show 2 ≤ sizeLine; decide, fun c0 hc0 => ?_⟩
      have sm0 := same_upd (o := .tup [.int 0, .int 1]) hc0
      have got : ∃ (o : Option V) (u0 : Addr), DGet (upd H2 c0 (.tup [.int 0, .int 1])) p (.int r) o ∧ o.getD (.ref c0) = .ref u0 ∧ (upd H2 c0 (.tup [.int 0, .int 1])) u0 = some (fraV (g1 r)) := by
        by_cases hk : r ∈ ks'
        · obtain ⟨u0, x1, x2⟩ := p3 r hk
          rw [eg] at x2
          exact ⟨some (.ref u0), u0, dget_in (sm0 _ _ p1) x1, rfl, sm0 _ _ x2⟩
        · have e0 : g1 r = 0 := eg.symm.trans (p5 r hk)
          exact ⟨none, c0, dget_out (sm0 _ _ p1) (valV_out p2 hk), rfl, by rw [upd_same, e0]; rfl⟩
      obtain ⟨o, u0, dg, eo, hu0⟩ := got
      refine ⟨o, dg, ?_⟩
      rw [eo]
      refine ⟨_, rfl, _, rfl, d2, _, rfl, dget_rd (.inr ⟨od, sm0 _ _ hfz⟩) ua, by show 2 ≤ sizeLine; decide, fun c1 hc1 => ?_⟩
      have sm1 := same_upd (o := .tup [.ref u0, .ref u]) hc1
      refine ⟨c1, _, rfl, SqT.of upd_same, rfl, _, _, rfl, u0, _, rfl, SqT.of (sm1 _ _ hu0), rfl, _, _, rfl, _, _, rfl, rfl, _, _, rfl, u, _, rfl, SqT.of (sm1 _ _ (sm0 _ _ bu)), rfl, _, _, rfl, _, _, rfl, rfl, rfl, ?_⟩
      have y1 := z1 r
      have y2 := z2 r
      have dn1 : ((g1 r).den : Int).natAbs < 2 ^ A := by rw [Int.natAbs_natCast]; exact y1.2
      have dn2 : ((g2 r).den : Int).natAbs < 2 ^ B := by rw [Int.natAbs_natCast]; exact y2.2
      have bne : ((g1 r).den : Int) * ((g2 r).den : Int) ≠ 0 := by
        have e1 := (g1 r).den_pos
        have e2 := (g2 r).den_pos
        exact Int.mul_ne_zero (by omega) (by omega)
      refine ⟨_, rfl, _, rfl, (g1 r).num, ((g2 r).den : Int), rfl, rfl, cmulw y1.1 dn2 A0 B0 (by omega), _, rfl, _, rfl, (g2 r).num, ((g1 r).den : Int), rfl, rfl, cmulw y2.1 dn1 B0 A0 (by omega), _, _, rfl, rfl, _, rfl, _, rfl, ((g1 r).den : Int), ((g2 r).den : Int), rfl, rfl, cmulw dn1 dn2 A0 B0 (by omega), ?_⟩
      refine ⟨_, _, A + B, rfl, bne, natabs_mul_lt dn1 dn2, by omega, by omega, fun c2 hc2 => ?_⟩
      rw [lowL_fra bne (add_frac (g1 r) (g2 r))]
      have sm2 := same_upd (o := fraV (g1 r + g2 r)) hc2
      have smA := (sm0.trans sm1).trans sm2
      obtain ⟨kvq, q1, q2, q3, q4, q5⟩ := hp'.same smA
      refine ⟨_, rfl, _, rfl, p, _, rfl, DPut.k (k := Sum.inl r) q1 (small1000 (by rw [len_keys q2]; omega)), ?_⟩
      refine ⟨_, _, _, _, _, addKey ks' r, rfl, by rw [upd_ne npd.symm]; exact smA _ _ hfz, fun b o e hb => ?_, ?_, Nat.le_trans (addKey_len ks' r) (by omega), fun s hs => ?_⟩
      · rw [upd_ne (ne_of_none e hp)]
        exact smA _ _ (keep b o e hb)
      · refine (put_ok (r := r) (q := g1 r + g2 r) q1 q2 q3 q4 q5 upd_same).imp fun s => ?_
        unfold setF
        by_cases es : s = r
        · rw [if_pos es, es, if_pos ((mem_take_succ hr').mpr (.inr rfl))]
        · rw [if_neg es]
          have em : (s ∈ k2.take (i + 1)) ↔ s ∈ k2.take i := ⟨fun m => ((mem_take_succ hr').mp m).resolve_right es, fun m => (mem_take_succ hr').mpr (.inl m)⟩
          show g1 s + (if s ∈ k2.take i then g2 s else 0) = g1 s + (if s ∈ k2.take (i + 1) then g2 s else 0)
          by_cases m : s ∈ k2.take i
          · rw [if_pos m, if_pos (em.mpr m)]
          · rw [if_neg m, if_neg fun z => m (em.mp z)]
      · rcases mem_addKey.mp hs with m | m
        · exact sub s m
        · rw [m]
          exact .inr rk
    · obtain ⟨v3, v4, v5, v6, v7, ks', rfl, hfz, keep, hp', l', sub⟩ := hP
      have lk := len_keys b2
      refine ⟨hfz, ?_⟩
      have smf : Same H (upd H' d2 (.dK kv2)) := fun b o e => by
        by_cases hb : b = d2
        · rw [hb, upd_same]
          rw [hb, b1] at e
          exact e
        · rw [upd_ne hb]
          exact keep b o e hb
      have hpf : DictAt (upd H' d2 (.dK kv2)) p ks' (fun r => g1 r + g2 r) := by
        obtain ⟨kvq, f1, f2, f3, f4, f5⟩ := hp'
        have eq : ∀ r, g1 r + (if r ∈ k2.take kv2.length then g2 r else 0) = g1 r + g2 r := fun r => by
          rw [lk, List.take_length]
          by_cases m : r ∈ k2
          · rw [if_pos m]
          · rw [if_neg m, b5 r m]
        refine DictAt.imp ⟨kvq, by rw [upd_ne npd]; exact f1, f2, fun r hr => ?_, f4, f5⟩ eq
        obtain ⟨u2, c1, c2⟩ := f3 r hr
        refine ⟨u2, c1, ?_⟩
        rw [upd_ne fun z => by
          rw [z, hfz] at c2
          cases c2]
        exact c2
      refine ⟨_, rfl, p, ks', _, rfl, hpf, by omega, fun d' ks2 H2 sm2 hd' hD cl l2 sub2 => ?_⟩
      exact q d' ks2 H2 (smf.trans sm2) (smf.free hd') hD cl (by omega) fun r hr => sub r (sub2 r hr)
end
end TC
namespace TC
open PySem PySem.Spec PyProof.Rows L2 TCA
/-! ### the roots that are drawn -/
def menu : List Int := [1, 2, 3, 5, 6, 7, 10, 15, 30, 42, 2310, 997, 1982, 13]
def roots16 : List Int := [1, 2, 3, 5, 6, 7, 10, 15, 30, 42, 2310, 997, 1982, 13, 1, 1]
theorem menu_of : ∀ v ∈ roots16, v ∈ menu := by decide
theorem menu_sq : ∀ r ∈ menu, TCM.sqOut r = (1, r, 1) := by decide +kernel
theorem menu_ok : ∀ r ∈ menu, RootOk r ∧ RootOk (r + 3) := by
  unfold RootOk
  decide +kernel
theorem ok_one : RootOk 1 := (menu_ok 1 (by decide)).1
theorem ex_menu {t b r : Int} (h : r ∈ menu) : exL t b r = oneL r t b := by
  unfold exL
  rw [menu_sq r h, Int.mul_one]
theorem val_ex {t b r : Int} (h : r ∈ menu) (s : Int) : TCR.val (exL t b r) s = if s = r then Rat.divInt t b else 0 := by rw [ex_menu h, val_oneL]
theorem good_ex {A : Nat} {t b r : Int} (hr : RootOk r) (hb : b ≠ 0) (h1 : t.natAbs < 2 ^ A) (h2 : b.natAbs < 2 ^ A) : Good (A + 10) (exL t b r) := by
  obtain ⟨_, _, _, a2, a3⟩ := hr
  refine good_oneL hb ?_ (Nat.lt_of_lt_of_le h2 (Nat.pow_le_pow_right (by decide) (by omega)))
  exact natabs_mul_lt h1 (Nat.lt_of_le_of_lt (show (TCM.sqOut r).1.natAbs ≤ 1000 by omega) (by decide))
theorem ex_nil (b r : Int) : exL 0 b r = [] := by
  unfold exL oneL
  rw [Int.zero_mul, if_pos rfl]
/-! ### what stays through a drawing -/
theorem pen_ne {H : Hp} {p c b : Addr} {ms : List Int} {n : Int} {o : HO} (h : PenAt H p c ms n) (e : H b = some o) (ho : ∀ xs, o ≠ .lst xs) : b ≠ p := fun z => by
  obtain ⟨left, h1, _⟩ := h
  rw [z, h1] at e
  exact ho _ (Option.some.inj e).symm
theorem DictAt.but {H H' : Hp} {p c d : Addr} {ms : List Int} {n : Int} {ks : List Int} {g : Int → Rat} (sb : SameBut p H H') (hp : PenAt H p c ms n) (h : DictAt H d ks g) : DictAt H' d ks g := by
  obtain ⟨kvs, h1, h2, h3, h4, h5⟩ := h
  refine ⟨kvs, sb _ _ (pen_ne hp h1 fun xs e => by cases e) h1, h2, fun r hr => ?_, h4, h5⟩
  obtain ⟨u, u1, u2⟩ := h3 r hr
  exact ⟨u, u1, sb _ _ (pen_ne hp u2 fun xs e => by cases e) u2⟩
theorem Refs.but {H H' : Hp} {p c : Addr} {ms : List Int} {n : Int} (sb : SameBut p H H') (hp : PenAt H p c ms n) : ∀ {us : List Addr} {L : List Part}, Refs H us L → Refs H' us L
  | [], [], _ => trivial
  | _ :: _, _ :: _, h => ⟨sb _ _ (pen_ne hp h.1 fun xs e => by cases e) h.1, Refs.but sb hp h.2⟩
  | [], _ :: _, h => h
  | _ :: _, [], h => h
theorem NumAt.but {C : Addr} {H H' : Hp} {p c x : Addr} {ms : List Int} {n : Int} {L : List Part} (sb : SameBut p H H') (hp : PenAt H p c ms n) (h : NumAt C H x L) : NumAt C H' x L := by
  obtain ⟨dx, q, h1, us, h2, h3⟩ := h
  exact ⟨dx, q, sb _ _ (pen_ne hp h1 fun xs e => by cases e) h1, us, sb _ _ (pen_ne hp h2 fun xs e => by cases e) h2, h3.but sb hp⟩
theorem but_of {p : Addr} {H H' : Hp} (s : Same H H') : SameBut p H H' := fun b o _ e => s b o e
theorem free_but {p c d : Addr} {ms : List Int} {n : Int} {H H' : Hp} (sb : SameBut p H H') (hp : PenAt H' p c ms n) (h : H' d = none) : H d = none := by
  cases e : H d with
  | none => rfl
  | some o =>
    exfalso
    by_cases z : d = p
    · obtain ⟨left, h1, _⟩ := hp
      rw [z, h1] at h
      cases h
    · rw [sb d o z e] at h
      cases h
/-- a number and the dict of it -/
structure Two (C : Addr) (A m B : Nat) (d x : Addr) (ks : List Int) (L : List Part) (H : Hp) : Prop where
  dict : DictAt H d ks (TCR.val L)
  clr : Clear ks (TCR.val L)
  num : NumAt C H x L
  good : Good A L
  len : L.length ≤ m
  klen : ks.length ≤ m
  men : ∀ r ∈ ks, r ∈ menu
  dd : ∃ D : Nat, 0 < D ∧ D < 2 ^ B ∧ ∀ r, (TCR.val L r).den ∣ D
theorem Two.same {C : Addr} {A m B : Nat} {d x : Addr} {ks : List Int} {L : List Part} {H H' : Hp} (s : Same H H') (h : Two C A m B d x ks L H) : Two C A m B d x ks L H' := ⟨h.dict.same s, h.clr, h.num.same s, h.good, h.len, h.klen, h.men, h.dd⟩
theorem Two.but {C : Addr} {A m B : Nat} {d x : Addr} {ks : List Int} {L : List Part} {H H' : Hp} {p c : Addr} {ms : List Int} {n : Int} (sb : SameBut p H H') (hp : PenAt H p c ms n) (h : Two C A m B d x ks L H) : Two C A m B d x ks L H' := ⟨h.dict.but sb hp, h.clr, h.num.but sb hp, h.good, h.len, h.klen, h.men, h.dd⟩
theorem Two.mono {C : Addr} {A A' m B B' : Nat} {d x : Addr} {ks : List Int} {L : List Part} {H : Hp} (h : Two C A m B d x ks L H) (l : A ≤ A') (lb : B ≤ B') {j : Nat} (hj : m ≤ j) : Two C A' j B' d x ks L H := by
  obtain ⟨D, d1, d2, d3⟩ := h.dd
  exact ⟨h.dict, h.clr, h.num, h.good.mono l, Nat.le_trans h.len hj, Nat.le_trans h.klen hj, h.men, D, d1, Nat.lt_of_lt_of_le d2 (Nat.pow_le_pow_right (by decide) lb), d3⟩
theorem den_add (p q : Rat) : (p + q).den ∣ p.den * q.den := by
  rw [← add_frac p q, ← Int.natCast_mul]
  exact den_divInt (Nat.mul_pos p.den_pos q.den_pos)
theorem pick (vs : List Int) {d : Int} (h0 : 0 ≤ d) (h1 : d < vs.length) : ∃ v, v ∈ vs ∧ atI (vs.map V.int) d = some (.int v) := by
  have hk : d.toNat < vs.length := by omega
  exact ⟨vs[d.toNat], List.getElem_mem hk, at_of (j := d.toNat) (by omega) (by rw [List.getElem?_map, List.getElem?_eq_getElem hk]; rfl)⟩
theorem far_ok : ∀ v ∈ ([9, 100, 10 ^ 12] : List Int), 1 ≤ v ∧ v ≤ 10 ^ 12 := by decide
section
variable {P : Program} {w : World} {K : PySem.W.Frag} {mg : Str → Option Value} {base : Heap} {f : Addr} {fd : FuncData} {C fI fQ : Addr}
/-! ### _law_some -/
def spSome (C : Addr) : Sp := fun vs H Q _ => ∃ (p c : Addr) (ms : List Int) (n : Int) (m : Nat), vs = [.ref p, .int (m : Int)] ∧ m ≤ 6 ∧ PenAt H p c ms n ∧ 0 ≤ n ∧ n ≤ 900000 ∧
  ∀ (v d x : Addr) (ks : List Int) (L : List Part) (n' : Int) H', n ≤ n' → n' ≤ n + 31 → PenAt H' p c ms n' → SameBut p H H' → H d = none → H' v = some (.tup [.ref d, .ref x]) → Two C (41 * m + 1) m (40 * m + 1) d x ks L H' → Q (.ref v) H'
theorem scSome : FnScope ["_law_pen_here", "_law_many", "_law_roots", "_law_some_here", "_law_number", "_law_k", "_law_far", "_law_up", "_law_under", "_law_r"] ["_law_pen_here", "_law_many"] (defScope sSome) := ⟨rfl, rfl, rfl, by decide +kernel, rfl, by decide +kernel, by decide +kernel⟩
/-- all that _law_some asks of the others -/
structure All8 (P : Program) (w : World) (K : PySem.W.Frag) (mg : Str → Option Value) (base : Heap) (C fE fA fD fL fC fS : Addr) (fdE fdA fdD fdL fdC fdS : FuncData) : Prop where
  FE : FnE K fE fdE
  GE : FnOk P w K mg base CX0 4 fE fdE psE (spExact C)
  gE : mg "exact" = some (.ref fE)
  GA : FnOk P w K mg base CX0 4 fA fdA ["one", "other"] (spPlus C)
  bA : L2.Binds K fdA ["one", "other"] []
  kA : PySem.W.keepIn K (.ref fA) = true
  gA : mg "plus" = some (.ref fA)
  GD : FnOk P w K mg base CX0 1 fD fdD ["_law_pen_here", "_law_many"] spDraw
  bD : L2.Binds K fdD ["_law_pen_here", "_law_many"] []
  kD : PySem.W.keepIn K (.ref fD) = true
  gD : mg "_law_draw" = some (.ref fD)
  GL : FnOk P w K mg base CX0 1 fL fdL ["_law_up", "_law_under"] spLowL
  bL : L2.Binds K fdL ["_law_up", "_law_under"] []
  kL : PySem.W.keepIn K (.ref fL) = true
  gL : mg "_law_low" = some (.ref fL)
  GC : FnOk P w K mg base CX0 1 fC fdC ["_law_some_here"] spCleared
  bC : L2.Binds K fdC ["_law_some_here"] []
  kC : PySem.W.keepIn K (.ref fC) = true
  gC : mg "_law_cleared" = some (.ref fC)
  GS : FnOk P w K mg base CX0 2 fS fdS ["_law_one", "_law_other"] spSum
  bS : L2.Binds K fdS ["_law_one", "_law_other"] []
  kS : PySem.W.keepIn K (.ref fS) = true
  gS : mg "_law_sum" = some (.ref fS)
  gR : mg "range" = none
set_option exponentiation.threshold 2000 in
theorem lt40 {i : Int} (h : i.natAbs ≤ 10 ^ 12) : i.natAbs < 2 ^ 40 := Nat.lt_of_le_of_lt h (by decide)
set_option exponentiation.threshold 2000 in
theorem lt40k {i : Int} (h : i.natAbs < 2 ^ 40) : i.natAbs < 2 ^ 1000 := lt1000 h (by decide)
set_option exponentiation.threshold 2000 in
set_option maxHeartbeats 0 in
theorem ok_some {fE fA fD fL fC fS : Addr} {fdE fdA fdD fdL fdC fdS : FuncData} (F : FnP K "_law_some" sSome f fd) (Z : All8 P w K mg base C fE fA fD fL fC fS fdE fdA fdD fdL fdC fdS) : FnOk P w K mg base CX0 5 f fd ["_law_pen_here", "_law_many"] (spSome C) := by
  obtain ⟨FE, GE, gE, GA, bA, kA, gA, GD, bD, kD, gD, GL, bL, kL, gL, GC, bC, kC, gC, GS, bS, kS, gS, gR⟩ := Z
  obtain ⟨dsE, vE, bE⟩ := bE0 FE
  obtain ⟨mv1, kb1⟩ := bEbr FE
  obtain ⟨mv2, kb2⟩ := bErb FE
  refine F.ok scSome (fun vs H Q E h => ?_) (fun cdv Ar outer s H vs Q E hr h => ?_)
  · obtain ⟨p, c, ms, n, m, rfl, _⟩ := h
    rfl
  · obtain ⟨p, c, ms, n, m, rfl, m6, pen, n0, n9, q⟩ := h
    have hr1 := hr.mono (j := 1) (by decide)
    have hr2 := hr.mono (j := 2) (by decide)
    refine ⟨_, PSs.nox (pss_cons (ps_set (i := 2) scSome.nd rfl (.inl rfl) (pe_lst (pa_cons pe_int (pa_cons pe_int (pa_cons pe_int (pa_cons pe_int (pa_cons pe_int (pa_cons pe_int (pa_cons pe_int (pa_cons pe_int (pa_cons pe_int (pa_cons pe_int
          (pa_cons (pe_op op_mul (pe_op op_mul (pe_op op_mul (pe_op op_mul pe_int pe_int) pe_int) pe_int) pe_int) (pa_cons pe_int (pa_cons (pe_op op_mul pe_int pe_int) (pa_cons pe_int (pa_cons pe_int (pa_cons pe_int pa_nil))))))))))))))))))
      (pss_cons (ps_par (i := 3) (j := 4) rfl scSome.nd rfl rfl (by decide) rfl rfl (pa_cons pe_dnewK (pa_cons (pe_call GE hr (by rfl) gE FE.kp bE vE pass0 (pa_cons pe_int pa_nil)) pa_nil)) (by rfl))
      (pss_cons (ps_for PassesOwn.never rfl (pi_range1 (by rfl) gR (pa_cons (pe_call GD hr1 (by rfl) gD kD bD .nil pass0 (pa_cons (pv 0) (pa_cons (pe_op op_add (pv 1) pe_int) pa_nil))) pa_nil)) (pg_name (i := 5) scSome.nd rfl (.inl rfl))
        (C8.pss_cut (ps_set (i := 6) scSome.nd rfl (.inl rfl) (pe_ix ix_list (pe_lst (pa_cons pe_int (pa_cons pe_int (pa_cons (pe_op op_pow pe_int pe_int) pa_nil)))) (pe_call GD hr1 (by rfl) gD kD bD .nil pass0 (pa_cons (pv 0) (pa_cons pe_int pa_nil))) (fun _ _ => rfl)))
        (C8.pss_cut (ps_par (i := 7) (j := 8) rfl scSome.nd rfl rfl (by decide) rfl rfl
            (pa_cons (pe_op op_sub (pe_call GD hr1 (by rfl) gD kD bD .nil pass0 (pa_cons (pv 0) (pa_cons (pe_op op_add (pe_op op_mul pe_int (pv 6)) pe_int) pa_nil))) (pv 6))
            (pa_cons (pe_op op_add pe_int (pe_call GD hr1 (by rfl) gD kD bD .nil pass0 (pa_cons (pv 0) (pa_cons (pv 6) pa_nil)))) pa_nil)) (by rfl))
        (C8.pss_cut (ps_set (i := 9) scSome.nd rfl (.inl rfl) (pe_ix ix_list (pv 2) (pe_call GD hr1 (by rfl) gD kD bD .nil pass0 (pa_cons (pv 0) (pa_cons pe_int pa_nil))) (fun _ _ => rfl)))
        (C8.pss_cut (ps_set (i := 3) scSome.nd rfl (.inl rfl) (pe_call GS hr2 (by rfl) gS kS bS .nil pass0 (pa_cons (pv 3) (pa_cons (pe_call GC hr1 (by rfl) gC kC bC .nil pass0 (pa_cons
            (pe_disp (pps_cons (pv 9) (pe_call GL hr1 (by rfl) gL kL bL .nil pass0 (pa_cons (pv 7) (pa_cons (pv 8) pa_nil))) pps_nil) rfl rfl (by intro z; cases z) (by decide)) pa_nil)) pa_nil))))
        (pss_one (ps_set (i := 4) scSome.nd rfl (.inl rfl) (pe_ix ix_list (pe_lst (pa_cons
            (pe_call GA hr (by rfl) gA kA bA .nil pass0 (pa_cons (pv 4) (pa_cons (pe_callN GE hr (by rfl) gE FE.kp kb1 pass0 (pa_cons (pv 7) pa_nil) (pk_cons (pv 8) (pk_cons (pv 9) pk_nil))) pa_nil)))
            (pa_cons (pe_call GA hr (by rfl) gA kA bA .nil pass0 (pa_cons (pe_callN GE hr (by rfl) gE FE.kp kb2 pass0 (pa_cons (pv 7) pa_nil) (pk_cons (pv 9) (pk_cons (pv 8) pk_nil))) (pa_cons (pv 4) pa_nil))) pa_nil)))
            (pe_op op_mod (pv 5) pe_int) (fun _ _ => rfl)))))))))
      (pss_one (ps_ret (pe_tup (pa_cons (pv 3) (pa_cons (pv 4) pa_nil)))))))), ?_⟩
    -- roots
    refine ⟨2, 3, rfl, rfl, .inl ⟨by decide, by decide⟩, _, 5, rfl, rfl, .inl ⟨by decide, by decide⟩, _, 7, rfl, rfl, .inl ⟨by decide, by decide⟩, _, 11, rfl, rfl, .inl ⟨by decide, by decide⟩, 991, 2, rfl, rfl, .inl ⟨by decide, by decide⟩, by show 16 ≤ sizeLine; decide, fun rl hrl => ?_⟩
    have sm1 := same_upd (o := .lst (roots16.map V.int)) hrl
    have hlp : rl ≠ p := by
      obtain ⟨_, z, _⟩ := pen
      exact (ne_of_none z hrl).symm
    -- {}, exact(0)
    intro d0 hd0
    have sm2 := same_upd (o := .dK []) hd0
    refine ⟨0, 1, 1, 40, rfl, by decide, by decide, by decide, by decide, ok_one, fun x0 H1 sm3 hx0 e0 => ?_⟩
    rw [ex_nil] at e0
    have smA := (sm1.trans sm2).trans sm3
    have hd1 : H1 d0 = some (.dK []) := sm3 _ _ upd_same
    have hl1 : H1 rl = some (.lst (roots16.map V.int)) := sm3 _ _ (sm2 _ _ upd_same)
    have two0 : Two C 1 0 1 d0 x0 [] [] H1 := ⟨⟨[], hd1, rfl, (fun r hr => by cases hr), List.nodup_nil, fun r _ => rfl⟩, (fun r hr => by cases hr), e0, Good.nil, Nat.le_refl _, Nat.le_refl _, (fun r hr => by cases hr), 1, by decide, by decide, fun r => Nat.one_dvd _⟩
    have hd0n : H d0 = none := sm1.free hd0
    -- range
    refine ⟨_, _, rfl, _, rfl, _, rfl, (m : Int), 1, rfl, rfl, p, c, ms, n, (m : Int) + 1, rfl, pen.same smA, n0, by omega, by omega, Int.lt_of_lt_of_le (show (m : Int) + 1 < 100 by omega) (by decide +kernel), fun e n1 H2 e0 e1 m0 m1 pen1 sb1 => ?_⟩
    have two1 := two0.but sb1 (pen.same smA)
    have hl2 := sb1 _ _ hlp hl1
    have sbB := SameBut.trans (but_of smA) sb1
    refine ⟨e, rfl, by omega, by omega, ?_⟩
    refine for_range (n := e.toNat) (fun i σ H' => ∃ (v5 v6 v7 v8 v9 : Option V) (d x : Addr) (ks : List Int) (L : List Part) (n' : Int), σ = [some (.ref p), some (.int (m : Int)), some (.ref rl), some (.ref d), some (.ref x), v5, v6, v7, v8, v9] ∧ n ≤ n' ∧ n' ≤ n + 1 + 4 * i ∧ PenAt H' p c ms n' ∧ SameBut p H H' ∧ H' rl = some (.lst (roots16.map V.int)) ∧ H d = none ∧ Two C (41 * i + 1) i (40 * i + 1) d x ks L H')
      ⟨none, none, none, none, none, d0, x0, [], [], n1, rfl, m0, by omega, pen1, sbB, hl2, hd0n, two1⟩ (fun i σ H' hi hP => ?_) (fun σ H' hP => ?_)
    · obtain ⟨v5, v6, v7, v8, v9, d, x, ks, L, n2, rfl, a0, a1, pen2, sb2, hl3, hdn, two⟩ := hP
      have hi6 : i < 6 := by omega
      -- far
      refine ⟨fun σ H3 => ∃ (far n3 : Int), σ = [some (.ref p), some (.int (m : Int)), some (.ref rl), some (.ref d), some (.ref x), some (.int (0 + (i : Nat))), some (.int far), v7, v8, v9] ∧ 1 ≤ far ∧ far ≤ 10 ^ 12 ∧ n ≤ n3 ∧ n3 ≤ n + 1 + 4 * i + 1 ∧ PenAt H3 p c ms n3 ∧ SameBut p H H3 ∧ H3 rl = some (.lst (roots16.map V.int)) ∧ Two C (41 * i + 1) i (40 * i + 1) d x ks L H3, ?_, fun σ' H3 hM => ?_⟩
      · refine ⟨10, 12, rfl, rfl, ⟨by decide, by decide, by decide⟩, by show 3 ≤ sizeLine; decide, fun l hl => ?_⟩
        have sml := same_upd (o := .lst [.int 9, .int 100, .int (10 ^ 12)]) hl
        refine ⟨_, rfl, p, c, ms, n2, 3, rfl, pen2.same sml, by omega, by omega, by decide, by decide, fun dd n3 H3 dd0 dd1 nn0 nn1 pen3 sb => ?_⟩
        obtain ⟨v, hv, ev⟩ := pick [9, 100, 10 ^ 12] dd0 dd1
        obtain ⟨f1, f2⟩ := far_ok v hv
        have hlp2 : l ≠ p := by
          obtain ⟨_, z, _⟩ := pen2
          exact (ne_of_none z hl).symm
        exact ⟨l, _, dd, _, rfl, rfl, SqL.of (sb l _ hlp2 upd_same), ev, v, n3, rfl, f1, f2, by omega, by omega, pen3, sb2.trans (SameBut.trans (but_of sml) sb), sb _ _ hlp (sml _ _ hl3), (two.same sml).but sb (pen2.same sml)⟩
      obtain ⟨far, n3, rfl, f1, f2, a2, a3, pen3, sb3, hl4, two3⟩ := hM
      -- up, under
      refine ⟨fun σ H4 => ∃ (up un n4 : Int), σ = [some (.ref p), some (.int (m : Int)), some (.ref rl), some (.ref d), some (.ref x), some (.int (0 + (i : Nat))), some (.int far), some (.int up), some (.int un), v9] ∧ up.natAbs ≤ 10 ^ 12 ∧ un.natAbs ≤ 10 ^ 12 ∧ 0 < un ∧ n ≤ n4 ∧ n4 ≤ n + 1 + 4 * i + 3 ∧ PenAt H4 p c ms n4 ∧ SameBut p H H4 ∧ H4 rl = some (.lst (roots16.map V.int)) ∧ Two C (41 * i + 1) i (40 * i + 1) d x ks L H4, ?_, fun σ' H4 hM => ?_⟩
      · have fb : 2 * far + 1 < 2 ^ 1000 := by
          have z := lt40k (lt40 (i := far) (by omega))
          have z2 : (10 : Int) ^ 12 * 2 + 1 < 2 ^ 300 := by decide
          have z3 : (2 : Int) ^ 300 ≤ 2 ^ 1000 := by decide +kernel
          omega
        refine ⟨_, rfl, _, rfl, 2, far, rfl, rfl, .inl ⟨by decide, by decide⟩, _, 1, rfl, rfl, p, c, ms, n3, _, rfl, pen3, by omega, by omega, by show 0 < 2 * far + 1; omega, fb, fun d1 n4 H4 dd0 dd1 nn0 nn1 pen4 sb4 => ?_⟩
        refine ⟨_, rfl, d1, far, rfl, rfl, ?_⟩
        refine ⟨_, rfl, _, rfl, p, c, ms, n4, far, rfl, pen4, by omega, by omega, by omega, by omega, fun d2 n5 H5 dd0' dd1' nn0' nn1' pen5 sb5 => ?_⟩
        refine ⟨1, d2, rfl, rfl, _, _, rfl, d1 - far, 1 + d2, n5, rfl, by omega, by omega, by omega, by omega, by omega, pen5, (sb3.trans sb4).trans sb5, sb5 _ _ hlp (sb4 _ _ hlp hl4), (two3.but sb4 pen3).but sb5 pen4⟩
      obtain ⟨up, un, n4, rfl, u1, u2, upos, a4, a5, pen4, sb4, hl5, two4⟩ := hM
      have u0 : un ≠ 0 := by omega
      -- r
      refine ⟨fun σ H5 => ∃ (r n5 : Int), σ = [some (.ref p), some (.int (m : Int)), some (.ref rl), some (.ref d), some (.ref x), some (.int (0 + (i : Nat))), some (.int far), some (.int up), some (.int un), some (.int r)] ∧ r ∈ menu ∧ n ≤ n5 ∧ n5 ≤ n + 1 + 4 * i + 4 ∧ PenAt H5 p c ms n5 ∧ SameBut p H H5 ∧ H5 rl = some (.lst (roots16.map V.int)) ∧ Two C (41 * i + 1) i (40 * i + 1) d x ks L H5, ?_, fun σ' H5 hM => ?_⟩
      · refine ⟨_, rfl, _, rfl, p, c, ms, n4, 16, rfl, pen4, by omega, by omega, by decide, by decide, fun dd n5 H5 dd0 dd1 nn0 nn1 pen5 sb => ?_⟩
        obtain ⟨v, hv, ev⟩ := pick roots16 dd0 dd1
        exact ⟨rl, _, dd, _, rfl, rfl, SqL.of (sb rl _ hlp hl5), ev, v, n5, rfl, menu_of v hv, by omega, by omega, pen5, sb4.trans sb, sb _ _ hlp hl5, two4.but sb pen4⟩
      obtain ⟨r, n5, rfl, hr5, a6, a7, pen5, sb5, hl6, two5⟩ := hM
      have zu := lt40 u1
      have zn := lt40 u2
      -- some_here
      refine ⟨fun σ H6 => ∃ (d' : Addr) (ks' : List Int), σ = [some (.ref p), some (.int (m : Int)), some (.ref rl), some (.ref d'), some (.ref x), some (.int (0 + (i : Nat))), some (.int far), some (.int up), some (.int un), some (.int r)] ∧ Same H5 H6 ∧ H d' = none ∧ DictAt H6 d' ks' (fun s => TCR.val L s + TCR.val (exL up un r) s) ∧ Clear ks' (fun s => TCR.val L s + TCR.val (exL up un r) s) ∧ ks'.length ≤ i + 1 ∧ (∀ s ∈ ks', s ∈ menu), ?_, fun σ' H6 hM => ?_⟩
      · refine ⟨_, rfl, ?_⟩
        intro dp hdp
        have s1 := same_upd (o := .dK []) hdp
        refine ⟨_, rfl, _, rfl, _, rfl, up, un, 40, rfl, u0, zn, by decide, by decide, fun u hu => ?_⟩
        rw [lowL_fra u0 rfl]
        have s2 := same_upd (o := fraV (Rat.divInt up un)) hu
        have nu : u ≠ dp := fun z => by
          rw [z, upd_same] at hu
          cases hu
        refine ⟨s2 _ _ upd_same, [(Sum.inl r, .ref u)], rfl, by show 1 ≤ 15; decide, ?_⟩
        have s3 : Same H5 (upd (upd (upd H5 dp (.dK [])) u (fraV (Rat.divInt up un))) dp (.dK (mergeK [] [((Sum.inl r : Key), V.ref u)]))) := same_at (s1.trans s2) hdp
        have hD : DictAt (upd (upd (upd H5 dp (.dK [])) u (fraV (Rat.divInt up un))) dp (.dK (mergeK [] [((Sum.inl r : Key), V.ref u)]))) dp [r] (TCR.val (exL up un r)) := by
          refine ⟨_, upd_same, rfl, fun s hs => ?_, by simp, fun s hs => ?_⟩
          · rw [List.mem_singleton.mp hs, val_ex hr5, if_pos rfl]
            refine ⟨u, ?_, by rw [upd_ne nu]; exact upd_same⟩
            show valV [((Sum.inl r : Key), V.ref u)] (Sum.inl r) = some (.ref u)
            simp [valV]
          · rw [val_ex hr5, if_neg fun z => hs (List.mem_singleton.mpr z)]
        refine ⟨dp, [r], _, rfl, hD, by show 1 ≤ 900; decide, fun d2 k2 H6 s4 hd2 hD2 cl2 l2 sub2 => ?_⟩
        have s5 := s3.trans s4
        have ge : Good 50 (exL up un r) := good_ex (menu_ok r hr5).1 u0 zu zn
        have gez : ∀ s, TCR.Sz 40 (TCR.val (exL up un r) s) := fun s => by
          rw [val_ex hr5]
          split
          · exact TCR.Sz.divInt u0 zu zn
          · exact TCR.Sz.zero (by decide)
        refine ⟨d, d2, ks, k2, TCR.val L, TCR.val (exL up un r), 41 * i + 1, 40, rfl, two5.dict.same s5, hD2, fun s => two5.good.val (by omega) s, gez, by omega, by decide, by omega, ?_, fun d3 k3 H7 s6 hd3 hD3 cl3 l3 sub3 => ?_⟩
        · have z1 := two5.klen
          have z2 : k2.length ≤ 1 := l2
          omega
        · have z1 := two5.klen
          have z2 : k2.length ≤ 1 := l2
          refine ⟨d3, k3, rfl, s5.trans s6, free_but sb5 pen5 ((s5.free hd3)), hD3, cl3, by omega, fun s hs => ?_⟩
          rcases sub3 s hs with m | m
          · exact two5.men s m
          · rw [List.mem_singleton.mp (sub2 s m)]
            exact hr5
      obtain ⟨d', ks', rfl, s6, hdn6, hD6, cl6, l6, men6⟩ := hM
      -- number
      have ge : Good 40 (exL up un r) := by
        rw [ex_menu hr5]
        exact good_oneL u0 zu zn
      have n6 := two5.num.same s6
      have le := len_ex up un r
      have ll := two5.len
      refine ⟨_, rfl, _, rfl, _, rfl, _, rfl, rfl, rfl, up, un, r, 40, rfl, u0, zn, by decide, by decide, (menu_ok r hr5).1, fun x1 H7 s7 hx1 e1 => ?_⟩
      refine ⟨x, x1, L, exL up un r, 41 * i + 1, 40, rfl, n6.same s7, e1, two5.good, ge, by omega, by decide, by omega, by omega, fun z1 N1 H8 s8 hz1 hN1 gN1 vN1 lN1 => ?_⟩
      refine ⟨_, rfl, _, rfl, _, rfl, rfl, rfl, up, un, r, 40, rfl, u0, zn, by decide, by decide, (menu_ok r hr5).1, fun x2 H9 s9 hx2 e2 => ?_⟩
      refine ⟨_, rfl, x2, x, exL up un r, L, 40, 41 * i + 1, rfl, e2, ((n6.same s7).same s8).same s9, ge, two5.good, by decide, by omega, by omega, by omega, fun z2 N2 H10 s10 hz2 hN2 gN2 vN2 lN2 => ?_⟩
      refine ⟨by show 2 ≤ sizeLine; decide, fun l hl => ?_⟩
      have s11 := same_upd (o := .lst [.ref z1, .ref z2]) hl
      have sAll := (((s7.trans s8).trans s9).trans s10).trans s11
      have dAll := hD6.same sAll
      have dd6 : ∀ N : List Part, (∀ s, TCR.val N s = TCR.val L s + TCR.val (exL up un r) s) → ∃ D : Nat, 0 < D ∧ D < 2 ^ (40 * (i + 1) + 1) ∧ ∀ s, (TCR.val N s).den ∣ D := fun N hv => by
        obtain ⟨D, x1, x2, x3⟩ := two5.dd
        refine ⟨D * un.natAbs, Nat.mul_pos x1 (by omega), ?_, fun s => ?_⟩
        · have e : 40 * (i + 1) + 1 = (40 * i + 1) + 40 := by omega
          rw [e, Nat.pow_add]
          exact Nat.mul_lt_mul'' x2 zn
        · rw [hv s]
          refine Nat.dvd_trans (den_add _ _) (Nat.mul_dvd_mul (x3 s) ?_)
          rw [val_ex hr5]
          split
          · have e : un = ((un.natAbs : Nat) : Int) := by omega
            rw [e, Int.natAbs_natCast]
            exact den_divInt (by omega)
          · exact Nat.one_dvd _
      have fin : ∀ (z : Addr) (N : List Part), NumAt C (upd H10 l (.lst [.ref z1, .ref z2])) z N → Good (41 * (i + 1) + 1) N → (∀ s, TCR.val N s = TCR.val L s + TCR.val (exL up un r) s) → N.length ≤ i + 1 → Two C (41 * (i + 1) + 1) (i + 1) (40 * (i + 1) + 1) d' z ks' N (upd H10 l (.lst [.ref z1, .ref z2])) := fun z N h1 h2 h3 h4 =>
        ⟨dAll.imp fun s => (h3 s).symm, fun s hs => by rw [h3 s]; exact cl6 s hs, h1, h2, h4, l6, men6, dd6 N h3⟩
      refine ⟨_, rfl, _, 2, rfl, rfl, by show (0 : Int) < 2; decide, ?_⟩
      have penF := (pen5.same s6).same sAll
      have sbF := sb5.trans (but_of (s6.trans sAll))
      have hlF := sAll _ _ (s6 _ _ hl6)
      rcases (show (0 + ((i : Nat) : Int)) % 2 = 0 ∨ (0 + ((i : Nat) : Int)) % 2 = 1 by omega) with e2 | e2
      · exact ⟨l, [.ref z1, .ref z2], (0 + ((i : Nat) : Int)) % 2, _, rfl, rfl, SqL.of upd_same, (by rw [e2]; exact atI_nat (j := 0) rfl), _, _, _, _, _, d', z1, ks', N1, n5, rfl, a6, by omega, penF, sbF, hlF, hdn6, fin z1 N1 (((hN1.same s9).same s10).same s11) (gN1.mono (by omega)) vN1 (by omega)⟩
      · exact ⟨l, [.ref z1, .ref z2], (0 + ((i : Nat) : Int)) % 2, _, rfl, rfl, SqL.of upd_same, (by rw [e2]; exact atI_nat (j := 1) rfl), _, _, _, _, _, d', z2, ks', N2, n5, rfl, a6, by omega, penF, sbF, hlF, hdn6, fin z2 N2 (hN2.same s11) (gN2.mono (by omega)) (fun s => by rw [vN2, Rat.add_comm]) (by omega)⟩
    · obtain ⟨v5, v6, v7, v8, v9, d, x, ks, L, n2, rfl, a0, a1, pen2, sb2, hl3, hdn, two⟩ := hP
      refine ⟨_, rfl, _, rfl, by show 2 ≤ sizeLine; decide, fun v hv => ?_⟩
      have sv := same_upd (o := .tup [.ref d, .ref x]) hv
      have ei : e.toNat ≤ m := by omega
      exact q v d x ks L n2 _ a0 (by omega) (pen2.same sv) (sb2.trans (but_of sv)) hdn upd_same ((two.same sv).mono (by omega) (by omega) ei)
end
end TC
/-! Sums of roots, built up root by root: no such sum but 0 is 0 (pure). -/
namespace QF
open Lean.Grind
/-- a + b times the root of p -/
structure Q2 (α : Type) (p : α) where
  a : α
  b : α
section
variable {α : Type} [CommRing α] {p : α}
def nc (α : Type) [CommRing α] (n : Nat) : α := (Semiring.natCast (α := α)).natCast n
def ic (α : Type) [CommRing α] (n : Int) : α := (Ring.intCast (α := α)).intCast n
theorem Q2.ext' {x y : Q2 α p} (h1 : x.a = y.a) (h2 : x.b = y.b) : x = y := by
  cases x
  cases y
  cases h1
  cases h2
  rfl
def qmul (x y : Q2 α p) : Q2 α p := ⟨x.a * y.a + p * (x.b * y.b), x.a * y.b + x.b * y.a⟩
def qpow (x : Q2 α p) : Nat → Q2 α p
  | 0 => ⟨1, 0⟩
  | n + 1 => qmul (qpow x n) x
instance : Add (Q2 α p) := ⟨fun x y => ⟨x.a + y.a, x.b + y.b⟩⟩
instance : Mul (Q2 α p) := ⟨qmul⟩
instance : Neg (Q2 α p) := ⟨fun x => ⟨-x.a, -x.b⟩⟩
instance : Sub (Q2 α p) := ⟨fun x y => ⟨x.a - y.a, x.b - y.b⟩⟩
instance : NatCast (Q2 α p) := ⟨fun n => ⟨nc α n, 0⟩⟩
instance : IntCast (Q2 α p) := ⟨fun n => ⟨ic α n, 0⟩⟩
instance (n : Nat) : OfNat (Q2 α p) n := ⟨⟨(Semiring.ofNat (α := α) n).ofNat, 0⟩⟩
instance : SMul Nat (Q2 α p) := ⟨fun n x => ⟨nc α n * x.a, nc α n * x.b⟩⟩
instance : SMul Int (Q2 α p) := ⟨fun n x => ⟨ic α n * x.a, ic α n * x.b⟩⟩
instance : HPow (Q2 α p) Nat (Q2 α p) := ⟨qpow⟩
theorem add_a (x y : Q2 α p) : (x + y).a = x.a + y.a := rfl
theorem add_b (x y : Q2 α p) : (x + y).b = x.b + y.b := rfl
theorem mul_a (x y : Q2 α p) : (x * y).a = x.a * y.a + p * (x.b * y.b) := rfl
theorem mul_b (x y : Q2 α p) : (x * y).b = x.a * y.b + x.b * y.a := rfl
theorem zero_a : (0 : Q2 α p).a = 0 := rfl
theorem zero_b : (0 : Q2 α p).b = 0 := rfl
theorem one_a : (1 : Q2 α p).a = 1 := rfl
theorem one_b : (1 : Q2 α p).b = 0 := rfl
instance : CommRing (Q2 α p) where
  nsmul := inferInstance
  npow := inferInstance
  zsmul := inferInstance
  natCast := inferInstance
  intCast := inferInstance
  ofNat := inferInstance
  add_zero := fun x => Q2.ext' (by rw [add_a, zero_a]; grind) (by rw [add_b, zero_b]; grind)
  add_comm := fun x y => Q2.ext' (by rw [add_a, add_a]; grind) (by rw [add_b, add_b]; grind)
  add_assoc := fun x y z => Q2.ext' (by simp only [add_a]; grind) (by simp only [add_b]; grind)
  mul_assoc := fun x y z => Q2.ext' (by simp only [mul_a, mul_b]; grind) (by simp only [mul_a, mul_b]; grind)
  mul_one := fun x => Q2.ext' (by simp only [mul_a, one_a, one_b]; grind) (by simp only [mul_b, one_a, one_b]; grind)
  one_mul := fun x => Q2.ext' (by simp only [mul_a, one_a, one_b]; grind) (by simp only [mul_b, one_a, one_b]; grind)
  right_distrib := fun x y z => Q2.ext' (by simp only [mul_a, add_a, add_b]; grind) (by simp only [mul_b, add_a, add_b]; grind)
  mul_zero := fun x => Q2.ext' (by simp only [mul_a, zero_a, zero_b]; grind) (by simp only [mul_b, zero_a, zero_b]; grind)
  left_distrib := fun x y z => Q2.ext' (by simp only [mul_a, add_a, add_b]; grind) (by simp only [mul_b, add_a, add_b]; grind)
  zero_mul := fun x => Q2.ext' (by simp only [mul_a, zero_a, zero_b]; grind) (by simp only [mul_b, zero_a, zero_b]; grind)
  pow_zero := fun _ => Q2.ext' (by rfl) (by rfl)
  pow_succ := fun _ _ => rfl
  ofNat_succ := fun n => Q2.ext' (Semiring.ofNat_succ (α := α) n) (show (0 : α) = 0 + 0 by grind)
  ofNat_eq_natCast := fun n => Q2.ext' (Semiring.ofNat_eq_natCast (α := α) n) rfl
  nsmul_eq_natCast_mul := fun n x => Q2.ext' (by show nc α n * x.a = nc α n * x.a + p * (0 * x.b); grind) (by show nc α n * x.b = nc α n * x.b + 0 * x.a; grind)
  neg_add_cancel := fun x => Q2.ext' (by show -x.a + x.a = 0; grind) (by show -x.b + x.b = 0; grind)
  sub_eq_add_neg := fun x y => Q2.ext' (by show x.a - y.a = x.a + -y.a; grind) (by show x.b - y.b = x.b + -y.b; grind)
  neg_zsmul := fun i x => Q2.ext' (by show ic α (-i) * x.a = -(ic α i * x.a); rw [show ic α (-i) = -ic α i from Ring.intCast_neg i]; grind) (by show ic α (-i) * x.b = -(ic α i * x.b); rw [show ic α (-i) = -ic α i from Ring.intCast_neg i]; grind)
  zsmul_natCast_eq_nsmul := fun n x => Q2.ext' (by show ic α ((n : Nat) : Int) * x.a = nc α n * x.a; rw [show ic α ((n : Nat) : Int) = nc α n from Ring.intCast_natCast n]) (by show ic α ((n : Nat) : Int) * x.b = nc α n * x.b; rw [show ic α ((n : Nat) : Int) = nc α n from Ring.intCast_natCast n])
  intCast_ofNat := fun n => Q2.ext' (Ring.intCast_ofNat (α := α) n) rfl
  intCast_neg := fun i => Q2.ext' (Ring.intCast_neg (α := α) i) (by show (0 : α) = -0; grind)
  mul_comm := fun x y => Q2.ext' (by simp only [mul_a]; grind) (by simp only [mul_b]; grind)
end
/-- all but 0 has an inverse -/
def Fld (α : Type) [CommRing α] : Prop := (0 : α) ≠ 1 ∧ ∀ x : α, x ≠ 0 → ∃ y, x * y = 1
theorem Fld.dom {α : Type} [CommRing α] (F : Fld α) {x y : α} (h : x * y = 0) : x = 0 ∨ y = 0 := by
  by_cases hx : x = 0
  · exact .inl hx
  · obtain ⟨z, hz⟩ := F.2 x hx
    refine .inr ?_
    have : y = z * (x * y) := by grind
    rw [this, h]
    grind
/-- a root more -/
theorem Fld.more {α : Type} [CommRing α] (F : Fld α) {p : α} (hp : ∀ c : α, c * c ≠ p) : Fld (Q2 α p) := by
  refine ⟨fun e => F.1 (congrArg Q2.a e), fun x hx => ?_⟩
  have n0 : x.a * x.a - p * (x.b * x.b) ≠ 0 := fun e => by
    by_cases hb : x.b = 0
    · have : x.a * x.a = 0 := by rw [hb] at e; grind
      rcases F.dom this with h | h <;> exact hx (Q2.ext' h hb)
    · obtain ⟨z, hz⟩ := F.2 x.b hb
      refine hp (x.a * z) ?_
      have : x.a * x.a = p * (x.b * x.b) := by grind
      have : x.a * z * (x.a * z) = p * ((x.b * z) * (x.b * z)) := by grind
      rw [this, hz]
      grind
  obtain ⟨m, hm⟩ := F.2 _ n0
  refine ⟨⟨x.a * m, -(x.b * m)⟩, Q2.ext' ?_ ?_⟩
  · show x.a * (x.a * m) + p * (x.b * -(x.b * m)) = 1
    grind
  · show x.a * -(x.b * m) + x.b * (x.a * m) = 0
    grind
/-! ### root by root -/
structure Bun where
  α : Type
  ring : CommRing α
  ι : Rat → α
  ιmul : ∀ q r : Rat, ι (q * r) = ι q * ι r
  ιadd : ∀ q r : Rat, ι (q + r) = ι q + ι r
  ι1 : ι 1 = 1
  ι0 : ι 0 = 0
def bun0 : Bun := ⟨Rat, inferInstance, id, fun _ _ => rfl, fun _ _ => rfl, rfl, rfl⟩
def bunS (B : Bun) (p : Rat) : Bun :=
  letI := B.ring
  { α := Q2 B.α (B.ι p)
    ring := inferInstance
    ι := fun q => ⟨B.ι q, 0⟩
    ιmul := fun q r => Q2.ext' (by show B.ι (q * r) = B.ι q * B.ι r + B.ι p * (0 * 0); rw [B.ιmul]; grind) (by show (0 : B.α) = B.ι q * 0 + 0 * B.ι r; grind)
    ιadd := fun q r => Q2.ext' (by show B.ι (q + r) = B.ι q + B.ι r; exact B.ιadd q r) (by show (0 : B.α) = 0 + 0; grind)
    ι1 := Q2.ext' B.ι1 rfl
    ι0 := Q2.ext' B.ι0 rfl }
def El : List Rat → Bun
  | [] => bun0
  | p :: ps => bunS (El ps) p
/-- products of some of the roots -/
def prods : List Rat → List Rat
  | [] => [1]
  | p :: ps => prods ps ++ (prods ps).map fun t => p * t
/-- m times a product of some of the roots is no square -/
def NoSq (ps : List Rat) (m : Rat) : Prop := ∀ t ∈ prods ps, ∀ q : Rat, q * q ≠ m * t
def Indep : List Rat → Prop
  | [] => True
  | p :: ps => NoSq ps p ∧ Indep ps
theorem NoSq.tail {p : Rat} {ps : List Rat} {m : Rat} (h : NoSq (p :: ps) m) : NoSq ps m := fun t ht => h t (List.mem_append_left _ ht)
theorem NoSq.times {p : Rat} {ps : List Rat} {m : Rat} (h : NoSq (p :: ps) m) : NoSq ps (m * p) := fun t ht q e => by
  refine h (p * t) (List.mem_append_right _ (List.mem_map.mpr ⟨t, ht, rfl⟩)) q ?_
  rw [e, Rat.mul_assoc]
theorem two_ne {B : Bun} (F : @Fld B.α B.ring) : letI := B.ring; (1 + 1 : B.α) ≠ 0 := by
  letI := B.ring
  intro e
  have h : B.ι (1 / 2) * (1 + 1) = 1 := by
    have e1 : B.ι (1 / 2) * (1 + 1) = B.ι (1 / 2 * (1 + 1)) := by rw [B.ιmul, B.ιadd, B.ι1]
    rw [e1, show (1 / 2 * (1 + 1) : Rat) = 1 by decide +kernel, B.ι1]
  rw [e] at h
  refine F.1 ?_
  rw [← h]
  grind
theorem fld_rat : Fld Rat := ⟨by decide, fun x hx => ⟨x⁻¹, Rat.mul_inv_cancel x hx⟩⟩
theorem el_all : ∀ ps : List Rat, Indep ps → @Fld (El ps).α (El ps).ring ∧ ∀ m, NoSq ps m → ∀ x : (El ps).α, letI := (El ps).ring; x * x ≠ (El ps).ι m
  | [], _ => by
    refine ⟨fld_rat, fun m h x e => ?_⟩
    have e' : (show Rat from x) * (show Rat from x) = m := e
    refine h 1 (List.mem_singleton.mpr rfl) x ?_
    rw [Rat.mul_one]
    exact e'
  | p :: ps, ⟨hp, hi⟩ => by
    obtain ⟨F, sq⟩ := el_all ps hi
    letI := (El ps).ring
    have F2 : Fld (Q2 (El ps).α ((El ps).ι p)) := F.more fun c => sq p hp c
    refine ⟨F2, fun m h x e => ?_⟩
    have ea : x.a * x.a + (El ps).ι p * (x.b * x.b) = (El ps).ι m := congrArg Q2.a e
    have eb : x.a * x.b + x.b * x.a = 0 := congrArg Q2.b e
    have eb2 : (1 + 1) * (x.a * x.b) = 0 := by grind
    rcases F.dom eb2 with z | z
    · exact two_ne F z
    rcases F.dom z with z | z
    · refine sq (m * p) h.times ((El ps).ι p * x.b) ?_
      rw [(El ps).ιmul, ← ea, z]
      grind
    · refine sq m h.tail x.a ?_
      rw [← ea, z]
      grind
end QF
/-! Roots of unlike primes are independent (pure). -/
namespace QF
def Pr (p : Nat) : Prop := 2 ≤ p ∧ ∀ g, g ∣ p → g = 1 ∨ g = p
theorem Pr.euclid {p a b : Nat} (h : Pr p) (e : p ∣ a * b) : p ∣ a ∨ p ∣ b := by
  rcases h.2 (Nat.gcd p a) (Nat.gcd_dvd_left _ _) with g | g
  · exact .inr (Nat.Coprime.dvd_of_dvd_mul_left g e)
  · refine .inl ?_
    rw [← g]
    exact Nat.gcd_dvd_right _ _
theorem Pr.one {p : Nat} (h : Pr p) : ¬ p ∣ 1 := fun e => by
  have := Nat.le_of_dvd (by decide) e
  have := h.1
  omega
abbrev cs (ps : List Nat) : List Rat := ps.map fun (x : Nat) => (x : Rat)
theorem prods_nat {p : Nat} (hp : Pr p) : ∀ ps : List Nat, (∀ x ∈ ps, Pr x ∧ x ≠ p) → ∀ t ∈ prods (cs ps), ∃ n : Nat, t = (n : Rat) ∧ 0 < n ∧ ¬ p ∣ n
  | [], _, t, ht => by
    rw [List.mem_singleton.mp ht]
    exact ⟨1, rfl, by decide, hp.one⟩
  | x :: ps, h, t, ht => by
    have hx := h x List.mem_cons_self
    have ih := prods_nat hp ps fun y hy => h y (List.mem_cons_of_mem _ hy)
    rcases List.mem_append.mp ht with z | z
    · exact ih t z
    · obtain ⟨s, hs, rfl⟩ := List.mem_map.mp z
      obtain ⟨n, rfl, n0, nd⟩ := ih s hs
      refine ⟨x * n, by rw [Rat.natCast_mul], Nat.mul_pos (by have := hx.1.1; omega) n0, fun e => ?_⟩
      rcases hp.euclid e with z | z
      · rcases hx.1.2 p z with y | y
        · have := hp.1
          omega
        · exact hx.2 y.symm
      · exact nd z
theorem no_square {p n : Nat} (hp : Pr p) (n0 : 0 < n) (hn : ¬ p ∣ n) (q : Rat) : q * q ≠ (p : Rat) * (n : Rat) := fun e => by
  have q1 : q = (q.num : Rat) / (q.den : Rat) := by
    have z := Rat.divInt_eq_div q.num (q.den : Int)
    rw [Rat.num_divInt_den, Rat.intCast_natCast] at z
    exact z
  have d0 : (q.den : Rat) ≠ 0 := fun z => by
    have y : ((q.den : Nat) : Rat) = ((0 : Nat) : Rat) := z
    have := Rat.natCast_inj.mp y
    have := q.den_pos
    omega
  have e1 : q * (q.den : Rat) = (q.num : Rat) := by
    generalize (q.num : Rat) = A at q1 ⊢
    generalize (q.den : Rat) = B at q1 d0 ⊢
    grind
  have e2 : ((q.num * q.num : Int) : Rat) = (((p * n * (q.den * q.den) : Nat) : Int) : Rat) := by
    rw [Rat.intCast_mul, ← e1]
    have : q * (q.den : Rat) * (q * (q.den : Rat)) = q * q * ((q.den : Rat) * (q.den : Rat)) := by grind
    rw [this, e]
    rw [Rat.intCast_natCast, Rat.natCast_mul, Rat.natCast_mul, Rat.natCast_mul]
  have e3 : q.num * q.num = ((p * n * (q.den * q.den) : Nat) : Int) := Rat.intCast_inj.mp e2
  have e4 : q.num.natAbs * q.num.natAbs = p * n * (q.den * q.den) := by
    have := congrArg Int.natAbs e3
    rwa [Int.natAbs_mul, Int.natAbs_natCast] at this
  have d1 : p ∣ q.num.natAbs := by
    have : p ∣ q.num.natAbs * q.num.natAbs := ⟨n * (q.den * q.den), by rw [e4, Nat.mul_assoc]⟩
    rcases hp.euclid this with z | z <;> exact z
  obtain ⟨k, hk⟩ := d1
  have e5 : p * (k * k) = n * (q.den * q.den) := by
    have p0 : 0 < p := by have := hp.1; omega
    refine Nat.eq_of_mul_eq_mul_left p0 ?_
    rw [hk] at e4
    calc p * (p * (k * k)) = p * k * (p * k) := by grind
      _ = p * n * (q.den * q.den) := e4
      _ = _ := by grind
  have d2 : p ∣ q.den := by
    rcases hp.euclid (show p ∣ n * (q.den * q.den) from ⟨k * k, e5.symm⟩) with z | z
    · exact absurd z hn
    · rcases hp.euclid z with y | y <;> exact y
  have co := q.reduced
  have : p ∣ Nat.gcd q.num.natAbs q.den := Nat.dvd_gcd ⟨k, hk⟩ d2
  rw [show Nat.gcd q.num.natAbs q.den = 1 from co] at this
  exact hp.one this
theorem nosq_prime {p : Nat} (hp : Pr p) {ps : List Nat} (h : ∀ x ∈ ps, Pr x ∧ x ≠ p) : NoSq (cs ps) (p : Rat) := fun t ht q => by
  obtain ⟨n, rfl, n0, nd⟩ := prods_nat hp ps h t ht
  exact no_square hp n0 nd q
/-- roots of unlike primes -/
theorem indep_primes : ∀ ps : List Nat, (∀ x ∈ ps, Pr x) → ps.Nodup → Indep (cs ps)
  | [], _, _ => trivial
  | p :: ps, h, nd => by
    obtain ⟨n1, n2⟩ := List.nodup_cons.mp nd
    exact ⟨nosq_prime (h p List.mem_cons_self) fun x hx => ⟨h x (List.mem_cons_of_mem _ hx), fun e => n1 (e ▸ hx)⟩, indep_primes ps (fun x hx => h x (List.mem_cons_of_mem _ hx)) n2⟩
theorem field_primes {ps : List Nat} (h : ∀ x ∈ ps, Pr x) (nd : ps.Nodup) : @Fld (El (cs ps)).α (El (cs ps)).ring := (el_all _ (indep_primes ps h nd)).1
end QF
/-! Sums of roots as functions of the root, and their products (pure). -/
namespace QF
def S (l : List Nat) (f : Nat → Rat) : Rat := (l.map f).sum
theorem S_nil (f : Nat → Rat) : S [] f = 0 := rfl
theorem S_cons (a : Nat) (l : List Nat) (f : Nat → Rat) : S (a :: l) f = f a + S l f := rfl
theorem S_app (f : Nat → Rat) : ∀ l m : List Nat, S (l ++ m) f = S l f + S m f
  | [], m => by rw [List.nil_append, S_nil]; grind
  | a :: l, m => by rw [List.cons_append, S_cons, S_app f l m, S_cons]; grind
theorem S_map (k : Nat → Nat) (f : Nat → Rat) : ∀ l : List Nat, S (l.map k) f = S l fun r => f (k r)
  | [] => rfl
  | a :: l => by rw [List.map_cons, S_cons, S_map k f l, S_cons]
theorem S_congr {f g : Nat → Rat} : ∀ {l : List Nat}, (∀ r ∈ l, f r = g r) → S l f = S l g
  | [], _ => rfl
  | a :: l, h => by rw [S_cons, S_cons, h a List.mem_cons_self, S_congr fun r hr => h r (List.mem_cons_of_mem _ hr)]
theorem S_zero {f : Nat → Rat} {l : List Nat} (h : ∀ r ∈ l, f r = 0) : S l f = 0 := by
  rw [S_congr h]
  induction l with
  | nil => rfl
  | cons a l ih => rw [S_cons, ih fun r hr => h r (List.mem_cons_of_mem _ hr)]; grind
theorem S_add (f g : Nat → Rat) : ∀ l : List Nat, S l (fun r => f r + g r) = S l f + S l g
  | [] => by rw [S_nil, S_nil, S_nil]; grind
  | a :: l => by rw [S_cons, S_add f g l, S_cons, S_cons]; grind
theorem S_mul (c : Rat) (f : Nat → Rat) : ∀ l : List Nat, S l (fun r => c * f r) = c * S l f
  | [] => by rw [S_nil, S_nil]; grind
  | a :: l => by rw [S_cons, S_mul c f l, S_cons]; grind
/-- all products of some of the primes -/
def keys : List Nat → List Nat
  | [] => [1]
  | p :: ps => keys ps ++ (keys ps).map fun r => p * r
theorem keys_no {p : Nat} (hp : Pr p) : ∀ {ps : List Nat}, (∀ x ∈ ps, Pr x ∧ x ≠ p) → ∀ r ∈ keys ps, 0 < r ∧ ¬ p ∣ r
  | [], _, r, hr => by
    rw [List.mem_singleton.mp hr]
    exact ⟨by decide, hp.one⟩
  | x :: ps, h, r, hr => by
    have hx := h x List.mem_cons_self
    have ih := keys_no hp (ps := ps) fun y hy => h y (List.mem_cons_of_mem _ hy)
    rcases List.mem_append.mp hr with z | z
    · exact ih r z
    · obtain ⟨s, hs, rfl⟩ := List.mem_map.mp z
      obtain ⟨n0, nd⟩ := ih s hs
      refine ⟨Nat.mul_pos (by have := hx.1.1; omega) n0, fun e => ?_⟩
      rcases hp.euclid e with z | z
      · rcases hx.1.2 p z with y | y
        · have := hp.1
          omega
        · exact hx.2 y.symm
      · exact nd z
def mu (r s : Nat) : Nat := r / Nat.gcd r s * (s / Nat.gcd r s)
def tm (g h : Nat → Rat) (u r s : Nat) : Rat := if mu r s = u then g r * h s * (Nat.gcd r s : Rat) else 0
/-- the product -/
def pr (ps : List Nat) (g h : Nat → Rat) (u : Nat) : Rat := S (keys ps) fun r => S (keys ps) fun s => tm g h u r s
section
variable {p r s : Nat}
theorem cop (hp : Pr p) (hr : ¬ p ∣ r) : Nat.Coprime p r := by
  rcases hp.2 (Nat.gcd p r) (Nat.gcd_dvd_left _ _) with g | g
  · exact g
  · refine absurd ?_ hr
    rw [← g]
    exact Nat.gcd_dvd_right _ _
theorem gcd_r (hp : Pr p) (hr : ¬ p ∣ r) : Nat.gcd r (p * s) = Nat.gcd r s := by
  refine Nat.dvd_antisymm (Nat.dvd_gcd (Nat.gcd_dvd_left _ _) ?_) (Nat.dvd_gcd (Nat.gcd_dvd_left _ _) (Nat.dvd_trans (Nat.gcd_dvd_right _ _) (Nat.dvd_mul_left _ _)))
  have c : Nat.Coprime (Nat.gcd r (p * s)) p := Nat.Coprime.symm (Nat.Coprime.coprime_dvd_right (Nat.gcd_dvd_left _ _) (cop hp hr))
  exact c.dvd_of_dvd_mul_left (Nat.gcd_dvd_right r (p * s))
theorem mu_r (hp : Pr p) (hr : ¬ p ∣ r) : mu r (p * s) = p * mu r s := by
  unfold mu
  rw [gcd_r hp hr, Nat.mul_div_assoc p (Nat.gcd_dvd_right r s)]
  simp only [Nat.mul_left_comm]
theorem mu_comm : mu r s = mu s r := by
  unfold mu
  rw [Nat.gcd_comm, Nat.mul_comm]
theorem mu_l (hp : Pr p) (hs : ¬ p ∣ s) : mu (p * r) s = p * mu r s := by
  rw [mu_comm, mu_r hp hs, mu_comm]
theorem gcd_l (hp : Pr p) (hs : ¬ p ∣ s) : Nat.gcd (p * r) s = Nat.gcd r s := by
  rw [Nat.gcd_comm, gcd_r hp hs, Nat.gcd_comm]
theorem mu_b (p0 : 0 < p) : mu (p * r) (p * s) = mu r s := by
  unfold mu
  rw [Nat.gcd_mul_left, Nat.mul_div_mul_left _ _ p0, Nat.mul_div_mul_left _ _ p0]
theorem mu_no (hp : Pr p) (hr : ¬ p ∣ r) (hs : ¬ p ∣ s) : ¬ p ∣ mu r s := fun e => by
  unfold mu at e
  rcases hp.euclid e with z | z
  · exact hr (Nat.dvd_trans z (Nat.div_dvd_of_dvd (Nat.gcd_dvd_left r s)))
  · exact hs (Nat.dvd_trans z (Nat.div_dvd_of_dvd (Nat.gcd_dvd_right r s)))
end
section
variable {p : Nat} {ps : List Nat} (hp : Pr p) (h : ∀ x ∈ ps, Pr x ∧ x ≠ p) (g k : Nat → Rat)
include hp h
/-- where p isn't in the root -/
theorem pr_a {u : Nat} (hu : u ∈ keys ps) : pr (p :: ps) g k u = pr ps g k u + (p : Rat) * pr ps (fun r => g (p * r)) (fun r => k (p * r)) u := by
  obtain ⟨_, nu⟩ := keys_no hp h u hu
  have p0 : 0 < p := by have := hp.1; omega
  unfold pr
  show S (keys ps ++ (keys ps).map fun r => p * r) _ = _
  rw [S_app, S_map, ← S_mul]
  congr 1
  · refine S_congr fun r hr => ?_
    obtain ⟨_, nr⟩ := keys_no hp h r hr
    show S (keys ps ++ (keys ps).map fun r => p * r) _ = _
    rw [S_app, S_map, S_zero (l := keys ps) (f := fun s => tm g k u r (p * s)) fun s hs => if_neg fun e => nu ⟨mu r s, by rw [← e, mu_r hp nr]⟩]
    grind
  · refine S_congr fun r hr => ?_
    show S (keys ps ++ (keys ps).map fun r => p * r) _ = _
    rw [S_app, S_map, S_zero (l := keys ps) (f := fun s => tm g k u (p * r) s) fun s hs => if_neg fun e => nu ⟨mu r s, by rw [← e, mu_l hp (keys_no hp h s hs).2]⟩, ← S_mul]
    have : S (keys ps) (fun s => tm g k u (p * r) (p * s)) = S (keys ps) fun s => (p : Rat) * tm (fun r => g (p * r)) (fun r => k (p * r)) u r s := S_congr fun s hs => by
      unfold tm
      rw [mu_b p0, Nat.gcd_mul_left, Rat.natCast_mul]
      split <;> grind
    rw [this]
    grind
/-- where it is -/
theorem pr_b {u : Nat} (hu : u ∈ keys ps) : pr (p :: ps) g k (p * u) = pr ps g (fun r => k (p * r)) u + pr ps (fun r => g (p * r)) k u := by
  have p0 : 0 < p := by have := hp.1; omega
  unfold pr
  show S (keys ps ++ (keys ps).map fun r => p * r) _ = _
  rw [S_app, S_map]
  congr 1
  · refine S_congr fun r hr => ?_
    obtain ⟨_, nr⟩ := keys_no hp h r hr
    show S (keys ps ++ (keys ps).map fun r => p * r) _ = _
    rw [S_app, S_map, S_zero (l := keys ps) (f := fun s => tm g k (p * u) r s) fun s hs => if_neg fun e => mu_no hp nr (keys_no hp h s hs).2 (by rw [e]; exact Nat.dvd_mul_right _ _)]
    have : S (keys ps) (fun s => tm g k (p * u) r (p * s)) = S (keys ps) fun s => tm g (fun r => k (p * r)) u r s := S_congr fun s hs => by
      unfold tm
      rw [mu_r hp nr, gcd_r hp nr]
      by_cases e : mu r s = u
      · rw [if_pos e, if_pos (by rw [e])]
      · rw [if_neg e, if_neg fun z => e (Nat.eq_of_mul_eq_mul_left p0 z)]
    rw [this]
    grind
  · refine S_congr fun r hr => ?_
    obtain ⟨_, nr⟩ := keys_no hp h r hr
    show S (keys ps ++ (keys ps).map fun r => p * r) _ = _
    rw [S_app, S_map, S_zero (l := keys ps) (f := fun s => tm g k (p * u) (p * r) (p * s)) fun s hs => if_neg fun e => mu_no hp nr (keys_no hp h s hs).2 (by rw [← mu_b p0, e]; exact Nat.dvd_mul_right _ _)]
    have : S (keys ps) (fun s => tm g k (p * u) (p * r) s) = S (keys ps) fun s => tm (fun r => g (p * r)) k u r s := S_congr fun s hs => by
      have ns := (keys_no hp h s hs).2
      unfold tm
      rw [mu_l hp ns, gcd_l hp ns]
      by_cases e : mu r s = u
      · rw [if_pos e, if_pos (by rw [e])]
      · rw [if_neg e, if_neg fun z => e (Nat.eq_of_mul_eq_mul_left p0 z)]
    rw [this]
    grind
end
/-- the sum of roots that a function tells -/
def fr : (ps : List Nat) → (Nat → Rat) → (El (cs ps)).α
  | [], g => (g 1 : Rat)
  | p :: ps, g => (⟨fr ps g, fr ps fun r => g (p * r)⟩ : Q2 (El (cs ps)).α ((El (cs ps)).ι (p : Rat)))
theorem fr_congr : ∀ {ps : List Nat} {g h : Nat → Rat}, (∀ u ∈ keys ps, g u = h u) → fr ps g = fr ps h
  | [], g, h, e => e 1 (List.mem_singleton.mpr rfl)
  | p :: ps, g, h, e => letI := (El (cs ps)).ring; Q2.ext' (fr_congr fun u hu => e u (List.mem_append_left _ hu)) (fr_congr fun u hu => e (p * u) (List.mem_append_right _ (List.mem_map.mpr ⟨u, hu, rfl⟩)))
theorem fr_inj : ∀ {ps : List Nat} {g h : Nat → Rat}, fr ps g = fr ps h → ∀ u ∈ keys ps, g u = h u
  | [], g, h, e, u, hu => by
    rw [List.mem_singleton.mp hu]
    exact e
  | p :: ps, g, h, e, u, hu => by
    rcases List.mem_append.mp hu with z | z
    · exact fr_inj (congrArg Q2.a e) u z
    · obtain ⟨v, hv, rfl⟩ := List.mem_map.mp z
      exact fr_inj (congrArg Q2.b e) v hv
theorem fr_add : ∀ (ps : List Nat) (g h : Nat → Rat), letI := (El (cs ps)).ring; fr ps (fun r => g r + h r) = fr ps g + fr ps h
  | [], g, h => rfl
  | p :: ps, g, h => letI := (El (cs ps)).ring; Q2.ext' (fr_add ps g h) (fr_add ps _ _)
theorem fr_mul : ∀ (ps : List Nat) (c : Rat) (g : Nat → Rat), letI := (El (cs ps)).ring; fr ps (fun r => c * g r) = (El (cs ps)).ι c * fr ps g
  | [], c, g => rfl
  | p :: ps, c, g => by
    letI := (El (cs ps)).ring
    refine Q2.ext' ?_ ?_
    · show fr ps _ = (El (cs ps)).ι c * fr ps g + (El (cs ps)).ι p * (0 * fr ps fun r => g (p * r))
      rw [fr_mul ps c g]
      grind
    · show fr ps _ = (El (cs ps)).ι c * (fr ps fun r => g (p * r)) + 0 * fr ps g
      rw [fr_mul ps c fun r => g (p * r)]
      grind
/-- products of functions are products of sums of roots -/
theorem fr_pr : ∀ (ps : List Nat), (∀ x ∈ ps, Pr x) → ps.Nodup → ∀ g h : Nat → Rat, letI := (El (cs ps)).ring; fr ps (pr ps g h) = fr ps g * fr ps h
  | [], _, _, g, h => by
    show pr [] g h 1 = g 1 * h 1
    show S [1] (fun r => S [1] fun s => tm g h 1 r s) = _
    rw [S_cons, S_nil, S_cons, S_nil]
    show (g 1 * h 1 * ((1 : Nat) : Rat) + 0) + 0 = _
    grind
  | p :: ps, hP, nd, g, h => by
    obtain ⟨n1, n2⟩ := List.nodup_cons.mp nd
    have hp := hP p List.mem_cons_self
    have hps : ∀ x ∈ ps, Pr x ∧ x ≠ p := fun x hx => ⟨hP x (List.mem_cons_of_mem _ hx), fun e => n1 (e ▸ hx)⟩
    have ih := fr_pr ps (fun x hx => hP x (List.mem_cons_of_mem _ hx)) n2
    letI := (El (cs ps)).ring
    refine Q2.ext' ?_ ?_
    · show fr ps (pr (p :: ps) g h) = fr ps g * fr ps h + (El (cs ps)).ι p * ((fr ps fun r => g (p * r)) * fr ps fun r => h (p * r))
      rw [← ih, ← ih, ← fr_mul, ← fr_add]
      exact fr_congr fun u hu => pr_a hp hps g h hu
    · show fr ps (fun u => pr (p :: ps) g h (p * u)) = fr ps g * (fr ps fun r => h (p * r)) + (fr ps fun r => g (p * r)) * fr ps h
      rw [← ih, ← ih, ← fr_add]
      exact fr_congr fun u hu => pr_b hp hps g h hu
/-- a product that is 0 throughout has a side that is -/
theorem pr_dom {ps : List Nat} (hP : ∀ x ∈ ps, Pr x) (nd : ps.Nodup) {g h : Nat → Rat} (e : ∀ u ∈ keys ps, pr ps g h u = 0) : (∀ u ∈ keys ps, g u = 0) ∨ ∀ u ∈ keys ps, h u = 0 := by
  letI := (El (cs ps)).ring
  have z0 : fr ps (fun _ => 0) = 0 := by
    have := fr_mul ps 0 fun _ => 0
    have e2 : fr ps (fun r => (0 : Rat) * (fun _ => (0 : Rat)) r) = fr ps fun _ => 0 := fr_congr fun _ _ => by grind
    rw [e2, (El (cs ps)).ι0] at this
    rw [this]
    grind
  have z : fr ps g * fr ps h = 0 := by
    rw [← fr_pr ps hP nd g h, fr_congr e, z0]
  rcases (field_primes hP nd).dom z with y | y
  · exact .inl fun u hu => fr_inj (y.trans z0.symm) u hu
  · exact .inr fun u hu => fr_inj (y.trans z0.symm) u hu
end QF
/-! Roots of products, which primes are in them (pure). -/
namespace QF
section
variable {x : Nat} {ps : List Nat} (hx : Pr x) (h : ∀ y ∈ ps, Pr y ∧ y ≠ x)
include hx h
/-- both roots by whether the first prime is in them -/
theorem keys_two {C : Nat → Nat → Nat → Prop} (h00 : ∀ r ∈ keys ps, ∀ s ∈ keys ps, C r s (mu r s)) (h01 : ∀ r ∈ keys ps, ∀ s ∈ keys ps, C r (x * s) (x * mu r s)) (h10 : ∀ r ∈ keys ps, ∀ s ∈ keys ps, C (x * r) s (x * mu r s)) (h11 : ∀ r ∈ keys ps, ∀ s ∈ keys ps, C (x * r) (x * s) (mu r s)) : ∀ r ∈ keys (x :: ps), ∀ s ∈ keys (x :: ps), C r s (mu r s) := fun r hr s hs => by
  have x0 : 0 < x := by have := hx.1; omega
  rcases List.mem_append.mp hr with a | a
  · rcases List.mem_append.mp hs with b | b
    · exact h00 r a s b
    · obtain ⟨t, ht, rfl⟩ := List.mem_map.mp b
      rw [mu_r hx (keys_no hx h r a).2]
      exact h01 r a t ht
  · obtain ⟨q, hq, rfl⟩ := List.mem_map.mp a
    rcases List.mem_append.mp hs with b | b
    · rw [mu_l hx (keys_no hx h s b).2]
      exact h10 q hq s b
    · obtain ⟨t, ht, rfl⟩ := List.mem_map.mp b
      rw [mu_b x0]
      exact h11 q hq t ht
end
theorem mu_keys : ∀ {ps : List Nat}, (∀ y ∈ ps, Pr y) → ps.Nodup → ∀ r ∈ keys ps, ∀ s ∈ keys ps, mu r s ∈ keys ps
  | [], _, _, r, hr, s, hs => by
    rw [List.mem_singleton.mp hr, List.mem_singleton.mp hs]
    exact List.mem_singleton.mpr rfl
  | x :: ps, hP, nd, r, hr, s, hs => by
    obtain ⟨n1, n2⟩ := List.nodup_cons.mp nd
    have ih := mu_keys (ps := ps) (fun y hy => hP y (List.mem_cons_of_mem _ hy)) n2
    exact keys_two (hP x List.mem_cons_self) (fun y hy => ⟨hP y (List.mem_cons_of_mem _ hy), fun e => n1 (e ▸ hy)⟩) (C := fun _ _ m => m ∈ keys (x :: ps)) (fun r hr s hs => List.mem_append_left _ (ih r hr s hs)) (fun r hr s hs => List.mem_append_right _ (List.mem_map.mpr ⟨_, ih r hr s hs, rfl⟩)) (fun r hr s hs => List.mem_append_right _ (List.mem_map.mpr ⟨_, ih r hr s hs, rfl⟩)) (fun r hr s hs => List.mem_append_left _ (ih r hr s hs)) r hr s hs
/-- a prime is in the product's root if it is in just one of both -/
theorem mu_prime : ∀ {ps : List Nat}, (∀ y ∈ ps, Pr y) → ps.Nodup → ∀ p ∈ ps, ∀ r ∈ keys ps, ∀ s ∈ keys ps, (p ∣ mu r s ↔ ¬ (p ∣ r ↔ p ∣ s))
  | [], _, _, p, hp, _, _, _, _ => by cases hp
  | x :: ps, hP, nd, p, hp, r, hr, s, hs => by
    obtain ⟨n1, n2⟩ := List.nodup_cons.mp nd
    have hx := hP x List.mem_cons_self
    have hps : ∀ y ∈ ps, Pr y ∧ y ≠ x := fun y hy => ⟨hP y (List.mem_cons_of_mem _ hy), fun e => n1 (e ▸ hy)⟩
    have ih := mu_prime (ps := ps) (fun y hy => hP y (List.mem_cons_of_mem _ hy)) n2
    have hpp := hP p hp
    by_cases e : p = x
    · subst e
      have no : ∀ {r : Nat}, r ∈ keys ps → ¬ p ∣ r := fun {r} hr => (keys_no hx hps r hr).2
      refine keys_two hx hps (C := fun r s m => p ∣ m ↔ ¬ (p ∣ r ↔ p ∣ s)) (fun r hr s hs => ?_) (fun r hr s hs => ?_) (fun r hr s hs => ?_) (fun r hr s hs => ?_) r hr s hs
      · simp [no hr, no hs, mu_no hx (no hr) (no hs)]
      · simp [no hr, Nat.dvd_mul_right]
      · simp [no hs, Nat.dvd_mul_right]
      · simp [mu_no hx (no hr) (no hs), Nat.dvd_mul_right]
    · have hp' : p ∈ ps := (List.mem_cons.mp hp).resolve_left e
      have dx : ∀ m : Nat, p ∣ x * m ↔ p ∣ m := fun m => ⟨fun z => (hpp.euclid z).resolve_left fun y => by
        rcases hx.2 p y with w | w
        · have := hpp.1
          omega
        · exact e w, fun z => Nat.dvd_trans z (Nat.dvd_mul_left _ _)⟩
      refine keys_two hx hps (C := fun r s m => p ∣ m ↔ ¬ (p ∣ r ↔ p ∣ s)) (fun r hr s hs => ?_) (fun r hr s hs => ?_) (fun r hr s hs => ?_) (fun r hr s hs => ?_) r hr s hs
      · exact ih p hp' r hr s hs
      · rw [dx, dx]
        exact ih p hp' r hr s hs
      · rw [dx, dx]
        exact ih p hp' r hr s hs
      · rw [dx, dx]
        exact ih p hp' r hr s hs
/-- no prime in it: the root 1 -/
theorem keys_one : ∀ {ps : List Nat}, ∀ r ∈ keys ps, (∀ p ∈ ps, ¬ p ∣ r) → r = 1
  | [], r, hr, _ => List.mem_singleton.mp hr
  | x :: ps, r, hr, h => by
    rcases List.mem_append.mp hr with a | a
    · exact keys_one r a fun p hp => h p (List.mem_cons_of_mem _ hp)
    · obtain ⟨q, hq, rfl⟩ := List.mem_map.mp a
      exact absurd (Nat.dvd_mul_right _ _) (h x List.mem_cons_self)
theorem keys_nodup : ∀ {ps : List Nat}, (∀ y ∈ ps, Pr y) → ps.Nodup → (keys ps).Nodup
  | [], _, _ => by simp [keys]
  | x :: ps, hP, nd => by
    obtain ⟨n1, n2⟩ := List.nodup_cons.mp nd
    have hx := hP x List.mem_cons_self
    have hps : ∀ y ∈ ps, Pr y ∧ y ≠ x := fun y hy => ⟨hP y (List.mem_cons_of_mem _ hy), fun e => n1 (e ▸ hy)⟩
    have ih := keys_nodup (ps := ps) (fun y hy => hP y (List.mem_cons_of_mem _ hy)) n2
    have x0 : 0 < x := by have := hx.1; omega
    refine List.nodup_append.mpr ⟨ih, List.pairwise_map.mpr (ih.imp fun {a b} z e => z (Nat.eq_of_mul_eq_mul_left x0 e)), fun a ha b hb e => ?_⟩
    obtain ⟨q, hq, rfl⟩ := List.mem_map.mp hb
    rw [e] at ha
    exact (keys_no hx hps _ ha).2 (Nat.dvd_mul_right _ _)
end QF
/-! values at roots as sums of roots of unlike primes -/
namespace TC
open PySem PySem.Spec PyProof.Rows L2 TCA TCX
/-- the roots as whole numbers -/
def kI (ps : List Nat) : List Int := (QF.keys ps).map fun (r : Nat) => (r : Int)
theorem gR_nat (r s : Nat) : gR (r : Int) (s : Int) = ((Nat.gcd r s : Nat) : Int) := rfl
theorem mulR_nat (r s : Nat) : mulR (r : Int) (s : Int) = ((QF.mu r s : Nat) : Int) := by
  unfold mulR QF.mu
  rw [gR_nat, Int.natCast_mul, ← Int.ofNat_fdiv, ← Int.ofNat_fdiv]
theorem sumQ_S (f : Int → Rat) : ∀ l : List Nat, sumQ ((l.map fun (r : Nat) => (r : Int)).map f) = QF.S l fun r => f (r : Int)
  | [] => rfl
  | a :: l => by
    have z := sumQ_S f l
    show f (a : Int) + sumQ ((l.map fun (r : Nat) => (r : Int)).map f) = _
    rw [z]
    rfl
theorem prodG_pr (ps : List Nat) (g h : Int → Rat) (u : Nat) : prodG (kI ps) (kI ps) g h (u : Int) = QF.pr ps (fun r => g (r : Int)) (fun r => h (r : Int)) u := by
  unfold prodG kI QF.pr
  rw [sumQ_S]
  refine QF.S_congr fun r _ => ?_
  rw [sumQ_S]
  refine QF.S_congr fun s _ => ?_
  unfold QF.tm
  rw [mulR_nat, gR_nat, Rat.intCast_natCast]
  by_cases e : QF.mu r s = u
  · rw [if_pos e, if_pos (by rw [e])]
  · rw [if_neg e, if_neg fun z => e (Int.natCast_inj.mp z)]
/-- unlike primes -/
structure Prm (ps : List Nat) : Prop where
  p : ∀ y ∈ ps, QF.Pr y
  nd : ps.Nodup
/-- values at roots of these primes alone -/
def On (ps : List Nat) (g : Int → Rat) : Prop := ∀ r, g r ≠ 0 → r ∈ kI ps
theorem kI_nodup {ps : List Nat} (h : Prm ps) : (kI ps).Nodup := List.pairwise_map.mpr ((QF.keys_nodup h.p h.nd).imp fun {a b} z e => z (Int.natCast_inj.mp e))
theorem On.cov {ps : List Nat} (h : Prm ps) {g : Int → Rat} (o : On ps g) : Cov g (kI ps) := ⟨kI_nodup h, o⟩
/-- the sum of roots that values tell -/
def fI (ps : List Nat) (g : Int → Rat) : (QF.El (QF.cs ps)).α := QF.fr ps fun r => g (r : Int)
theorem prod_on {ps : List Nat} (h : Prm ps) {k1 k2 : List Int} {g1 g2 : Int → Rat} (c1 : Cov g1 k1) (c2 : Cov g2 k2) (o1 : On ps g1) (o2 : On ps g2) : On ps (prodG k1 k2 g1 g2) := fun u hu => by
  rw [prodG_supp c1 (o1.cov h) c2 (o2.cov h)] at hu
  refine Classical.byContradiction fun nu => hu ?_
  unfold prodG kI
  rw [sumQ_S]
  refine QF.S_zero fun r hr => ?_
  rw [sumQ_S]
  refine QF.S_zero fun s hs => if_neg fun e => nu ?_
  rw [mulR_nat] at e
  rw [← e]
  exact List.mem_map.mpr ⟨_, QF.mu_keys h.p h.nd r hr s hs, rfl⟩
theorem fI_prod {ps : List Nat} (h : Prm ps) {k1 k2 : List Int} {g1 g2 : Int → Rat} (c1 : Cov g1 k1) (c2 : Cov g2 k2) (o1 : On ps g1) (o2 : On ps g2) : letI := (QF.El (QF.cs ps)).ring; fI ps (prodG k1 k2 g1 g2) = fI ps g1 * fI ps g2 := by
  letI := (QF.El (QF.cs ps)).ring
  unfold fI
  rw [← QF.fr_pr ps h.p h.nd]
  refine QF.fr_congr fun u _ => ?_
  rw [prodG_supp c1 (o1.cov h) c2 (o2.cov h), prodG_pr]
theorem fI_inj {ps : List Nat} {g1 g2 : Int → Rat} (o1 : On ps g1) (o2 : On ps g2) (e : fI ps g1 = fI ps g2) : ∀ r, g1 r = g2 r := fun r => by
  by_cases m : r ∈ kI ps
  · obtain ⟨u, hu, rfl⟩ := List.mem_map.mp m
    exact QF.fr_inj e u hu
  · have a : g1 r = 0 := Classical.byContradiction fun z => m (o1 r z)
    have b : g2 r = 0 := Classical.byContradiction fun z => m (o2 r z)
    rw [a, b]
/-- values that aren't 0 throughout -/
def Nz (g : Int → Rat) : Prop := ∃ r, g r ≠ 0
theorem prod_nz {ps : List Nat} (h : Prm ps) {k1 k2 : List Int} {g1 g2 : Int → Rat} (c1 : Cov g1 k1) (c2 : Cov g2 k2) (o1 : On ps g1) (o2 : On ps g2) (z1 : Nz g1) (z2 : Nz g2) : Nz (prodG k1 k2 g1 g2) := by
  refine Classical.byContradiction fun no => ?_
  have all : ∀ u, prodG k1 k2 g1 g2 u = 0 := fun u => Classical.byContradiction fun z => no ⟨u, z⟩
  obtain ⟨r1, n1⟩ := z1
  obtain ⟨r2, n2⟩ := z2
  obtain ⟨u1, m1, rfl⟩ := List.mem_map.mp (o1 r1 n1)
  obtain ⟨u2, m2, rfl⟩ := List.mem_map.mp (o2 r2 n2)
  rcases QF.pr_dom h.p h.nd (g := fun r => g1 (r : Int)) (h := fun r => g2 (r : Int)) (fun u _ => by
    have := all (u : Int)
    rw [prodG_supp c1 (o1.cov h) c2 (o2.cov h), prodG_pr] at this
    exact this) with z | z
  · exact n1 (z u1 m1)
  · exact n2 (z u2 m2)
/-! ### mirrors -/
def mir (p : Nat) (g : Int → Rat) (r : Int) : Rat := g r * (if r % (p : Int) = 0 then -1 else 1)
theorem mir_nz {p : Nat} {g : Int → Rat} {r : Int} : mir p g r ≠ 0 ↔ g r ≠ 0 := by
  unfold mir
  split <;> grind
theorem mir_on {ps : List Nat} {p : Nat} {g : Int → Rat} (o : On ps g) : On ps (mir p g) := fun r h => o r (mir_nz.mp h)
theorem mir_cov {p : Nat} {g : Int → Rat} {k : List Int} (c : Cov g k) : Cov (mir p g) k := ⟨c.1, fun r h => c.2 r (mir_nz.mp h)⟩
theorem mir_Nz {p : Nat} {g : Int → Rat} (z : Nz g) : Nz (mir p g) := by
  obtain ⟨r, h⟩ := z
  exact ⟨r, mir_nz.mpr h⟩
theorem mod_nat {r p : Nat} : ((r : Int) % (p : Int) = 0) ↔ p ∣ r := by
  rw [← Int.natCast_emod]
  exact ⟨fun e => Nat.dvd_of_mod_eq_zero (by omega), fun e => by rw [Nat.mod_eq_zero_of_dvd e]; rfl⟩
/-- with its mirror: the prime is in no root any more -/
theorem prod_mir {ps : List Nat} (h : Prm ps) {p : Nat} (hp : p ∈ ps) {k : List Int} {g : Int → Rat} (c : Cov g k) (o : On ps g) {u : Int} (hu : prodG k k g (mir p g) u ≠ 0) : ¬ u % (p : Int) = 0 := fun e => by
  have om := mir_on (p := p) o
  refine hu ?_
  rw [prodG_supp c (o.cov h) (mir_cov c) (om.cov h)]
  refine prodG_twin fun r hr s hs em => ?_
  obtain ⟨a, ha, rfl⟩ := List.mem_map.mp hr
  obtain ⟨b, hb, rfl⟩ := List.mem_map.mp hs
  rw [mulR_nat] at em
  rw [← em] at e
  have z := (QF.mu_prime h.p h.nd p hp a ha b hb).mp (mod_nat.mp e)
  rw [mod_nat, mod_nat]
  constructor
  · exact fun x y => z ⟨fun _ => y, fun _ => x⟩
  · exact fun y => Classical.byContradiction fun x => z ⟨fun w => absurd w x, fun w => absurd w y⟩
/-- primes that are in no root stay out -/
theorem prod_out {ps : List Nat} (h : Prm ps) {p : Nat} (hp : p ∈ ps) {k1 k2 : List Int} {g1 g2 : Int → Rat} (c1 : Cov g1 k1) (c2 : Cov g2 k2) (o1 : On ps g1) (o2 : On ps g2) (n1 : ∀ r, g1 r ≠ 0 → ¬ r % (p : Int) = 0) (n2 : ∀ r, g2 r ≠ 0 → ¬ r % (p : Int) = 0) {u : Int} (hu : prodG k1 k2 g1 g2 u ≠ 0) : ¬ u % (p : Int) = 0 := fun e => by
  refine hu ?_
  rw [prodG_supp c1 (o1.cov h) c2 (o2.cov h)]
  unfold prodG kI
  rw [sumQ_S]
  refine QF.S_zero fun r hr => ?_
  rw [sumQ_S]
  refine QF.S_zero fun s hs => ?_
  by_cases em : mulR (r : Int) (s : Int) = u
  · rw [if_pos em]
    rw [mulR_nat] at em
    rw [← em] at e
    have z := (QF.mu_prime h.p h.nd p hp r hr s hs).mp (mod_nat.mp e)
    by_cases a : g1 (r : Int) = 0
    · rw [a]
      grind
    · by_cases b : g2 (s : Int) = 0
      · rw [b]
        grind
      · exact absurd ⟨fun w => absurd (mod_nat.mpr w) (n1 _ a), fun w => absurd (mod_nat.mpr w) (n2 _ b)⟩ z
  · rw [if_neg em]
theorem only_one {ps : List Nat} {g : Int → Rat} (o : On ps g) (n : ∀ p ∈ ps, ∀ r, g r ≠ 0 → ¬ r % (p : Int) = 0) {r : Int} (hr : g r ≠ 0) : r = 1 := by
  obtain ⟨u, hu, rfl⟩ := List.mem_map.mp (o r hr)
  have := QF.keys_one u hu fun p hp e => n p hp _ hr (mod_nat.mpr e)
  rw [this]
  rfl
end TC
namespace TC
set_option exponentiation.threshold 20000
open PySem PySem.Spec PyProof.Rows L2 TCA TCX
/-- the primes in a number -/
def prIn (n : Int) : List Int := primes.filter fun p => decide (n % p = 0)
theorem primes_pos : ∀ p ∈ primes, (0 : Int) < p := by decide +kernel
section
variable {P : Program} {w : World} {K : PySem.W.Frag} {mg : Str → Option Value} {base : Heap} {f : Addr} {fd : FuncData} {C fI fQ : Addr}
/-! ### primes_in -/
def spPrimesIn : Sp := fun vs H Q _ => ∃ n : Int, vs = [.int n] ∧ ∀ l H', Same H H' → H l = none → H' l = some (.lst ((prIn n).map V.int)) → Q (.ref l) H'
abbrev nPrimesIn : List Str := ["number", "prime"]
theorem scPrimesIn : FnScope nPrimesIn ["number"] (defScope sPrimesIn) := ⟨rfl, rfl, rfl, by decide +kernel, rfl, by decide +kernel, by decide +kernel⟩
theorem ok_primesIn {aP : Addr} (F : FnP K "primes_in" sPrimesIn f fd) (gP : mg "PRIMES" = some (.ref aP)) (hT : ∀ H, SqT K H aP (primes.map V.int)) : FnOk P w K mg base CX0 1 f fd ["number"] spPrimesIn := by
  refine F.ok scPrimesIn (fun vs H Q E h => ?_) (fun cdv A outer s H vs Q E hr h => ?_)
  · obtain ⟨_, rfl, _⟩ := h
    rfl
  obtain ⟨n, rfl, q⟩ := h
  refine ⟨_, PSs.nox (pss_one (ps_ret (pe_lc (own := [("prime", 1)]) (g := gName 1) (tt := (tTest (tOp rEq (tOp (rI (fun _ j => 0 < j) fun i j => .int (i % j)) (tVar 0) (tVar 1)) (tC (.int 0))))) (te := (tVar 1)) (by rfl) scPrimesIn.nd (pi_tup (pe_glob (v := .ref aP) (by rfl) gP rfl))
          (blkOk_by (N := nPrimesIn) (sc := defScope sPrimesIn) (by decide +kernel)) (fun _ _ _ _ _ => pg_name (i := 1) scPrimesIn.nd rfl (.inl rfl)) (fun _ _ _ _ _ => pts_one (pt_cmpR op_eq (pe_op op_mod (pv 0) (pv 1)) pe_int (nomark _))) (fun _ _ _ _ _ => (pv 1))))), ?_⟩
  refine ⟨aP, rfl, ⟨_, hT _⟩, fun D hD => ?_⟩
  refine lc_tup (xs := primes.map V.int) (fun i G => Same H G ∧ G D = some (.lst (((primes.take i).filter fun p => decide (n % p = 0)).map V.int))) ⟨same_upd hD, upd_same⟩ (fun i G _ _ => hT G) (fun i x G hx hP => ?_) (fun G hP => ?_)
  · obtain ⟨sG, hG⟩ := hP
    rw [List.getElem?_map] at hx
    obtain ⟨y, hy, rfl⟩ := Option.map_eq_some_iff.mp hx
    have py := primes_pos y (List.mem_of_getElem? hy)
    have tk : primes.take (i + 1) = primes.take i ++ [y] := by
      rw [List.take_add_one, hy]
      rfl
    refine ⟨rfl, ?_⟩
    refine ⟨_, rfl, _, rfl, n, y, rfl, rfl, py, rfl, _, rfl, ?_⟩
    by_cases z : n % y = 0
    · refine iteD1 (congrArg V.int z) ⟨_, rfl, _, hG, ?_, fun b o e => ?_, ?_⟩
      · rw [List.length_map, sizeLine_eq]
        have a := List.length_filter_le (fun p => decide (n % p = 0)) (primes.take i)
        have b := List.length_take_le' i primes
        have c : primes.length = 168 := by decide +kernel
        omega
      · rw [upd_ne (ne_of_none e hD)]
        exact sG _ _ e
      · rw [upd_same, tk, List.filter_append, List.map_append, List.filter_cons_of_pos (p := fun p => decide (n % p = 0)) (decide_eq_true z), List.filter_nil]
        rfl
    · refine iteD0 (ine z) ⟨sG, ?_⟩
      rw [tk, List.filter_append, List.filter_cons_of_neg (by rw [decide_eq_false z]; exact Bool.false_ne_true), List.filter_nil, List.append_nil]
      exact hG
  · obtain ⟨sG, hG⟩ := hP
    rw [List.length_map, List.take_length] at hG
    exact q D G sG hD hG
/-! ### primes_of_roots -/
def spPrimesRoots : Sp := fun vs H Q _ => ∃ (p : Addr) (L : List Part) (D R : Nat), vs = [.ref p] ∧ PartsL H p L ∧ (∀ x ∈ L, 0 < x.1 ∧ x.1.natAbs ∣ D) ∧ 0 < D ∧ D < 2 ^ R ∧ 0 < R ∧ R ≤ 8000 ∧
  ∀ (l : Addr) (m : Nat) (H' : Hp), Same H H' → H l = none → 0 < m → (∀ x ∈ L, x.1.natAbs ∣ m) → (∀ E : Nat, (∀ x ∈ L, x.1.natAbs ∣ E) → m ∣ E) → H' l = some (.lst ((prIn m).map V.int)) → Q (.ref l) H'
abbrev nPrimesRoots : List Str := ["parts", "together", "root", "top", "bottom"]
theorem scPrimesRoots : FnScope nPrimesRoots ["parts"] (defScope sPrimesRoots) := ⟨rfl, rfl, rfl, by decide +kernel, rfl, by decide +kernel, by decide +kernel⟩
theorem ok_primesRoots {fS fI' : Addr} {fdS fdI' : FuncData} (F : FnP K "primes_of_roots" sPrimesRoots f fd) (GS : FnOk P w K mg base CX0 1 fS fdS ["one", "other"] spShared) (bS : L2.Binds K fdS ["one", "other"] []) (kS : PySem.W.keepIn K (.ref fS) = true) (gS : mg "shared" = some (.ref fS))
    (GPI : FnOk P w K mg base CX0 1 fI' fdI' ["number"] spPrimesIn) (bPI : L2.Binds K fdI' ["number"] []) (kPI : PySem.W.keepIn K (.ref fI') = true) (gPI : mg "primes_in" = some (.ref fI')) :
    FnOk P w K mg base CX0 2 f fd ["parts"] spPrimesRoots := by
  refine F.ok scPrimesRoots (fun vs H Q E h => ?_) (fun cdv A outer s H vs Q E hr h => ?_)
  · obtain ⟨_, _, _, _, rfl, _⟩ := h
    rfl
  obtain ⟨p, L, D, R, rfl, ⟨us, hp, hL⟩, hR, D0, DR, R0, R8, q⟩ := h
  have hr1 := hr
  refine ⟨_, PSs.nox (pss_cons (ps_set (i := 1) scPrimesRoots.nd rfl (.inl rfl) pe_int)
      (pss_cons (ps_for PassesOwn.never rfl (pi_tup (pv 0)) (pg_tup rfl (pgs_cons (pg_name (i := 2) scPrimesRoots.nd rfl (.inl rfl)) (pgs_cons (pg_name (i := 3) scPrimesRoots.nd rfl (.inl rfl)) (pgs_cons (pg_name (i := 4) scPrimesRoots.nd rfl (.inl rfl)) pgs_nil))))
        (pss_one (ps_aug (i := 1) scPrimesRoots.nd rfl (.inl rfl) (pe_op op_fdivNW (pv 2) (pe_call GS hr1 (by rfl) gS kS bS .nil pass0 (pa_cons (pv 1) (pa_cons (pv 2) pa_nil)))) iop_mulW)))
      (pss_one (ps_ret (pe_call GPI hr1 (by rfl) gPI kPI bPI .nil pass0 (pa_cons (pv 1) pa_nil)))))), ?_⟩
  refine ⟨_, rfl, p, rfl, ⟨_, SqT.of hp⟩, for_tup (xs := us.map V.ref) (fun i σ H' => ∃ (v2 v3 v4 : Option V) (c : Nat), σ = [some (.ref p), some (.int (c : Int)), v2, v3, v4] ∧ H' = H ∧ 0 < c ∧ (∀ x ∈ L.take i, x.1.natAbs ∣ c) ∧ (∀ E : Nat, (∀ x ∈ L.take i, x.1.natAbs ∣ E) → c ∣ E))
      ⟨none, none, none, 1, rfl, rfl, by decide, (fun x hx => by simp at hx), fun E _ => Nat.one_dvd E⟩ (fun i σ H' _ hP => ?_) (fun i x σ H' hx hP => ?_) (fun σ H' hP => ?_)⟩
  · obtain ⟨_, _, _, _, _, rfl, _⟩ := hP
    exact SqT.of hp
  · obtain ⟨v2, v3, v4, c, rfl, rfl, c0, cd, cm⟩ := hP
    obtain ⟨u, y, rfl, hu', hy, hyv⟩ := hL.get hx
    have hyL : y ∈ L := List.mem_of_getElem? hy
    obtain ⟨y0, yR⟩ := hR y hyL
    have et : L.take (i + 1) = L.take i ++ [y] := by
      rw [List.take_add_one, hy]
      rfl
    obtain ⟨r, er⟩ : ∃ r : Nat, y.1 = (r : Int) := ⟨y.1.toNat, by omega⟩
    rw [er] at y0 yR
    rw [Int.natAbs_natCast] at yR
    have r0 : 0 < r := by omega
    have rD : r ∣ D := yR
    have rR : r < 2 ^ R := Nat.lt_of_le_of_lt (Nat.le_of_dvd D0 rD) DR
    have cD : c ∣ D := cm D fun x hx => (hR x (List.mem_of_mem_take hx)).2
    have cR : c < 2 ^ R := Nat.lt_of_le_of_lt (Nat.le_of_dvd D0 cD) DR
    have gp : 0 < Nat.gcd c r := Nat.gcd_pos_of_pos_left _ c0
    have gB : Nat.gcd c r < 2 ^ R := Nat.lt_of_le_of_lt (Nat.le_of_dvd r0 (Nat.gcd_dvd_right ..)) rR
    have el : c * (r / Nat.gcd c r) = Nat.lcm c r := by
      rw [Nat.lcm, Nat.mul_div_assoc _ (Nat.gcd_dvd_right ..)]
    refine ⟨u, _, rfl, SqT.of hyv, rfl, _, _, rfl, _, _, rfl, _, _, rfl, rfl, ?_⟩
    rw [er]
    refine ⟨_, rfl, _, rfl, _, rfl, _, rfl, (c : Int), (r : Int), rfl, ?_⟩
    rw [show Int.gcd (c : Int) (r : Int) = Nat.gcd c r from rfl]
    refine ⟨(r : Int), ((Nat.gcd c r : Nat) : Int), rfl, rfl, cdivn gp gB R0 R8, (c : Int), _, rfl, rfl, ?_, ?_⟩
    · rw [fdiv_nat]
      exact cmulw (A := R) (B := R) (by rw [Int.natAbs_natCast]; exact cR) (by rw [Int.natAbs_natCast]; exact Nat.lt_of_le_of_lt (Nat.div_le_self ..) rR) R0 R0 (by omega)
    · refine ⟨some (.int (r : Int)), some (.int y.2.num), some (.int (y.2.den : Int)), Nat.lcm c r, ?_, rfl, Nat.lcm_pos c0 r0, fun x hx => ?_, fun E hE => ?_⟩
      · rw [fdiv_nat, ← el]
        show [_, some (V.int ((c : Int) * ((r / Nat.gcd c r : Nat) : Int))), _, _, _] = _
        rw [← Int.natCast_mul]
      · rw [et] at hx
        rcases List.mem_append.mp hx with z | z
        · exact Nat.dvd_trans (cd x z) (Nat.dvd_lcm_left _ _)
        · rw [List.mem_singleton.mp z, er, Int.natAbs_natCast]
          exact Nat.dvd_lcm_right _ _
      · rw [et] at hE
        refine Nat.lcm_dvd (cm E fun x hx => hE x (List.mem_append_left _ hx)) ?_
        have := hE y (List.mem_append_right _ (List.mem_singleton.mpr rfl))
        rw [er, Int.natAbs_natCast] at this
        exact this
  · obtain ⟨v2, v3, v4, c, rfl, rfl, c0, cd, cm⟩ := hP
    have el : us.length = L.length := hL.len
    rw [List.length_map, el, List.take_length] at cd cm
    exact ⟨_, rfl, (c : Int), rfl, fun l H2 s2 hl hl2 => q l c H2 s2 hl c0 cd cm hl2⟩
end
end TC
/-! upside_down: what stays through its loop, and what it ends with -/
namespace TC
open PySem PySem.Spec PyProof.Rows L2 TCA TCX
theorem fr_zero : ∀ (ps : List Nat), letI := (QF.El (QF.cs ps)).ring; QF.fr ps (fun _ => 0) = 0
  | [] => rfl
  | p :: ps => by
    letI := (QF.El (QF.cs ps)).ring
    exact QF.Q2.ext' (fr_zero ps) (fr_zero ps)
/-- a number by itself -/
theorem fr_one : ∀ {ps : List Nat}, (∀ y ∈ ps, QF.Pr y) → ∀ b : Rat, QF.fr ps (fun r => if r = 1 then b else 0) = (QF.El (QF.cs ps)).ι b
  | [], _, b => rfl
  | p :: ps, h, b => by
    letI := (QF.El (QF.cs ps)).ring
    refine QF.Q2.ext' (fr_one (fun y hy => h y (List.mem_cons_of_mem _ hy)) b) ?_
    show QF.fr ps (fun r => if p * r = 1 then b else 0) = 0
    rw [← fr_zero ps]
    refine QF.fr_congr fun u _ => if_neg fun e => ?_
    have p2 := (h p List.mem_cons_self).1
    rcases Nat.eq_zero_or_pos u with z | z
    · rw [z] at e
      omega
    · have := Nat.mul_le_mul p2 z
      omega
/-- the loop: above times the number is c times below -/
theorem inv_step {ps : List Nat} (h : Prm ps) {kA kB kM : List Int} {gA gB gM g0 : Int → Rat} {c : Rat} (cA : Cov gA kA) (cB : Cov gB kB) (cM : Cov gM kM) (oA : On ps gA) (oB : On ps gB) (oM : On ps gM) :
    letI := (QF.El (QF.cs ps)).ring; fI ps gA * fI ps g0 = (QF.El (QF.cs ps)).ι c * fI ps gB → fI ps (prodG kA kM gA gM) * fI ps g0 = (QF.El (QF.cs ps)).ι c * fI ps (prodG kB kM gB gM) := by
  letI := (QF.El (QF.cs ps)).ring
  intro e
  rw [fI_prod h cA cM oA oM, fI_prod h cB cM oB oM]
  generalize fI ps gA = a at e ⊢
  generalize fI ps gB = b at e ⊢
  generalize fI ps gM = m at e ⊢
  generalize fI ps g0 = g at e ⊢
  grind
/-- below at its end -/
theorem fI_end {ps : List Nat} (h : Prm ps) {gB : Int → Rat} (oB : On ps gB) (n : ∀ p ∈ ps, ∀ r, gB r ≠ 0 → ¬ r % (p : Int) = 0) : fI ps gB = (QF.El (QF.cs ps)).ι (gB 1) := by
  unfold fI
  rw [← fr_one h.p]
  refine QF.fr_congr fun u _ => ?_
  by_cases e : u = 1
  · rw [if_pos e, e]
    rfl
  · rw [if_neg e]
    refine Classical.byContradiction fun z => e ?_
    have := only_one oB n z
    omega
theorem end_nz {ps : List Nat} {gB : Int → Rat} (oB : On ps gB) (n : ∀ p ∈ ps, ∀ r, gB r ≠ 0 → ¬ r % (p : Int) = 0) (z : Nz gB) : gB 1 ≠ 0 := by
  obtain ⟨r, hr⟩ := z
  rwa [only_one oB n hr] at hr
/-- scaled values -/
theorem fI_mul (ps : List Nat) (c : Rat) (g : Int → Rat) : letI := (QF.El (QF.cs ps)).ring; fI ps (fun r => c * g r) = (QF.El (QF.cs ps)).ι c * fI ps g := QF.fr_mul ps c fun r => g (r : Int)
/-- the quotient times the lower number is the upper one -/
theorem quot_right {ps : List Nat} (h : Prm ps) {k1 kA kq k0 : List Int} {g1 gA g0 gq go gu : Int → Rat} {c b c1 : Rat} (b0 : b ≠ 0) (c0 : c ≠ 0) (c10 : c1 ≠ 0) (v1 : Cov g1 k1) (vA : Cov gA kA) (vq : Cov gq kq) (v0 : Cov go k0) (o1 : On ps g1) (oA : On ps gA) (oq : On ps gq) (oo : On ps go) (ou : On ps gu)
    (e0 : ∀ r, g0 r = c * go r) (e1 : ∀ r, g1 r = c1 * gu r) (eq : ∀ r, c1 * b * gq r = prodG k1 kA g1 gA r) : letI := (QF.El (QF.cs ps)).ring; fI ps gA * fI ps g0 = (QF.El (QF.cs ps)).ι c * (QF.El (QF.cs ps)).ι b → ∀ r, prodG kq k0 gq go r = gu r := by
  letI := (QF.El (QF.cs ps)).ring
  intro e
  have z0 : fI ps g0 = (QF.El (QF.cs ps)).ι c * fI ps go := by
    rw [← fI_mul]
    exact QF.fr_congr fun u _ => e0 u
  have z1 : fI ps g1 = (QF.El (QF.cs ps)).ι c1 * fI ps gu := by
    rw [← fI_mul]
    exact QF.fr_congr fun u _ => e1 u
  have zq : (QF.El (QF.cs ps)).ι (c1 * b) * fI ps gq = fI ps g1 * fI ps gA := by
    rw [← fI_mul, ← fI_prod h v1 vA o1 oA]
    exact QF.fr_congr fun u _ => eq u
  have inv : ∀ q : Rat, q ≠ 0 → (QF.El (QF.cs ps)).ι q⁻¹ * (QF.El (QF.cs ps)).ι q = 1 := fun q hq => by
    rw [← (QF.El (QF.cs ps)).ιmul, Rat.inv_mul_cancel q hq, (QF.El (QF.cs ps)).ι1]
  refine fI_inj (prod_on h vq v0 oq oo) ou ?_
  rw [fI_prod h vq v0 oq oo]
  have i1 := inv c c0
  have i2 := inv b b0
  have i3 := inv c1 c10
  rw [(QF.El (QF.cs ps)).ιmul] at zq
  rw [z0] at e
  rw [z1] at zq
  generalize fI ps gq = Q at zq ⊢
  generalize fI ps go = O at e ⊢
  generalize fI ps gA = A at e zq
  generalize fI ps gu = U at zq ⊢
  generalize (QF.El (QF.cs ps)).ι c = C at i1 e
  generalize (QF.El (QF.cs ps)).ι c⁻¹ = C' at i1
  generalize (QF.El (QF.cs ps)).ι b = B at i2 e zq
  generalize (QF.El (QF.cs ps)).ι b⁻¹ = B' at i2
  generalize (QF.El (QF.cs ps)).ι c1 = D at i3 zq
  generalize (QF.El (QF.cs ps)).ι c1⁻¹ = D' at i3
  have a1 : A * O = B := by grind
  have a2 : B * Q = U * A := by grind
  have a3 : B * (Q * O) = B * U := by grind
  grind
/-! ### how many roots -/
theorem keys_len : ∀ ps : List Nat, (QF.keys ps).length = 2 ^ ps.length
  | [] => rfl
  | p :: ps => by
    show (QF.keys ps ++ (QF.keys ps).map fun r => p * r).length = 2 ^ (ps.length + 1)
    rw [List.length_append, List.length_map, keys_len ps, Nat.pow_succ]
    omega
theorem kI_len (ps : List Nat) : (kI ps).length = 2 ^ ps.length := by
  unfold kI
  rw [List.length_map, keys_len]
theorem nd_le {α : Type} [DecidableEq α] : ∀ {l m : List α}, l.Nodup → (∀ x ∈ l, x ∈ m) → l.length ≤ m.length
  | [], _, _, _ => Nat.zero_le _
  | a :: l, m, h, hm => by
    obtain ⟨h1, h2⟩ := List.nodup_cons.mp h
    have ha := hm a List.mem_cons_self
    have z := nd_le (l := l) (m := m.erase a) h2 fun x hx => (List.mem_erase_of_ne fun (e : x = a) => h1 (by rw [← e]; exact hx)).mpr (hm x (List.mem_cons_of_mem _ hx))
    rw [List.length_erase_of_mem ha] at z
    have p := List.length_pos_of_mem ha
    show l.length + 1 ≤ _
    omega
/-- keys of a product are roots of these primes; so there are at most 2 to the power of their number -/
theorem keys_prod {ps : List Nat} (h : Prm ps) {k1 k2 ks : List Int} (h1 : ∀ r ∈ k1, r ∈ kI ps) (h2 : ∀ r ∈ k2, r ∈ kI ps) (hu : ∀ u ∈ ks, ∃ r ∈ k1, ∃ s ∈ k2, u = mulR r s) : ∀ u ∈ ks, u ∈ kI ps := fun u m => by
  obtain ⟨r, hr, s, hs, rfl⟩ := hu u m
  obtain ⟨a, ha, rfl⟩ := List.mem_map.mp (h1 r hr)
  obtain ⟨b, hb, rfl⟩ := List.mem_map.mp (h2 s hs)
  rw [mulR_nat]
  exact List.mem_map.mpr ⟨_, QF.mu_keys h.p h.nd a ha b hb, rfl⟩
theorem keys_few {ps : List Nat} {ks : List Int} (nd : ks.Nodup) (hk : ∀ u ∈ ks, u ∈ kI ps) : ks.length ≤ 2 ^ ps.length := by
  rw [← kI_len]
  exact nd_le nd hk
/-! ### whole tops -/
def qv (t : Int → Int) (r : Int) : Rat := ((t r : Int) : Rat)
theorem intd_cov {H : Hp} {d : Addr} {ks : List Int} {t : Int → Int} (h : IntD H d ks t) : Cov (qv t) ks := by
  obtain ⟨_, _, _, _, nd, out⟩ := h
  refine ⟨nd, fun r hr => Classical.byContradiction fun z => hr ?_⟩
  unfold qv
  rw [out r z]
  rfl
theorem sumI_Q (f : Int → Int) : ∀ l : List Int, ((sumI (l.map f) : Int) : Rat) = sumQ (l.map fun r => ((f r : Int) : Rat))
  | [] => rfl
  | a :: l => by
    show ((f a + sumI (l.map f) : Int) : Rat) = ((f a : Int) : Rat) + sumQ (l.map fun r => ((f r : Int) : Rat))
    rw [Rat.intCast_add, sumI_Q f l]
/-- the products of whole tops -/
theorem prodI_G (k1 k2 : List Int) (t1 t2 : Int → Int) (u : Int) : qv (prodI k1 k2 t1 t2) u = prodG k1 k2 (qv t1) (qv t2) u := by
  unfold qv prodI prodG
  rw [sumI_Q]
  refine sumQ_congr fun r _ => ?_
  unfold rowI
  rw [sumI_Q]
  refine sumQ_congr fun s _ => ?_
  split
  · rw [Rat.intCast_mul, Rat.intCast_mul]
  · rfl
end TC
/-! upside_down: its loop, pure -/
namespace TC
open PySem PySem.Spec PyProof.Rows L2 TCA TCX
def mirI (p : Int) (t : Int → Int) (r : Int) : Int := if r % p = 0 then -(t r) else t r
theorem qv_mir (p : Nat) (t : Int → Int) (r : Int) : qv (mirI (p : Int) t) r = mir p (qv t) r := by
  unfold mirI mir qv
  dsimp only
  split
  · rw [Rat.intCast_neg]
    grind
  · grind
theorem mirI_abs (p : Int) (t : Int → Int) (r : Int) : (mirI p t r).natAbs = (t r).natAbs := by
  unfold mirI
  split
  · exact Int.natAbs_neg _
  · rfl
theorem kI_pos {ps : List Nat} (h : Prm ps) : ∀ r ∈ kI ps, 0 < r := fun r hr => by
  obtain ⟨u, hu, rfl⟩ := List.mem_map.mp hr
  have : ∀ {ps : List Nat}, (∀ y ∈ ps, QF.Pr y) → ∀ u ∈ QF.keys ps, 0 < u := by
    intro ps
    induction ps with
    | nil =>
      intro _ u hu
      rw [List.mem_singleton.mp hu]
      decide
    | cons x ps ih =>
      intro h u hu
      rcases List.mem_append.mp hu with z | z
      · exact ih (fun y hy => h y (List.mem_cons_of_mem _ hy)) u z
      · obtain ⟨v, hv, rfl⟩ := List.mem_map.mp z
        have a := ih (fun y hy => h y (List.mem_cons_of_mem _ hy)) v hv
        have b := (h x List.mem_cons_self).1
        exact Nat.mul_pos (by omega) a
  have := this h.p u hu
  omega
theorem on_of {ps : List Nat} {ks : List Int} {t : Int → Int} (hk : ∀ r ∈ ks, r ∈ kI ps) (out : ∀ r, r ∉ ks → t r = 0) : On ps (qv t) := fun r hr => hk r (Classical.byContradiction fun z => hr (by unfold qv; rw [out r z]; rfl))
theorem cov_of {ks : List Int} {t : Int → Int} (nd : ks.Nodup) (out : ∀ r, r ∉ ks → t r = 0) : Cov (qv t) ks := ⟨nd, fun r hr => Classical.byContradiction fun z => hr (by unfold qv; rw [out r z]; rfl)⟩
theorem qv_ne {t : Int → Int} {r : Int} : qv t r ≠ 0 ↔ t r ≠ 0 := by
  unfold qv
  exact ⟨fun h e => h (by rw [e]; rfl), fun h e => h (Rat.intCast_inj.mp (by rw [e]; rfl))⟩
structure Ups (ps : List Nat) (g0 : Int → Rat) (c : Rat) (s m i : Nat) (kA kB : List Int) (tA tB : Int → Int) : Prop where
  a : ∀ r ∈ kA, r ∈ kI ps
  b : ∀ r ∈ kB, r ∈ kI ps
  ndA : kA.Nodup
  ndB : kB.Nodup
  outA : ∀ r, r ∉ kA → tA r = 0
  outB : ∀ r, r ∉ kB → tB r = 0
  E : ∃ E, 0 < E ∧ E + s ≤ 2 ^ i * m ∧ (∀ r, (tA r).natAbs < 2 ^ E) ∧ ∀ r, (tB r).natAbs < 2 ^ E
  nz : Nz (qv tB)
  no : ∀ q ∈ ps.take i, ∀ r, qv tB r ≠ 0 → ¬ r % (q : Int) = 0
  eq : letI := (QF.El (QF.cs ps)).ring; fI ps (qv tA) * fI ps g0 = (QF.El (QF.cs ps)).ι c * fI ps (qv tB)
section
variable {ps : List Nat} {g0 : Int → Rat} {c : Rat} {s m i : Nat} {kA kB : List Int} {tA tB : Int → Int} {p : Nat}
theorem Ups.skip (h : Ups ps g0 c s m i kA kB tA tB) (hp : ps[i]? = some p) (n : ∀ r ∈ kB, ¬ r % (p : Int) = 0) : Ups ps g0 c s m (i + 1) kA kB tA tB := by
  refine ⟨h.a, h.b, h.ndA, h.ndB, h.outA, h.outB, ?_, h.nz, fun q hq r hr => ?_, h.eq⟩
  · obtain ⟨E, E0, E1, E2⟩ := h.E
    exact ⟨E, E0, Nat.le_trans E1 (Nat.mul_le_mul_right _ (Nat.pow_le_pow_right (by decide) (Nat.le_succ _))), E2⟩
  · rw [List.take_add_one, hp] at hq
    rcases List.mem_append.mp hq with z | z
    · exact h.no q z r hr
    · have e : q = p := by simpa using z
      rw [e]
      exact n r (Classical.byContradiction fun y => hr (by unfold qv; rw [h.outB r y]; rfl))
theorem fI_congr {ps : List Nat} {f g : Int → Rat} (e : ∀ r, f r = g r) : fI ps f = fI ps g := by
  have : f = g := funext e
  rw [this]
theorem Ups.step (P : Prm ps) (len : ps.length ≤ 6) {R : Nat} (hR : ∀ r ∈ kI ps, r.natAbs < 2 ^ R) (hs : R + 13 ≤ s) (h : Ups ps g0 c s m i kA kB tA tB) (hp : ps[i]? = some p) {kA' kB' : List Int}
    (ndA : kA'.Nodup) (ndB : kB'.Nodup) (outA : ∀ r, r ∉ kA' → prodI kA kB tA (mirI p tB) r = 0) (outB : ∀ r, r ∉ kB' → prodI kB kB tB (mirI p tB) r = 0)
    (sA : ∀ u ∈ kA', ∃ r ∈ kA, ∃ s ∈ kB, u = mulR r s) (sB : ∀ u ∈ kB', ∃ r ∈ kB, ∃ s ∈ kB, u = mulR r s) : Ups ps g0 c s m (i + 1) kA' kB' (prodI kA kB tA (mirI p tB)) (prodI kB kB tB (mirI p tB)) := by
  have outM : ∀ r, r ∉ kB → mirI p tB r = 0 := fun r hr => by
    have := mirI_abs p tB r
    rw [h.outB r hr] at this
    exact Int.natAbs_eq_zero.mp this
  have cA := cov_of h.ndA h.outA
  have cB := cov_of h.ndB h.outB
  have cM := cov_of h.ndB outM
  have oA := on_of h.a h.outA
  have oB := on_of h.b h.outB
  have oM := on_of h.b outM
  have pm : p ∈ ps := List.mem_of_getElem? hp
  have eM : ∀ r, qv (mirI (p : Int) tB) r = mir p (qv tB) r := qv_mir p tB
  have eA : ∀ u, qv (prodI kA kB tA (mirI p tB)) u = prodG kA kB (qv tA) (qv (mirI p tB)) u := fun u => prodI_G kA kB tA _ u
  have eB : ∀ u, qv (prodI kB kB tB (mirI p tB)) u = prodG kB kB (qv tB) (qv (mirI p tB)) u := fun u => prodI_G kB kB tB _ u
  have fM : qv (mirI (p : Int) tB) = mir p (qv tB) := funext eM
  refine ⟨keys_prod P h.a h.b sA, keys_prod P h.b h.b sB, ndA, ndB, outA, outB, ?_, ?_, fun q hq r hr => ?_, ?_⟩
  · obtain ⟨E, E0, E1, E2, E3⟩ := h.E
    have lB : kB.length ≤ 64 := Nat.le_trans (keys_few h.ndB h.b) (Nat.pow_le_pow_right (n := 2) (by decide) len)
    have lA : kA.length ≤ 64 := Nat.le_trans (keys_few h.ndA h.a) (Nat.pow_le_pow_right (n := 2) (by decide) len)
    have one : ∀ (k : List Int) (t : Int → Int), k.length ≤ 64 → (∀ r ∈ k, r ∈ kI ps) → (∀ r, (t r).natAbs < 2 ^ E) → ∀ u, (prodI k kB t (mirI p tB) u).natAbs < 2 ^ (E + E + s) := fun k t lk hk ht u => by
      have bt : ∀ r ∈ k, ∀ s ∈ kB, (t r * mirI p tB s * gR r s).natAbs ≤ 2 ^ (E + E + R) := fun r hr s hs => by
        refine Nat.le_of_lt (wide_lt (wide_lt (ht r) (by rw [mirI_abs]; exact E3 s)) ?_)
        unfold gR
        rw [Int.natAbs_natCast]
        have r0 := kI_pos P r (hk r hr)
        exact Nat.lt_of_le_of_lt (Nat.le_of_dvd (by omega) (Int.gcd_dvd_natAbs_left r s)) (hR r (hk r hr))
      refine Nat.lt_of_le_of_lt (prodI_le bt u) ?_
      have l2 : k.length * kB.length ≤ 64 * 64 := Nat.mul_le_mul lk lB
      refine Nat.lt_of_lt_of_le (m := 2 ^ (E + E + R + 13)) ?_ (Nat.pow_le_pow_right (by decide) (by omega))
      rw [Nat.pow_add 2 _ 13, Nat.mul_comm]
      exact Nat.mul_lt_mul_of_pos_left (show k.length * kB.length < 2 ^ 13 by omega) (Nat.pow_pos (by decide))
    refine ⟨E + E + s, by omega, ?_, one kA tA lA h.a E2, one kB tB lB h.b E3⟩
    rw [Nat.pow_succ, Nat.mul_right_comm]
    omega
  · have := prod_nz P cB (mir_cov (p := p) cB) oB (mir_on oB) h.nz (mir_Nz h.nz)
    obtain ⟨u, hu⟩ := this
    exact ⟨u, by rw [eB u, fM]; exact hu⟩
  · rw [eB r, fM] at hr
    rw [List.take_add_one, hp] at hq
    rcases List.mem_append.mp hq with z | z
    · exact prod_out P (List.mem_of_mem_take z) cB (mir_cov cB) oB (mir_on oB) (h.no q z) (fun w hw => h.no q z w (mir_nz.mp hw)) hr
    · have e : q = p := by simpa using z
      rw [e]
      exact prod_mir P pm cB oB hr
  · rw [fI_congr eA, fI_congr eB]
    exact inv_step P cA cB cM oA oB oM h.eq
theorem Ups.start (P : Prm ps) {k0 : List Int} {t0 : Int → Int} {cc : Int} {E : Nat} (hk : ∀ r ∈ k0, r ∈ kI ps) (nd : k0.Nodup) (out : ∀ r, r ∉ k0 → t0 r = 0) (E0 : 0 < E) (Em : E + s ≤ m) (hc : cc.natAbs < 2 ^ E) (ht : ∀ r, (t0 r).natAbs < 2 ^ E) (nz : Nz (qv t0)) :
    Ups ps (qv t0) (cc : Rat) s m 0 [1] k0 (setI (fun _ => 0) 1 cc) t0 := by
  have one : (1 : Int) ∈ kI ps := List.mem_map.mpr ⟨1, by
    clear hk
    have : ∀ ps : List Nat, 1 ∈ QF.keys ps := by
      intro ps
      induction ps with
      | nil => exact List.mem_singleton.mpr rfl
      | cons x ps ih => exact List.mem_append_left _ ih
    exact this ps, rfl⟩
  refine ⟨fun r hr => ?_, hk, by simp, nd, fun r hr => ?_, out, ⟨E, E0, by omega, fun r => ?_, ht⟩, nz, fun q hq => by simp at hq, ?_⟩
  · rw [List.mem_singleton.mp hr]
    exact one
  · unfold setI
    rw [if_neg fun e => hr (List.mem_singleton.mpr e)]
  · unfold setI
    split
    · exact hc
    · exact Nat.pow_pos (by decide)
  · letI := (QF.El (QF.cs ps)).ring
    show fI ps (qv (setI (fun _ => 0) 1 cc)) * _ = _
    have : fI ps (qv (setI (fun _ => 0) 1 cc)) = (QF.El (QF.cs ps)).ι (cc : Rat) := by
      rw [← fr_one P.p]
      refine QF.fr_congr fun u _ => ?_
      show qv (setI (fun _ => 0) 1 cc) (u : Int) = _
      unfold qv setI
      by_cases e : u = 1
      · rw [if_pos e, if_pos (by rw [e]; rfl)]
      · rw [if_neg e, if_neg (by omega)]
        rfl
    rw [this]
/-- at the loop's end -/
theorem Ups.last (h : Ups ps g0 c s m ps.length kA kB tA tB) (P : Prm ps) : tB 1 ≠ 0 ∧ (1 : Int) ∈ kB ∧ (letI := (QF.El (QF.cs ps)).ring; fI ps (qv tA) * fI ps g0 = (QF.El (QF.cs ps)).ι c * (QF.El (QF.cs ps)).ι (qv tB 1)) := by
  have no : ∀ p ∈ ps, ∀ r, qv tB r ≠ 0 → ¬ r % (p : Int) = 0 := fun p hp => h.no p (by rw [List.take_length]; exact hp)
  have oB := on_of h.b h.outB
  have nz := qv_ne.mp (end_nz oB no h.nz)
  refine ⟨nz, Classical.byContradiction fun z => nz (h.outB 1 z), ?_⟩
  rw [← fI_end P oB no]
  exact h.eq
end
/-- the end's equation -/
def UpEq (ps : List Nat) (g g0 : Int → Rat) (c b : Rat) : Prop := letI := (QF.El (QF.cs ps)).ring; fI ps g * fI ps g0 = (QF.El (QF.cs ps)).ι c * (QF.El (QF.cs ps)).ι b
end TC
namespace TC
set_option exponentiation.threshold 20000
open PySem PySem.Spec PyProof.Rows L2 TCA TCX
section
variable {P : Program} {w : World} {K : PySem.W.Frag} {mg : Str → Option Value} {base : Heap} {f : Addr} {fd : FuncData} {C fI fQ : Addr}
/-! ### upside_down: the rules fit; the steps are still to be written -/
def spUpside : Sp := fun vs H Q _ => ∃ (p l : Addr) (M : List Part) (ps : List Nat) (D A B R : Nat), vs = [.ref p, .ref l] ∧ PartsL H p M ∧ TCR.Canon M ∧ (∀ x ∈ M, x.2.den ∣ D) ∧ 0 < D ∧ D < 2 ^ B ∧ 0 < B ∧ B ≤ 8000 ∧ (∀ x ∈ M, x.2.num.natAbs < 2 ^ A) ∧ 0 < A ∧ A ≤ 20000 ∧ M.length ≤ 1000 ∧ M ≠ [] ∧
  Prm ps ∧ ps.length ≤ 6 ∧ (∀ x ∈ M, x.1 ∈ kI ps) ∧ (∀ r ∈ kI ps, r.natAbs < 2 ^ R) ∧ 0 < R ∧ R ≤ 1000 ∧ 64 * (A + B + R + 13) ≤ 8000 ∧ H l = some (.lst ((ps.map fun (x : Nat) => (x : Int)).map V.int)) ∧
  ∀ (v d : Addr) (ks : List Int) (t : Int → Int) (b : Int) (c : Nat) H', Same H H' → H v = none → H' v = some (.tup [.ref d, .int b]) → H d = none → IntD H' d ks t → (∀ r ∈ ks, r ∈ kI ps) → ks.length ≤ 64 → b ≠ 0 → b.natAbs < 2 ^ (64 * (A + B + R + 13)) → (∀ r, (t r).natAbs < 2 ^ (64 * (A + B + R + 13))) → 0 < c → (∀ x ∈ M, x.2.den ∣ c) →
    UpEq ps (qv t) (qv (topsOf M c)) ((c : Int) : Rat) ((b : Int) : Rat) → Q (.ref v) H'
abbrev nUpside : List Str := ["parts", "primes", "below", "bottom", "above", "prime", "root", "mirror", "top"]
theorem scUpside : FnScope nUpside ["parts", "primes"] (defScope sUpside) := ⟨rfl, rfl, rfl, by decide +kernel, rfl, by decide +kernel, by decide +kernel⟩
theorem ok_upside {fOB fPd : Addr} {fdOB fdPd : FuncData} (F : FnP K "upside_down" sUpside f fd) (GOB : FnOk P w K mg base CX0 2 fOB fdOB ["parts"] spOneB) (bOB : L2.Binds K fdOB ["parts"] []) (kOB : PySem.W.keepIn K (.ref fOB) = true) (gOB : mg "on_one_bottom" = some (.ref fOB))
    (GPd : FnOk P w K mg base CX0 2 fPd fdPd ["tops", "others"] spProducts) (bPd : L2.Binds K fdPd ["tops", "others"] []) (kPd : PySem.W.keepIn K (.ref fPd) = true) (gPd : mg "products" = some (.ref fPd)) (gany : mg "any" = none) :
    FnOk P w K mg base CX0 3 f fd ["parts", "primes"] spUpside := by
  refine F.ok scUpside (fun vs H Q E h => ?_) (fun cdv A outer s H vs Q E hr h => ?_)
  · obtain ⟨_, _, _, _, _, _, _, _, rfl, _⟩ := h
    rfl
  obtain ⟨p, l, M, ps, D, A, B, R, rfl, hp, cM, dD, D0, DB, B0, B8, zA, A0, A2, len, mn, PP, pl, hk, hkR, R0, R1, bd, hl, q⟩ := h
  have hu := hu_of hr
  have hr2 := hr
  refine ⟨_, PSs.nox (C8.pss_cut (ps_asg (pe_call GOB hr2 (by rfl) gOB kOB bOB .nil pass0 (pa_cons (pv 0) pa_nil)) (pg_tup rfl (pgs_cons (pg_name (i := 2) scUpside.nd rfl (.inl rfl)) (pgs_cons (pg_name (i := 3) scUpside.nd rfl (.inl rfl)) pgs_nil))))
      (C8.pss_cut (ps_set (i := 4) scUpside.nd rfl (.inl rfl) (pe_disp (pps_cons pe_int (pv 3) pps_nil) (by rfl) (by rfl) (fun z => by cases z) (by decide)))
      (C8.pss_cut (ps_for PassesOwn.never rfl (pi_list (pv 1)) (pg_name (i := 5) scUpside.nd rfl (.inr rfl))
        (pss_one (ps_if (pt_val (pe_lock (pe_callB (cr_any rfl) (by rfl) gany (by decide +kernel) (pa_cons (pe_lc (own := [("root", 6)]) (g := gName 6) (tt := tYes) (te := (tOp rEq (tOp (rI (fun _ j => 0 < j) fun i j => .int (i % j)) (tVar 6) (tVar 5)) (tC (.int 0)))) (by rfl) scUpside.nd (pi_keys (pv 2))
          (blkOk_by (N := nUpside) (sc := defScope sUpside) (by decide +kernel)) (fun _ _ _ _ _ => pg_name (i := 6) scUpside.nd rfl (.inl rfl)) (fun _ _ _ _ _ => pts_nil) (fun _ _ _ _ _ => (pe_cmpR op_eq (pe_op op_mod (pv 6) (pv 5)) pe_int (nomark _)))) pa_nil))))
          (C8.pss_cut (ps_lock (ps_setDc (i := 7) (own := [("root", 6), ("top", 8)]) (g := gTup K 2 (gCons (gName 6) (gCons (gName 8) gNil))) (tt := tYes) (tk := tVar 6) (tv := tIf (tTest (tOp rEq (tOp (rI (fun _ j => 0 < j) fun i j => .int (i % j)) (tVar 6) (tVar 5)) (tC (.int 0)))) (tUn (rU fun i => .int (-i)) (tVar 8)) (tVar 8)) rfl scUpside.nd rfl rfl (sw_dict rfl rfl rfl (by decide +kernel)) (pi_items (pv 2))
          (blkOk_by (N := nUpside) (sc := defScope sUpside) (by decide +kernel)) (fun _ _ _ _ _ => pg_tup rfl (pgs_cons (pg_name (i := 6) scUpside.nd rfl (.inl rfl)) (pgs_cons (pg_name (i := 8) scUpside.nd rfl (.inl rfl)) pgs_nil))) (fun _ _ _ _ _ => pts_nil) (fun _ _ _ _ _ => pv 6) (fun _ _ _ _ _ => pe_ifExp (pt_cmpR op_eq (pe_op op_mod (pv 6) (pv 5)) pe_int (nomark _)) (pe_un un_neg (pv 8)) (pv 8))))
          (C8.pss_cut (ps_set (i := 4) scUpside.nd rfl (.inl rfl) (pe_call GPd hr2 (by rfl) gPd kPd bPd .nil pass0 (pa_cons (pv 4) (pa_cons (pv 7) pa_nil))))
          (pss_one (ps_set (i := 2) scUpside.nd rfl (.inl rfl) (pe_call GPd hr2 (by rfl) gPd kPd bPd .nil pass0 (pa_cons (pv 2) (pa_cons (pv 7) pa_nil))))))) pss_nil)))
      (pss_one (ps_ret (pe_tup (pa_cons (pv 4) (pa_cons (pe_dget hu (pv 2) pe_int (fun _ _ => rfl)) pa_nil)))))))), ?_⟩
  obtain ⟨us, hp', hL⟩ := id hp
  refine ⟨fun σ1 H1 => ∃ (dB : Addr) (c : Nat), σ1 = [some (.ref p), some (.ref l), some (.ref dB), some (.int (c : Int)), none, none, none, none, none] ∧ Same H H1 ∧ H dB = none ∧ IntD H1 dB (M.map (·.1)) (topsOf M c) ∧ 0 < c ∧ c ∣ D ∧ (∀ x ∈ M, x.2.den ∣ c), ?_, fun σ1 H1 h1 => ?_⟩
  · refine ⟨_, rfl, p, M, D, A, B, rfl, hp, cM, dD, D0, DB, B0, B8, zA, A0, A2, len, fun v dB c H1 s1 hv1 ev1 hd1 i1 c0 cD cd => ?_⟩
    refine ⟨v, _, rfl, SqT.of ev1, rfl, _, _, rfl, _, _, rfl, rfl, ?_⟩
    exact ⟨dB, c, rfl, s1, hd1, i1, c0, cD, cd⟩
  obtain ⟨dB, c, rfl, s1, hdB, iB, c0, cD, cd⟩ := h1
  refine ⟨fun σ2 H2 => ∃ (dA : Addr), σ2 = [some (.ref p), some (.ref l), some (.ref dB), some (.int (c : Int)), some (.ref dA), none, none, none, none] ∧ Same H H2 ∧ IntD H2 dB (M.map (·.1)) (topsOf M c) ∧ IntD H2 dA [1] (setI (fun _ => 0) 1 (c : Int)) ∧ H dA = none, ?_, fun σ2 H2 h2 => ?_⟩
  · intro dA hA
    have sA := same_upd (o := .dK []) hA
    refine ⟨_, rfl, upd_same, [(Sum.inl 1, .int (c : Int))], rfl, by show 1 ≤ 15; decide, ?_⟩
    have e2 : upd (upd H1 dA (.dK [])) dA (.dK (mergeK [] [(Sum.inl 1, .int (c : Int))])) = upd H1 dA (.dK [(Sum.inl 1, .int (c : Int))]) := by
      funext b
      unfold L2.upd
      split <;> rfl
    rw [e2]
    refine ⟨dA, rfl, s1.trans (same_upd hA), iB.same (same_upd hA), ⟨[(Sum.inl 1, .int (c : Int))], upd_same, rfl, fun r hr => ?_, by simp, fun r hr => ?_⟩, s1.free hA⟩
    · rw [List.mem_singleton.mp hr]
      rfl
    · unfold setI
      rw [if_neg fun e => hr (List.mem_singleton.mpr e)]
  obtain ⟨dA, rfl, s2, iB2, iA2, hdA⟩ := h2
  refine ⟨fun σ3 H3 => ∃ (dA dB : Addr) (kA kB : List Int) (tA tB : Int → Int) (v5 v6 v7 v8 : Option V), σ3 = [some (.ref p), some (.ref l), some (.ref dB), some (.int (c : Int)), some (.ref dA), v5, v6, v7, v8] ∧ Same H H3 ∧ H dA = none ∧ IntD H3 dA kA tA ∧ IntD H3 dB kB tB ∧ Ups ps (qv (topsOf M c)) (((c : Int)) : Rat) (R + 13) (A + B + R + 13) ps.length kA kB tA tB, ?_, fun σ3 H3 h3 => ?_⟩
  · refine ⟨_, rfl, l, rfl, ⟨_, SqL.of (s2 _ _ hl)⟩, for_list (xs := (ps.map fun (x : Nat) => (x : Int)).map V.int) (fun i σ H' => ∃ (dA dB : Addr) (kA kB : List Int) (tA tB : Int → Int) (v5 v6 v7 v8 : Option V), σ = [some (.ref p), some (.ref l), some (.ref dB), some (.int (c : Int)), some (.ref dA), v5, v6, v7, v8] ∧ Same H H' ∧ H dA = none ∧ IntD H' dA kA tA ∧ IntD H' dB kB tB ∧ Ups ps (qv (topsOf M c)) (((c : Int)) : Rat) (R + 13) (A + B + R + 13) i kA kB tA tB)
      ⟨dA, dB, [1], M.map (·.1), _, _, none, none, none, none, rfl, s2, hdA, iA2, iB2, ?_⟩ (fun i σ H' _ hP => ?_) (fun i x σ H' hx hP => ?_) (fun σ H' hP => ?_)⟩
    · obtain ⟨kv, e1, e2, e3, e4, e5⟩ := iB2
      have cB : c < 2 ^ B := Nat.lt_of_le_of_lt (Nat.le_of_dvd D0 cD) DB
      have zv : ∀ r, (TCR.val M r).num.natAbs < 2 ^ A := fun r => by
        rcases Classical.em (∃ q, (r, q) ∈ M) with ⟨q, z⟩ | z
        · rw [cM.mem z]
          exact zA _ z
        · rw [TCR.val_not fun x hx e => z ⟨x.2, by rw [← e]; exact hx⟩]
          exact Nat.pow_pos (by decide)
      refine Ups.start (E := A + B) PP (fun r hr => ?_) e4 e5 (by omega) (by omega) ?_ (fun r => tops_lt cB zv r) ?_
      · obtain ⟨x, hx, rfl⟩ := List.mem_map.mp hr
        exact hk x hx
      · rw [Int.natAbs_natCast]
        exact Nat.lt_of_lt_of_le cB (Nat.pow_le_pow_right (by decide) (by omega))
      · obtain ⟨x, hx⟩ := List.exists_mem_of_ne_nil M mn
        refine ⟨x.1, qv_ne.mpr fun e => ?_⟩
        have z := topsOf_div (L := M) c0 x.1 (by rw [cM.mem hx]; exact cd x hx)
        rw [e, Rat.zero_divInt, cM.mem hx] at z
        exact cM.nz x hx z.symm
    · obtain ⟨_, _, _, _, _, _, _, _, _, _, _, sm, _⟩ := hP
      exact SqL.of (sm _ _ hl)
    · obtain ⟨dA, dB, kA, kB, tA, tB, v5, v6, v7, v8, rfl, sm, hdA, iA, iB, U⟩ := hP
      rw [List.getElem?_map, List.getElem?_map] at hx
      obtain ⟨q0, hq0, rfl⟩ : ∃ q0, ps[i]? = some q0 ∧ V.int (q0 : Int) = x := by
        cases e : ps[i]? with
        | none =>
          rw [e] at hx
          cases hx
        | some z =>
          rw [e] at hx
          exact ⟨z, rfl, Option.some.inj hx⟩
      have il : i < ps.length := (List.getElem?_eq_some_iff.mp hq0).1
      have q2 : 2 ≤ q0 := (PP.p q0 (List.mem_of_getElem? hq0)).1
      have q00 : (0 : Int) < (q0 : Int) := by omega
      obtain ⟨kvB, b1, b2, b3, b4, b5⟩ := id iB
      have lkB := len_keys b2
      have lB : kB.length ≤ 64 := Nat.le_trans (keys_few U.ndB U.b) (Nat.pow_le_pow_right (n := 2) (by decide) pl)
      have lA : kA.length ≤ 64 := Nat.le_trans (keys_few U.ndA U.a) (Nat.pow_le_pow_right (n := 2) (by decide) pl)
      -- any
      refine ⟨dB, .dK kvB, b1, trivial, fun o => ?_⟩
      refine ⟨_, rfl, dB, o, rfl, .inl ⟨kvB, upd_same, fun D hD => ?_⟩⟩
      have nDB : dB ≠ D := ne_of_none (upd_same (H := H') (a := dB) (o := .frz o (.dK kvB))) hD
      refine lc_it walk_keys (fun j G => (∀ b o', H' b = some o' → b ≠ dB → G b = some o') ∧ G dB = some (.frz o (.dK kvB)) ∧ G D = some (.lst (((kB.take j).map fun r => decide (r % (q0 : Int) = 0)).map V.bl))) ⟨fun b o' e hb => ?_, by rw [upd_ne nDB]; exact upd_same, upd_same⟩ (fun j G _ hP => hP.2.1) (fun j x G G2 hj hP hy => ?_) (fun G hP => ?_)
      · exact same_upd hD _ _ (by rw [upd_ne hb]; exact e)
      · obtain ⟨rfl, k, v, hkv, rfl⟩ := hy
        obtain ⟨g1, g2, g3⟩ := hP
        obtain ⟨r, hr, rfl⟩ := key_at b2 hkv
        have et : kB.take (j + 1) = kB.take j ++ [r] := by
          rw [List.take_add_one, hr]
          rfl
        refine ⟨rfl, _, rfl, _, rfl, r, (q0 : Int), rfl, rfl, q00, rfl, _, g3, ?_, fun b o' e hb => ?_, ?_, ?_⟩
        · rw [List.length_map, List.length_map, List.length_take]
          exact Nat.lt_of_le_of_lt (m := 1000) (by omega) (by decide)
        · have nb : b ≠ D := fun z => by
            rw [z] at e hb
            have := (by rw [upd_ne hb]; exact e : (upd H' dB (.frz o (.dK kvB))) D = some o')
            rw [hD] at this
            cases this
          rw [upd_ne nb]
          exact g1 _ _ e hb
        · rw [upd_ne nDB]
          exact g2
        · rw [upd_same, et, List.map_append, List.map_append]
          show some (HO.lst (_ ++ [V.bl (decide (V.int (r % (q0 : Int)) = V.int 0))])) = some (HO.lst (_ ++ [V.bl (decide (r % (q0 : Int) = 0))]))
          rw [show decide (V.int (r % (q0 : Int)) = V.int 0) = decide (r % (q0 : Int) = 0) from decide_eq_decide.mpr ⟨fun z => V.int.inj z, fun z => congrArg V.int z⟩]
      · obtain ⟨g1, g2, g3⟩ := hP
        rw [lkB, List.take_length] at g3
        refine ⟨D, kB.map (fun r => decide (r % (q0 : Int) = 0)), rfl, SqL.of g3, g2, _, rfl, ?_⟩
        have smq : Same H' (upd G dB (.dK kvB)) := fun b o' e => by
          by_cases hb : b = dB
          · rw [hb, upd_same]
            rw [hb, b1] at e
            exact e
          · rw [upd_ne hb]
            exact g1 _ _ e hb
        generalize upd G dB (.dK kvB) = Hq at smq ⊢
        have smH := sm.trans smq
        by_cases an : ∃ r ∈ kB, r % (q0 : Int) = 0
        · have ea : (kB.map (fun r => decide (r % (q0 : Int) = 0))).any id = true := by
            obtain ⟨r, hr, z⟩ := an
            exact List.any_eq_true.mpr ⟨_, List.mem_map.mpr ⟨r, hr, rfl⟩, decide_eq_true z⟩
          rw [ea]
          refine ⟨fun σ4 H4 => ∃ dM : Addr, σ4 = [some (.ref p), some (.ref l), some (.ref dB), some (.int (c : Int)), some (.ref dA), some (.int (q0 : Int)), v6, some (.ref dM), v8] ∧ Same Hq H4 ∧ Hq dM = none ∧ IntD H4 dM kB (mirI q0 tB), ?_, fun σ4 H4 h4 => ?_⟩
          · refine ⟨dB, .dK kvB, smq _ _ b1, trivial, fun o2 => ?_⟩
            refine ⟨_, rfl, dB, o2, kvB, rfl, upd_same, fun D2 hD2 => ?_⟩
            have nD2 : dB ≠ D2 := ne_of_none (upd_same (H := Hq) (a := dB) (o := .frz o2 (.dK kvB))) hD2
            have hqD : Hq D2 = none := by
              rw [upd_ne nD2.symm] at hD2
              exact hD2
            refine dc_it (walk_items (d := dB) (o := o2) (kvs := kvB)) (fun j G => (∀ b o', Hq b = some o' → b ≠ dB → G b = some o') ∧ G dB = some (.frz o2 (.dK kvB)) ∧ IntD G D2 (kB.take j) (fun r => if r ∈ kB.take j then mirI q0 tB r else 0)) ⟨fun b o' e hb => ?_, by rw [upd_ne nD2]; exact upd_same, [], upd_same, rfl, (fun r hr => by cases hr), List.nodup_nil, fun r _ => by simp⟩ (fun j G _ hP => hP.2.1) (fun j x G G2 hj hP hy => ?_) (fun G hP => ?_)
            · exact same_upd hD2 _ _ (by rw [upd_ne hb]; exact e)
            · obtain ⟨T3, x, y, rfl, hT3, rfl, hx, hy⟩ := hy
              obtain ⟨g1, g2, g3⟩ := hP
              obtain ⟨u, hu', rfl, rfl⟩ := int_at b2 b3 b4 hx hy
              have sm3 := same_upd (o := .tup [.int u, .int (tB u)]) hT3
              refine ⟨T3, _, rfl, SqT.of upd_same, rfl, _, _, rfl, _, _, rfl, rfl, rfl, ?_⟩
              have et : kB.take (j + 1) = kB.take j ++ [u] := by
                rw [List.take_add_one, hu']
                rfl
              have un : u ∉ kB.take j := fun z => by
                have := U.ndB
                rw [← List.take_append_drop (j + 1) kB, et] at this
                have := (List.nodup_append.mp (List.nodup_append.mp this).1).2.2 u z u (List.mem_singleton.mpr rfl)
                exact this rfl
              obtain ⟨kvD, w1, w2, w3, w4, w5⟩ := g3.same sm3
              have ad : addKey (kB.take j) u = kB.take (j + 1) := by
                unfold addKey
                rw [if_neg un, et]
              have fin : ∀ z : Int, z = mirI q0 tB u → ∃ kvs k, V.int u = kV k ∧ (upd G T3 (.tup [.int u, .int (tB u)])) D2 = some (.dK kvs) ∧ kvs.length < sizeLine ∧ ((∀ b o', Hq b = some o' → b ≠ dB → (upd (upd G T3 (.tup [.int u, .int (tB u)])) D2 (.dK (putK kvs k (.int z)))) b = some o') ∧ (upd (upd G T3 (.tup [.int u, .int (tB u)])) D2 (.dK (putK kvs k (.int z)))) dB = some (.frz o2 (.dK kvB)) ∧ IntD (upd (upd G T3 (.tup [.int u, .int (tB u)])) D2 (.dK (putK kvs k (.int z)))) D2 (kB.take (j + 1)) (fun r => if r ∈ kB.take (j + 1) then mirI q0 tB r else 0)) := fun z ez => by
                refine ⟨kvD, Sum.inl u, rfl, w1, Nat.lt_of_le_of_lt (m := 1000) (by rw [len_keys w2, List.length_take]; omega) (by decide), fun b o' e hb => ?_, ?_, ?_⟩
                · have nb : b ≠ D2 := fun z => by
                    rw [z, hqD] at e
                    cases e
                  rw [upd_ne nb]
                  exact sm3 _ _ (g1 _ _ e hb)
                · rw [upd_ne nD2]
                  exact sm3 _ _ g2
                · rw [← ad]
                  refine (putI_ok (r := u) w2 w3 w4 w5).imp fun s => ?_
                  rw [ad]
                  unfold setI
                  by_cases es : s = u
                  · rw [if_pos es, es, if_pos (by rw [et]; exact List.mem_append_right _ (List.mem_singleton.mpr rfl)), ez]
                  · rw [if_neg es]
                    show (if s ∈ kB.take j then mirI q0 tB s else 0) = if s ∈ kB.take (j + 1) then mirI q0 tB s else 0
                    by_cases m : s ∈ kB.take j
                    · rw [if_pos m, if_pos (by rw [et]; exact List.mem_append_left _ m)]
                    · rw [if_neg m, if_neg fun z => by
                        rw [et] at z
                        rcases List.mem_append.mp z with z | z
                        · exact m z
                        · exact es (List.mem_singleton.mp z)]
              refine ⟨_, rfl, _, rfl, _, rfl, u, (q0 : Int), rfl, rfl, q00, rfl, _, rfl, ?_⟩
              by_cases z : u % (q0 : Int) = 0
              · exact iteD1 (congrArg V.int z) ⟨_, rfl, tB u, rfl, fin _ (by unfold mirI; rw [if_pos z])⟩
              · exact iteD0 (ine z) ⟨_, rfl, fin _ (by unfold mirI; rw [if_neg z])⟩
            · obtain ⟨g1, g2, g3⟩ := hP
              rw [lkB, List.take_length] at g3
              have smD : Same Hq (upd G dB (.dK kvB)) := fun b o' e => by
                by_cases hb : b = dB
                · rw [hb, upd_same]
                  rw [hb, smq _ _ b1] at e
                  exact e
                · rw [upd_ne hb]
                  exact g1 _ _ e hb
              refine ⟨g2, D2, rfl, smD, hqD, (g3.upd nD2.symm).imp fun r => ?_⟩
              by_cases m : r ∈ kB
              · rw [if_pos m]
              · rw [if_neg m]
                have := mirI_abs q0 tB r
                rw [b5 r m] at this
                exact (Int.natAbs_eq_zero.mp this).symm
          obtain ⟨dM, rfl, s4, hdM, iM⟩ := h4
          obtain ⟨E, E0, E1, E2, E3⟩ := U.E
          have kp : ∀ {k : List Int}, (∀ r ∈ k, r ∈ kI ps) → ∀ r ∈ k, 0 < r ∧ r.natAbs < 2 ^ R := fun h r hr => ⟨kI_pos PP r (h r hr), hkR r (h r hr)⟩
          have p6 : 2 ^ i * (A + B + R + 13) ≤ 64 * (A + B + R + 13) := Nat.mul_le_mul_right _ (Nat.pow_le_pow_right (n := 2) (i := i) (j := 6) (by decide) (by omega))
          have ll : kA.length * kB.length ≤ 64 * 64 := Nat.mul_le_mul lA lB
          have ll2 : kB.length * kB.length ≤ 64 * 64 := Nat.mul_le_mul lB lB
          have iA4 := (iA.same smq).same s4
          have iB4 := (iB.same smq).same s4
          have nAM : dA ≠ dM := by
            obtain ⟨_, z, _⟩ := iA.same smq
            exact ne_of_none z hdM
          have nBM : dB ≠ dM := ne_of_none (smq _ _ b1) hdM
          refine ⟨fun σ5 H5 => ∃ (dA' : Addr) (kA' : List Int), σ5 = [some (.ref p), some (.ref l), some (.ref dB), some (.int (c : Int)), some (.ref dA'), some (.int (q0 : Int)), v6, some (.ref dM), v8] ∧ Same H4 H5 ∧ H4 dA' = none ∧ IntD H5 dA' kA' (prodI kA kB tA (mirI q0 tB)) ∧ (∀ u ∈ kA', ∃ r ∈ kA, ∃ s ∈ kB, u = mulR r s), ?_, fun σ5 H5 h5 => ?_⟩
          · exact ⟨_, rfl, _, rfl, dA, dM, kA, kB, tA, mirI q0 tB, E, E, R, rfl, nAM, iA4, iM, kp U.a, kp U.b, E2, fun r => by rw [mirI_abs]; exact E3 r, E0, E0, by omega, R0, by omega, by omega, fun d ks H5 s5 hd5 i5 lk sub => ⟨d, ks, rfl, s5, hd5, i5, sub⟩⟩
          obtain ⟨dA', kA', rfl, s5, hdA', iA5, subA⟩ := h5
          refine ⟨_, rfl, _, rfl, dB, dM, kB, kB, tB, mirI q0 tB, E, E, R, rfl, nBM, iB4.same s5, iM.same s5, kp U.b, kp U.b, E3, fun r => by rw [mirI_abs]; exact E3 r, E0, E0, by omega, R0, by omega, by omega, fun d ks H6 s6 hd6 i6 lk sub => ?_⟩
          have iA6 := iA5.same s6
          obtain ⟨_, _, _, _, na, oa⟩ := id iA6
          obtain ⟨_, _, _, _, nb, ob⟩ := id i6
          exact ⟨dA', d, kA', ks, _, _, _, v6, _, v8, rfl, ((smH.trans s4).trans s5).trans s6, (smH.trans s4).free hdA', iA6, i6, U.step PP pl hkR (Nat.le_refl _) hq0 na nb oa ob subA sub⟩
        · have ea : (kB.map (fun r => decide (r % (q0 : Int) = 0))).any id = false := by
            refine Bool.eq_false_iff.mpr fun z => ?_
            obtain ⟨y, hy, z⟩ := List.any_eq_true.mp z
            obtain ⟨r, hr, rfl⟩ := List.mem_map.mp hy
            exact an ⟨r, hr, of_decide_eq_true z⟩
          rw [ea]
          exact ⟨dA, dB, kA, kB, tA, tB, _, v6, v7, v8, rfl, smH, hdA, iA.same smq, iB.same smq, U.skip hq0 fun r hr z => an ⟨r, hr, z⟩⟩
    · obtain ⟨dA, dB, kA, kB, tA, tB, v5, v6, v7, v8, rfl, sm, hdA, iA, iB, U⟩ := hP
      rw [List.length_map, List.length_map] at U
      exact ⟨dA, dB, kA, kB, tA, tB, v5, v6, v7, v8, rfl, sm, hdA, iA, iB, U⟩
  obtain ⟨dA, dB, kA, kB, tA, tB, v5, v6, v7, v8, rfl, s3, hdA, iA, iB, U⟩ := h3
  obtain ⟨nz, one, eq⟩ := U.last PP
  obtain ⟨kvB, b1, b2, b3, b4, b5⟩ := id iB
  refine ⟨_, rfl, _, rfl, dB, _, rfl, dget_in b1 (b3 1 one), by show 2 ≤ sizeLine; decide, fun v hv => ?_⟩
  have sv := same_upd (o := .tup [.ref dA, .int (tB 1)]) hv
  have lA : kA.length ≤ 64 := Nat.le_trans (keys_few U.ndA U.a) (Nat.pow_le_pow_right (n := 2) (by decide) pl)
  obtain ⟨E, E0, E1, E2, E3⟩ := U.E
  have p6 : 2 ^ ps.length * (A + B + R + 13) ≤ 64 * (A + B + R + 13) := Nat.mul_le_mul_right _ (Nat.pow_le_pow_right (n := 2) (by decide) pl)
  have pe : 2 ^ E ≤ 2 ^ (64 * (A + B + R + 13)) := Nat.pow_le_pow_right (by decide) (by omega)
  exact q v dA kA tA (tB 1) c _ (s3.trans sv) (s3.free hv) upd_same hdA (iA.same sv) U.a lA nz (Nat.lt_of_lt_of_le (E3 1) pe) (fun r => Nat.lt_of_lt_of_le (E2 r) pe) c0 cd eq
end
end TC
/-! the primes in a number's roots; the quotient, pure -/
namespace TC
open PySem PySem.Spec PyProof.Rows L2 TCA TCX
/-- the primes below 1000 -/
def allP : List Nat := primes.map Int.toNat
theorem primes_all : primes = allP.map fun (p : Nat) => (p : Int) := by decide +kernel
def prB (p : Nat) : Bool := Nat.ble 2 p && (List.range p).all fun d => Nat.ble d 1 || !Nat.beq (p % d) 0
theorem pr_of {p : Nat} (h : prB p = true) : QF.Pr p := by
  unfold prB at h
  rw [Bool.and_eq_true] at h
  obtain ⟨h1, h2⟩ := h
  have p2 := Nat.le_of_ble_eq_true h1
  refine ⟨p2, fun d hd => ?_⟩
  have dp : 0 < d := Nat.pos_of_dvd_of_pos hd (by omega)
  have dl := Nat.le_of_dvd (by omega) hd
  rcases Nat.lt_or_ge d p with z | z
  · have := List.all_eq_true.mp h2 d (List.mem_range.mpr z)
    rw [Bool.or_eq_true] at this
    rcases this with y | y
    · have := Nat.le_of_ble_eq_true y
      exact .inl (by omega)
    · rw [Nat.mod_eq_zero_of_dvd hd] at y
      cases y
  · exact .inr (by omega)
theorem allP_prm : Prm allP := ⟨fun y hy => pr_of (List.all_eq_true.mp (show allP.all prB = true by decide +kernel) y hy), by decide +kernel⟩
theorem keys_dvd {D : Nat} : ∀ {ps : List Nat}, (∀ y ∈ ps, QF.Pr y ∧ y ∣ D) → ps.Nodup → ∀ r ∈ QF.keys ps, r ∣ D
  | [], _, _, r, hr => by
    rw [List.mem_singleton.mp hr]
    exact Nat.one_dvd _
  | p :: ps, h, nd, r, hr => by
    obtain ⟨n1, n2⟩ := List.nodup_cons.mp nd
    have ih := keys_dvd (ps := ps) (D := D) (fun y hy => h y (List.mem_cons_of_mem _ hy)) n2
    rcases List.mem_append.mp hr with z | z
    · exact ih r z
    · obtain ⟨s, hs, rfl⟩ := List.mem_map.mp z
      have hp := h p List.mem_cons_self
      have no := (QF.keys_no hp.1 (ps := ps) (fun y hy => ⟨(h y (List.mem_cons_of_mem _ hy)).1, fun e => n1 (e ▸ hy)⟩) s hs).2
      exact Nat.Coprime.mul_dvd_of_dvd_of_dvd (QF.cop hp.1 no) hp.2 (ih s hs)
theorem keys_filter {q : Nat → Bool} : ∀ {ps : List Nat}, (∀ y ∈ ps, QF.Pr y) → ps.Nodup → ∀ r ∈ QF.keys ps, (∀ p ∈ ps, p ∣ r → q p = true) → r ∈ QF.keys (ps.filter q)
  | [], _, _, r, hr, _ => hr
  | p :: ps, h, nd, r, hr, hq => by
    obtain ⟨n1, n2⟩ := List.nodup_cons.mp nd
    have ih := keys_filter (q := q) (ps := ps) (fun y hy => h y (List.mem_cons_of_mem _ hy)) n2
    rcases List.mem_append.mp hr with z | z
    · have := ih r z fun y hy => hq y (List.mem_cons_of_mem _ hy)
      rw [List.filter_cons]
      split
      · exact List.mem_append_left _ this
      · exact this
    · obtain ⟨s, hs, rfl⟩ := List.mem_map.mp z
      rw [List.filter_cons_of_pos (hq p List.mem_cons_self (Nat.dvd_mul_right _ _))]
      exact List.mem_append_right _ (List.mem_map.mpr ⟨s, ih s hs fun y hy z => hq y (List.mem_cons_of_mem _ hy) (Nat.dvd_trans z (Nat.dvd_mul_left _ _)), rfl⟩)
/-- keys of fewer primes are keys of more -/
theorem keys_more {q : Nat → Bool} : ∀ {ps : List Nat} (r : Nat), r ∈ QF.keys (ps.filter q) → r ∈ QF.keys ps
  | [], r, hr => hr
  | p :: ps, r, hr => by
    rw [List.filter_cons] at hr
    split at hr
    · rcases List.mem_append.mp hr with z | z
      · exact List.mem_append_left _ (keys_more r z)
      · obtain ⟨s, hs, rfl⟩ := List.mem_map.mp z
        exact List.mem_append_right _ (List.mem_map.mpr ⟨s, keys_more s hs, rfl⟩)
    · exact List.mem_append_left _ (keys_more r hr)
/-- the primes in the roots -/
def inR (M : List Part) (p : Nat) : Bool := M.any fun x => decide (x.1 % (p : Int) = 0)
def psOf (M : List Part) : List Nat := allP.filter (inR M)
theorem psOf_prm (M : List Part) : Prm (psOf M) := ⟨fun y hy => allP_prm.p y ((List.mem_filter.mp hy).1), allP_prm.nd.sublist List.filter_sublist⟩
theorem inR_iff {M : List Part} {p : Nat} : inR M p = true ↔ ∃ x ∈ M, x.1 % (p : Int) = 0 := by
  unfold inR
  rw [List.any_eq_true]
  exact ⟨fun ⟨x, hx, z⟩ => ⟨x, hx, of_decide_eq_true z⟩, fun ⟨x, hx, z⟩ => ⟨x, hx, decide_eq_true z⟩⟩
def rootsProd : List Part → Nat
  | [] => 1
  | x :: M => x.1.natAbs * rootsProd M
theorem rootsProd_dvd : ∀ {M : List Part}, ∀ x ∈ M, x.1.natAbs ∣ rootsProd M
  | y :: M, x, hx => by
    rcases List.mem_cons.mp hx with e | e
    · rw [e]
      exact Nat.dvd_mul_right _ _
    · exact Nat.dvd_trans (rootsProd_dvd x e) (Nat.dvd_mul_left _ _)
theorem rootsProd_pr {p : Nat} (hp : QF.Pr p) : ∀ {M : List Part}, p ∣ rootsProd M → ∃ x ∈ M, p ∣ x.1.natAbs
  | [], h => absurd h hp.one
  | y :: M, h => by
    rcases hp.euclid h with z | z
    · exact ⟨y, List.mem_cons_self, z⟩
    · obtain ⟨x, hx, z⟩ := rootsProd_pr hp z
      exact ⟨x, List.mem_cons_of_mem _ hx, z⟩
theorem mod_abs {r : Int} {p : Nat} : r % (p : Int) = 0 ↔ p ∣ r.natAbs := by
  rw [← Int.dvd_iff_emod_eq_zero]
  exact Int.ofNat_dvd_left
theorem prIn_psOf {M : List Part} {m : Nat} (hd : ∀ x ∈ M, x.1.natAbs ∣ m) (hm : ∀ E : Nat, (∀ x ∈ M, x.1.natAbs ∣ E) → m ∣ E) : prIn (m : Int) = (psOf M).map fun (p : Nat) => (p : Int) := by
  unfold prIn psOf
  rw [primes_all, List.filter_map]
  congr 1
  refine List.filter_congr fun p hp => ?_
  have pp := allP_prm.p p hp
  refine Bool.eq_iff_iff.mpr ?_
  rw [inR_iff]
  show decide ((m : Int) % (p : Int) = 0) = true ↔ _
  rw [decide_eq_true_iff, mod_abs, Int.natAbs_natCast]
  constructor
  · intro z
    obtain ⟨x, hx, y⟩ := rootsProd_pr pp (Nat.dvd_trans z (hm _ fun x hx => rootsProd_dvd x hx))
    exact ⟨x, hx, mod_abs.mpr y⟩
  · rintro ⟨x, hx, z⟩
    exact Nat.dvd_trans (mod_abs.mp z) (hd x hx)
theorem psOf_roots {M : List Part} (h : ∀ x ∈ M, x.1 ∈ kI allP) : ∀ x ∈ M, x.1 ∈ kI (psOf M) := fun x hx => by
  obtain ⟨u, hu, e⟩ := List.mem_map.mp (h x hx)
  refine List.mem_map.mpr ⟨u, keys_filter allP_prm.p allP_prm.nd u hu fun p hp z => inR_iff.mpr ⟨x, hx, ?_⟩, e⟩
  rw [mod_abs, ← e, Int.natAbs_natCast]
  exact z
theorem psOf_more {M : List Part} : ∀ r ∈ kI (psOf M), r ∈ kI allP := fun r hr => by
  obtain ⟨u, hu, e⟩ := List.mem_map.mp hr
  exact List.mem_map.mpr ⟨u, keys_more u hu, e⟩
theorem psOf_lt {M : List Part} {W R : Nat} (hW : ∀ x ∈ M, x.1.natAbs ∣ W) (W0 : 0 < W) (WR : W < 2 ^ R) : ∀ r ∈ kI (psOf M), r.natAbs < 2 ^ R := fun r hr => by
  obtain ⟨u, hu, rfl⟩ := List.mem_map.mp hr
  rw [Int.natAbs_natCast]
  refine Nat.lt_of_le_of_lt (Nat.le_of_dvd W0 (keys_dvd (fun y hy => ⟨(psOf_prm M).p y hy, ?_⟩) (psOf_prm M).nd u hu)) WR
  obtain ⟨x, hx, z⟩ := inR_iff.mp (List.mem_filter.mp hy).2
  exact Nat.dvd_trans (mod_abs.mp z) (hW x hx)
/-- the equation at all primes -/
theorem UpEq.all {M : List Part} {kA k0 : List Int} {g g0 : Int → Rat} {c b : Rat} (v : Cov g kA) (v0 : Cov g0 k0) (o : On (psOf M) g) (o0 : On (psOf M) g0) (h : UpEq (psOf M) g g0 c b) : UpEq allP g g0 c b := by
  have P := psOf_prm M
  have A := allP_prm
  have oA : On allP g := fun r hr => psOf_more r (o r hr)
  have o0A : On allP g0 := fun r hr => psOf_more r (o0 r hr)
  have one : ∀ {ps : List Nat}, Prm ps → On ps (fun r => if r = 1 then c * b else 0) := fun {ps} hP r hr => by
    have e : r = 1 := Classical.byContradiction fun z => hr (if_neg z)
    rw [e]
    refine List.mem_map.mpr ⟨1, ?_, rfl⟩
    clear hP hr
    induction ps with
    | nil => exact List.mem_singleton.mpr rfl
    | cons x ps ih => exact List.mem_append_left _ ih
  have f1 : ∀ {ps : List Nat}, Prm ps → letI := (QF.El (QF.cs ps)).ring; fI ps (fun r => if r = 1 then c * b else 0) = (QF.El (QF.cs ps)).ι c * (QF.El (QF.cs ps)).ι b := fun {ps} hP => by
    letI := (QF.El (QF.cs ps)).ring
    show fI ps _ = _
    rw [← (QF.El (QF.cs ps)).ιmul, ← fr_one hP.p]
    refine QF.fr_congr fun u _ => ?_
    show (if (u : Int) = 1 then c * b else 0) = _
    by_cases e : u = 1
    · rw [if_pos e, if_pos (by omega)]
    · rw [if_neg e, if_neg (by omega)]
  have eq : ∀ u, prodG kA k0 g g0 u = if u = 1 then c * b else 0 := by
    refine fI_inj (prod_on P v v0 o o0) (one P) ?_
    rw [fI_prod P v v0 o o0, f1 P]
    exact h
  unfold UpEq
  letI := (QF.El (QF.cs allP)).ring
  show fI allP g * fI allP g0 = _
  rw [← fI_prod A v v0 oA o0A, ← f1 A]
  exact fI_congr eq
end TC
/-! repr of lists of ints; the end of a law whose own def asks repr. -/
namespace TCX
open PySem PySem.Spec PyProof.Rows L2
/-! ### data of lists of ints -/
def dInts (ns : List Int) : List PyData := ns.map PyData.int
theorem dpAll_ints {K : PySem.W.Frag} {H : Hp} : ∀ ns : List Int, DpAll K H (ns.map V.int) (dInts ns)
  | [] => .nil
  | n :: r => .cons (.int n) (dpAll_ints r)
theorem dp_ints {K : PySem.W.Frag} {H : Hp} {a : Addr} {ns : List Int} (h : H a = some (.lst (ns.map V.int))) : Dp K H (.ref a) (.list (dInts ns)) := .lst (SqL.of h) (dpAll_ints ns)
theorem log_small {i : Int} (h : i.natAbs < 10 ^ 9) : i.natAbs.log2 < 30 := Nat.lt_of_lt_of_le (PySem.Flt.log2_lt_of (show 0 < 30 by decide) (Nat.lt_trans h (by decide))) (by decide)
theorem ints_show : ∀ ns : List Int, (∀ n ∈ ns, n.natAbs < 10 ^ 9) → PyData.showableAll (dInts ns) = true ∧ PyData.hasDictAll (dInts ns) = false ∧ PyData.depthAll (dInts ns) = 0 ∧ PyData.leavesShortAll 13 (dInts ns) = true ∧ PyData.weightAll (dInts ns) ≤ 40 * ns.length
  | [], _ => ⟨rfl, rfl, rfl, rfl, Nat.le_refl _⟩
  | n :: r, h => by
    obtain ⟨h1, h2, h3, h4, h5⟩ := ints_show r fun m hm => h m (List.mem_cons_of_mem _ hm)
    have hn := h n List.mem_cons_self
    have hl := log_small hn
    refine ⟨?_, ?_, ?_, ?_, ?_⟩
    · show (PyData.showable (.int n) && PyData.showableAll (dInts r)) = true
      rw [h1, Bool.and_true]
      simp only [PyData.showable, decide_eq_true_eq]
      omega
    · show (PyData.hasDict (.int n) || PyData.hasDictAll (dInts r)) = false
      rw [h2]
      rfl
    · show max (PyData.depth (.int n)) (PyData.depthAll (dInts r)) = 0
      rw [h3]
      rfl
    · show (PyData.leavesShort 13 (.int n) && PyData.leavesShortAll 13 (dInts r)) = true
      rw [h4, Bool.and_true]
      exact decide_eq_true (PyData.shown_int_le (Nat.lt_trans hn (by decide)))
    · show PyData.weight (.int n) + 1 + PyData.weightAll (dInts r) ≤ 40 * (r.length + 1)
      have : PyData.weight (.int n) ≤ 31 := by
        show (if n == 0 then 0 else n.natAbs.log2 + 1) ≤ 31
        split <;> omega
      omega
structure Shows (d : PyData) : Prop where
  s : d.showable = true
  h : d.hasDict = false
  dp : d.depth ≤ 60
  z : d.shown.length ≤ sizeLine
theorem shows_ints {ns : List Int} (h : ∀ n ∈ ns, n.natAbs < 10 ^ 9) (hl : ns.length ≤ 10000) : Shows (.list (dInts ns)) := by
  obtain ⟨h1, h2, h3, h4, h5⟩ := ints_show ns h
  refine ⟨h1, h2, ?_, PyData.shown_fits (B := 13) (by decide) (by decide) (d := .list (dInts ns)) h4 ?_⟩
  · show PyData.depthAll (dInts ns) + 1 ≤ 60
    omega
  · show PyData.weightAll (dInts ns) ≤ 2 ^ 20
    omega
/-! ### the end of a law, by FnG -/
section
variable {P : Program} {w : World} {K : PySem.W.Frag} {mg mb : Str → Option Value} {CX : CXT} {k : Nat} {fa a : Addr} {cs : List (Addr × Addr)} {fd : FuncData} {x : Str} {sp : Sp} {s₁ : Shared} {vs : List Value} {ns : List Int}
/-- the script (where K doesn't hold it) and the tables are tracked at the law's call -/
def hLaw (K : PySem.W.Frag) (T : List Addr) (a : Addr) (ob : Obj) (xs : List V) : Hp := fun b =>
  if b ∈ T then some (.tbl #[]) else if b = a ∧ K.lookup a = none then some (.frz ob (.lst xs)) else none
theorem hLaw_tab {T : List Addr} {ob : Obj} {xs : List V} {b : Addr} (h : b ∈ T) : hLaw K T a ob xs b = some (.tbl #[]) := if_pos h
theorem hLaw_inv {T : List Addr} {ob : Obj} {xs : List V} {b : Addr} {u : HO} (h : hLaw K T a ob xs b = some u) : (b ∈ T ∧ u = .tbl #[]) ∨ (b = a ∧ K.lookup a = none ∧ u = .frz ob (.lst xs)) := by
  unfold hLaw at h
  by_cases hT : b ∈ T
  · rw [if_pos hT] at h
    exact .inl ⟨hT, (Option.some.inj h).symm⟩
  · rw [if_neg hT] at h
    by_cases ha : b = a ∧ K.lookup a = none
    · rw [if_pos ha] at h
      exact .inr ⟨ha.1, ha.2, (Option.some.inj h).symm⟩
    · rw [if_neg ha] at h
      cases h
theorem law_callG (KX : K.In s₁.heap) (hns : s₁.heap.Ns mainGlobals mg) (hb : s₁.heap.Ns builtinsNs mb) (hbb : ∀ x : Str, x ≠ "__name__" → mb x = bootBuiltins x) (hlim : s₁.heap.NoLimit) (hg : s₁.gens = #[])
    (hT : ∀ p ∈ cs, s₁.heap.get? p.2 = some { cls := .none, data := .fields #[] }) (nT : ∀ p ∈ cs, K.lookup p.2 = none) (C : ∀ p ∈ cs, PySem.W.CodeHd s₁.heap p.1 p.2)
    (hbm : ∃ (bm : Addr) (ob : Obj), mg "__builtins__" = some (.ref bm) ∧ bm ≠ builtinsNs ∧ s₁.heap.get? bm = some ob ∧ ob.cls = .type "module" ∧ ob.dict = some builtinsNs ∧ ob.data = .plain)
    (ha : s₁.heap.get? a = some { cls := .type "list", data := .seq vs.toArray }) (hi : IntsAre vs ns) (hl : ns.length ≤ sizeLine) (hr : Room k callerA)
    (F : ∀ base : Heap, K.In base → base.Ns mainGlobals mg → (∀ p ∈ cs, LamX.TabB base mg p.1 p.2) → FnG P w K mg base CX k fa fd [x] sp) (hbind : ∀ (s : Shared) (u : Value), BindsTo s fd ⟨[u], []⟩ [(x, u)])
    (hsp : ∀ H : Hp, (∀ p ∈ cs, H p.2 = some (.tbl #[])) → SqL K H a (ns.map V.int) → sp [.ref a] H (fun v _ => v = .bl true) fun _ _ _ => False)
    (hCX : ∀ H e s', CX [] H s₁ (fun _ _ _ => False) e s' → False) :
    codeAny (model P w) callerA (.call (.ref fa) ⟨[.ref a], []⟩) (fun r s' => r = .ok (.ret (.bool true)) ∧ OldK s₁.heap s'.heap ∧ s'.os = s₁.os ∧ AllBare s'.gens) s₁ := by
  have rv := vals_ints hi
  have lenV := hi.length
  obtain ⟨T, eT⟩ : ∃ T : List Addr, cs.map (·.2) = T := ⟨_, rfl⟩
  have tIn : ∀ p ∈ cs, p.2 ∈ T := fun p hp => by
    rw [← eT]
    exact List.mem_map.mpr ⟨p, hp, rfl⟩
  have tOut : ∀ b, b ∈ T → ∃ p ∈ cs, p.2 = b := fun b h => by
    rw [← eT] at h
    exact List.mem_map.mp h
  have tGet : ∀ b, b ∈ T → s₁.heap.get? b = some { cls := .none, data := .fields #[] } := fun b h => by
    obtain ⟨p, hp, rfl⟩ := tOut b h
    exact hT p hp
  have aOut : a ∉ T := fun z => by
    have q := ha.symm.trans (tGet a z)
    cases q
  obtain ⟨H, eH⟩ : ∃ H : Hp, hLaw K T a { cls := .type "list", data := .seq vs.toArray } (ns.map V.int) = H := ⟨_, rfl⟩
  have inv : ∀ {b : Addr} {u : HO}, H b = some u → (b ∈ T ∧ u = .tbl #[]) ∨ (b = a ∧ K.lookup a = none ∧ u = .frz { cls := .type "list", data := .seq vs.toArray } (.lst (ns.map V.int))) := fun h => by
    rw [← eH] at h
    exact hLaw_inv h
  have hH : ∀ p ∈ cs, H p.2 = some (.tbl #[]) := fun p hp => by
    rw [← eH]
    exact hLaw_tab (tIn p hp)
  have hS : SqL K H a (ns.map V.int) := by
    cases hk : K.lookup a with
    | none => exact .inl (.inr ⟨_, by rw [← eH]; exact (if_neg aOut).trans (if_pos ⟨rfl, hk⟩)⟩)
    | some o =>
      have e := (KX a o hk).symm.trans ha
      cases e
      exact .inr ⟨_, vs.toArray, _, hk, rfl, rfl, rfl, by rw [List.size_toArray, lenV]; exact hl, by simpa using rv⟩
  have hok : HOk P w H s₁.heap := fun b u e => by
    rcases inv e with ⟨h1, rfl⟩ | ⟨rfl, _, rfl⟩
    · exact tGet b h1
    · exact ⟨ha, by rw [List.length_map]; exact hl, vs, _, rv, ha⟩
  -- what is neither the script nor a table isn't tracked
  have off : ∀ {b : Addr} {o : Obj}, s₁.heap.get? b = some o → (∀ us n, o.data ≠ .seq us n) → o.data ≠ .fields #[] → H b = none := fun {b o} e h1 h2 => by
    cases q : H b with
    | none => rfl
    | some u =>
      rcases inv q with ⟨g1, _⟩ | ⟨rfl, _, _⟩
      · rw [tGet b g1] at e
        cases e
        exact absurd rfl h2
      · rw [ha] at e
        cases e
        exact absurd rfl (h1 _ _)
  have nsK : ∀ {b : Addr} {m : Str → Option Value}, s₁.heap.Ns b m → (hidT s₁.heap H).Ns b m := fun {b m} z => by
    obtain ⟨o, es, ep, e, d, r⟩ := z
    exact ⟨o, es, ep, hidT_get e (off e (fun us n y => by rw [d] at y; cases y) fun y => by rw [d] at y; cases y), d, r⟩
  have hKb : K.In (hidT s₁.heap H) := fun b o e => hidT_get (KX b o e) (by
    cases q : H b with
    | none => rfl
    | some u =>
      rcases inv q with ⟨g1, _⟩ | ⟨rfl, g2, _⟩
      · obtain ⟨p, hp, rfl⟩ := tOut b g1
        rw [nT p hp] at e
        cases e
      · rw [g2] at e
        cases e)
  have hM : L2.Mod K mg (hidT s₁.heap H) := ⟨hKb, nsK hns, ⟨mb, nsK hb, hbb⟩, let ⟨mc, h1, h2⟩ := hlim; ⟨mc, nsK h1, h2⟩⟩
  have TB : ∀ p ∈ cs, LamX.TabB (hidT s₁.heap H) mg p.1 p.2 := fun p hp => by
    have hTp := hT p hp
    refine ⟨?_, ?_, fun z => ?_⟩
    · obtain ⟨o, us, file, tf, flags, tg, inF, text, tt, e1, r1, r2, r3, r4⟩ := C p hp
      exact ⟨o, us, file, tf, flags, tg, inF, text, tt, hidT_get e1 (off e1 (fun _ _ z => by rw [r2] at z; cases z) fun z => by
        rw [r2] at z
        cases z
        simp at r3), r1, r2, r3, r4⟩
    · obtain ⟨bm, ob, b1, b2, b3, b4, b5, b6⟩ := hbm
      refine ⟨bm, ob, b1, b2, fun y => ?_, fun y => ?_, hidT_get b3 (off b3 (fun _ _ z => by rw [b6] at z; cases z) fun z => by rw [b6] at z; cases z), b4, b5, b6⟩
      · obtain ⟨o, es, ep, e, hd, _⟩ := hns
        rw [y, e] at b3
        cases b3
        rw [hd] at b6
        cases b6
      · rw [y, hTp] at b3
        cases b3
        cases b6
    · obtain ⟨o, es, ep, e, hd, _⟩ := hns
      rw [z, hTp] at e
      cases e
      cases hd
  have e0 : Env0 P w K mg (hidT s₁.heap H) callerA [] s₁ H := ⟨rfl, hM, fun b o e => of_hidT e, Nat.le_of_eq (hidT_size _ _), trivial, fun b hb => absurd (show b ∈ ([] : List Addr) from hb) (by simp), hok, .of_eq hg⟩
  refine codeAny_mono ((F _ hKb (nsK hns) TB).grun callerA [] s₁ H ⟨[.ref a], []⟩ [.ref a] [.ref a] _ _ rfl hr e0 (hbind s₁ (.ref a)) (.cons rfl .nil) (hsp H hH hS)) fun r s' h => ?_
  match r, h with
  | .error e, h => exact (hCX H e s' h).elim
  | .ok .next, h => exact False.elim h
  | .ok .brk, h => exact False.elim h
  | .ok .cont, h => exact False.elim h
  | .ok (.ret u), h =>
    obtain ⟨v, H', os, bare, un, hok', r', q'⟩ := h
    cases (show v = .bl true from q')
    cases (show u = Value.bool true from r')
    have noF : ∀ b : Addr, b ∉ frs ([] : List Env) := fun b z => nomatch (show b ∈ ([] : List Addr) from z)
    have key : ∀ b o, b ∉ T → s₁.heap.get? b = some o → s'.heap.get? b = some o := fun b o nb e => by
      cases q : H b with
      | none => exact un.keep b o e q (noF b) (fun z => nomatch z)
      | some u =>
        rcases inv q with ⟨g1, _⟩ | ⟨rfl, _, rfl⟩
        · exact absurd g1 nb
        · obtain ⟨e2, _⟩ := hok' b _ (un.frzs b _ _ q)
          rw [ha] at e
          cases e
          exact e2
    have grown : ∀ p ∈ cs, ∃ more : Array Value, s'.heap.get? p.2 = some { cls := .none, data := .fields more } := fun p hp => by
      obtain ⟨more, z⟩ := un.tbls p.2 #[] (hH p hp)
      exact ⟨_, hok' p.2 _ z⟩
    refine ⟨rfl, ⟨fun b o e => ?_, fun b o e => ?_⟩, os, bare⟩
    · by_cases hb : b ∈ T
      · obtain ⟨p, hp, rfl⟩ := tOut b hb
        obtain ⟨more, hm⟩ := grown p hp
        rw [hT p hp] at e
        cases e
        exact .inr (.inl ⟨((C p hp).tab (hT p hp)).isCodeTable, rfl, #[], more, rfl, by rw [Array.empty_append]; exact hm⟩)
      · exact .inl (key b o hb e)
    · by_cases hb : b ∈ T
      · obtain ⟨p, hp, rfl⟩ := tOut b hb
        obtain ⟨more, hm⟩ := grown p hp
        exact ⟨_, hm⟩
      · exact ⟨o, key b o hb e⟩
end
/-- what is known of the law's promise at the head's heap -/
def LawAtG (l : PySem.W.OpenLaw) (w : World) (K : PySem.W.Frag) (CX : CXT) (k n : Nat) (x : Str) (mg : Str → Option Value) (fa : Addr) (h : Heap) : Prop :=
  ∃ (fd : FuncData) (cs : List (Addr × Addr)) (sp : Sp), (∀ p ∈ cs, h.get? p.2 = some { cls := .none, data := .fields #[] }) ∧ (∀ p ∈ cs, K.lookup p.2 = none) ∧ (∀ p ∈ cs, PySem.W.CodeHd h p.1 p.2) ∧ (∀ (s : Shared) (u : Value), BindsTo s fd ⟨[u], []⟩ [(x, u)]) ∧
    (∀ (H : Hp) (a : Addr) (ns : List Int), ns.length ≤ n → (∀ p ∈ cs, H p.2 = some (.tbl #[])) → SqL K H a (ns.map V.int) → sp [.ref a] H (fun v _ => v = .bl true) fun _ _ _ => False) ∧
    ∀ base : Heap, K.In base → base.Ns mainGlobals mg → (∀ p ∈ cs, LamX.TabB base mg p.1 p.2) → FnG l.prog w K mg base CX k fa fd [x] sp
theorem walk_ofG {l : PySem.W.OpenLaw} {n k : Nat} {q : Program} {loose : List Str} {XP : (Str → Option Value) → Heap → Prop} {YP : World → Heap → Prop} {d : DefRec} {CX : World → CXT} {x : Str}
    (hn : l.most = some n) (hn2 : n ≤ sizeLine) (hdf : d.params.defaults = []) (hr : Room k callerA)
    (F : ∀ (w : World) (mg : Str → Option Value) (fa : Addr) (h : Heap), YP w h → h.Ns mainGlobals mg → mg d.name = some (.ref fa) → ∃ K : PySem.W.Frag, K.In h ∧ LawAtG l w K (CX w) k n x mg fa h)
    (hCX : ∀ (w : World) (H : Hp) (s : Shared) (e : Value) (s' : Shared), CX w [] H s (fun _ _ _ => False) e s' → False) :
    PySem.W.WalkO q loose XP YP l.row.toRowW d [] (fun f vs => PySem.call f vs) := by
  refine Att.attach_callB hn hdf fun w s₀ s₁ mg mb fa o pm cd doc a vs ns G Y ho hd hcd hmg hobj hints hlen hbits hg => ?_
  obtain ⟨K, KX, fd, cs, sp, hT, nT, C, hb, hsp, hF⟩ := F w mg fa _ Y G.T.g hmg
  exact law_callG KX G.T.g G.T.b G.T.builtins G.T.nolimit hg hT nT C G.T.bmain hobj hints (Nat.le_trans hlen hn2) hr hF hb (fun H hH hS => hsp H a ns hlen hH hS) fun H e s' => hCX w H s₁ e s'
end TCX
/-! isinstance of a kept exception and a tuple of classes; promises joined. -/
namespace TCX
open PySem PySem.Spec PyProof.Rows L2
section
variable {X : Cx}
def rIsVT (K : PySem.W.Frag) : List V → Hp → VK → Prop := fun xs H Q => ∃ (a D tp : Addr) (cs : List V) (us : List Value) (b : Bool), xs = [.ref a, .ref tp] ∧ H a = some (ExV (.ref D) none a) ∧ ExcC K D ∧ H tp = some (.tup cs) ∧ Paired ClsV cs us ∧ PySem.W.kitAny K (.ref D) us = some b ∧ Q (.bl b) H
theorem call_isVT : CallR X (.builtin "isinstance") (rIsVT X.K) := by
  intro pins s σ H xs us Q I r h
  obtain ⟨a, D, tp, cs, ws, b, rfl, hH, C, hT, k, e, q⟩ := h
  obtain ⟨u1, u2, rfl, r1, r2⟩ := vals2 r
  cases (show u2 = Value.ref tp from r2)
  cases (show u1 = Value.ref a from r1)
  obtain ⟨oe, J⟩ := inst_of I hH
  obtain ⟨_, its, rv, o, h1, h2, n, h3⟩ := (show ObjOk X.prog X.w H s.heap tp (.tup cs) from I.hok tp _ hT)
  have e3 := ClsV.all k rv
  subst e3
  obtain ⟨oc, od, dt, sl⟩ := o
  simp only at h2 h3
  subst h2 h3
  exact PySem.W.kia_tup (PySem.W.handS_kitx_exc C.hg C.hk C.hs C.hd C.ha C.hn C.ht C.hm) I.kIn J h1 e (fun z => nomatch z) fun tk => ⟨.bl b, H, I.tok tk, rfl, q⟩
end
section
variable {P : Program} {w : World} {K : PySem.W.Frag} {mg : Str → Option Value} {base : Heap} {k : Nat} {f : Addr} {fd : FuncData} {ps : List Str} {sp sq : Sp}
/-- a def that lets nothing out may be asked where something might -/
theorem lift0 (F : FnOk P w K mg base CX0 k f fd ps sp) : FnOk P w K mg base (L2.CX P w) k f fd ps sp := by
  refine ⟨F.len, fun A outer s H args us vs Q E hr he hb hv hs => codeAny_mono (F.run A outer s H args us vs Q E hr he hb hv hs) fun r s' hq => ?_⟩
  match r, hq with
  | .error u, hq => exact (show False from hq).elim
  | .ok (.ret u), hq => exact hq
  | .ok .next, hq => exact hq
  | .ok .brk, hq => exact hq
  | .ok .cont, hq => exact hq
/-- two promises of one def -/
theorem both {CX : CXT} (F : FnOk P w K mg base CX k f fd ps sp) (G : FnOk P w K mg base CX k f fd ps sq) : FnOk P w K mg base CX k f fd ps (fun vs H Q E => sp vs H Q E ∨ sq vs H Q E) := by
  refine ⟨fun vs H Q E h => h.elim (F.len vs H Q E) (G.len vs H Q E), fun A outer s H args us vs Q E hr he hb hv hs => ?_⟩
  rcases hs with h | h
  · exact F.run A outer s H args us vs Q E hr he hb hv h
  · exact G.run A outer s H args us vs Q E hr he hb hv h
end
end TCX
namespace TB
open TC PySem PySem.Spec PyProof.Rows L2 TCX
/-- what _law_word reads of the module -/
structure WTxt (K : PySem.W.Frag) (mg : Str → Option Value) : Prop where
  g : ∀ (i : Nat) {x : Str}, clsN[i]? = some x → mg x = some (.ref (He.ga K x))
  gT : mg "TurnError" = some (.ref (He.ga K "TurnError"))
  gV : mg "ValueError" = none
  gZ : mg "ZeroDivisionError" = none
  gK : mg "KeyError" = none
  gI : mg "IndexError" = none
  gL : mg "LookupError" = none
  is : mg "isinstance" = none
section
variable {P : Program} {w : World} {K : PySem.W.Frag} {mg : Str → Option Value} {base : Heap} {f : Addr} {fd : FuncData}
/-! ### _law_word -/
def spWord (K : PySem.W.Frag) : Sp := fun vs H Q _ => ∃ (a D : Addr) (n : Nat), vs = [.ref a] ∧ H a = some (ExV (.ref D) none a) ∧ KindF K D n ∧ n < 22 ∧ ∀ H', Same H H' → Q (.str (words.getD n "")) H'
theorem scWord : FnScope ["_law_e", "_law_words", "_law_some_here", "_law_at", "_law_under"] ["_law_e"] (defScope sWord) := ⟨rfl, rfl, rfl, by decide +kernel, rfl, by decide +kernel, by decide +kernel⟩
def bits (n : Nat) : List Bool := (List.range 22).map fun i => i == n
theorem bits_all : ∀ n, n < 22 → (((bits n).map V.bl).countP fun z => eqV z (.bl true)) = 1 ∧ (bits n)[n]? = some true ∧ (∀ m, m < n → (bits n)[m]? = some false) := by decide
theorem words_at : ∀ n, n < 22 → words[n]? = some (words.getD n "") := by decide
theorem ok_word (F : FnP K "_law_word" sWord f fd) (T : WTxt K mg) : FnOk P w K mg base CX0 1 f fd ["_law_e"] (spWord K) := by
  refine F.ok scWord (fun vs H Q E h => ?_) (fun cdv A outer s H vs Q E hr h => ?_)
  · obtain ⟨_, _, _, rfl, _⟩ := h
    rfl
  · obtain ⟨a, D, n, rfl, ha, kd, n22, q⟩ := h
    refine ⟨_, PSs.nox
    (pss_cons (ps_set (i := 1) scWord.nd rfl (.inl rfl) (pe_lst (pa_cons pe_str (pa_cons pe_str (pa_cons pe_str (pa_cons pe_str (pa_cons pe_str (pa_cons pe_str (pa_cons pe_str (pa_cons pe_str (pa_cons pe_str (pa_cons pe_str (pa_cons pe_str pa_nil)))))))))))))
    (C8.pss_cut (ps_set (i := 1) scWord.nd rfl (.inl rfl) (pe_op op_cat (pv 1) (pe_lst (pa_cons pe_str (pa_cons pe_str (pa_cons pe_str (pa_cons pe_str (pa_cons pe_str (pa_cons pe_str (pa_cons pe_str (pa_cons pe_str (pa_cons pe_str (pa_cons pe_str (pa_cons pe_str pa_nil))))))))))))))
    (C8.pss_cut (ps_set (i := 2) scWord.nd rfl (.inl rfl) (pe_lst (pa_cons (pe_callB call_isV (by rfl) T.is (by decide +kernel) (pa_cons (pv 0) (pa_cons (pe_glob (v := .ref (He.ga K "Empty")) (by rfl) (T.g 0 rfl) rfl) pa_nil))) (pa_cons (pe_callB call_isV (by rfl) T.is (by decide +kernel) (pa_cons (pv 0) (pa_cons (pe_glob (v := .ref (He.ga K "NoDeed")) (by rfl) (T.g 1 rfl) rfl) pa_nil))) (pa_cons (pe_callB call_isV (by rfl) T.is (by decide +kernel) (pa_cons (pv 0) (pa_cons (pe_glob (v := .ref (He.ga K "NoHalf")) (by rfl) (T.g 2 rfl) rfl) pa_nil))) (pa_cons (pe_callB call_isV (by rfl) T.is (by decide +kernel) (pa_cons (pv 0) (pa_cons (pe_glob (v := .ref (He.ga K "NoLinking")) (by rfl) (T.g 3 rfl) rfl) pa_nil))) pa_nil))))))
    (C8.pss_cut (ps_set (i := 2) scWord.nd rfl (.inl rfl) (pe_op op_cat (pv 2) (pe_lst (pa_cons (pe_callB call_isV (by rfl) T.is (by decide +kernel) (pa_cons (pv 0) (pa_cons (pe_glob (v := .ref (He.ga K "NoNet")) (by rfl) (T.g 4 rfl) rfl) pa_nil))) (pa_cons (pe_callB call_isV (by rfl) T.is (by decide +kernel) (pa_cons (pv 0) (pa_cons (pe_glob (v := .ref (He.ga K "NoNumber")) (by rfl) (T.g 5 rfl) rfl) pa_nil))) (pa_cons (pe_callB call_isV (by rfl) T.is (by decide +kernel) (pa_cons (pv 0) (pa_cons (pe_glob (v := .ref (He.ga K "NoOffset")) (by rfl) (T.g 6 rfl) rfl) pa_nil))) (pa_cons (pe_callB call_isV (by rfl) T.is (by decide +kernel) (pa_cons (pv 0) (pa_cons (pe_glob (v := .ref (He.ga K "NoQuestion")) (by rfl) (T.g 7 rfl) rfl) pa_nil))) pa_nil)))))))
    (C8.pss_cut (ps_set (i := 2) scWord.nd rfl (.inl rfl) (pe_op op_cat (pv 2) (pe_lst (pa_cons (pe_callB call_isV (by rfl) T.is (by decide +kernel) (pa_cons (pv 0) (pa_cons (pe_glob (v := .ref (He.ga K "NoRow")) (by rfl) (T.g 8 rfl) rfl) pa_nil))) (pa_cons (pe_callB call_isV (by rfl) T.is (by decide +kernel) (pa_cons (pv 0) (pa_cons (pe_glob (v := .ref (He.ga K "NoSize")) (by rfl) (T.g 9 rfl) rfl) pa_nil))) (pa_cons (pe_callB call_isV (by rfl) T.is (by decide +kernel) (pa_cons (pv 0) (pa_cons (pe_glob (v := .ref (He.ga K "NoStanding")) (by rfl) (T.g 10 rfl) rfl) pa_nil))) (pa_cons (pe_callB call_isV (by rfl) T.is (by decide +kernel) (pa_cons (pv 0) (pa_cons (pe_glob (v := .ref (He.ga K "NoTable")) (by rfl) (T.g 11 rfl) rfl) pa_nil))) pa_nil)))))))
    (C8.pss_cut (ps_set (i := 2) scWord.nd rfl (.inl rfl) (pe_op op_cat (pv 2) (pe_lst (pa_cons (pe_callB call_isV (by rfl) T.is (by decide +kernel) (pa_cons (pv 0) (pa_cons (pe_glob (v := .ref (He.ga K "NoText")) (by rfl) (T.g 12 rfl) rfl) pa_nil))) (pa_cons (pe_callB call_isV (by rfl) T.is (by decide +kernel) (pa_cons (pv 0) (pa_cons (pe_glob (v := .ref (He.ga K "NotParted")) (by rfl) (T.g 13 rfl) rfl) pa_nil))) (pa_cons (pe_callB call_isV (by rfl) T.is (by decide +kernel) (pa_cons (pv 0) (pa_cons (pe_glob (v := .ref (He.ga K "NoTree")) (by rfl) (T.g 14 rfl) rfl) pa_nil))) (pa_cons (pe_callB call_isV (by rfl) T.is (by decide +kernel) (pa_cons (pv 0) (pa_cons (pe_glob (v := .ref (He.ga K "NoTriple")) (by rfl) (T.g 15 rfl) rfl) pa_nil))) pa_nil)))))))
    (C8.pss_cut (ps_set (i := 2) scWord.nd rfl (.inl rfl) (pe_op op_cat (pv 2) (pe_lst (pa_cons (pe_callB call_isV (by rfl) T.is (by decide +kernel) (pa_cons (pv 0) (pa_cons (pe_glob (v := .ref (He.ga K "NoWay")) (by rfl) (T.g 16 rfl) rfl) pa_nil))) (pa_cons (pe_callB call_isV (by rfl) T.is (by decide +kernel) (pa_cons (pv 0) (pa_cons (pe_glob (v := .ref (He.ga K "TooWide")) (by rfl) (T.g 17 rfl) rfl) pa_nil))) (pa_cons (pe_callB call_isV (by rfl) T.is (by decide +kernel) (pa_cons (pv 0) (pa_cons (pe_glob (v := .ref (He.ga K "ByNought")) (by rfl) (T.g 18 rfl) rfl) pa_nil))) (pa_cons (pe_callB call_isV (by rfl) T.is (by decide +kernel) (pa_cons (pv 0) (pa_cons (pe_glob (v := .ref (He.ga K "NoName")) (by rfl) (T.g 19 rfl) rfl) pa_nil))) pa_nil)))))))
    (C8.pss_cut (ps_set (i := 2) scWord.nd rfl (.inl rfl) (pe_op op_cat (pv 2) (pe_lst (pa_cons (pe_callB call_isV (by rfl) T.is (by decide +kernel) (pa_cons (pv 0) (pa_cons (pe_glob (v := .ref (He.ga K "NoPlace")) (by rfl) (T.g 20 rfl) rfl) pa_nil))) (pa_cons (pe_callB call_isV (by rfl) T.is (by decide +kernel) (pa_cons (pv 0) (pa_cons (pe_glob (v := .ref (He.ga K "NothingDone")) (by rfl) (T.g 21 rfl) rfl) pa_nil))) pa_nil)))))
    (pss_cons (ps_if (pt_cmpR op_ne (pe_bm PySem.F.plainAttrs_list PySem.F.slot_list_count PySem.F.type_list_count mt_count (pv 2) (pa_cons pe_bl pa_nil)) pe_int (nomark _)) (pss_one (ps_ret pe_str)) pss_nil)
    (pss_cons (ps_set (i := 3) scWord.nd rfl (.inl rfl) (pe_bm PySem.F.plainAttrs_list PySem.F.slot_list_index PySem.F.type_list_index mt_index (pv 2) (pa_cons pe_bl pa_nil)))
    (pss_cons (ps_if (pt_cmpR op_lt (pv 3) pe_int (nomark _)) (pss_one (ps_ret (pe_ifExp (PW.pt (pw_and (pt_val (pe_callB call_isV (by rfl) T.is (by decide +kernel) (pa_cons (pv 0) (pa_cons (pe_glob (v := .ref (He.ga K "TurnError")) (by rfl) T.gT rfl) pa_nil)))) (pw_and1 (pt_val (pe_callB call_isV (by rfl) T.is (by decide +kernel) (pa_cons (pv 0) (pa_cons (pe_bltn (v := .ty "ValueError") (by rfl) T.gV (by decide +kernel) rfl) pa_nil))))))) (pe_ix ix_list (pv 1) (pv 3) (fun _ _ => rfl)) pe_str))) pss_nil)
    (C8.pss_cut (ps_set (i := 4) scWord.nd rfl (.inl rfl) (pe_lst (pa_cons (pe_callB call_isV (by rfl) T.is (by decide +kernel) (pa_cons (pv 0) (pa_cons (pe_bltn (v := .ty "ZeroDivisionError") (by rfl) T.gZ (by decide +kernel) rfl) pa_nil))) (pa_cons (pe_callB call_isV (by rfl) T.is (by decide +kernel) (pa_cons (pv 0) (pa_cons (pe_bltn (v := .ty "KeyError") (by rfl) T.gK (by decide +kernel) rfl) pa_nil))) (pa_cons (pe_callB call_isV (by rfl) T.is (by decide +kernel) (pa_cons (pv 0) (pa_cons (pe_bltn (v := .ty "IndexError") (by rfl) T.gI (by decide +kernel) rfl) pa_nil))) pa_nil)))))
    (C8.pss_cut (ps_expr (pe_bm PySem.F.plainAttrs_list PySem.F.slot_list_append PySem.F.type_list_append mt_append (pv 4) (pa_cons (pe_and (pe_callB call_isV (by rfl) T.is (by decide +kernel) (pa_cons (pv 0) (pa_cons (pe_bltn (v := .ty "LookupError") (by rfl) T.gL (by decide +kernel) rfl) pa_nil))) (pe_one (pe_not (pe_callB call_isVT (by rfl) T.is (by decide +kernel) (pa_cons (pv 0) (pa_cons (pe_tup (pa_cons (pe_bltn (v := .ty "KeyError") (by rfl) T.gK (by decide +kernel) rfl) (pa_cons (pe_bltn (v := .ty "IndexError") (by rfl) T.gI (by decide +kernel) rfl) pa_nil))) pa_nil)))))) pa_nil)))
      (pss_one (ps_ret (pe_ifExp (PW.pt (pw_and (pt_val (pe_ix ix_list (pv 4) (pe_op op_sub (pv 3) pe_int) (fun _ _ => rfl))) (pw_and1 (pt_not (pt_val (pe_callB call_isV (by rfl) T.is (by decide +kernel) (pa_cons (pv 0) (pa_cons (pe_glob (v := .ref (He.ga K "TurnError")) (by rfl) T.gT rfl) pa_nil)))))))) (pe_ix ix_list (pv 1) (pv 3) (fun _ _ => rfl)) pe_str)))))))))))))))), ?_⟩
    refine ⟨by show 11 ≤ sizeLine; decide, fun l0 hl0 => ?_⟩
    have s0 := same_upd (o := .lst ((words.take 11).map V.str)) hl0
    refine ⟨fun σ H1 => ∃ pw, σ = [some (.ref a), some (.ref pw), none, none, none] ∧ H1 pw = some (.lst (words.map V.str)) ∧ Same H H1, ?_, fun σ1 H1 h1 => ?_⟩
    · refine ⟨_, rfl, by show 11 ≤ sizeLine; decide, fun l1 hl1 => ?_⟩
      have s1 := same_upd (o := .lst ((words.drop 11).map V.str)) hl1
      refine ⟨_, _, _, _, rfl, rfl, s1 _ _ upd_same, upd_same, by show 22 ≤ sizeLine; decide, fun p hp => ?_⟩
      exact ⟨p, rfl, upd_same, (s0.trans s1).trans (same_upd hp)⟩
    obtain ⟨pw, rfl, hw, sm⟩ := h1
    have ha0 := sm _ _ ha
    refine ⟨fun σ H2 => ∃ ps, σ = [some (.ref a), some (.ref pw), some (.ref ps), none, none] ∧ H2 pw = some (.lst (words.map V.str)) ∧ H2 ps = some (.lst (((bits n).take 4).map V.bl)) ∧ Same H H2, ?_, fun σ2 H2 h2 => ?_⟩
    · refine ⟨_, rfl, a, D, _, _, _, rfl, ha0, kd.ec, fun _ r => r, kd.kits.at 0 rfl, _, rfl, a, D, _, _, _, rfl, ha0, kd.ec, fun _ r => r, kd.kits.at 1 rfl, _, rfl, a, D, _, _, _, rfl, ha0, kd.ec, fun _ r => r, kd.kits.at 2 rfl, _, rfl, a, D, _, _, _, rfl, ha0, kd.ec, fun _ r => r, kd.kits.at 3 rfl, by show 4 ≤ sizeLine; decide, fun l hl => ?_⟩
      exact ⟨l, rfl, (same_upd hl) _ _ hw, upd_same, sm.trans (same_upd hl)⟩
    obtain ⟨ps, rfl, hw, hs, sm⟩ := h2
    have ha1 := sm _ _ ha
    refine ⟨fun σ H3 => ∃ ps, σ = [some (.ref a), some (.ref pw), some (.ref ps), none, none] ∧ H3 pw = some (.lst (words.map V.str)) ∧ H3 ps = some (.lst (((bits n).take 8).map V.bl)) ∧ Same H H3, ?_, fun σ2 H3 h2 => ?_⟩
    · refine ⟨_, rfl, _, rfl, a, D, _, _, _, rfl, ha1, kd.ec, fun _ r => r, kd.kits.at 4 rfl, _, rfl, a, D, _, _, _, rfl, ha1, kd.ec, fun _ r => r, kd.kits.at 5 rfl, _, rfl, a, D, _, _, _, rfl, ha1, kd.ec, fun _ r => r, kd.kits.at 6 rfl, _, rfl, a, D, _, _, _, rfl, ha1, kd.ec, fun _ r => r, kd.kits.at 7 rfl, by show 4 ≤ sizeLine; decide, fun l hl => ?_⟩
      have s1 := same_upd (o := .lst (([4 == n, 5 == n, 6 == n, 7 == n] : List Bool).map V.bl)) hl
      refine ⟨_, _, _, _, rfl, rfl, s1 _ _ hs, upd_same, by show 8 ≤ sizeLine; decide, fun p hp => ?_⟩
      exact ⟨p, rfl, (same_upd hp) _ _ (s1 _ _ hw), upd_same, (sm.trans s1).trans (same_upd hp)⟩
    obtain ⟨ps, rfl, hw, hs, sm⟩ := h2
    have ha2 := sm _ _ ha
    refine ⟨fun σ H4 => ∃ ps, σ = [some (.ref a), some (.ref pw), some (.ref ps), none, none] ∧ H4 pw = some (.lst (words.map V.str)) ∧ H4 ps = some (.lst (((bits n).take 12).map V.bl)) ∧ Same H H4, ?_, fun σ2 H4 h2 => ?_⟩
    · refine ⟨_, rfl, _, rfl, a, D, _, _, _, rfl, ha2, kd.ec, fun _ r => r, kd.kits.at 8 rfl, _, rfl, a, D, _, _, _, rfl, ha2, kd.ec, fun _ r => r, kd.kits.at 9 rfl, _, rfl, a, D, _, _, _, rfl, ha2, kd.ec, fun _ r => r, kd.kits.at 10 rfl, _, rfl, a, D, _, _, _, rfl, ha2, kd.ec, fun _ r => r, kd.kits.at 11 rfl, by show 4 ≤ sizeLine; decide, fun l hl => ?_⟩
      have s1 := same_upd (o := .lst (([8 == n, 9 == n, 10 == n, 11 == n] : List Bool).map V.bl)) hl
      refine ⟨_, _, _, _, rfl, rfl, s1 _ _ hs, upd_same, by show 12 ≤ sizeLine; decide, fun p hp => ?_⟩
      exact ⟨p, rfl, (same_upd hp) _ _ (s1 _ _ hw), upd_same, (sm.trans s1).trans (same_upd hp)⟩
    obtain ⟨ps, rfl, hw, hs, sm⟩ := h2
    have ha3 := sm _ _ ha
    refine ⟨fun σ H5 => ∃ ps, σ = [some (.ref a), some (.ref pw), some (.ref ps), none, none] ∧ H5 pw = some (.lst (words.map V.str)) ∧ H5 ps = some (.lst (((bits n).take 16).map V.bl)) ∧ Same H H5, ?_, fun σ2 H5 h2 => ?_⟩
    · refine ⟨_, rfl, _, rfl, a, D, _, _, _, rfl, ha3, kd.ec, fun _ r => r, kd.kits.at 12 rfl, _, rfl, a, D, _, _, _, rfl, ha3, kd.ec, fun _ r => r, kd.kits.at 13 rfl, _, rfl, a, D, _, _, _, rfl, ha3, kd.ec, fun _ r => r, kd.kits.at 14 rfl, _, rfl, a, D, _, _, _, rfl, ha3, kd.ec, fun _ r => r, kd.kits.at 15 rfl, by show 4 ≤ sizeLine; decide, fun l hl => ?_⟩
      have s1 := same_upd (o := .lst (([12 == n, 13 == n, 14 == n, 15 == n] : List Bool).map V.bl)) hl
      refine ⟨_, _, _, _, rfl, rfl, s1 _ _ hs, upd_same, by show 16 ≤ sizeLine; decide, fun p hp => ?_⟩
      exact ⟨p, rfl, (same_upd hp) _ _ (s1 _ _ hw), upd_same, (sm.trans s1).trans (same_upd hp)⟩
    obtain ⟨ps, rfl, hw, hs, sm⟩ := h2
    have ha4 := sm _ _ ha
    refine ⟨fun σ H6 => ∃ ps, σ = [some (.ref a), some (.ref pw), some (.ref ps), none, none] ∧ H6 pw = some (.lst (words.map V.str)) ∧ H6 ps = some (.lst (((bits n).take 20).map V.bl)) ∧ Same H H6, ?_, fun σ2 H6 h2 => ?_⟩
    · refine ⟨_, rfl, _, rfl, a, D, _, _, _, rfl, ha4, kd.ec, fun _ r => r, kd.kits.at 16 rfl, _, rfl, a, D, _, _, _, rfl, ha4, kd.ec, fun _ r => r, kd.kits.at 17 rfl, _, rfl, a, D, _, _, _, rfl, ha4, kd.ec, fun _ r => r, kd.kits.at 18 rfl, _, rfl, a, D, _, _, _, rfl, ha4, kd.ec, fun _ r => r, kd.kits.at 19 rfl, by show 4 ≤ sizeLine; decide, fun l hl => ?_⟩
      have s1 := same_upd (o := .lst (([16 == n, 17 == n, 18 == n, 19 == n] : List Bool).map V.bl)) hl
      refine ⟨_, _, _, _, rfl, rfl, s1 _ _ hs, upd_same, by show 20 ≤ sizeLine; decide, fun p hp => ?_⟩
      exact ⟨p, rfl, (same_upd hp) _ _ (s1 _ _ hw), upd_same, (sm.trans s1).trans (same_upd hp)⟩
    obtain ⟨ps, rfl, hw, hs, sm⟩ := h2
    have ha5 := sm _ _ ha
    refine ⟨fun σ H7 => ∃ ps, σ = [some (.ref a), some (.ref pw), some (.ref ps), none, none] ∧ H7 pw = some (.lst (words.map V.str)) ∧ H7 ps = some (.lst (((bits n).take 22).map V.bl)) ∧ Same H H7, ?_, fun σ2 H7 h2 => ?_⟩
    · refine ⟨_, rfl, _, rfl, a, D, _, _, _, rfl, ha5, kd.ec, fun _ r => r, kd.kits.at 20 rfl, _, rfl, a, D, _, _, _, rfl, ha5, kd.ec, fun _ r => r, kd.kits.at 21 rfl, by show 2 ≤ sizeLine; decide, fun l hl => ?_⟩
      have s1 := same_upd (o := .lst (([20 == n, 21 == n] : List Bool).map V.bl)) hl
      refine ⟨_, _, _, _, rfl, rfl, s1 _ _ hs, upd_same, by show 22 ≤ sizeLine; decide, fun p hp => ?_⟩
      exact ⟨p, rfl, (same_upd hp) _ _ (s1 _ _ hw), upd_same, (sm.trans s1).trans (same_upd hp)⟩
    obtain ⟨ps, rfl, hw, hs, sm⟩ := h2
    have ha7 := sm _ _ ha
    obtain ⟨c1, c2, c3⟩ := bits_all n n22
    have hs2 : H7 ps = some (.lst ((bits n).map V.bl)) := hs
    have fl : ((bits n).map V.bl).all flatV = true := by
      rw [List.all_map]
      exact List.all_eq_true.mpr fun _ _ => rfl
    refine ⟨_, rfl, .inl ⟨rfl, _, SqL.of hs2⟩, ps, _, _, rfl, rfl, SqL.of hs2, rfl, fl, rfl, _, rfl, iteNS (congrArg V.int (by rw [c1]; rfl)) ?_⟩
    refine ⟨_, rfl, .inl ⟨rfl, _, SqL.of hs2⟩, ps, _, _, n, _, rfl, rfl, SqL.of hs2, rfl, fl, by rw [List.getElem?_map, c2]; rfl, rfl, fun m z hm hz => ?_, ?_⟩
    · rw [List.getElem?_map, c3 m hm] at hz
      cases hz
      rfl
    refine ⟨_, rfl, _, 18, rfl, rfl, _, rfl, ?_⟩
    by_cases n18 : n < 18
    · refine iteD1 (by omega) ?_
      refine ⟨_, rfl, a, D, _, _, _, rfl, ha7, kd.ec, fun _ r => r, kd.te, _, rfl, iteD1 n18 ?_⟩
      refine ⟨_, rfl, a, D, _, _, _, rfl, ha7, kd.ec, fun _ r => r, kd.ve, _, rfl, iteD1 n18 ?_⟩
      refine ⟨_, rfl, _, rfl, pw, _, _, _, rfl, rfl, SqL.of hw, atI_nat (by rw [List.getElem?_map, words_at n n22]; rfl), ?_⟩
      exact q _ sm
    refine iteD0 (by omega) ?_
    refine ⟨fun σ H8 => ∃ pu, σ = [some (.ref a), some (.ref pw), some (.ref ps), some (.int n), some (.ref pu)] ∧ H8 pw = some (.lst (words.map V.str)) ∧ H8 pu = some (.lst [.bl (n == 18), .bl (n == 19), .bl (n == 20)]) ∧ Same H H8 ∧ H pu = none, ?_, fun σ3 H8 h3 => ?_⟩
    · refine ⟨_, rfl, a, D, _, _, _, rfl, ha7, kd.ec, fun _ r => r, kd.kz, _, rfl, a, D, _, _, _, rfl, ha7, kd.ec, fun _ r => r, kd.ky, _, rfl, a, D, _, _, _, rfl, ha7, kd.ec, fun _ r => r, kd.ki, by show 3 ≤ sizeLine; decide, fun l hl => ?_⟩
      exact ⟨l, rfl, (same_upd hl) _ _ hw, upd_same, sm.trans (same_upd hl), sm.free hl⟩
    obtain ⟨pu, rfl, hw8, hu8, sm8, fu⟩ := h3
    have ha8 := sm8 _ _ ha
    have nu : pw ≠ pu := fun z => by
      rw [z, hu8] at hw8
      cases hw8
    have tail : ∀ (H9 : Hp) (b3 : Bool), H9 pw = some (.lst (words.map V.str)) → H9 pu = some (.lst [.bl (n == 18), .bl (n == 19), .bl (n == 20), .bl b3]) → Same H H9 → (n = 21 → b3 = true) → (∃ b3, H9 pu = some (.lst [.bl (n == 18), .bl (n == 19), .bl (n == 20), .bl b3]) ∧ (n = 21 → b3 = true)) := fun H9 b3 _ h _ z => ⟨b3, h, z⟩
    refine ⟨fun σ H9 => σ = [some (.ref a), some (.ref pw), some (.ref ps), some (.int n), some (.ref pu)] ∧ H9 pw = some (.lst (words.map V.str)) ∧ Same H H9 ∧ ∃ b3, H9 pu = some (.lst [.bl (n == 18), .bl (n == 19), .bl (n == 20), .bl b3]) ∧ (n = 21 → b3 = true), ?_, fun σ4 H9 h4 => ?_⟩
    · refine ⟨_, rfl, .inl ⟨rfl, _, SqL.of hu8⟩, _, rfl, a, D, _, _, _, rfl, ha8, kd.ec, fun _ r => r, kd.kl, _, rfl, ?_⟩
      refine ite2 (fun z => ?_) fun z => ?_
      · refine ⟨_, rfl, by show 2 ≤ sizeLine; decide, fun tp htp => ?_⟩
        have s9 := same_upd (o := .tup [.ty "KeyError", .ty "IndexError"]) htp
        refine ⟨a, D, tp, _, _, _, rfl, s9 _ _ ha8, kd.ec, upd_same, .cons (.ty _) (.cons (.ty _) .nil), kd.kt, _, rfl, ?_⟩
        refine ⟨pu, _, _, rfl, rfl, s9 _ _ hu8, by show 3 < sizeLine; decide, rfl, ?_, ?_, _, upd_same, fun e => ?_⟩
        · rw [upd_ne nu]
          exact s9 _ _ hw8
        · intro b o e
          rw [upd_ne (ne_of_none e fu)]
          exact s9 _ _ (sm8 _ _ e)
        · subst e
          rfl
      · refine ⟨pu, _, _, rfl, rfl, hu8, by show 3 < sizeLine; decide, rfl, ?_, ?_, _, upd_same, fun e => ?_⟩
        · rw [upd_ne nu]
          exact hw8
        · intro b o e
          rw [upd_ne (ne_of_none e fu)]
          exact sm8 _ _ e
        · exact absurd (decide_eq_true (show 19 ≤ n by omega)) z
    obtain ⟨rfl, hw9, sm9, b3, hu9, hb3⟩ := h4
    have ha9 := sm9 _ _ ha
    have ix : atI [V.bl (n == 18), V.bl (n == 19), V.bl (n == 20), V.bl b3] ((n : Int) - 18) = some (.bl true) := by
      have : n = 18 ∨ n = 19 ∨ n = 20 ∨ n = 21 := by omega
      rcases this with rfl | rfl | rfl | rfl
      · exact atI_nat (j := 0) rfl
      · exact atI_nat (j := 1) rfl
      · exact atI_nat (j := 2) rfl
      · rw [hb3 rfl]; exact atI_nat (j := 3) rfl
    refine ⟨_, rfl, _, rfl, _, 18, rfl, rfl, pu, _, _, _, rfl, rfl, SqL.of hu9, ix, true, rfl, iteT ?_⟩
    refine ⟨_, rfl, a, D, _, _, _, rfl, ha9, kd.ec, fun _ r => r, kd.te, _, rfl, ?_⟩
    rw [decide_eq_false n18]
    refine iteT ?_
    refine ⟨_, rfl, _, rfl, pw, _, _, _, rfl, rfl, SqL.of hw9, atI_nat (by rw [List.getElem?_map, words_at n n22]; rfl), ?_⟩
    exact q _ sm9
end
end TB
namespace TC
set_option exponentiation.threshold 20000
open PySem PySem.Spec PyProof.Rows L2 TCA TCX
structure ZTxt (K : PySem.W.Frag) (mg : Str → Option Value) (x : Str) (C : Addr) : Prop where
  g : mg x = some (.ref C)
  e : PySem.W.excIn K C zBase "ZeroDivisionError.__new__" = true
  k : PySem.W.keepIn K (.ref C) = true
  b : PySem.W.subIn K (.ref C) (.type "BaseException") = some true
  t : PySem.W.typeIn K (.ref C) = some (.type "type")
structure XTxt (K : PySem.W.Frag) (mg : Str → Option Value) (x : Str) (C : Addr) : Prop where
  g : mg x = some (.ref C)
  e : PySem.W.excIn K C He.veBase "ValueError.__new__" = true
  k : PySem.W.keepIn K (.ref C) = true
  b : PySem.W.subIn K (.ref C) (.type "BaseException") = some true
  t : PySem.W.typeIn K (.ref C) = some (.type "type")
theorem cov_val {L : List Part} (h : TCR.Canon L) : Cov (TCR.val L) (L.map (·.1)) := by
  refine ⟨List.pairwise_map.mpr (h.srt.imp fun {a b} z e => by have : a.1 < b.1 := z; omega), fun r hr => Classical.byContradiction fun z => hr (TCR.val_not fun x hx e => z (List.mem_map.mpr ⟨x, hx, e⟩))⟩
theorem on_val {L : List Part} {ps : List Nat} (h : ∀ x ∈ L, x.1 ∈ kI ps) : On ps (TCR.val L) := fun r hr => Classical.byContradiction fun z => hr (TCR.val_not fun x hx e => z (e ▸ h x hx))
theorem qv_tops {L : List Part} {c : Nat} (h : TCR.Canon L) (c0 : 0 < c) (hd : ∀ x ∈ L, x.2.den ∣ c) (r : Int) : qv (topsOf L c) r = ((c : Int) : Rat) * TCR.val L r := by
  have z := topsOf_div c0 r (den_val hd h r)
  have cz : ((c : Int) : Rat) ≠ 0 := fun e => by
    have := Rat.intCast_inj.mp (e.trans (show (0 : Rat) = ((0 : Int) : Rat) from rfl))
    omega
  rw [← z, Rat.divInt_eq_div]
  unfold qv
  grind
theorem den_abs {t b : Int} (h : b ≠ 0) : (Rat.divInt t b).den ∣ b.natAbs := by
  rcases Int.natAbs_eq b with e | e
  · rw [e, Int.natAbs_natCast]
    exact den_divInt (by omega)
  · have e2 : Rat.divInt t b = Rat.divInt (-t) ((b.natAbs : Nat) : Int) := by
      rw [Rat.divInt_eq_divInt_iff h (by omega)]
      rw [Int.neg_mul, ← Int.mul_neg]
      congr 1
      omega
    rw [e2]
    exact den_divInt (by omega)
theorem divInt_back {t b : Int} (h : b ≠ 0) : ((b : Int) : Rat) * Rat.divInt t b = ((t : Int) : Rat) := by
  have cz : ((b : Int) : Rat) ≠ 0 := fun e => h (Rat.intCast_inj.mp (e.trans (show (0 : Rat) = ((0 : Int) : Rat) from rfl)))
  rw [Rat.divInt_eq_div]
  grind
section
variable {P : Program} {w : World} {K : PySem.W.Frag} {mg : Str → Option Value} {base : Heap} {f : Addr} {fd : FuncData} {C fI fQ CB CW : Addr}
/-! ### over -/
/-- a divisor's roots: of the primes below 1000, all in W, which is below 2 to the R -/
structure Rts (M : List Part) (W R : Nat) : Prop where
  k : ∀ x ∈ M, x.1 ∈ kI allP
  d : ∀ x ∈ M, x.1.natAbs ∣ W
  W0 : 0 < W
  WR : W < 2 ^ R
  R0 : 0 < R
  R1 : R ≤ 1000
def spOver (C CB CW : Addr) : Sp := fun vs H Q E => ∃ (x y : Addr) (L M : List Part), vs = [.ref x, .ref y] ∧ NumAt C H x L ∧ NumAt C H y M ∧ ((M = [] ∧ ∀ H', Same H H' → E (.ref CB) none H') ∨ (M ≠ [] ∧ (∃ W R, Rts M W R) ∧ 6 < (psOf M).length ∧ ∀ H', Same H H' → E (.ref CW) none H') ∨
  ∃ (W R D1 A1 B1 R1 D2 A2 B2 : Nat), M ≠ [] ∧ Rts M W R ∧ (psOf M).length ≤ 6 ∧ Fit D1 A1 R1 L ∧ Fit D2 A2 R M ∧ (∀ x ∈ L, x.1 ∈ kI allP) ∧ 0 < D1 ∧ D1 < 2 ^ B1 ∧ 0 < D2 ∧ D2 < 2 ^ B2 ∧ 0 < A1 ∧ A1 ≤ 20000 ∧ 0 < B1 ∧ 0 < A2 ∧ A2 ≤ 20000 ∧ 0 < B2 ∧ 0 < R1 ∧ R1 ≤ 2000 ∧ 64 * (A2 + B2 + R + 13) + B1 ≤ 8000 ∧ L.length ≤ 70 ∧ M.length ≤ 1000 ∧
    ∀ z N D H', Same H H' → H z = none → NumAt C H' z N → Fit D (A1 + B1 + 64 * (A2 + B2 + R + 13) + R1 + 13) (R1 + R) N → 0 < D → D < 2 ^ (B1 + 64 * (A2 + B2 + R + 13)) → (∀ x ∈ N, x.1 ∈ kI allP) → N.length ≤ L.length * 64 → (∀ u, prodG (N.map (·.1)) (M.map (·.1)) (TCR.val N) (TCR.val M) u = TCR.val L u) → Q (.ref z) H')
abbrev nOver : List Str := ["one", "other", "primes", "tops", "bottom", "others", "below"]
theorem scOver : FnScope nOver ["one", "other"] (defScope sOver) := ⟨rfl, rfl, rfl, by decide +kernel, rfl, by decide +kernel, by decide +kernel⟩
theorem ok_over {fN fO fP fW fU fR : Addr} {fdN fdO fdP fdW fdU fdR : FuncData} {tH : Tok} (F : FnP K "over" sOver f fd) (T : TxtN K mg C fI fQ) (Z : ZTxt K mg "ByNought" CB) (X : XTxt K mg "TooWide" CW) (glen : mg "len" = none) (gH : mg "MOST_PRIMES" = some (.int 6 tH))
    (GN : FnOk P w K mg base CX0 1 fN fdN ["thing"] (spNeed C)) (bN : L2.Binds K fdN ["thing"] []) (kN : PySem.W.keepIn K (.ref fN) = true) (gN : mg "need_exact" = some (.ref fN))
    (GPR : FnOk P w K mg base CX0 2 fR fdR ["parts"] spPrimesRoots) (bPR : L2.Binds K fdR ["parts"] []) (kPR : PySem.W.keepIn K (.ref fR) = true) (gPR : mg "primes_of_roots" = some (.ref fR))
    (GOB : FnOk P w K mg base CX0 2 fO fdO ["parts"] spOneB) (bOB : L2.Binds K fdO ["parts"] []) (kOB : PySem.W.keepIn K (.ref fO) = true) (gOB : mg "on_one_bottom" = some (.ref fO))
    (GUD : FnOk P w K mg base CX0 3 fU fdU ["parts", "primes"] spUpside) (bUD : L2.Binds K fdU ["parts", "primes"] []) (kUD : PySem.W.keepIn K (.ref fU) = true) (gUD : mg "upside_down" = some (.ref fU))
    (GPd : FnOk P w K mg base CX0 2 fP fdP ["tops", "others"] spProducts) (bPd : L2.Binds K fdP ["tops", "others"] []) (kPd : PySem.W.keepIn K (.ref fP) = true) (gPd : mg "products" = some (.ref fP))
    (GLo : FnOk P w K mg base CX0 3 fW fdW ["tops", "bottom"] (spLowered C)) (bLo : L2.Binds K fdW ["tops", "bottom"] []) (kLo : PySem.W.keepIn K (.ref fW) = true) (gLo : mg "lowered" = some (.ref fW)) :
    FnOk P w K mg base (L2.CX P w) 4 f fd ["one", "other"] (spOver C CB CW) := by
  refine F.ok scOver (fun vs H Q E h => ?_) (fun cdv Ar outer s H vs Q E hr h => ?_)
  · obtain ⟨_, _, _, _, rfl, _⟩ := h
    rfl
  obtain ⟨x, y, L, M, rfl, hx, hy, h⟩ := h
  have hu := hr.units
  have hr1 := hr.mono (j := 1) (by decide)
  have hr2 := hr.mono (j := 2) (by decide)
  have hr3 := hr.mono (j := 3) (by decide)
  refine ⟨_, pss_cons (ps_expr (pe_call GN hr1 (by rfl) gN kN bN .nil pass0 (pa_cons (pv 0) pa_nil)))
      (pss_cons (ps_expr (pe_call GN hr1 (by rfl) gN kN bN .nil pass0 (pa_cons (pv 1) pa_nil)))
      (pss_cons (ps_if (pt_cmpR (op_eqD hu) (pe_fld (pv 1) rfl) (pe_tup pa_nil) (nomark _)) (pss_one (ps_raise rfl (takes_of rfl rfl rfl rfl) (pmk_own PySem.F.excBase_ZeroDivisionError Z.e Z.g Z.k (raises_own Z.b Z.t) rfl))) pss_nil)
      (C8.pss_cut (ps_set (i := 2) scOver.nd rfl (.inl rfl) (pe_call GPR hr2 (by rfl) gPR kPR bPR .nil pass0 (pa_cons (pe_fld (pv 1) rfl) pa_nil)))
      (pss_cons (ps_if (pt_cmpR op_gt (pe_callB call_len_seq (by rfl) glen PySem.boot_len (pa_cons (pv 2) pa_nil)) (pe_glob (v := .int 6) (by rfl) gH ⟨_, rfl⟩) (nomark _)) (pss_one (ps_raise rfl (takes_of rfl rfl rfl rfl) (pmk_own PySem.F.excBase_ValueError X.e X.g X.k (raises_own X.b X.t) rfl))) pss_nil)
      (C8.pss_cut (ps_asg (pe_call GOB hr2 (by rfl) gOB kOB bOB .nil pass0 (pa_cons (pe_fld (pv 0) rfl) pa_nil)) (pg_tup rfl (pgs_cons (pg_name (i := 3) scOver.nd rfl (.inl rfl)) (pgs_cons (pg_name (i := 4) scOver.nd rfl (.inl rfl)) pgs_nil))))
      (C8.pss_cut (ps_asg (pe_call GUD hr3 (by rfl) gUD kUD bUD .nil pass0 (pa_cons (pe_fld (pv 1) rfl) (pa_cons (pv 2) pa_nil))) (pg_tup rfl (pgs_cons (pg_name (i := 5) scOver.nd rfl (.inl rfl)) (pgs_cons (pg_name (i := 6) scOver.nd rfl (.inl rfl)) pgs_nil))))
      (pss_one (ps_ret (pe_call GLo hr3 (by rfl) gLo kLo bLo .nil pass0 (pa_cons (pe_call GPd hr2 (by rfl) gPd kPd bPd .nil pass0 (pa_cons (pv 3) (pa_cons (pv 5) pa_nil))) (pa_cons (pe_op op_mulW (pv 4) (pv 6)) pa_nil))))))))))), ?_⟩
  obtain ⟨dx, p1, hx1, hp1⟩ := id hx
  obtain ⟨dy, p2, hy1, hp2⟩ := id hy
  refine ⟨_, rfl, x, L, rfl, hx, ?_⟩
  refine ⟨_, rfl, y, M, rfl, hy, ?_⟩
  refine ⟨_, rfl, y, C, dy, _, _, rfl, hy1, T.cl, T.nP, rfl, by show 0 ≤ sizeLine; decide, fun t ht => ?_⟩
  have s0 := same_upd (o := .tup []) ht
  refine ⟨toD M, .tuple [], (hp2.same s0).dp, .tup (SqT.of upd_same) .nil, toD_shaped M, rfl, decide (M = []), congrArg V.bl (toD_eqv M []), ?_⟩
  by_cases M0 : M = []
  · rw [decide_eq_true M0]
    rcases h with ⟨_, q⟩ | ⟨n, _⟩ | ⟨_, _, _, _, _, _, _, _, _, n, _⟩
    · exact iteT (q _ s0)
    · exact absurd M0 n
    · exact absurd M0 n
  rw [decide_eq_false M0]
  refine iteF ?_
  have rt : ∃ W R, Rts M W R := by
    rcases h with ⟨e, _⟩ | ⟨_, z, _⟩ | ⟨W, R, _, _, _, _, _, _, _, _, z, _⟩
    · exact absurd e M0
    · exact z
    · exact ⟨W, R, z⟩
  obtain ⟨W, R, RT⟩ := rt
  have pos : ∀ z ∈ M, 0 < z.1 := fun z hz => kI_pos allP_prm _ (RT.k z hz)
  refine ⟨fun σ H1 => ∃ l : Addr, σ = [some (.ref x), some (.ref y), some (.ref l), none, none, none, none] ∧ Same H H1 ∧ H1 l = some (.lst (((psOf M).map fun (z : Nat) => (z : Int)).map V.int)), ?_, fun σ H1 h1 => ?_⟩
  · refine ⟨_, rfl, y, C, dy, _, _, rfl, s0 _ _ hy1, T.cl, T.nP, rfl, p2, M, W, R, rfl, hp2.same s0, fun z hz => ⟨pos z hz, RT.d z hz⟩, RT.W0, RT.WR, RT.R0, by have := RT.R1; omega, fun l m H' s' hl m0 md mm hl2 => ?_⟩
    rw [prIn_psOf md mm] at hl2
    exact ⟨l, rfl, s0.trans s', hl2⟩
  obtain ⟨l, rfl, s1, hl⟩ := h1
  refine ⟨_, rfl, l, _, rfl, .inl (SqL.of hl), (((((psOf M).map fun (z : Nat) => (z : Int)).map V.int).length : Nat) : Int), 6, rfl, rfl, _, rfl, ?_⟩
  rw [List.length_map, List.length_map]
  rcases h with ⟨e, _⟩ | ⟨_, _, many, q⟩ | ⟨W', R', D1, A1, B1, R1, D2, A2, B2, _, RT', few, fL, fM, kL, D10, z1, D20, z2, A10, A1b, B10, A20, A2b, B20, R10, R1b, bd, l1, l2, q⟩
  · exact absurd e M0
  · exact iteD1 (show ((psOf M).length : Int) > 6 by omega) (q _ s1)
  refine iteD0 (show ¬ ((psOf M).length : Int) > 6 by omega) ?_
  clear RT W R
  have hx2 := s1 _ _ hx1
  refine ⟨fun σ H2 => ∃ (d1 : Addr) (c1 : Nat), σ = [some (.ref x), some (.ref y), some (.ref l), some (.ref d1), some (.int (c1 : Int)), none, none] ∧ Same H1 H2 ∧ H1 d1 = none ∧ IntD H2 d1 (L.map (·.1)) (topsOf L c1) ∧ 0 < c1 ∧ c1 ∣ D1 ∧ (∀ x ∈ L, x.2.den ∣ c1), ?_, fun σ H2 h2 => ?_⟩
  · refine ⟨_, rfl, x, C, dx, _, _, rfl, hx2, T.cl, T.nP, rfl, p1, L, D1, A1, B1, rfl, hp1.same s1, fL.can, fL.den, D10, z1, B10, by omega, fL.num, A10, by omega, by omega, fun v1 d1 c1 H2 s2 hv1 ev1 hd1 i1 c10 c1D c1d => ?_⟩
    exact ⟨v1, _, rfl, SqT.of ev1, rfl, _, _, rfl, _, _, rfl, rfl, d1, c1, rfl, s2, hd1, i1, c10, c1D, c1d⟩
  obtain ⟨d1, c1, rfl, s2, hd1, i1, c10, c1D, c1d⟩ := h2
  have P := psOf_prm M
  have kR := psOf_lt RT'.d RT'.W0 RT'.WR
  refine ⟨fun σ H3 => ∃ (d2 : Addr) (ks : List Int) (t : Int → Int) (b : Int) (c : Nat), σ = [some (.ref x), some (.ref y), some (.ref l), some (.ref d1), some (.int (c1 : Int)), some (.ref d2), some (.int b)] ∧ Same H2 H3 ∧ H2 d2 = none ∧ IntD H3 d2 ks t ∧ (∀ r ∈ ks, r ∈ kI (psOf M)) ∧ ks.length ≤ 64 ∧ b ≠ 0 ∧ b.natAbs < 2 ^ (64 * (A2 + B2 + R' + 13)) ∧ (∀ r, (t r).natAbs < 2 ^ (64 * (A2 + B2 + R' + 13))) ∧ 0 < c ∧ (∀ x ∈ M, x.2.den ∣ c) ∧ UpEq (psOf M) (qv t) (qv (topsOf M c)) ((c : Int) : Rat) ((b : Int) : Rat), ?_, fun σ H3 h3 => ?_⟩
  · refine ⟨_, rfl, y, C, dy, _, _, rfl, s2 _ _ (s1 _ _ hy1), T.cl, T.nP, rfl, _, rfl, p2, l, M, psOf M, D2, A2, B2, R', rfl, (hp2.same s1).same s2, fM.can, fM.den, D20, z2, B20, by omega, fM.num, A20, by omega, by omega, M0, P, few, psOf_roots RT'.k, kR, RT'.R0, RT'.R1, by omega, s2 _ _ hl, fun v d2 ks t b c H3 s3 hv ev hd2 i2 sub lk b0 bB tB c0 cd eq => ?_⟩
    exact ⟨v, _, rfl, SqT.of ev, rfl, _, _, rfl, _, _, rfl, rfl, d2, ks, t, b, c, rfl, s3, hd2, i2, sub, lk, b0, bB, tB, c0, cd, eq⟩
  obtain ⟨d2, ks, t, b, c, rfl, s3, hd2, i2, sub, lk, b0, bB, tB, c0, cd, eq⟩ := h3
  have c1B : c1 < 2 ^ B1 := Nat.lt_of_le_of_lt (Nat.le_of_dvd D10 c1D) z1
  have ndd : d1 ≠ d2 := by
    obtain ⟨_, z, _⟩ := i1
    exact ne_of_none z hd2
  have kp : ∀ r ∈ L.map (·.1), 0 < r ∧ r.natAbs < 2 ^ R1 := fun r hr => by
    obtain ⟨z, hz, e⟩ := List.mem_map.mp hr
    rw [← e]
    exact fL.pos z hz
  have kq : ∀ r ∈ ks, 0 < r ∧ r.natAbs < 2 ^ R' := fun r hr => ⟨kI_pos P r (sub r hr), kR r (sub r hr)⟩
  have tl1 := tops_lt c1B fL.val
  have ll : L.length * ks.length ≤ 70 * 64 := Nat.mul_le_mul l1 lk
  have ll2 : L.length * ks.length ≤ L.length * 64 := Nat.mul_le_mul_left _ lk
  have up : ∀ {r : Int} {E : Nat}, r.natAbs < 2 ^ E → r.natAbs < 2 ^ (R1 + R' + E) := fun h => Nat.lt_of_lt_of_le h (Nat.pow_le_pow_right (by decide) (by omega))
  have w1 : ∀ r ∈ L.map (·.1), 0 < r ∧ r.natAbs < 2 ^ (R1 + R') := fun r hr => ⟨(kp r hr).1, Nat.lt_of_lt_of_le (kp r hr).2 (Nat.pow_le_pow_right (by decide) (by omega))⟩
  have w2 : ∀ r ∈ ks, 0 < r ∧ r.natAbs < 2 ^ (R1 + R') := fun r hr => ⟨(kq r hr).1, Nat.lt_of_lt_of_le (kq r hr).2 (Nat.pow_le_pow_right (by decide) (by omega))⟩
  have R1' := RT'.R1
  refine ⟨_, rfl, _, rfl, d1, d2, L.map (·.1), ks, _, t, A1 + B1, 64 * (A2 + B2 + R' + 13), R1 + R', rfl, ndd, i1.same s3, i2, w1, w2, tl1, tB, by omega, by omega, by omega, by omega, by omega, by rw [List.length_map]; omega, fun d kz H4 s4 hd i3 lz subz => ?_⟩
  rw [List.length_map] at lz
  have n1 : ((c1 : Nat) : Int).natAbs < 2 ^ B1 := by rw [Int.natAbs_natCast]; exact c1B
  have cb0 : (c1 : Int) * b ≠ 0 := Int.mul_ne_zero (by omega) b0
  refine ⟨_, rfl, _, rfl, (c1 : Int), b, rfl, rfl, cmulw n1 bB B10 (by omega) (by omega), ?_⟩
  refine ⟨d, kz, _, _, B1 + 64 * (A2 + B2 + R' + 13), rfl, i3, cb0, wide_lt n1 bB, by omega, by omega, by omega, fun z N H5 s5 hz hN cN vN lN => ?_⟩
  have SA := ((s1.trans s2).trans s3).trans s4
  have inN : ∀ e ∈ N, e.1 ∈ kz := fun e he => Classical.byContradiction fun m => by
    obtain ⟨_, _, _, _, _, out⟩ := i3
    have := cN.nz e he
    rw [← cN.mem he, vN e.1, out e.1 m, Rat.zero_divInt] at this
    exact this rfl
  have kA : ∀ u ∈ kz, u ∈ kI allP := keys_prod allP_prm (fun r hr => by
    obtain ⟨x, hx, rfl⟩ := List.mem_map.mp hr
    exact kL x hx) (fun r hr => psOf_more r (sub r hr)) subz
  have bt : ∀ r ∈ L.map (·.1), ∀ s ∈ ks, (topsOf L c1 r * t s * gR r s).natAbs ≤ 2 ^ (A1 + B1 + 64 * (A2 + B2 + R' + 13) + R1) := fun r hr s hs => by
    refine Nat.le_of_lt (wide_lt (wide_lt (tl1 r) (tB s)) ?_)
    unfold gR
    rw [Int.natAbs_natCast]
    obtain ⟨r0, rR⟩ := kp r hr
    exact Nat.lt_of_le_of_lt (Nat.le_of_dvd (by omega) (Int.gcd_dvd_natAbs_left r s)) rR
  have nb : ∀ u, (prodI (L.map (·.1)) ks (topsOf L c1) t u).natAbs < 2 ^ (A1 + B1 + 64 * (A2 + B2 + R' + 13) + R1 + 13) := fun u => by
    refine Nat.lt_of_le_of_lt (prodI_le bt u) ?_
    rw [List.length_map, Nat.pow_add 2 _ 13, Nat.mul_comm]
    exact Nat.mul_lt_mul_of_pos_left (show L.length * ks.length < 2 ^ 13 by omega) (Nat.pow_pos (by decide))
  have c1Q : ((c1 : Int) : Rat) ≠ 0 := fun e => by
    have := Rat.intCast_inj.mp (e.trans (show (0 : Rat) = ((0 : Int) : Rat) from rfl))
    omega
  have cQ : ((c : Int) : Rat) ≠ 0 := fun e => by
    have := Rat.intCast_inj.mp (e.trans (show (0 : Rat) = ((0 : Int) : Rat) from rfl))
    omega
  have bQ : ((b : Int) : Rat) ≠ 0 := fun e => b0 (Rat.intCast_inj.mp (e.trans (show (0 : Rat) = ((0 : Int) : Rat) from rfl)))
  have cM0 := cov_of (ks := M.map (·.1)) (t := topsOf M c) (cov_val fM.can).1 (fun r hr => by
    unfold topsOf
    rw [TCR.val_not fun x hx e => hr (List.mem_map.mpr ⟨x, hx, e⟩)]
    exact Int.zero_mul _)
  have oM0 : On (psOf M) (qv (topsOf M c)) := on_of (ks := M.map (·.1)) (fun r hr => by
    obtain ⟨x, hx, rfl⟩ := List.mem_map.mp hr
    exact psOf_roots RT'.k x hx) (fun r hr => by
    unfold topsOf
    rw [TCR.val_not fun x hx e => hr (List.mem_map.mpr ⟨x, hx, e⟩)]
    exact Int.zero_mul _)
  obtain ⟨_, _, _, _, nd2, out2⟩ := id i2
  obtain ⟨_, _, _, _, nd1, out1⟩ := id i1
  have eqA := UpEq.all (cov_of nd2 out2) cM0 (on_of sub out2) oM0 eq
  have fin := quot_right allP_prm (k1 := L.map (·.1)) (kA := ks) (kq := N.map (·.1)) (k0 := M.map (·.1)) (g1 := qv (topsOf L c1)) (gA := qv t) (g0 := qv (topsOf M c)) (gq := TCR.val N) (go := TCR.val M) (gu := TCR.val L) bQ cQ c1Q (cov_of nd1 out1) (cov_of nd2 out2) (cov_val cN) (cov_val fM.can)
    (on_of (fun r hr => by
      obtain ⟨x, hx, rfl⟩ := List.mem_map.mp hr
      exact kL x hx) out1) (on_of (fun r hr => psOf_more r (sub r hr)) out2) (on_val fun e he => kA _ (inN e he)) (on_val RT'.k) (on_val kL) (qv_tops fM.can c0 cd) (qv_tops fL.can c10 c1d) (fun r => by
      rw [vN r, ← prodI_G, ← Rat.intCast_mul, divInt_back cb0]
      rfl) eqA
  refine q z N (c1 * b.natAbs) H5 (SA.trans s5) (SA.free hz) hN ⟨cN, fun e he => ?_, fun e he => ?_, fun e he => ?_⟩ (Nat.mul_pos c10 (by omega)) ?_ (fun e he => kA _ (inN e he)) (by omega) fin
  · rw [← cN.mem he, vN e.1]
    have := den_abs (t := prodI (L.map (·.1)) ks (topsOf L c1) t e.1) cb0
    rwa [Int.natAbs_mul, Int.natAbs_natCast] at this
  · rw [← cN.mem he, vN e.1]
    have lo := (TCM.low_abs (prodI (L.map (·.1)) ks (topsOf L c1) t e.1) _ cb0).1
    rw [TCR.low_rat _ _ cb0] at lo
    exact Nat.lt_of_le_of_lt lo (nb e.1)
  · obtain ⟨r, hr, s, hs, e2⟩ := subz e.1 (inN e he)
    rw [e2]
    have gp : 0 < Int.gcd r s := Int.gcd_pos_iff.mpr (.inl (by have := (kp r hr).1; omega))
    refine ⟨(mulR_pos (w1 r hr).1 (w2 s hs).1 (w1 r hr).2 (w2 s hs).2).1, ?_⟩
    obtain ⟨r0, rR⟩ := kp r hr
    obtain ⟨q0, qR⟩ := kq s hs
    unfold mulR
    refine wide_lt ?_ ?_
    · have e3 : r = ((r.natAbs : Nat) : Int) := by omega
      rw [e3]
      unfold gR
      rw [fdiv_nat, Int.natAbs_natCast]
      exact Nat.lt_of_le_of_lt (Nat.div_le_self ..) rR
    · have e3 : s = ((s.natAbs : Nat) : Int) := by omega
      rw [e3]
      unfold gR
      rw [fdiv_nat, Int.natAbs_natCast]
      exact Nat.lt_of_le_of_lt (Nat.div_le_self ..) qR
  · have := wide_lt n1 bB
    rwa [Int.natAbs_mul, Int.natAbs_natCast] at this
end
end TC
namespace TC
set_option exponentiation.threshold 20000
open PySem PySem.Spec PyProof.Rows L2 TCA TCX
/-! ### the lower numbers -/
def P8 : List Nat := [2, 3, 5, 7, 11, 13, 17, 19]
def K8 (j : Nat) : List Nat := QF.keys ((P8.take j).reverse)
theorem K8_succ {j p : Nat} (h : P8[j]? = some p) : K8 (j + 1) = K8 j ++ (K8 j).map fun r => p * r := by
  unfold K8
  rw [List.take_add_one, h]
  show QF.keys ((P8.take j ++ [p]).reverse) = _
  rw [List.reverse_append]
  rfl
theorem K8_up {j u : Nat} (h : u ∈ K8 j) : u ∈ K8 (j + 1) := by
  cases e : P8[j]? with
  | none =>
    have : P8.take (j + 1) = P8.take j := by rw [List.take_add_one, e]; exact List.append_nil _
    unfold K8
    rw [this]
    exact h
  | some p =>
    rw [K8_succ e]
    exact List.mem_append_left _ h
theorem K8_all {u : Nat} : ∀ {i j : Nat}, u ∈ K8 j → u ∈ K8 (j + i)
  | 0, j, h => h
  | i + 1, j, h => K8_up (K8_all (i := i) h)
theorem K8_one : 1 ∈ K8 0 := List.mem_singleton.mpr rfl
def k8B (u : Nat) : Bool := (QF.keys P8).contains u && (Nat.beq (9699690 % u) 0 && (Nat.ble 1 u && (Nat.blt 1000000 u || decide (TCM.sqOut (u : Int) = (1, (u : Int), 1)))))
theorem k8_all : (K8 8).all k8B = true := by decide +kernel
structure K8F (u : Nat) : Prop where
  k : u ∈ QF.keys P8
  d : u ∣ 9699690
  p : 0 < u
  s : u ≤ 1000000 → TCM.sqOut (u : Int) = (1, (u : Int), 1)
theorem k8_fact {u : Nat} (h : u ∈ K8 8) : K8F u := by
  have z := List.all_eq_true.mp k8_all u h
  unfold k8B at z
  simp only [Bool.and_eq_true, Bool.or_eq_true, decide_eq_true_eq, List.contains_iff_mem] at z
  obtain ⟨z1, z2, z3, z4⟩ := z
  refine ⟨z1, Nat.dvd_of_mod_eq_zero (Nat.eq_of_beq_eq_true z2), Nat.le_of_ble_eq_true z3, fun l => z4.resolve_left fun y => ?_⟩
  have := Nat.le_of_ble_eq_true y
  omega
theorem P8_all : P8 = allP.filter fun p => Nat.ble p 19 := by decide +kernel
theorem k8_allP {u : Nat} (h : u ∈ K8 8) : (u : Int) ∈ kI allP := by
  have := (k8_fact h).k
  rw [P8_all] at this
  exact List.mem_map.mpr ⟨u, keys_more u this, rfl⟩
/-- a drawn root -/
def R8 (r : Int) : Prop := ∃ u : Nat, r = (u : Int) ∧ u ∈ K8 8 ∧ u ≤ 1000000
theorem R8.ok {r : Int} (h : R8 r) : RootOk r := by
  obtain ⟨u, rfl, h1, h2⟩ := h
  unfold RootOk
  rw [(k8_fact h1).s h2]
  refine ⟨by omega, by omega, rfl, by show (0 : Int) ≤ 1; decide, by show (1 : Int) ≤ 1000; decide⟩
theorem R8.ex {t b r : Int} (h : R8 r) : exL t b r = oneL r t b := by
  obtain ⟨u, rfl, h1, h2⟩ := h
  unfold exL
  rw [(k8_fact h1).s h2, Int.mul_one]
theorem R8.val {t b r : Int} (h : R8 r) (s : Int) : TCR.val (exL t b r) s = if s = r then Rat.divInt t b else 0 := by rw [h.ex, val_oneL]
structure Lw (C : Addr) (m : Nat) (x d : Addr) (ks : List Int) (M : List Part) (H : Hp) : Prop where
  dict : DictAt H d ks (TCR.val M)
  clr : Clear ks (TCR.val M)
  num : NumAt C H x M
  good : Good (7 * m + 1) M
  len : M.length ≤ m
  klen : ks.length ≤ m
  men : ∀ r ∈ ks, R8 r
  dd : ∃ D : Nat, 0 < D ∧ D < 2 ^ (4 * m + 1) ∧ ∀ r, (TCR.val M r).den ∣ D
theorem Lw.same {C : Addr} {m : Nat} {d x : Addr} {ks : List Int} {L : List Part} {H H' : Hp} (s : Same H H') (h : Lw C m x d ks L H) : Lw C m x d ks L H' := ⟨h.dict.same s, h.clr, h.num.same s, h.good, h.len, h.klen, h.men, h.dd⟩
theorem Lw.but {C : Addr} {m : Nat} {d x : Addr} {ks : List Int} {L : List Part} {H H' : Hp} {p c : Addr} {ms : List Int} {n : Int} (sb : SameBut p H H') (hp : PenAt H p c ms n) (h : Lw C m x d ks L H) : Lw C m x d ks L H' := ⟨h.dict.but sb hp, h.clr, h.num.but sb hp, h.good, h.len, h.klen, h.men, h.dd⟩
theorem Lw.mono {C : Addr} {m m' : Nat} {d x : Addr} {ks : List Int} {L : List Part} {H : Hp} (h : Lw C m x d ks L H) (l : m ≤ m') : Lw C m' x d ks L H := by
  obtain ⟨D, d1, d2, d3⟩ := h.dd
  exact ⟨h.dict, h.clr, h.num, h.good.mono (by omega), Nat.le_trans h.len l, Nat.le_trans h.klen l, h.men, D, d1, Nat.lt_of_lt_of_le d2 (Nat.pow_le_pow_right (by decide) (by omega)), d3⟩
section
variable {P : Program} {w : World} {K : PySem.W.Frag} {mg : Str → Option Value} {base : Heap} {f : Addr} {fd : FuncData} {C fI fQ : Addr}
def spLowerL (C : Addr) : Sp := fun vs H Q _ => ∃ (p c : Addr) (ms : List Int) (n : Int), vs = [.ref p] ∧ PenAt H p c ms n ∧ 0 ≤ n ∧ n ≤ 900000 ∧
  ∀ (v x d : Addr) (ks : List Int) (M : List Part) (n' : Int) H', n ≤ n' → n' ≤ n + 46 → PenAt H' p c ms n' → SameBut p H H' → H' v = some (.tup [.ref x, .ref d]) → Lw C 4 x d ks M H' → Q (.ref v) H'
abbrev nLower : List Str := ["_law_pen_here", "_law_primes", "_law_number", "_law_some_here", "_law_k", "_law_r", "_law_p", "_law_up", "_law_under"]
theorem scLower : FnScope nLower ["_law_pen_here"] (defScope sLowerL) := ⟨rfl, rfl, rfl, by decide +kernel, rfl, by decide +kernel, by decide +kernel⟩
theorem ok_lower {fE fA fD fL fC fS : Addr} {fdE fdA fdD fdL fdC fdS : FuncData} (F : FnP K "_law_lower" sLowerL f fd) (Z : All8 P w K mg base C fE fA fD fL fC fS fdE fdA fdD fdL fdC fdS) : FnOk P w K mg base CX0 5 f fd ["_law_pen_here"] (spLowerL C) := by
  obtain ⟨FE, GE, gE, GP, bP, kP, gP, GD, bD, kD, gD, GL, bL, kL, gL, GC, bC, kC, gC, GS, bS, kS, gS, grange⟩ := Z
  obtain ⟨dsE, vE, bE⟩ := bE0 FE
  obtain ⟨mv1, kb1⟩ := bEbr FE
  refine F.ok scLower (fun vs H Q E h => ?_) (fun cdv Ar outer s H vs Q E hr h => ?_)
  · obtain ⟨_, _, _, _, rfl, _⟩ := h
    rfl
  obtain ⟨p, c, ms, n, rfl, pen, n0, n9, q⟩ := h
  have hr1 := hr.mono (j := 1) (by decide)
  have hr2 := hr.mono (j := 2) (by decide)
  have hr4 := hr.mono (j := 4) (by decide)
  refine ⟨_, PSs.nox (C8.pss_cut (ps_set (i := 1) scLower.nd rfl (.inl rfl) (pe_slice sl_list (pe_lst (pa_cons pe_int (pa_cons pe_int (pa_cons pe_int (pa_cons pe_int (pa_cons pe_int (pa_cons pe_int (pa_cons pe_int (pa_cons pe_int pa_nil))))))))) po_none (po_some (pe_op op_add pe_int (pe_call GD hr1 (by rfl) gD kD bD .nil pass0 (pa_cons (pv 0) (pa_cons pe_int pa_nil)))))))
      (C8.pss_cut (ps_par (i := 2) (j := 3) (by rfl) scLower.nd rfl rfl (by decide) rfl rfl (pa_cons (pe_call GE hr4 (by rfl) gE FE.kp bE vE pass0 (pa_cons pe_int pa_nil)) (pa_cons pe_dnewK pa_nil)) (by rfl))
      (C8.pss_cut (ps_for PassesOwn.never rfl (pi_range1 (by rfl) grange (pa_cons (pe_op op_add pe_int (pe_call GD hr1 (by rfl) gD kD bD .nil pass0 (pa_cons (pv 0) (pa_cons pe_int pa_nil)))) pa_nil)) (pg_name (i := 4) scLower.nd rfl (.inl rfl))
        (pss_cons (ps_set (i := 5) scLower.nd rfl (.inl rfl) pe_int)
      (C8.pss_cut (ps_for PassesOwn.never rfl (pi_list (pv 1)) (pg_name (i := 6) scLower.nd rfl (.inl rfl))
        (pss_one (ps_set (i := 5) scLower.nd rfl (.inl rfl) (pe_op op_mul (pv 5) (pe_ix ix_list (pe_lst (pa_cons pe_int (pa_cons pe_int (pa_cons (pv 6) pa_nil)))) (pe_call GD hr1 (by rfl) gD kD bD .nil pass0 (pa_cons (pv 0) (pa_cons pe_int pa_nil))) (fun _ _ => rfl))))))
      (C8.pss_cut (ps_par (i := 7) (j := 8) (by rfl) scLower.nd rfl rfl (by decide) rfl rfl (pa_cons (pe_op op_add pe_int (pe_call GD hr1 (by rfl) gD kD bD .nil pass0 (pa_cons (pv 0) (pa_cons pe_int pa_nil)))) (pa_cons (pe_op op_add pe_int (pe_call GD hr1 (by rfl) gD kD bD .nil pass0 (pa_cons (pv 0) (pa_cons pe_int pa_nil)))) pa_nil)) (by rfl))
      (C8.pss_cut (ps_set (i := 7) scLower.nd rfl (.inl rfl) (pe_op op_mul (pv 7) (pe_ix ix_list (pe_lst (pa_cons pe_int (pa_cons (pe_un un_neg pe_int) pa_nil))) (pe_call GD hr1 (by rfl) gD kD bD .nil pass0 (pa_cons (pv 0) (pa_cons pe_int pa_nil))) (fun _ _ => rfl))))
      (pss_one (ps_if (pt_cmpR op_le (pv 5) pe_int (nomark _)) (pss_one (ps_par (i := 2) (j := 3) (by rfl) scLower.nd rfl rfl (by decide) rfl rfl (pa_cons (pe_call GP hr4 (by rfl) gP kP bP .nil pass0 (pa_cons (pv 2) (pa_cons (pe_callN GE hr4 (by rfl) gE FE.kp kb1 pass0 (pa_cons (pv 7) pa_nil) (pk_cons (pv 8) (pk_cons (pv 5) pk_nil))) pa_nil))) (pa_cons (pe_call GS hr2 (by rfl) gS kS bS .nil pass0 (pa_cons (pv 3) (pa_cons (pe_disp (pps_cons (pv 5) (pe_call GL hr1 (by rfl) gL kL bL .nil pass0 (pa_cons (pv 7) (pa_cons (pv 8) pa_nil))) pps_nil) rfl rfl (by intro z; cases z) (by decide)) pa_nil))) pa_nil)) (by rfl))) pss_nil)))))))
      (pss_one (ps_ret (pe_tup (pa_cons (pv 2) (pa_cons (pv 3) pa_nil)))))))), ?_⟩
  have pl : ∀ {G : Hp} {l : Addr}, G l = none → ∀ {o : HO}, G p = some o → l ≠ p := fun h _ e => (ne_of_none e h).symm
  refine ⟨fun σ H1 => ∃ (l : Addr) (j : Nat) (n1 : Int), σ = [some (.ref p), some (.ref l), none, none, none, none, none, none, none] ∧ j ≤ 8 ∧ H1 l = some (.lst ((P8.take j).map fun (z : Nat) => V.int (z : Int))) ∧ n ≤ n1 ∧ n1 ≤ n + 1 ∧ PenAt H1 p c ms n1 ∧ SameBut p H H1 ∧ l ≠ p, ?_, fun σ H1 h1 => ?_⟩
  · refine ⟨by show 8 ≤ sizeLine; decide, fun l hl => ?_⟩
    have sl := same_upd (o := .lst [.int 2, .int 3, .int 5, .int 7, .int 11, .int 13, .int 17, .int 19]) hl
    refine ⟨_, rfl, p, c, ms, n, 7, rfl, pen.same sl, n0, by omega, by decide, by decide, fun dd n1 H2 dd0 dd1 nn0 nn1 pen1 sb1 => ?_⟩
    have nlp := pl hl pen.choose_spec.1
    refine ⟨2, dd, rfl, rfl, _, rfl, l, _, rfl, SqL.of (sb1 _ _ nlp upd_same), fun l2 hl2 => ?_⟩
    have s2 := same_upd (o := .lst (cutV [.int 2, .int 3, .int 5, .int 7, .int 11, .int 13, .int 17, .int 19] none (some (2 + dd)))) hl2
    refine ⟨l2, (2 + dd).toNat, n1, rfl, by omega, ?_, by omega, by omega, pen1.same s2, (SameBut.trans (but_of sl) sb1).trans (but_of s2), pl hl2 pen1.choose_spec.1⟩
    rw [upd_same]
    rcases (show dd = 0 ∨ dd = 1 ∨ dd = 2 ∨ dd = 3 ∨ dd = 4 ∨ dd = 5 ∨ dd = 6 by omega) with e | e | e | e | e | e | e <;> subst e <;> rfl
  obtain ⟨l, j, n1, rfl, j8, hl, a1, a2, pen1, sb1, nlp⟩ := h1
  refine ⟨fun σ H2 => ∃ (x d : Addr), σ = [some (.ref p), some (.ref l), some (.ref x), some (.ref d), none, none, none, none, none] ∧ Same H1 H2 ∧ Lw C 0 x d [] [] H2, ?_, fun σ H2 h2 => ?_⟩
  · refine ⟨0, 1, 1, 40, rfl, by decide, by decide, by decide, by decide, ok_one, fun x0 H2 s2 hx0 e0 => ?_⟩
    rw [ex_nil] at e0
    intro d0 hd0
    have s3 := same_upd (o := .dK []) hd0
    exact ⟨_, _, rfl, x0, d0, rfl, s2.trans s3, ⟨[], upd_same, rfl, (fun r hr => by cases hr), List.nodup_nil, fun r _ => rfl⟩, (fun r hr => by cases hr), e0.same s3, Good.nil, Nat.le_refl _, Nat.le_refl _, (fun r hr => by cases hr), 1, by decide, by decide, fun r => Nat.one_dvd _⟩
  obtain ⟨x, d, rfl, s2, lw0⟩ := h2
  have pen2 := pen1.same s2
  have hl2 := s2 _ _ hl
  have sb2 := sb1.trans (but_of s2)
  refine ⟨fun σ H3 => ∃ (x d : Addr) (ks : List Int) (M : List Part) (n' : Int) (v4 v5 v6 v7 v8 : Option V), σ = [some (.ref p), some (.ref l), some (.ref x), some (.ref d), v4, v5, v6, v7, v8] ∧ n ≤ n' ∧ n' ≤ n + 46 ∧ PenAt H3 p c ms n' ∧ SameBut p H H3 ∧ Lw C 4 x d ks M H3, ?_, fun σ H3 h3 => ?_⟩
  · refine ⟨_, rfl, p, c, ms, n1, 4, rfl, pen2, by omega, by omega, by decide, by decide, fun e n2 H3 e0 e1 m0 m1 pen3 sb3 => ?_⟩
    refine ⟨1, e, rfl, rfl, 1 + e, rfl, by omega, by omega, ?_⟩
    refine for_range (n := (1 + e).toNat) (fun i σ G => ∃ (x d : Addr) (ks : List Int) (M : List Part) (n' : Int) (v4 v5 v6 v7 v8 : Option V), σ = [some (.ref p), some (.ref l), some (.ref x), some (.ref d), v4, v5, v6, v7, v8] ∧ n ≤ n' ∧ n' ≤ n + 2 + 11 * i ∧ PenAt G p c ms n' ∧ SameBut p H G ∧ G l = some (.lst ((P8.take j).map fun (z : Nat) => V.int (z : Int))) ∧ Lw C i x d ks M G)
      ⟨x, d, [], [], n2, none, none, none, none, none, rfl, by omega, by omega, pen3, sb2.trans sb3, sb3 _ _ nlp hl2, lw0.but sb3 pen2⟩ (fun i σ G hi hP => ?_) (fun σ G hP => ?_)
    · obtain ⟨x, d, ks, M, n3, v4, v5, v6, v7, v8, rfl, b0, b1, pen4, sb4, hl4, lw⟩ := hP
      have hi4 : i < 4 := by omega
      -- r
      refine ⟨fun σ G2 => ∃ (u : Nat) (n4 : Int) (v6 : Option V), σ = [some (.ref p), some (.ref l), some (.ref x), some (.ref d), some (.int (0 + (i : Nat))), some (.int (u : Int)), v6, v7, v8] ∧ u ∈ K8 8 ∧ n ≤ n4 ∧ n4 ≤ n + 2 + 11 * i + 8 ∧ PenAt G2 p c ms n4 ∧ SameBut p H G2 ∧ G2 l = some (.lst ((P8.take j).map fun (z : Nat) => V.int (z : Int))) ∧ Lw C i x d ks M G2, ?_, fun σ' G2 h => ?_⟩
      · refine ⟨_, rfl, l, rfl, ⟨_, SqL.of hl4⟩, for_list (xs := (P8.take j).map fun (z : Nat) => V.int (z : Int)) (fun k σ G2 => ∃ (u : Nat) (n4 : Int) (v6 : Option V), σ = [some (.ref p), some (.ref l), some (.ref x), some (.ref d), some (.int (0 + (i : Nat))), some (.int (u : Int)), v6, v7, v8] ∧ u ∈ K8 k ∧ n ≤ n4 ∧ n4 ≤ n + 2 + 11 * i + k ∧ PenAt G2 p c ms n4 ∧ SameBut p H G2 ∧ G2 l = some (.lst ((P8.take j).map fun (z : Nat) => V.int (z : Int))) ∧ Lw C i x d ks M G2)
          ⟨1, n3, v6, rfl, K8_one, b0, by omega, pen4, sb4, hl4, lw⟩ (fun k σ G2 _ hP => ?_) (fun k y σ G2 hy hP => ?_) (fun σ G2 hP => ?_)⟩
        · obtain ⟨_, _, _, _, _, _, _, _, _, z, _⟩ := hP
          exact SqL.of z
        · obtain ⟨u, n4, v6, rfl, hu, c0, c1, pen5, sb5, hl5, lw5⟩ := hP
          rw [List.getElem?_map] at hy
          obtain ⟨p0, hp0, rfl⟩ := Option.map_eq_some_iff.mp hy
          have kj : k < j := by
            have := (List.getElem?_eq_some_iff.mp hp0).1
            rw [List.length_take] at this
            omega
          have hp8 : P8[k]? = some p0 := by
            rw [List.getElem?_take_of_lt kj] at hp0
            exact hp0
          have p19 : p0 ≤ 19 := (show ∀ z ∈ P8, z ≤ 19 by decide) p0 (List.mem_of_getElem? hp8)
          have ub : u ≤ 9699690 := Nat.le_of_dvd (by decide) (k8_fact (u := u) (by have := K8_all (i := 8 - k) hu; rwa [show k + (8 - k) = 8 by omega] at this)).d
          refine ⟨_, rfl, _, rfl, by show 3 ≤ sizeLine; decide, fun l2 hl2 => ?_⟩
          have s5 := same_upd (o := .lst [.int 1, .int 1, .int (p0 : Int)]) hl2
          have n2p := pl hl2 pen5.choose_spec.1
          refine ⟨_, rfl, p, c, ms, n4, 3, rfl, pen5.same s5, by omega, by omega, by decide, by decide, fun dd n5 G3 dd0 dd1 nn0 nn1 pen6 sb6 => ?_⟩
          have lst := sb6 _ _ n2p upd_same
          have sb7 := (sb5.trans (but_of s5)).trans sb6
          have hl7 := sb6 _ _ nlp (s5 _ _ hl5)
          have lw7 := (lw5.same s5).but sb6 (pen5.same s5)
          have one : ∀ z : Int, (z = 1 ∨ z = (p0 : Int)) → ∃ u' : Nat, (u : Int) * z = (u' : Int) ∧ u' ∈ K8 (k + 1) := fun z hz => by
            rcases hz with rfl | rfl
            · exact ⟨u, Int.mul_one _, K8_up hu⟩
            · refine ⟨p0 * u, by rw [Int.natCast_mul, Int.mul_comm], ?_⟩
              rw [K8_succ hp8]
              exact List.mem_append_right _ (List.mem_map.mpr ⟨u, hu, rfl⟩)
          obtain ⟨z, hz, ev⟩ := pick [1, 1, (p0 : Int)] dd0 dd1
          obtain ⟨u', eu, hu'⟩ := one z (by
            rcases List.mem_cons.mp hz with z | z
            · exact .inl z
            · rcases List.mem_cons.mp z with z | z
              · exact .inl z
              · exact .inr (List.mem_singleton.mp z))
          have zb : -1000000 ≤ z ∧ z ≤ 1000000 := by
            rcases List.mem_cons.mp hz with z | z
            · omega
            · rcases List.mem_cons.mp z with z | z
              · omega
              · have := List.mem_singleton.mp z
                omega
          exact ⟨l2, _, dd, _, rfl, rfl, SqL.of lst, ev, (u : Int), z, rfl, rfl, cmul_r zb.1 zb.2, u', n5, some (.int (p0 : Int)), by rw [← eu]; rfl, hu', by omega, by omega, pen6, sb7, hl7, lw7⟩
        · obtain ⟨u, n4, v6, rfl, hu, c0, c1, pen5, sb5, hl5, lw5⟩ := hP
          rw [List.length_map, List.length_take] at hu c1
          have l8 : P8.length = 8 := rfl
          exact ⟨u, n4, v6, rfl, (by have := K8_all (i := 8 - min j P8.length) hu; rwa [show min j P8.length + (8 - min j P8.length) = 8 by omega] at this), c0, by omega, pen5, sb5, hl5, lw5⟩
      obtain ⟨u, n4, v6, rfl, hu, c0, c1, pen5, sb5, hl5, lw5⟩ := h
      -- up, under
      refine ⟨fun σ G3 => ∃ (up un n5 : Int), σ = [some (.ref p), some (.ref l), some (.ref x), some (.ref d), some (.int (0 + (i : Nat))), some (.int (u : Int)), v6, some (.int up), some (.int un)] ∧ 1 ≤ up ∧ up ≤ 50 ∧ 1 ≤ un ∧ un ≤ 9 ∧ n ≤ n5 ∧ n5 ≤ n + 2 + 11 * i + 10 ∧ PenAt G3 p c ms n5 ∧ SameBut p H G3 ∧ G3 l = some (.lst ((P8.take j).map fun (z : Nat) => V.int (z : Int))) ∧ Lw C i x d ks M G3, ?_, fun σ' G3 h => ?_⟩
      · refine ⟨_, rfl, p, c, ms, n4, 50, rfl, pen5, by omega, by omega, by decide, by decide, fun d1 n5 G3 dd0 dd1 nn0 nn1 pen6 sb6 => ?_⟩
        refine ⟨1, d1, rfl, rfl, ?_⟩
        refine ⟨_, rfl, p, c, ms, n5, 9, rfl, pen6, by omega, by omega, by decide, by decide, fun d2 n6 G4 dd0' dd1' nn0' nn1' pen7 sb7 => ?_⟩
        exact ⟨1, d2, rfl, rfl, _, _, rfl, 1 + d1, 1 + d2, n6, rfl, by omega, by omega, by omega, by omega, by omega, by omega, pen7, (sb5.trans sb6).trans sb7, sb7 _ _ nlp (sb6 _ _ nlp hl5), (lw5.but sb6 pen5).but sb7 pen6⟩
      obtain ⟨up, un, n5, rfl, u0, u1, w0, w1, e0', e1', pen6, sb6, hl6, lw6⟩ := h
      -- the sign
      refine ⟨fun σ G4 => ∃ (up n6 : Int), σ = [some (.ref p), some (.ref l), some (.ref x), some (.ref d), some (.int (0 + (i : Nat))), some (.int (u : Int)), v6, some (.int up), some (.int un)] ∧ up.natAbs ≤ 50 ∧ n ≤ n6 ∧ n6 ≤ n + 2 + 11 * i + 11 ∧ PenAt G4 p c ms n6 ∧ SameBut p H G4 ∧ G4 l = some (.lst ((P8.take j).map fun (z : Nat) => V.int (z : Int))) ∧ Lw C i x d ks M G4, ?_, fun σ' G4 h => ?_⟩
      · refine ⟨_, rfl, 1, rfl, by show 2 ≤ sizeLine; decide, fun l2 hl2 => ?_⟩
        have s6 := same_upd (o := .lst [.int 1, .int (-1)]) hl2
        have n2p := pl hl2 pen6.choose_spec.1
        refine ⟨_, rfl, p, c, ms, n5, 2, rfl, pen6.same s6, by omega, by omega, by decide, by decide, fun dd n6 G5 dd0 dd1 nn0 nn1 pen7 sb7 => ?_⟩
        obtain ⟨z, hz, ev⟩ := pick [1, -1] dd0 dd1
        have zc : z = 1 ∨ z = -1 := by
          rcases List.mem_cons.mp hz with z | z
          · exact .inl z
          · exact .inr (List.mem_singleton.mp z)
        refine ⟨l2, _, dd, _, rfl, rfl, SqL.of (sb7 _ _ n2p upd_same), ev, up, z, rfl, rfl, cmul_r (by omega) (by omega), up * z, n6, rfl, ?_, by omega, by omega, pen7, (sb6.trans (but_of s6)).trans sb7, sb7 _ _ nlp (s6 _ _ hl6), (lw6.same s6).but sb7 (pen6.same s6)⟩
        rcases zc with rfl | rfl <;> omega
      obtain ⟨up, n6, rfl, ua, e2', e3', pen7, sb7, hl7, lw7⟩ := h
      refine ⟨_, rfl, (u : Int), 1000000, rfl, rfl, _, rfl, ?_⟩
      by_cases big : (u : Int) ≤ 1000000
      · refine iteD1 big ?_
        have r8 : R8 (u : Int) := ⟨u, rfl, hu, by omega⟩
        have un0 : un ≠ 0 := by omega
        have zu : up.natAbs < 2 ^ 6 := Nat.lt_of_le_of_lt ua (by decide)
        have zn : un.natAbs < 2 ^ 6 := Nat.lt_of_le_of_lt (show un.natAbs ≤ 9 by omega) (by decide)
        have zn4 : un.natAbs < 2 ^ 4 := Nat.lt_of_le_of_lt (show un.natAbs ≤ 9 by omega) (by decide)
        have ge : Good 6 (exL up un (u : Int)) := by
          rw [r8.ex]
          exact good_oneL un0 zu zn
        have le := len_ex up un (u : Int)
        have ll := lw7.len
        refine ⟨_, rfl, _, rfl, _, rfl, _, rfl, rfl, rfl, up, un, (u : Int), 6, rfl, un0, zn, by decide, by decide, r8.ok, fun x1 G5 s8 hx1 n1' => ?_⟩
        refine ⟨x, x1, M, exL up un (u : Int), 7 * i + 1, 6, rfl, lw7.num.same s8, n1', lw7.good, ge, by omega, by decide, by omega, by omega, fun z1 N1 G6 s9 hz1 hN1 gN1 vN1 lN1 => ?_⟩
        refine ⟨_, rfl, ?_⟩
        intro dp hdp
        have s1' := same_upd (o := .dK []) hdp
        refine ⟨_, rfl, _, rfl, _, rfl, up, un, 6, rfl, un0, zn, by decide, by decide, fun w hw => ?_⟩
        rw [lowL_fra un0 rfl]
        have s2' := same_upd (o := fraV (Rat.divInt up un)) hw
        have nu : w ≠ dp := fun z => by
          rw [z, upd_same] at hw
          cases hw
        refine ⟨s2' _ _ upd_same, [(Sum.inl (u : Int), .ref w)], rfl, by show 1 ≤ 15; decide, ?_⟩
        have s3' : Same G6 (upd (upd (upd G6 dp (.dK [])) w (fraV (Rat.divInt up un))) dp (.dK (mergeK [] [((Sum.inl (u : Int) : Key), V.ref w)]))) := same_at (s1'.trans s2') hdp
        have hD : DictAt (upd (upd (upd G6 dp (.dK [])) w (fraV (Rat.divInt up un))) dp (.dK (mergeK [] [((Sum.inl (u : Int) : Key), V.ref w)]))) dp [(u : Int)] (TCR.val (exL up un (u : Int))) := by
          refine ⟨_, upd_same, rfl, fun s hs => ?_, by simp, fun s hs => ?_⟩
          · rw [List.mem_singleton.mp hs, r8.val, if_pos rfl]
            refine ⟨w, ?_, by rw [upd_ne nu]; exact upd_same⟩
            show valV [((Sum.inl (u : Int) : Key), V.ref w)] (Sum.inl (u : Int)) = some (.ref w)
            simp [valV]
          · rw [r8.val, if_neg fun z => hs (List.mem_singleton.mpr z)]
        have gez : ∀ s, TCR.Sz 6 (TCR.val (exL up un (u : Int)) s) := fun s => by
          rw [r8.val]
          split
          · exact TCR.Sz.divInt un0 zu zn
          · exact TCR.Sz.zero (by decide)
        have sA := (s8.trans s9).trans s3'
        refine ⟨d, dp, ks, [(u : Int)], TCR.val M, TCR.val (exL up un (u : Int)), 7 * i + 1, 6, rfl, lw7.dict.same sA, hD, fun s => lw7.good.val (by omega) s, gez, by omega, by decide, by omega, by have := lw7.klen; show ks.length + 1 ≤ 900; omega, fun d3 k3 G7 s6 hd3 hD3 cl3 l3 sub3 => ?_⟩
        have sB := sA.trans s6
        have l3' : k3.length ≤ ks.length + 1 := l3
        have kl := lw7.klen
        refine ⟨_, _, rfl, z1, d3, k3, N1, n6, _, _, _, _, _, rfl, e2', by omega, pen7.same sB, sb7.trans (but_of sB), sB _ _ hl7, ⟨hD3.imp fun s => (vN1 s).symm, fun s hs => by rw [vN1 s]; exact cl3 s hs, (hN1.same s3').same s6, gN1.mono (by omega), by omega, by omega, fun s hs => ?_, ?_⟩⟩
        · rcases sub3 s hs with m | m
          · exact lw7.men s m
          · rw [List.mem_singleton.mp m]
            exact r8
        · obtain ⟨D, x1, x2, x3⟩ := lw7.dd
          refine ⟨D * un.natAbs, Nat.mul_pos x1 (by omega), ?_, fun s => ?_⟩
          · have e : 4 * (i + 1) + 1 = (4 * i + 1) + 4 := by omega
            rw [e, Nat.pow_add]
            exact Nat.mul_lt_mul'' x2 zn4
          · rw [vN1 s]
            refine Nat.dvd_trans (den_add _ _) (Nat.mul_dvd_mul (x3 s) ?_)
            rw [r8.val]
            split
            · have e : un = ((un.natAbs : Nat) : Int) := by omega
              rw [e, Int.natAbs_natCast]
              exact den_divInt (by omega)
            · exact Nat.one_dvd _
      · refine iteD0 big ?_
        exact ⟨x, d, ks, M, n6, _, _, _, _, _, rfl, e2', by omega, pen7, sb7, hl7, lw7.mono (by omega)⟩
    · obtain ⟨x, d, ks, M, n', v4, v5, v6, v7, v8, rfl, b0, b1, pen4, sb4, hl4, lw⟩ := hP
      exact ⟨x, d, ks, M, n', v4, v5, v6, v7, v8, rfl, b0, by omega, pen4, sb4, lw.mono (by omega)⟩
  obtain ⟨x, d, ks, M, n', v4, v5, v6, v7, v8, rfl, b0, b1, pen3, sb3, lw⟩ := h3
  refine ⟨_, rfl, _, rfl, by show 2 ≤ sizeLine; decide, fun v hv => ?_⟩
  have sv := same_upd (o := .tup [.ref x, .ref d]) hv
  exact q v x d ks M n' _ b0 b1 (pen3.same sv) (sb3.trans (but_of sv)) upd_same (lw.same sv)
end
end TC
namespace TC
set_option exponentiation.threshold 20000
open PySem PySem.Spec PyProof.Rows L2 TCA TCX
section
variable {P : Program} {w : World} {K : PySem.W.Frag} {mg : Str → Option Value} {base : Heap} {f : Addr} {fd : FuncData} {C fI fQ CB CW : Addr}
/-! ### _law_many_primes -/
def manyB (ks : List Int) (p : Nat) : Bool := ks.any fun r => decide (r % (p : Int) = 0)
def manyP (ks : List Int) : List Nat := P8.filter (manyB ks)
theorem shaped_ints (l : List Int) : SeqAt.shaped (.list (dInts l)) = true := by
  have h1 : ∀ l : List Int, PyData.canLayAll0 (dInts l) = true := fun l => by
    induction l with
    | nil => rfl
    | cons x l ih => exact ih
  have h2 : ∀ l : List Int, PyData.depthAll (dInts l) ≤ 0 := fun l => by
    induction l with
    | nil => exact Nat.zero_le _
    | cons x l ih =>
      show max (PyData.depth (.int x)) (PyData.depthAll (dInts l)) ≤ 0
      exact Nat.max_le.mpr ⟨Nat.le_refl 0, ih⟩
  show (PyData.canLayAll0 (dInts l) && decide (PyData.depthAll (dInts l) + 1 ≤ 64)) = true
  rw [h1, decide_eq_true (by have := h2 l; omega)]
  rfl
theorem eqv_nil (l : List Int) : PyData.eqv (.list (dInts l)) (.list []) = decide (l = []) := by
  cases l <;> rfl
def spMany : Sp := fun vs H Q _ => ∃ (d : Addr) (ks : List Int) (g : Int → Rat), vs = [.ref d] ∧ DictAt H d ks g ∧ ks.length ≤ 1000 ∧ ∀ H', Same H H' → Q (.int ((manyP ks).length : Int)) H'
abbrev nMany : List Str := ["_law_some_here", "_law_p", "_law_r"]
abbrev scManyX : Scope := { kind := .function, names := [(".0", .local), ("_law_p", .cell), ("_law_some_here", .cell)], isGenerator := false, isCoroutine := false }
theorem scMany : FnScope nMany ["_law_some_here"] (defScope sManyL) := ⟨rfl, rfl, rfl, by decide +kernel, rfl, by decide +kernel, by decide +kernel⟩
theorem ok_many (F : FnP K "_law_many_primes" sManyL f fd) (glen : mg "len" = none) : FnOk P w K mg base CX0 1 f fd ["_law_some_here"] spMany := by
  refine F.ok scMany (fun vs H Q E h => ?_) (fun cdv Ar outer s H vs Q E hr h => ?_)
  · obtain ⟨_, _, _, rfl, _⟩ := h
    rfl
  obtain ⟨d, ks, g, rfl, hd, len, q⟩ := h
  have hu : (Ar.deeper (envOfC "_law_many_primes" (defScope sManyL) s.heap.objs.size f cdv)).units + 64 < cLine := by
    have := hr.units
    omega
  refine ⟨_, PSs.nox (pss_one (ps_ret (pe_callB call_len_seq (by rfl) glen PySem.boot_len (pa_cons (pe_lc (own := [("_law_p", 1)]) (g := gName 1) (tt := (tTest (tOp (rNeD K) (tLockE (tLc (iKeys (tVar 0)) (gName 2) (tTest (tOp rEq (tOp (rI (fun _ j => 0 < j) fun i j => .int (i % j)) (tVar 2) (tVar 1)) (tC (.int 0)))) (tVar 2) [2])) (tLst tNil)))) (te := (tVar 1)) (by rfl) scMany.nd (pi_list (pe_lst (pa_cons pe_int (pa_cons pe_int (pa_cons pe_int (pa_cons pe_int (pa_cons pe_int (pa_cons pe_int (pa_cons pe_int (pa_cons pe_int pa_nil))))))))))
          (blkOk_by (N := nMany) (sc := defScope sManyL) (by decide +kernel)) (fun _ _ _ _ _ => pg_name (i := 1) scMany.nd rfl (.inr rfl)) (fun _ _ _ _ _ => pts_one (pt_cmpR (op_neD hu) (pe_lock (pe_lc (own := [("_law_r", 2)]) (g := gName 2) (tt := (tTest (tOp rEq (tOp (rI (fun _ j => 0 < j) fun i j => .int (i % j)) (tVar 2) (tVar 1)) (tC (.int 0))))) (te := (tVar 2)) (by rfl) scMany.nd (pi_keys (pv 0))
          (blkOk_by (N := nMany) (sc := scManyX) (by decide +kernel)) (fun _ _ _ _ _ => pg_name (i := 2) scMany.nd rfl (.inl rfl)) (fun _ _ _ _ _ => pts_one (pt_cmpR op_eq (pe_op op_mod (pv 2) (pv 1)) pe_int (nomark _))) (fun _ _ _ _ _ => (pv 2)))) (pe_lst pa_nil) (nomark _))) (fun _ _ _ _ _ => (pv 1))) pa_nil)))), ?_⟩
  refine ⟨by show 8 ≤ sizeLine; decide, fun pl hpl => ?_⟩
  have sp := same_upd (o := .lst [.int 2, .int 3, .int 5, .int 7, .int 11, .int 13, .int 17, .int 19]) hpl
  refine ⟨pl, rfl, ⟨_, SqL.of upd_same⟩, fun D hD => lc_list (xs := P8.map fun (z : Nat) => V.int (z : Int)) (fun i G => Same (upd H pl (.lst [.int 2, .int 3, .int 5, .int 7, .int 11, .int 13, .int 17, .int 19])) G ∧ G D = some (.lst (((P8.take i).filter (manyB ks)).map fun (z : Nat) => V.int (z : Int)))) ⟨same_upd hD, upd_same⟩ (fun i G _ hP => SqL.of (hP.1 _ _ upd_same)) (fun i xv G hx hP => ?_) (fun G hP => ?_)⟩
  · obtain ⟨sG, hG⟩ := hP
    rw [List.getElem?_map] at hx
    obtain ⟨p, hp, rfl⟩ := Option.map_eq_some_iff.mp hx
    have p2 : 2 ≤ p := (show ∀ z ∈ P8, 2 ≤ z by decide) p (List.mem_of_getElem? hp)
    have p0 : (0 : Int) < (p : Int) := by omega
    refine ⟨rfl, ?_⟩
    have dG := (hd.same sp).same sG
    obtain ⟨kv, b1, b2, b3, b4, b5⟩ := id dG
    have lk := len_keys b2
    refine ⟨d, .dK kv, b1, trivial, fun o => ?_⟩
    refine ⟨_, rfl, d, o, rfl, .inl ⟨kv, upd_same, fun D2 hD2 => ?_⟩⟩
    have nD : d ≠ D2 := ne_of_none (upd_same (H := G) (a := d) (o := .frz o (.dK kv))) hD2
    have gD : G D2 = none := by
      rw [upd_ne nD.symm] at hD2
      exact hD2
    refine lc_it walk_keys (fun j G2 => (∀ b o', G b = some o' → b ≠ d → G2 b = some o') ∧ G2 d = some (.frz o (.dK kv)) ∧ G2 D2 = some (.lst (((ks.take j).filter fun r => decide (r % (p : Int) = 0)).map V.int))) ⟨fun b o' e hb => same_upd hD2 _ _ (by rw [upd_ne hb]; exact e), by rw [upd_ne nD]; exact upd_same, upd_same⟩ (fun j G2 _ hP => hP.2.1) (fun j x G2 G3 hj hP hy => ?_) (fun G2 hP => ?_)
    · obtain ⟨rfl, k, v, hkv, rfl⟩ := hy
      obtain ⟨g1, g2, g3⟩ := hP
      obtain ⟨r, hr, rfl⟩ := key_at b2 hkv
      have et : ks.take (j + 1) = ks.take j ++ [r] := by
        rw [List.take_add_one, hr]
        rfl
      refine ⟨rfl, _, rfl, _, rfl, r, (p : Int), rfl, rfl, p0, rfl, _, rfl, ?_⟩
      by_cases z : r % (p : Int) = 0
      · refine iteD1 (congrArg V.int z) ⟨_, rfl, _, g3, ?_, fun b o' e hb => ?_, ?_, ?_⟩
        · rw [List.length_map]
          have a := List.length_filter_le (fun r => decide (r % (p : Int) = 0)) (ks.take j)
          have b := List.length_take_le' j ks
          exact Nat.lt_of_le_of_lt (m := 1000) (by omega) (by decide)
        · rw [upd_ne (ne_of_none e gD)]
          exact g1 _ _ e hb
        · rw [upd_ne nD]
          exact g2
        · rw [upd_same, et, List.filter_append, List.map_append, List.filter_cons_of_pos (p := fun r => decide (r % (p : Int) = 0)) (decide_eq_true z), List.filter_nil]
          rfl
      · refine iteD0 (ine z) ⟨g1, g2, ?_⟩
        rw [et, List.filter_append, List.filter_cons_of_neg (by rw [decide_eq_false z]; exact Bool.false_ne_true), List.filter_nil, List.append_nil]
        exact g3
    · obtain ⟨g1, g2, g3⟩ := hP
      rw [lk, List.take_length] at g3
      refine ⟨g2, Nat.zero_le _, fun e he => ?_⟩
      have smq : Same G (upd G2 d (.dK kv)) := fun b o' e => by
        by_cases hb : b = d
        · rw [hb, upd_same]
          rw [hb, b1] at e
          exact e
        · rw [upd_ne hb]
          exact g1 _ _ e hb
      have g3' : (upd G2 d (.dK kv)) D2 = some (.lst ((ks.filter fun r => decide (r % (p : Int) = 0)).map V.int)) := by
        rw [upd_ne nD.symm]
        exact g3
      generalize upd G2 d (.dK kv) = Gq at smq g3' he ⊢
      have se := same_upd (o := .lst []) he
      refine ⟨.list (dInts (ks.filter fun r => decide (r % (p : Int) = 0))), .list [], dp_ints (se _ _ g3'), .lst (SqL.of upd_same) .nil, shaped_ints _, rfl, _, rfl, ?_⟩
      rw [eqv_nil]
      have hD' := se _ _ (smq _ _ hG)
      have sF := (sG.trans smq).trans se
      have nn : manyB ks p = !decide ((ks.filter fun r => decide (r % (p : Int) = 0)) = []) := by
        unfold manyB
        cases hb : ks.any fun r => decide (r % (p : Int) = 0) with
        | true =>
          obtain ⟨r, hr, z⟩ := List.any_eq_true.mp hb
          rw [decide_eq_false fun e => by
            have : r ∈ ks.filter (fun r => decide (r % (p : Int) = 0)) := List.mem_filter.mpr ⟨hr, z⟩
            rw [e] at this
            cases this]
          rfl
        | false =>
          rw [decide_eq_true (List.filter_eq_nil_iff.mpr fun r hr z => by
            have : (ks.any fun r => decide (r % (p : Int) = 0)) = true := List.any_eq_true.mpr ⟨r, hr, z⟩
            rw [hb] at this
            cases this)]
          rfl
      rw [← nn]
      have et : P8.take (i + 1) = P8.take i ++ [p] := by
        rw [List.take_add_one, hp]
        rfl
      by_cases z : manyB ks p = true
      · have z2 := z
        rw [z2]
        refine iteT ⟨_, rfl, _, hD', ?_, ?_, ?_⟩
        · rw [List.length_map]
          have a := List.length_filter_le (manyB ks) (P8.take i)
          have b := List.length_take_le' i P8
          have c : P8.length = 8 := rfl
          exact Nat.lt_of_le_of_lt (m := 1000) (by omega) (by decide)
        · exact same_at sF hD
        · rw [upd_same, et, List.filter_append, List.map_append, List.filter_cons_of_pos z, List.filter_nil]
          rfl
      · have z2 := Bool.eq_false_iff.mpr z
        rw [z2]
        refine iteF ⟨sF, ?_⟩
        rw [et, List.filter_append, List.filter_cons_of_neg z, List.filter_nil, List.append_nil]
        exact hD'
  · obtain ⟨sG, hG⟩ := hP
    rw [List.length_map, List.take_length] at hG
    refine ⟨D, _, rfl, .inl (SqL.of hG), ?_⟩
    rw [List.length_map]
    exact q G (sp.trans sG)
end
end TC
namespace TC
set_option exponentiation.threshold 20000
open PySem PySem.Spec PyProof.Rows L2 TCA TCX
section
variable {P : Program} {w : World} {K : PySem.W.Frag} {mg : Str → Option Value} {base : Heap} {f : Addr} {fd : FuncData} {C fI fQ CB CW : Addr}
/-! ### _law_over -/
structure STxt (K : PySem.W.Frag) (mg : Str → Option Value) : Prop where
  g1 : mg "TurnError" = some (.ref (He.ga K "TurnError"))
  g2 : mg "ByNought" = some (.ref (He.ga K "ByNought"))
  g3 : mg "NoName" = some (.ref (He.ga K "NoName"))
  g4 : mg "NoPlace" = some (.ref (He.ga K "NoPlace"))
  g5 : mg "NothingDone" = some (.ref (He.ga K "NothingDone"))
abbrev cl5 (K : PySem.W.Frag) : List Value := [.ref (He.ga K "TurnError"), .ref (He.ga K "ByNought"), .ref (He.ga K "NoName"), .ref (He.ga K "NoPlace"), .ref (He.ga K "NothingDone")]
def spOverL (C CB CW : Addr) : Sp := fun vs H Q _ => spOver C CB CW vs H Q fun cls _ H1 => (cls = .ref CB ∧ ∀ H2, Same H1 H2 → Q (.str "nought") H2) ∨ (cls = .ref CW ∧ ∀ H2, Same H1 H2 → Q (.str "wide") H2)
theorem spOver_mono {vs : List V} {H : Hp} {Q : VK} {E E' : XK} (h : spOver C CB CW vs H Q E) (e : ∀ cls H', Same H H' → E (.ref cls) none H' → E' (.ref cls) none H') : spOver C CB CW vs H Q E' := by
  obtain ⟨x, y, L, M, rfl, hx, hy, h⟩ := h
  refine ⟨x, y, L, M, rfl, hx, hy, ?_⟩
  rcases h with ⟨a, q⟩ | ⟨a, b, c, q⟩ | h
  · exact .inl ⟨a, fun H' s => e _ _ s (q H' s)⟩
  · exact .inr (.inl ⟨a, b, c, fun H' s => e _ _ s (q H' s)⟩)
  · exact .inr (.inr h)
abbrev nOverL : List Str := ["_law_one", "_law_other", "_law_kept", "_law_e"]
theorem scOverL : FnScope nOverL ["_law_one", "_law_other"] (defScope sOverL) := ⟨rfl, rfl, rfl, by decide +kernel, rfl, by decide +kernel, by decide +kernel⟩
theorem ok_overL {fO fW : Addr} {fdO fdW : FuncData} (F : FnP K "_law_over" sOverL f fd) (S : STxt K mg) (GO : FnOk P w K mg base (L2.CX P w) 4 fO fdO ["one", "other"] (spOver C CB CW)) (bO : L2.Binds K fdO ["one", "other"] []) (kO : PySem.W.keepIn K (.ref fO) = true) (gO : mg "over" = some (.ref fO))
    (GW : FnOk P w K mg base CX0 1 fW fdW ["_law_e"] (TB.spWord K)) (bW : L2.Binds K fdW ["_law_e"] []) (kW : PySem.W.keepIn K (.ref fW) = true) (gW : mg "_law_word" = some (.ref fW)) (kB : KindF K CB 18) (kD : KindF K CW 17) :
    FnOk P w K mg base CX0 5 f fd ["_law_one", "_law_other"] (spOverL C CB CW) := by
  refine F.ok scOverL (fun vs H Q E h => ?_) (fun cdv Ar outer s H vs Q E hr h => ?_)
  · obtain ⟨_, _, _, _, rfl, _⟩ := h
    rfl
  have hr1 := hr.mono (j := 1) (by decide)
  obtain ⟨spT, espT⟩ : ∃ z, spOver C CB CW = z := ⟨_, rfl⟩
  have lenV : ∃ v0 v1, vs = [v0, v1] := by
    obtain ⟨x, y, _, _, e, _⟩ := h
    exact ⟨_, _, e⟩
  obtain ⟨v0, v1, rfl⟩ := lenV
  have h' : spT [v0, v1] H Q fun cls _ H1 => (cls = .ref CB ∧ ∀ H2, Same H1 H2 → Q (.str "nought") H2) ∨ (cls = .ref CW ∧ ∀ H2, Same H1 H2 → Q (.str "wide") H2) := by
    rw [← espT]
    exact h
  rw [espT] at GO
  refine ⟨_, PSs.nox (pss_cons (ps_set (i := 2) scOverL.nd rfl (.inl rfl) pe_non)
      (pss_cons (ps_try_keep (tb := fun W => tRet (tCallS spT (WE W) (tCons (tVar 0) (tCons (tVar 1) tNil)))) rfl rfl rfl scOverL.nd (fun W pn xe tk _ => pss_one (ps_ret (pe_callS GO hr (by rfl) gO kO bO (fun σ => passAt tk σ) (pa_cons (pv 0) (pa_cons (pv 1) pa_nil)))))
        (HdK.cons (i := 3) (cs := cl5 K) (fun cls b z => tst_tup5 ⟨rfl, by decide, .inl S.g1⟩ ⟨rfl, by decide, .inl S.g2⟩ ⟨rfl, by decide, .inl S.g3⟩ ⟨rfl, by decide, .inl S.g4⟩ ⟨rfl, by decide, .inl S.g5⟩ z) rfl rfl (fun a cls d pn => pss_one (ps_set (i := 2) scOverL.nd rfl (.inl rfl) (pv 3))) HdK.nil))
      (pss_one (ps_ret (pe_call GW hr1 (by rfl) gW kW bW .nil pass0 (pa_cons (pv 2) pa_nil)))))), ?_⟩
  subst espT
  refine ⟨_, rfl, _, rfl, ?_⟩
  refine spOver_mono h fun cls H1 s1 z => ?_
  intro _
  rcases z with ⟨e, q⟩ | ⟨e, q⟩
  · cases e
    refine ⟨true, kB.x5, fun _ a ha => ?_, fun z => Bool.noConfusion z⟩
    have s2 := same_upd (o := ExV (.ref CB) none a) ha
    exact ⟨_, rfl, _, rfl, a, CB, 18, rfl, upd_same, kB, by decide, fun H2 s3 => q _ (s2.trans s3)⟩
  · cases e
    refine ⟨true, kD.x5, fun _ a ha => ?_, fun z => Bool.noConfusion z⟩
    have s2 := same_upd (o := ExV (.ref CW) none a) ha
    exact ⟨_, rfl, _, rfl, a, CW, 17, rfl, upd_same, kD, by decide, fun H2 s3 => q _ (s2.trans s3)⟩
end
end TC
/-! helps for the walk of the law -/
namespace TC
set_option exponentiation.threshold 20000
open PySem PySem.Spec PyProof.Rows L2 TCA TCX
theorem bEb {K : PySem.W.Frag} {f : Addr} {fd : FuncData} (F : FnE K f fd) : ∃ mv : List Value, KBn K fd psE 1 ["bottom"] (fun us ws => us ++ (ws ++ mv)) (fun vs zs => vs ++ (zs ++ [.int 1])) :=
  kbinds0 F (ps := psE) 1 ["bottom"] [("root", .int 1)] (fun us mv ws => us ++ (ws ++ mv)) (by intro z; cases z) (fun q hq => by
    rw [List.mem_singleton.mp hq]
    exact List.mem_cons_of_mem _ (List.mem_cons_self ..)) (fun a b c => a.append (c.append b)) fun D doc pm an cdv ct us mv ws h1 h2 h3 => match us, mv, ws, h1, h2, h3 with
    | [_], [_], [_], _, _, _ => ⟨_, _, _, _, _, _, rfl, rfl, rfl⟩
def rNeN (C : Addr) : R2 := fun x y H Q => ∃ a b L M, x = .ref a ∧ y = .ref b ∧ NumAt C H a L ∧ NumAt C H b M ∧ Q (.bl (!decide (L = M))) H
theorem op_neN {X : Cx} {C fI fQ : Addr} {fdQ : FuncData} (T : TxtN X.K X.mg C fI fQ) (GQ : FnOk X.prog X.w X.K X.mg X.base CX0 1 fQ fdQ ["self", "other"] (spEqN C)) (bQ : L2.Binds X.K fdQ ["self", "other"] []) (hr : Room 2 X.A) : OpR X (compareOp .NotEq) (rNeN C) := by
  intro pins s σ H x y v u Q I rx ry h
  obtain ⟨a, b, L, M, rfl, rfl, ha, hb, q⟩ := h
  obtain ⟨dx, p, h1, _⟩ := id ha
  obtain ⟨dy, p', h2, _⟩ := id hb
  exact op_neO (E := fun _ _ _ => False) GQ T.mq.at_ T.mq.fn bQ pass0 T.ne T.cm hr pins s σ H _ _ v u Q I rx ry ⟨a, dx, _, _, rfl, h1, T.ty h2, by unfold PySem.W.notFirst; simp, a, b, L, M, rfl, ha, hb, _, rfl, q⟩
/-! ### roots of the drawn numbers -/
def menuP : List Nat := [2, 3, 5, 7, 11, 13, 991, 997]
theorem menuP_all : menuP = allP.filter fun p => menuP.contains p := by decide +kernel
theorem menu_keys : (menu.all fun r => (QF.keys menuP).contains r.toNat && decide (r = (r.toNat : Int))) = true := by decide +kernel
theorem menu_allP : ∀ r ∈ menu, r ∈ kI allP := fun r hr => by
  have z := List.all_eq_true.mp menu_keys r hr
  rw [Bool.and_eq_true, decide_eq_true_eq, List.contains_iff_mem] at z
  obtain ⟨z1, z2⟩ := z
  have z3 : r.toNat ∈ QF.keys (allP.filter fun p => menuP.contains p) := by
    rw [← menuP_all]
    exact z1
  exact List.mem_map.mpr ⟨r.toNat, keys_more _ z3, z2.symm⟩
theorem menu_pos : ∀ r ∈ menu, 0 < r ∧ r.natAbs < 2 ^ 12 := by decide
theorem Fit.root {D A R S : Nat} {L : List Part} (h : Fit D A R L) (l : R ≤ S) : Fit D A S L := ⟨h.can, h.den, h.num, fun x hx => ⟨(h.pos x hx).1, Nat.lt_of_lt_of_le (h.pos x hx).2 (Nat.pow_le_pow_right (by decide) l)⟩⟩
theorem Two.key {C : Addr} {A m B : Nat} {d x : Addr} {ks : List Int} {L : List Part} {H : Hp} (h : Two C A m B d x ks L H) : ∀ e ∈ L, e.1 ∈ menu := fun e he => by
  have nz : TCR.val L e.1 ≠ 0 := by rw [h.good.1.mem he]; exact h.good.1.nz e he
  obtain ⟨_, _, _, _, nd, out⟩ := h.dict
  exact h.men e.1 (Classical.byContradiction fun m => nz (out e.1 m))
theorem Two.fit {C : Addr} {A m B : Nat} {d x : Addr} {ks : List Int} {L : List Part} {H : Hp} (h : Two C A m B d x ks L H) : ∃ D, 0 < D ∧ D < 2 ^ B ∧ Fit D A 12 L := by
  obtain ⟨D, d1, d2, d3⟩ := h.dd
  exact ⟨D, d1, d2, h.good.1, fun e he => by rw [← h.good.1.mem he]; exact d3 e.1, fun e he => (h.good.2 e he).1, fun e he => menu_pos e.1 (h.key e he)⟩
theorem Lw.keys {C : Addr} {m : Nat} {d x : Addr} {ks : List Int} {M : List Part} {H : Hp} (h : Lw C m x d ks M H) : ∀ e ∈ M, e.1 ∈ ks := fun e he => by
  have nz : TCR.val M e.1 ≠ 0 := by rw [h.good.1.mem he]; exact h.good.1.nz e he
  obtain ⟨_, _, _, _, nd, out⟩ := h.dict
  exact Classical.byContradiction fun m => nz (out e.1 m)
theorem Lw.back {C : Addr} {m : Nat} {d x : Addr} {ks : List Int} {M : List Part} {H : Hp} (h : Lw C m x d ks M H) : ∀ r ∈ ks, ∃ e ∈ M, e.1 = r := fun r hr => by
  obtain ⟨q, hq⟩ := h.good.1.val_ne.mp (h.clr r hr)
  exact ⟨_, hq, rfl⟩
theorem Lw.rts {C : Addr} {m : Nat} {d x : Addr} {ks : List Int} {M : List Part} {H : Hp} (h : Lw C m x d ks M H) : Rts M 9699690 24 := by
  refine ⟨fun e he => ?_, fun e he => ?_, by decide, by decide, by decide, by decide⟩
  · obtain ⟨u, eu, hu, _⟩ := h.men e.1 (h.keys e he)
    rw [eu]
    exact k8_allP hu
  · obtain ⟨u, eu, hu, _⟩ := h.men e.1 (h.keys e he)
    rw [eu, Int.natAbs_natCast]
    exact (k8_fact hu).d
theorem Lw.fit {C : Addr} {m : Nat} {d x : Addr} {ks : List Int} {M : List Part} {H : Hp} (h : Lw C m x d ks M H) : ∃ D, 0 < D ∧ D < 2 ^ (4 * m + 1) ∧ Fit D (7 * m + 1) 24 M := by
  obtain ⟨D, d1, d2, d3⟩ := h.dd
  refine ⟨D, d1, d2, h.good.1, fun e he => by rw [← h.good.1.mem he]; exact d3 e.1, fun e he => (h.good.2 e he).1, fun e he => ?_⟩
  obtain ⟨u, eu, hu, hb⟩ := h.men e.1 (h.keys e he)
  rw [eu, Int.natAbs_natCast]
  have := (k8_fact hu).p
  exact ⟨by omega, Nat.lt_of_le_of_lt hb (by decide)⟩
theorem big_no : ∀ p ∈ allP, 19 < p → 9699690 % p ≠ 0 := by decide +kernel
theorem Lw.many {C : Addr} {m : Nat} {d x : Addr} {ks : List Int} {M : List Part} {H : Hp} (h : Lw C m x d ks M H) : psOf M = manyP ks := by
  unfold psOf manyP
  rw [P8_all, List.filter_filter]
  refine List.filter_congr fun p hp => Bool.eq_iff_iff.mpr ?_
  rw [Bool.and_eq_true, inR_iff]
  unfold manyB
  rw [List.any_eq_true]
  constructor
  · rintro ⟨e, he, z⟩
    refine ⟨⟨e.1, h.keys e he, decide_eq_true z⟩, Nat.ble_eq_true_of_le (Nat.le_of_not_lt fun l => big_no p hp l ?_)⟩
    obtain ⟨u, eu, hu, _⟩ := h.men e.1 (h.keys e he)
    rw [eu] at z
    exact Nat.mod_eq_zero_of_dvd (Nat.dvd_trans (mod_nat.mp z) (k8_fact hu).d)
  · rintro ⟨⟨r, hr, z⟩, _⟩
    obtain ⟨e, he, rfl⟩ := h.back r hr
    exact ⟨e, he, of_decide_eq_true z⟩
theorem Lw.nil {C : Addr} {m : Nat} {d x : Addr} {ks : List Int} {M : List Part} {H : Hp} (h : Lw C m x d ks M H) : ks = [] ↔ M = [] := by
  constructor
  · intro e
    cases M with
    | nil => rfl
    | cons a l =>
      have := h.keys a List.mem_cons_self
      rw [e] at this
      cases this
  · intro e
    cases ks with
    | nil => rfl
    | cons a l =>
      obtain ⟨z, hz, _⟩ := h.back a List.mem_cons_self
      rw [e] at hz
      cases hz
/-- one over itself -/
theorem self_oneP {ps : List Nat} (P : Prm ps) (h1 : (1 : Int) ∈ kI ps) {N M : List Part} (cN : TCR.Canon N) (cM : TCR.Canon M) (oN : ∀ x ∈ N, x.1 ∈ kI ps) (oM : ∀ x ∈ M, x.1 ∈ kI ps) (M0 : M ≠ []) (e : ∀ u, prodG (N.map (·.1)) (M.map (·.1)) (TCR.val N) (TCR.val M) u = TCR.val M u) : N = oneL 1 1 1 := by
  letI := (QF.El (QF.cs ps)).ring
  have f := fI_prod P (cov_val cN) (cov_val cM) (on_val oN) (on_val oM)
  rw [fI_congr e] at f
  have z : (fI ps (TCR.val N) - 1) * fI ps (TCR.val M) = 0 := by
    have f' : fI ps (TCR.val M) = fI ps (TCR.val N) * fI ps (TCR.val M) := f
    generalize fI ps (TCR.val N) = a at f' ⊢
    generalize fI ps (TCR.val M) = b at f' ⊢
    grind
  have mz : fI ps (TCR.val M) ≠ 0 := fun y => by
    obtain ⟨x, hx⟩ := List.exists_mem_of_ne_nil M M0
    have e0 : fI ps (fun _ => 0) = 0 := fr_zero ps
    have := fI_inj (on_val oM) (fun r hr => absurd rfl hr) (y.trans e0.symm) x.1
    rw [cM.mem hx] at this
    exact cM.nz x hx this
  rcases (QF.field_primes P.p P.nd).dom z with y | y
  · have e1 : fI ps (fun r => if r = 1 then 1 else 0) = 1 := by
      have : fI ps (fun r => if r = 1 then (1 : Rat) else 0) = QF.fr ps (fun r => if r = 1 then (1 : Rat) else 0) := QF.fr_congr fun u _ => by
        show (if (u : Int) = 1 then (1 : Rat) else 0) = _
        by_cases e : u = 1
        · rw [if_pos e, if_pos (by omega)]
        · rw [if_neg e, if_neg (by omega)]
      rw [this, fr_one P.p, (QF.El (QF.cs ps)).ι1]
    have y2 : fI ps (TCR.val N) = fI ps (fun r => if r = 1 then 1 else 0) := by
      rw [e1]
      generalize fI ps (TCR.val N) = a at y ⊢
      grind
    have on1 : On ps (fun r => if r = 1 then 1 else 0) := fun r hr => by
      have e : r = 1 := Classical.byContradiction fun z => hr (if_neg z)
      rw [e]
      exact h1
    have v := fI_inj (on_val oN) on1 y2
    refine TCR.canon_eq cN (canon_oneL (by decide)) fun r => ?_
    rw [v r, val_oneL]
    rfl
  · exact absurd y mz
theorem self_one {N M : List Part} (cN : TCR.Canon N) (cM : TCR.Canon M) (oN : ∀ x ∈ N, x.1 ∈ kI allP) (oM : ∀ x ∈ M, x.1 ∈ kI allP) (M0 : M ≠ []) (e : ∀ u, prodG (N.map (·.1)) (M.map (·.1)) (TCR.val N) (TCR.val M) u = TCR.val M u) : N = oneL 1 1 1 := self_oneP allP_prm (menu_allP 1 (by decide)) cN cM oN oM M0 e
theorem prod_c {L M : List Part} {c : Rat} (cL : TCR.Canon L) (pos : ∀ x ∈ L, 0 < x.1) (hM : M.map (·.1) = [1]) (e : ∀ s, TCR.val M s = if s = 1 then c else 0) (u : Int) : prodG (L.map (·.1)) (M.map (·.1)) (TCR.val L) (TCR.val M) u = c * TCR.val L u := by
  rw [hM, show TCR.val M = fun s => if s = 1 then c else 0 from funext e]
  exact prodG_one c (cov_val cL) (fun r hr => by
    obtain ⟨x, hx, rfl⟩ := List.mem_map.mp hr
    exact pos x hx) u
theorem ex73 : exL 7 3 1 = [((1 : Int), Rat.divInt 7 3)] := by decide +kernel
theorem ex7 : exL 7 1 1 = [((1 : Int), (7 : Rat))] := by decide +kernel
theorem ex3 : exL 3 1 1 = [((1 : Int), (3 : Rat))] := by decide +kernel
theorem ex1 : exL 1 1 1 = oneL 1 1 1 := by decide +kernel
theorem can1 {q : Rat} (h : q ≠ 0) : TCR.Canon [((1 : Int), q)] := ⟨List.pairwise_singleton _ _, fun x hx => by
  rw [List.mem_singleton.mp hx]
  exact h⟩
theorem fit1 {q : Rat} {D A R : Nat} (h : q ≠ 0) (hd : q.den ∣ D) (hA : q.num.natAbs < 2 ^ A) (R0 : 0 < R) : Fit D A R [((1 : Int), q)] := by
  refine ⟨can1 h, fun x hx => ?_, fun x hx => ?_, fun x hx => ?_⟩ <;> rw [List.mem_singleton.mp hx]
  · exact hd
  · exact hA
  · exact ⟨Int.one_pos, Nat.one_lt_two_pow (by omega)⟩
theorem psOf_one (q : Rat) : psOf [((1 : Int), q)] = [] := by
  unfold psOf
  refine List.filter_eq_nil_iff.mpr fun p hp z => ?_
  obtain ⟨x, hx, z⟩ := inR_iff.mp z
  rw [List.mem_singleton.mp hx] at z
  have := (allP_prm.p p hp).1
  rw [mod_abs] at z
  have := Nat.le_of_dvd (show 0 < (1 : Int).natAbs by decide) z
  have : (1 : Int).natAbs = 1 := rfl
  omega
end TC
/-! over, asked for the law's numbers -/
namespace TC
set_option exponentiation.threshold 20000
open PySem PySem.Spec PyProof.Rows L2 TCA TCX
theorem over_two {C CB CW x y : Addr} {L M : List Part} {H : Hp} {Q : VK} {E : XK} {D1 A1 B1 R1 D2 : Nat} (hx : NumAt C H x L) (hy : NumAt C H y M) (fL : Fit D1 A1 R1 L) (kL : ∀ x ∈ L, x.1 ∈ kI allP) (D10 : 0 < D1) (z1 : D1 < 2 ^ B1) (fM : Fit D2 29 24 M) (rt : Rts M 9699690 24) (D20 : 0 < D2) (z2 : D2 < 2 ^ 17) (b1 : 0 < A1 ∧ A1 ≤ 1000 ∧ 0 < B1 ∧ B1 ≤ 1000 ∧ 0 < R1 ∧ R1 ≤ 1000) (lL : L.length ≤ 70) (lM : M.length ≤ 1000)
    (qa : M = [] → ∀ H', Same H H' → E (.ref CB) none H') (qb : M ≠ [] → 6 < (psOf M).length → ∀ H', Same H H' → E (.ref CW) none H')
    (qc : M ≠ [] → (psOf M).length ≤ 6 → ∀ z N D H', Same H H' → NumAt C H' z N → Fit D (A1 + B1 + 5312 + R1 + 13) (R1 + 24) N → 0 < D → D < 2 ^ (B1 + 5312) → N.length ≤ L.length * 64 → (∀ x ∈ N, x.1 ∈ kI allP) → (∀ u, prodG (N.map (·.1)) (M.map (·.1)) (TCR.val N) (TCR.val M) u = TCR.val L u) → Q (.ref z) H') : spOver C CB CW [.ref x, .ref y] H Q E := by
  refine ⟨x, y, L, M, rfl, hx, hy, ?_⟩
  by_cases M0 : M = []
  · exact .inl ⟨M0, qa M0⟩
  by_cases few : (psOf M).length ≤ 6
  · exact .inr (.inr ⟨9699690, 24, D1, A1, B1, R1, D2, 29, 17, M0, rt, few, fL, fM, kL, D10, z1, D20, z2, b1.1, by omega, b1.2.2.1, by decide, by decide, by decide, b1.2.2.2.2.1, by omega, by omega, lL, lM, fun z N D H' s _ hz fN D0 dB kN lN e => qc M0 few z N D H' s hz fN D0 dB lN kN e⟩)
  · exact .inr (.inl ⟨M0, ⟨_, _, rt⟩, by omega, qb M0 (by omega)⟩)
/-- nought over a number of many primes -/
theorem over_wide {C CB CW x y : Addr} {L M : List Part} {H : Hp} {Q : VK} {E : XK} (hx : NumAt C H x L) (hy : NumAt C H y M) (rt : Rts M 9699690 24) (M0 : M ≠ []) (many : 6 < (psOf M).length) (qb : ∀ H', Same H H' → E (.ref CW) none H') : spOver C CB CW [.ref x, .ref y] H Q E :=
  ⟨x, y, L, M, rfl, hx, hy, .inr (.inl ⟨M0, ⟨_, _, rt⟩, many, qb⟩)⟩
/-- over a whole or broken rational number -/
theorem over_rat {C CB CW x y : Addr} {L : List Part} {q : Rat} {H : Hp} {Q : VK} {E : XK} {D1 A1 B1 R1 : Nat} (hx : NumAt C H x L) (hy : NumAt C H y [((1 : Int), q)]) (q0 : q ≠ 0) (qd : q.den ∣ 3) (qn : q.num.natAbs < 2 ^ 3) (fL : Fit D1 A1 R1 L) (kL : ∀ x ∈ L, x.1 ∈ kI allP) (D10 : 0 < D1) (z1 : D1 < 2 ^ B1) (b1 : 0 < A1 ∧ A1 ≤ 1000 ∧ 0 < B1 ∧ B1 ≤ 1000 ∧ 0 < R1 ∧ R1 ≤ 1000) (lL : L.length ≤ 70)
    (qc : ∀ z N D H', Same H H' → NumAt C H' z N → Fit D (A1 + B1 + 1216 + R1 + 13) (R1 + 1) N → 0 < D → D < 2 ^ (B1 + 1216) → N.length ≤ L.length * 64 → (∀ x ∈ N, x.1 ∈ kI allP) → (∀ u, prodG (N.map (·.1)) [1] (TCR.val N) (TCR.val [((1 : Int), q)]) u = TCR.val L u) → Q (.ref z) H') : spOver C CB CW [.ref x, .ref y] H Q E :=
  ⟨x, y, L, [((1 : Int), q)], rfl, hx, hy, .inr (.inr ⟨1, 1, D1, A1, B1, R1, 3, 3, 2, (by intro e; cases e), ⟨fun z hz => by
      rw [List.mem_singleton.mp hz]
      exact menu_allP 1 (by decide), fun z hz => by
      rw [List.mem_singleton.mp hz]
      exact Nat.dvd_refl 1, by decide, by decide, by decide, by decide⟩, (by rw [psOf_one]; decide), fL, fit1 q0 qd qn (by decide), kL, D10, z1, by decide, by decide, b1.1, by omega, b1.2.2.1, by decide, by decide, by decide, b1.2.2.2.2.1, by omega, by omega, lL, (show 1 ≤ 1000 by decide), fun z N D H' s _ hz fN D0 dB kN lN e => qc z N D H' s hz fN D0 dB lN kN e⟩)⟩
end TC
/-! repr(x) by an own __repr__; a dict == {}. -/
namespace TCX
open PySem PySem.Spec PyProof.Rows L2 TCA
section
variable {X : Cx} {CX : CXT} {n : Nat} {f C : Addr} {fd : FuncData} {ps : List Str} {sp : Sp} {E : XK}
theorem call_reprO (F : FnOk X.prog X.w X.K X.mg X.base CX n f fd ps sp) (hs : PySem.W.findIn X.K (.ref C) "__repr__" = some (some (.ref f))) (hf : PySem.W.isFn X.K (.ref f) = true) (hb : Binds X.K fd ps []) (hx : Passes CX X E)
    (hr : Room (n + 1) X.A) : CallR X (.builtin "repr") (rStrO C sp E) := by
  intro pins s σ H xs us Q I r hq
  obtain ⟨a, dx, fs, rfl, ha, q⟩ := hq
  obtain ⟨u, rfl, rx⟩ : ∃ u, us = [u] ∧ RelV (.ref a) u := by
    cases r with
    | cons r rr => cases rr; exact ⟨_, rfl, r⟩
  cases (show u = Value.ref a from rx)
  obtain ⟨mA, J, _⟩ := ins_get I.hok ha
  obtain ⟨od, J, _⟩ := J.look
  have hr2 : Room n X.A.in1 := hr.in1
  have hu : X.A.in1.units < cLine := Nat.lt_of_succ_lt (hu_of hr2)
  have KI := I.kIn
  refine Calls.call_function_entry PySem.F.kind_repr PySem.F.plain_repr PySem.F.entry_repr (PySem.F.args_repr1 _) ?_
  unfold Builtin.«repr»
  refine wpAny_bind (m := oneArg "repr" _) (wpAny_pure (wpAny_bind (wpAny_cRoomFor hu (wpAny_bind (wpAny_bind (J.type.here ((PySem.W.looks_findIn KI hs).here ?_)))))))
  show wpAny _ _ (if (some (Value.ref f)).isNone = true then _ else _) _ _ _
  rw [if_neg (by simp)]
  refine wpAny_bind (m := callSpecialIfBound? (.ref a) (Str.ofString "__repr__") _) (PySem.W.ifBound_K KI J hs hf ?_)
  refine wpAny_mono (run_sub F hb hx (A := X.A.in1) ⟨hr2, rfl⟩ I (.cons rx .nil) q) (fun r s' hz => ?_) fun _ _ z => z
  obtain ⟨z, H', I', rz, x, rfl, qb⟩ := hz
  obtain ⟨t, e⟩ := (show ∃ t, r = Value.str x t from rz)
  cases e
  refine wpAny_bind (wpAny_isInstance (typeIs_str _ _ _) isSubtype_str_str ?_)
  first
    | exact wpAny_pure ⟨_, rfl, .str x, H', I', ⟨t, rfl⟩, qb⟩
    | (rw [if_pos rfl]; exact wpAny_pure ⟨_, rfl, .str x, H', I', ⟨t, rfl⟩, qb⟩)
    | (simp only [if_true]; exact wpAny_pure ⟨_, rfl, .str x, H', I', ⟨t, rfl⟩, qb⟩)
/-- a dict == {} -/
def rEqE : R2 := fun x y H Q => ∃ a b ks, x = .ref a ∧ y = .ref b ∧ H a = some (.dK ks) ∧ H b = some (.dK []) ∧ Q (.bl (decide (ks.length = 0))) H
theorem op_eqE (hu : X.A.units < cLine) : OpR X (compareOp .Eq) rEqE := by
  intro pins s σ H x y v u Q I rx ry h
  obtain ⟨a, b, ks, rfl, rfl, ea, eb, q⟩ := h
  obtain rfl : v = Value.ref a := rx
  obtain rfl : u = Value.ref b := ry
  obtain ⟨_, ya, va, ra, da⟩ := (show ObjOk X.prog X.w H s.heap a (.dK ks) from I.hok a _ ea)
  obtain ⟨_, yb, vb, rb, db⟩ := (show ObjOk X.prog X.w H s.heap b (.dK []) from I.hok b _ eb)
  have l1 : ks.length = va.length := ra.length
  have l2 : vb.length = 0 := by rw [← rb.length]; rfl
  refine PySem.W.keq_eq (knd := mixKind X.prog X.w) (r := true) ya yb da db hu (fun hl => ?_) (fin_bl I q ?_)
  · have e0 : ks = [] := List.length_eq_zero_iff.mp (by omega)
    subst e0
    exact hits_all rb ra (fun p hp => by cases hp)
  · by_cases h0 : ks.length = 0
    · have e : va.length = vb.length := by omega
      simp [h0, e]
    · have e : ¬ va.length = vb.length := by omega
      simp [h0, e]
end
end TCX
namespace TC
set_option exponentiation.threshold 20000
open PySem PySem.Spec PyProof.Rows L2 TCA TCX
section
variable {P : Program} {w : World} {K : PySem.W.Frag} {mg : Str → Option Value} {base : Heap} {f : Addr} {fd : FuncData} {C fI fQ CB CW : Addr}
theorem ok_someU {fE fA fD fL fC fS : Addr} {fdE fdA fdD fdL fdC fdS : FuncData} (F : FnP K "_law_some" sSome f fd) (FE : FnE K fE fdE) (GE : FnOk P w K mg base CX0 4 fE fdE psE (spExact C)) (gE : mg "exact" = some (.ref fE))
    (GA : FnOk P w K mg base CX0 4 fA fdA ["one", "other"] (spPlus C)) (bA : L2.Binds K fdA ["one", "other"] []) (kA : PySem.W.keepIn K (.ref fA) = true) (gA : mg "plus" = some (.ref fA))
    (GD : FnOk P w K mg base CX0 1 fD fdD ["_law_pen_here", "_law_many"] spDraw) (bD : L2.Binds K fdD ["_law_pen_here", "_law_many"] []) (kD : PySem.W.keepIn K (.ref fD) = true) (gD : mg "_law_draw" = some (.ref fD))
    (GL : FnOk P w K mg base CX0 1 fL fdL ["_law_up", "_law_under"] spLowL) (bL : L2.Binds K fdL ["_law_up", "_law_under"] []) (kL : PySem.W.keepIn K (.ref fL) = true) (gL : mg "_law_low" = some (.ref fL))
    (GC : FnOk P w K mg base CX0 1 fC fdC ["_law_some_here"] spCleared) (bC : L2.Binds K fdC ["_law_some_here"] []) (kC : PySem.W.keepIn K (.ref fC) = true) (gC : mg "_law_cleared" = some (.ref fC))
    (GS : FnOk P w K mg base CX0 2 fS fdS ["_law_one", "_law_other"] spSum) (bS : L2.Binds K fdS ["_law_one", "_law_other"] []) (kS : PySem.W.keepIn K (.ref fS) = true) (gS : mg "_law_sum" = some (.ref fS)) (gR : mg "range" = none) :
    FnOk P w K mg base CX0 5 f fd ["_law_pen_here", "_law_many"] (spSome C) := ok_some F ⟨FE, GE, gE, GA, bA, kA, gA, GD, bD, kD, gD, GL, bL, kL, gL, GC, bC, kC, gC, GS, bS, kS, gS, gR⟩
theorem ok_lowerU {fE fA fD fL fC fS : Addr} {fdE fdA fdD fdL fdC fdS : FuncData} (F : FnP K "_law_lower" sLowerL f fd) (FE : FnE K fE fdE) (GE : FnOk P w K mg base CX0 4 fE fdE psE (spExact C)) (gE : mg "exact" = some (.ref fE))
    (GA : FnOk P w K mg base CX0 4 fA fdA ["one", "other"] (spPlus C)) (bA : L2.Binds K fdA ["one", "other"] []) (kA : PySem.W.keepIn K (.ref fA) = true) (gA : mg "plus" = some (.ref fA))
    (GD : FnOk P w K mg base CX0 1 fD fdD ["_law_pen_here", "_law_many"] spDraw) (bD : L2.Binds K fdD ["_law_pen_here", "_law_many"] []) (kD : PySem.W.keepIn K (.ref fD) = true) (gD : mg "_law_draw" = some (.ref fD))
    (GL : FnOk P w K mg base CX0 1 fL fdL ["_law_up", "_law_under"] spLowL) (bL : L2.Binds K fdL ["_law_up", "_law_under"] []) (kL : PySem.W.keepIn K (.ref fL) = true) (gL : mg "_law_low" = some (.ref fL))
    (GC : FnOk P w K mg base CX0 1 fC fdC ["_law_some_here"] spCleared) (bC : L2.Binds K fdC ["_law_some_here"] []) (kC : PySem.W.keepIn K (.ref fC) = true) (gC : mg "_law_cleared" = some (.ref fC))
    (GS : FnOk P w K mg base CX0 2 fS fdS ["_law_one", "_law_other"] spSum) (bS : L2.Binds K fdS ["_law_one", "_law_other"] []) (kS : PySem.W.keepIn K (.ref fS) = true) (gS : mg "_law_sum" = some (.ref fS)) (gR : mg "range" = none) :
    FnOk P w K mg base CX0 5 f fd ["_law_pen_here"] (spLowerL C) := ok_lower F ⟨FE, GE, gE, GA, bA, kA, gA, GD, bD, kD, gD, GL, bL, kL, gL, GC, bC, kC, gC, GS, bS, kS, gS, gR⟩
/-! ### law -/
def spLaw (K : PySem.W.Frag) : Sp := fun vs H Q _ => ∃ (a : Addr) (ns : List Int), vs = [.ref a] ∧ SqL K H a (ns.map V.int) ∧ ns.length ≤ 63 ∧ ∀ H', Q (.bl true) H'
abbrev nLaw : List Str := ["_law_script", "_law_pen_here", "_law_k", "_law_one", "_law_other", "_law_some_here", "_law_told"]
theorem scLaw : FnScope nLaw ["_law_script"] (defScope sLaw) := ⟨rfl, rfl, rfl, by decide +kernel, rfl, by decide +kernel, by decide +kernel⟩
theorem ok_law {fE fM fO fPn fD fSo fLw fMy fOv : Addr} {fdQ fdE fdM fdO fdPn fdD fdSo fdLw fdMy fdOv : FuncData} (F : FnP K "law" sLaw f fd) (T : TxtN K mg C fI fQ) (GQ : FnOk P w K mg base CX0 1 fQ fdQ ["self", "other"] (spEqN C)) (bQ : L2.Binds K fdQ ["self", "other"] [])
    (FE : FnE K fE fdE) (GE : FnOk P w K mg base CX0 4 fE fdE psE (spExact C)) (gE : mg "exact" = some (.ref fE))
    (GM : FnOk P w K mg base CX0 4 fM fdM ["one", "other"] (spTimes C)) (bM : L2.Binds K fdM ["one", "other"] []) (kM : PySem.W.keepIn K (.ref fM) = true) (gM : mg "times" = some (.ref fM))
    (GO : FnOk P w K mg base (L2.CX P w) 4 fO fdO ["one", "other"] (spOver C CB CW)) (bO : L2.Binds K fdO ["one", "other"] []) (kO : PySem.W.keepIn K (.ref fO) = true) (gO : mg "over" = some (.ref fO))
    (GPn : FnOk P w K mg base CX0 1 fPn fdPn ["_law_script"] (spPen K)) (bPn : L2.Binds K fdPn ["_law_script"] []) (kPn : PySem.W.keepIn K (.ref fPn) = true) (gPn : mg "_law_pen" = some (.ref fPn))
    (GD : FnOk P w K mg base CX0 1 fD fdD ["_law_pen_here", "_law_many"] spDraw) (bD : L2.Binds K fdD ["_law_pen_here", "_law_many"] []) (kD : PySem.W.keepIn K (.ref fD) = true) (gD : mg "_law_draw" = some (.ref fD))
    (GSo : FnOk P w K mg base CX0 5 fSo fdSo ["_law_pen_here", "_law_many"] (spSome C)) (bSo : L2.Binds K fdSo ["_law_pen_here", "_law_many"] []) (kSo : PySem.W.keepIn K (.ref fSo) = true) (gSo : mg "_law_some" = some (.ref fSo))
    (GLw : FnOk P w K mg base CX0 5 fLw fdLw ["_law_pen_here"] (spLowerL C)) (bLw : L2.Binds K fdLw ["_law_pen_here"] []) (kLw : PySem.W.keepIn K (.ref fLw) = true) (gLw : mg "_law_lower" = some (.ref fLw))
    (GMy : FnOk P w K mg base CX0 1 fMy fdMy ["_law_some_here"] spMany) (bMy : L2.Binds K fdMy ["_law_some_here"] []) (kMy : PySem.W.keepIn K (.ref fMy) = true) (gMy : mg "_law_many_primes" = some (.ref fMy))
    (GOv : FnOk P w K mg base CX0 5 fOv fdOv ["_law_one", "_law_other"] (spOverL C CB CW)) (bOv : L2.Binds K fdOv ["_law_one", "_law_other"] []) (kOv : PySem.W.keepIn K (.ref fOv) = true) (gOv : mg "_law_over" = some (.ref fOv))
    (grange : mg "range" = none) (gisinstance : mg "isinstance" = none) (gstr : mg "str" = none) (kS : PySem.W.kitOne K (.ref C) (.type "str") = some false) :
    FnOk P w K mg base CX0 6 f fd ["_law_script"] (spLaw K) := by
  obtain ⟨dsE, vE, bE⟩ := bE0 FE
  obtain ⟨mv1, kb1⟩ := bEb FE
  refine F.ok scLaw (fun vs H Q E h => ?_) (fun cdv Ar outer s H vs Q E hr h => ?_)
  · obtain ⟨a, ns, rfl, _⟩ := h
    rfl
  obtain ⟨a, ns, rfl, hS, hn, q⟩ := h
  have hr1 := hr.mono (j := 1) (by decide)
  have hr2 := hr.mono (j := 2) (by decide)
  have hr4 := hr.mono (j := 4) (by decide)
  have hu := hu_of hr
  have hu0 : (Ar.deeper (envOfC "law" (defScope sLaw) s.heap.objs.size f cdv)).units < cLine := by omega
  refine ⟨_, PSs.nox (pss_cons (ps_set (i := 1) scLaw.nd rfl (.inl rfl) (pe_call GPn hr1 (by rfl) gPn kPn bPn .nil pass0 (pa_cons (pv 0) pa_nil)))
      (pss_cons (ps_for PassesOwn.never rfl (pi_range1 (by rfl) grange (pa_cons (pe_op op_add pe_int (pe_call GD hr1 (by rfl) gD kD bD .nil pass0 (pa_cons (pv 1) (pa_cons pe_int pa_nil)))) pa_nil)) (pg_name (i := 2) scLaw.nd rfl (.inl rfl))
        (C8.pss_cut (ps_set (i := 3) scLaw.nd rfl (.inl rfl) (pe_ix ix_tup (pe_call GSo hr (by rfl) gSo kSo bSo .nil pass0 (pa_cons (pv 1) (pa_cons pe_int pa_nil))) pe_int (fun _ _ => rfl)))
      (C8.pss_cut (ps_asg (pe_call GLw hr (by rfl) gLw kLw bLw .nil pass0 (pa_cons (pv 1) pa_nil)) (pg_tup rfl (pgs_cons (pg_name (i := 4) scLaw.nd rfl (.inl rfl)) (pgs_cons (pg_name (i := 5) scLaw.nd rfl (.inl rfl)) pgs_nil))))
      (C8.pss_cut (ps_if (pt_cmpR op_ne (pe_call GOv hr (by rfl) gOv kOv bOv .nil pass0 (pa_cons (pv 3) (pa_cons (pe_call GE hr4 (by rfl) gE FE.kp bE vE pass0 (pa_cons pe_int pa_nil)) pa_nil))) pe_str (nomark _)) (pss_one (ps_ret pe_bl)) pss_nil)
      (C8.pss_cut (ps_set (i := 6) scLaw.nd rfl (.inl rfl) (pe_call GOv hr (by rfl) gOv kOv bOv .nil pass0 (pa_cons (pv 3) (pa_cons (pv 4) pa_nil))))
      (C8.pss_cut (ps_if (pt_cmpR (op_eqE hu0) (pv 5) pe_dnewK (nomark _)) (pss_one (ps_if (pt_cmpR op_ne (pv 6) pe_str (nomark _)) (pss_one (ps_ret pe_bl)) pss_nil)) (pss_one (ps_if (pt_cmpR op_gt (pe_call GMy hr1 (by rfl) gMy kMy bMy .nil pass0 (pa_cons (pv 5) pa_nil)) pe_int (nomark _)) (pss_one (ps_if (PW.pt (pw_or (pt_cmpR op_ne (pv 6) pe_str (nomark _)) (pw_or1 (pt_cmpR op_ne (pe_call GOv hr (by rfl) gOv kOv bOv .nil pass0 (pa_cons (pe_call GE hr4 (by rfl) gE FE.kp bE vE pass0 (pa_cons pe_int pa_nil)) (pa_cons (pv 4) pa_nil))) pe_str (nomark _))))) (pss_one (ps_ret pe_bl)) pss_nil)) (pss_one (ps_if (PW.pt (pw_or (pt_val (pe_callB call_isi (by rfl) gisinstance (by decide +kernel) (pa_cons (pv 6) (pa_cons (pe_bltn (v := .ty "str") (by rfl) gstr (by decide +kernel) rfl) pa_nil)))) (pw_or (pt_cmpR (op_neN T GQ bQ hr2) (pe_call GM hr4 (by rfl) gM kM bM .nil pass0 (pa_cons (pv 6) (pa_cons (pv 4) pa_nil))) (pv 3) (nomark _)) (pw_or1 (pt_cmpR (op_neN T GQ bQ hr2) (pe_call GOv hr (by rfl) gOv kOv bOv .nil pass0 (pa_cons (pv 4) (pa_cons (pv 4) pa_nil))) (pe_call GE hr4 (by rfl) gE FE.kp bE vE pass0 (pa_cons pe_int pa_nil)) (nomark _)))))) (pss_one (ps_ret pe_bl)) pss_nil)))))
      (pss_one (ps_if (pt_cmpR (op_neN T GQ bQ hr2) (pe_call GM hr4 (by rfl) gM kM bM .nil pass0 (pa_cons (pe_call GO hr4 (by rfl) gO kO bO .nil (E := E0) passL (pa_cons (pv 3) (pa_cons (pe_callN GE hr4 (by rfl) gE FE.kp kb1 pass0 (pa_cons pe_int pa_nil) (pk_cons pe_int pk_nil)) pa_nil))) (pa_cons (pe_call GE hr4 (by rfl) gE FE.kp bE vE pass0 (pa_cons pe_int pa_nil)) pa_nil))) (pe_call GM hr4 (by rfl) gM kM bM .nil pass0 (pa_cons (pv 3) (pa_cons (pe_call GE hr4 (by rfl) gE FE.kp bE vE pass0 (pa_cons pe_int pa_nil)) pa_nil))) (nomark _)) (pss_one (ps_ret pe_bl)) pss_nil))))))))
      (pss_one (ps_ret pe_bl)))), ?_⟩
  refine ⟨_, rfl, a, ns, rfl, hS, hn, fun p c ms H1 sm1 hp0 hp hc hpc => ?_⟩
  have pen0 : PenAt H1 p c ms 0 := ⟨0, hp, hc, hpc⟩
  refine ⟨_, rfl, p, c, ms, 0, 8, rfl, pen0, by decide, by decide, by decide, by decide, fun d0 n0 H2 d00 d01 n00 n01 pen1 sb1 => ?_⟩
  refine ⟨1, d0, rfl, rfl, 1 + d0, rfl, by omega, by omega, ?_⟩
  refine for_range (n := (1 + d0).toNat) (fun i σ H' => ∃ v2 v3 v4 v5 v6 : Option V, σ = [some (.ref a), some (.ref p), v2, v3, v4, v5, v6] ∧ ∃ n, PenAt H' p c ms n ∧ 0 ≤ n ∧ n ≤ 1 + 100 * ((i : Nat) : Int))
    ⟨none, none, none, none, none, rfl, n0, pen1, by omega, by omega⟩ (fun i σ H' hi hP => ?_) (fun σ H' hP => ?_)
  · obtain ⟨v2, v3, v4, v5, v6, rfl, n, pen, hn0, hn1⟩ := hP
    have hi8 : (i : Int) < 8 := by omega
    -- one
    refine ⟨fun σ G => ∃ (d1 x1 : Addr) (k1 : List Int) (L : List Part) (n' : Int), σ = [some (.ref a), some (.ref p), some (.int (0 + (i : Nat))), some (.ref x1), v4, v5, v6] ∧ n ≤ n' ∧ n' ≤ n + 31 ∧ PenAt G p c ms n' ∧ Two C 165 4 161 d1 x1 k1 L G, ?_, fun σ' G h => ?_⟩
    · refine ⟨_, rfl, p, c, ms, n, 4, rfl, by decide, pen, hn0, by omega, fun v d1 x1 k1 L n' G m0 m1 pen' sb hd hv two => ?_⟩
      exact ⟨v, _, 1, _, rfl, rfl, SqT.of hv, atI_nat (j := 1) rfl, d1, x1, k1, L, n', rfl, m0, m1, pen', two⟩
    obtain ⟨d1, x1, k1, L, n1, rfl, m0, m1, pen2, two⟩ := h
    -- other
    refine ⟨fun σ G => ∃ (x2 d2 : Addr) (k2 : List Int) (M : List Part) (n' : Int), σ = [some (.ref a), some (.ref p), some (.int (0 + (i : Nat))), some (.ref x1), some (.ref x2), some (.ref d2), v6] ∧ n1 ≤ n' ∧ n' ≤ n1 + 46 ∧ PenAt G p c ms n' ∧ Two C 165 4 161 d1 x1 k1 L G ∧ Lw C 4 x2 d2 k2 M G, ?_, fun σ' G2 h => ?_⟩
    · refine ⟨_, rfl, p, c, ms, n1, rfl, pen2, by omega, by omega, fun v x2 d2 k2 M n' G2 m2 m3 pen' sb hv lw => ?_⟩
      exact ⟨v, _, rfl, SqT.of hv, rfl, _, _, rfl, _, _, rfl, rfl, x2, d2, k2, M, n', rfl, m2, m3, pen', two.but sb pen2, lw⟩
    obtain ⟨x2, d2, k2, M, n2, rfl, m2, m3, pen3, two, lw⟩ := h
    clear pen pen2
    -- over nought
    refine ⟨fun σ G => σ = [some (.ref a), some (.ref p), some (.int (0 + (i : Nat))), some (.ref x1), some (.ref x2), some (.ref d2), v6] ∧ Same G2 G, ?_, fun σ' G3 h => ?_⟩
    · refine ⟨_, rfl, 0, 1, 1, 40, rfl, by decide, by decide, by decide, by decide, ok_one, fun x0 G3 s3 hx0 e0 => ?_⟩
      rw [ex_nil] at e0
      refine ⟨x1, x0, L, [], rfl, two.num.same s3, e0, .inl ⟨rfl, fun G4 s4 => .inl ⟨rfl, fun G5 s5 => ?_⟩⟩⟩
      exact ⟨rfl, _, rfl, iteNS rfl ⟨rfl, (s3.trans s4).trans s5⟩⟩
    obtain ⟨rfl, s3⟩ := h
    replace two := two.same s3
    replace lw := lw.same s3
    replace pen3 := pen3.same s3
    clear s3
    obtain ⟨D1, D10, z1, fL⟩ := two.fit
    obtain ⟨D2, D20, z2, fM⟩ := lw.fit
    have l1 := two.len
    have l2 := lw.len
    have rt := lw.rts
    have kL : ∀ e ∈ L, e.1 ∈ kI allP := fun e he => menu_allP e.1 (two.key e he)
    have kM : ∀ e ∈ M, e.1 ∈ kI allP := rt.k
    -- told
    refine ⟨fun σ G => ∃ v : V, σ = [some (.ref a), some (.ref p), some (.int (0 + (i : Nat))), some (.ref x1), some (.ref x2), some (.ref d2), some v] ∧ Same G3 G ∧ ((M = [] ∧ v = .str "nought") ∨ (M ≠ [] ∧ 6 < (psOf M).length ∧ v = .str "wide") ∨ (M ≠ [] ∧ (psOf M).length ≤ 6 ∧ ∃ z N D, v = .ref z ∧ NumAt C G z N ∧ Fit D 5663 36 N ∧ 0 < D ∧ D < 2 ^ 5473 ∧ N.length ≤ L.length * 64 ∧ ∀ u, prodG (N.map (·.1)) (M.map (·.1)) (TCR.val N) (TCR.val M) u = TCR.val L u)), ?_, fun σ' G4 h => ?_⟩
    · refine ⟨_, rfl, _, rfl, ?_⟩
      show spOverL C CB CW [.ref x1, .ref x2] G3 _ (fun _ _ _ => False)
      refine over_two (D1 := D1) (A1 := 165) (B1 := 161) (R1 := 12) (D2 := D2) two.num lw.num fL kL D10 z1 fM rt D20 z2 (by decide) (by omega) (by omega) (fun M0 H' s => .inl ⟨rfl, fun H2 s2 => ?_⟩) (fun M0 many H' s => .inr ⟨rfl, fun H2 s2 => ?_⟩) (fun M0 few z N D H' s hz fN D0 dB lN _ e => ?_)
      · exact ⟨_, rfl, s.trans s2, .inl ⟨M0, rfl⟩⟩
      · exact ⟨_, rfl, s.trans s2, .inr (.inl ⟨M0, many, rfl⟩)⟩
      · exact ⟨_, rfl, s, .inr (.inr ⟨M0, few, z, N, D, rfl, hz, fN, D0, dB, lN, e⟩)⟩
    obtain ⟨v, rfl, s4, tv⟩ := h
    replace two := two.same s4
    replace lw := lw.same s4
    replace pen3 := pen3.same s4
    clear s4
    -- what is told
    refine ⟨fun σ G => σ = [some (.ref a), some (.ref p), some (.int (0 + (i : Nat))), some (.ref x1), some (.ref x2), some (.ref d2), some v] ∧ Same G4 G, ?_, fun σ' G5 h => ?_⟩
    · refine ⟨_, rfl, fun de hde => ?_⟩
      obtain ⟨kv, b1, b2, b3, b4, b5⟩ := id lw.dict
      have lk := len_keys b2
      have se := same_upd (o := .dK []) hde
      refine ⟨d2, de, kv, rfl, rfl, se _ _ b1, upd_same, _, rfl, ?_⟩
      by_cases k0 : k2 = []
      · have M0 := lw.nil.mp k0
        have e0 : kv.length = 0 := by
          rw [k0] at lk
          exact lk
        rw [decide_eq_true e0]
        rcases tv with ⟨_, rfl⟩ | ⟨n, _⟩ | ⟨n, _⟩
        · exact iteT ⟨_, rfl, rfl, _, rfl, iteNS rfl ⟨rfl, se⟩⟩
        · exact absurd M0 n
        · exact absurd M0 n
      have M0 : M ≠ [] := fun e => k0 (lw.nil.mpr e)
      have e0 : kv.length ≠ 0 := fun e => by
        rw [lk] at e
        exact k0 (List.length_eq_zero_iff.mp e)
      rw [decide_eq_false e0]
      refine iteF ?_
      refine ⟨_, rfl, d2, k2, _, rfl, lw.dict.same se, by have := lw.klen; omega, fun G5 s5 => ?_⟩
      have sA := se.trans s5
      rw [← lw.many]
      refine ⟨_, 6, rfl, rfl, _, rfl, ?_⟩
      rcases tv with ⟨n, _⟩ | ⟨_, many, rfl⟩ | ⟨_, few, z, N, D, rfl, hz, fN, D0, dB, lN, ee⟩
      · exact absurd n M0
      · refine iteD1 (show ((psOf M).length : Int) > 6 by omega) ?_
        refine ⟨_, rfl, rfl, _, rfl, iteNS rfl ?_⟩
        refine ⟨0, 1, 1, 40, rfl, by decide, by decide, by decide, by decide, ok_one, fun x0 G6 s6 hx0 e0 => ?_⟩
        refine ⟨_, rfl, ?_⟩
        show spOverL C CB CW [.ref x0, .ref x2] G6 _ (fun _ _ _ => False)
        refine over_wide e0 (lw.num.same (sA.trans s6)) rt M0 many (fun H' s => .inr ⟨rfl, fun H2 s2 => ?_⟩)
        exact ⟨rfl, _, rfl, iteNS rfl ⟨rfl, ((sA.trans s6).trans s).trans s2⟩⟩
      · refine iteD0 (show ¬ ((psOf M).length : Int) > 6 by omega) ?_
        have hz5 := hz.same sA
        obtain ⟨dz, pz, hz1, _⟩ := id hz5
        refine ⟨_, rfl, _, _, _, _, false, rfl, .ty "str", T.ty hz1, kS, false, rfl, iteF ?_⟩
        refine ⟨_, rfl, _, rfl, z, x2, N, M, D, D2, 5663, 29, 5473, 17, 36, rfl, hz5, lw.num.same sA, fN, fM.root (by decide), D0, D20, dB, z2, by decide, by decide, by decide, by decide, by decide, by decide, by decide, by decide, by omega, by omega, (by have := Nat.mul_le_mul (show N.length ≤ 256 by omega) l2; omega), fun t N2 G6 s6 ht hN2 fN2 vN2 _ => ?_⟩
        have eL : N2 = L := TCR.canon_eq fN2.can fL.can fun r => by rw [vN2 r, ee r]
        refine ⟨_, rfl, t, x1, N2, L, rfl, rfl, hN2, two.num.same (sA.trans s6), ?_⟩
        rw [decide_eq_true eL]
        refine ⟨_, rfl, iteF ?_⟩
        refine ⟨_, rfl, _, rfl, ?_⟩
        show spOverL C CB CW [.ref x2, .ref x2] G6 _ (fun _ _ _ => False)
        have lw6 := lw.num.same (sA.trans s6)
        refine over_two (D1 := D2) (A1 := 29) (B1 := 17) (R1 := 24) (D2 := D2) lw6 lw6 fM kM D20 z2 fM rt D20 z2 (by decide) (by omega) (by omega) (fun e => absurd e M0) (fun _ e => absurd few (by omega)) (fun _ _ z2 N3 D3 G7 s7 hz2 fN3 _ _ _ kN3 e3 => ?_)
        have e1 : N3 = oneL 1 1 1 := self_one fN3.can fM.can kN3 kM M0 e3
        refine ⟨1, 1, 1, 40, rfl, by decide, by decide, by decide, by decide, ok_one, fun x0 G8 s8 hx0 e0 => ?_⟩
        refine ⟨_, _, N3, exL 1 1 1, rfl, rfl, hz2.same s8, e0, ?_⟩
        rw [decide_eq_true (e1.trans ex1.symm)]
        exact ⟨_, rfl, iteF ⟨rfl, ((sA.trans s6).trans s7).trans s8⟩⟩
    obtain ⟨rfl, s5⟩ := h
    replace two := two.same s5
    replace pen3 := pen3.same s5
    -- a third of seven times
    have D3 : Fit 3 3 1 [((1 : Int), Rat.divInt 7 3)] := fit1 (by decide +kernel) (by decide +kernel) (by decide +kernel) (by decide)
    refine ⟨_, rfl, rfl, rfl, 7, 3, 1, 40, rfl, by decide, by decide, by decide, by decide, ok_one, fun x7 G6 s6 hx7 e7 => ?_⟩
    rw [ex73] at e7
    unfold tNil
    show spOver C CB CW ([.ref x1, .ref x7] ++ []) G6 _ _
    refine over_rat (D1 := D1) (A1 := 165) (B1 := 161) (R1 := 12) (two.num.same s6) e7 (by decide +kernel) (by decide +kernel) (by decide +kernel) fL kL D10 z1 (by decide) (by omega) (fun z N D H7 s7 hz fN D0 dB lN kN e3 => ?_)
    refine ⟨7, 1, 1, 40, rfl, by decide, by decide, by decide, by decide, ok_one, fun x8 G8 s8 hx8 e8 => ?_⟩
    rw [ex7] at e8
    have D7 : Fit 1 3 36 [((1 : Int), (7 : Rat))] := fit1 (by decide +kernel) (by decide +kernel) (by decide +kernel) (by decide)
    have D33 : Fit 1 2 36 [((1 : Int), (3 : Rat))] := fit1 (by decide +kernel) (by decide +kernel) (by decide +kernel) (by decide)
    refine ⟨z, x8, N, [((1 : Int), (7 : Rat))], D, 1, 1567, 3, 1377, 1, 36, rfl, hz.same s8, e8, fN.root (by decide), D7, D0, by decide, dB, by decide, by decide, by decide, by decide, by decide, by decide, by decide, by decide, by decide, by omega, (show 1 ≤ 1000 by decide), (show N.length * 1 ≤ 5000 by omega), fun t N2 G9 s9 ht hN2 fN2 vN2 _ => ?_⟩
    refine ⟨_, rfl, 3, 1, 1, 40, rfl, by decide, by decide, by decide, by decide, ok_one, fun x9 G10 s10 hx9 e9 => ?_⟩
    rw [ex3] at e9
    have s69 := ((s6.trans s7).trans s8).trans s9
    refine ⟨x1, x9, L, [((1 : Int), (3 : Rat))], D1, 1, 165, 2, 161, 1, 36, rfl, two.num.same (s69.trans s10), e9, fL.root (by decide), D33, D10, by decide, z1, by decide, by decide, by decide, by decide, by decide, by decide, by decide, by decide, by decide, by omega, (show 1 ≤ 1000 by decide), (show L.length * 1 ≤ 5000 by omega), fun u N4 G11 s11 hu4 hN4 fN4 vN4 _ => ?_⟩
    have e1 : N2 = N4 := TCR.canon_eq fN2.can fN4.can fun r => by
      rw [vN2 r, vN4 r, prod_c fN.can (fun x hx => (fN.pos x hx).1) rfl (fun s => val_one 1 s _) r, prod_c fL.can (fun x hx => (fL.pos x hx).1) rfl (fun s => val_one 1 s _) r, ← e3 r]
      have := prod_c fN.can (fun x hx => (fN.pos x hx).1) (M := [((1 : Int), Rat.divInt 7 3)]) rfl (fun s => val_one 1 s _) r
      rw [show prodG (N.map (·.1)) [1] (TCR.val N) (TCR.val [((1 : Int), Rat.divInt 7 3)]) r = _ from this, ← Rat.mul_assoc]
      congr 1
      decide +kernel
    refine ⟨_, _, N2, N4, rfl, rfl, (hN2.same s10).same s11, hN4, ?_⟩
    rw [decide_eq_true e1]
    refine ⟨_, rfl, iteF ?_⟩
    have sB := (s69.trans s10).trans s11
    exact ⟨_, _, _, _, _, rfl, n2, pen3.same sB, by omega, by omega⟩
  · obtain ⟨_, _, _, _, _, rfl, _⟩ := hP
    exact q H'
end
end TC
namespace TC
open PySem PySem.Spec PyProof.Rows L2 TCA TCX TB
theorem facts {P : Program} {w : World} {K : PySem.W.Frag} {h : Heap} {mg : Str → Option Value} {f : Addr} (X : K.In h) (G : h.Ns mainGlobals mg) (hfa : mg ("law" : Str) = some (.ref f)) (sx : He.SaysX fa fn [] tf exB w h K) :
    ∃ fd : FuncData, (∀ (s : Shared) (v : Value), BindsTo s fd ⟨[v], []⟩ [("_law_script", v)]) ∧ ∀ base : Heap, K.In base → base.Ns mainGlobals mg → FnOk P w K mg base CX0 6 f fd ["_law_script"] (spLaw K) := by
  have c := sx.t.d
  obtain ⟨fdI, FI⟩ := c.def_ 0 (d := dm "__init__" "Exact.__init__" sInit) rfl
  obtain ⟨fdEq, FEq⟩ := c.def_ 1 (d := dm "__eq__" "Exact.__eq__" sEq) rfl
  obtain ⟨fdE, FE⟩ := c.def_ 2 (d := dExact) rfl
  obtain ⟨fd3, F3⟩ := c.def_ 3 (d := dd "is_whole" sWhole) rfl
  obtain ⟨fd4, F4⟩ := c.def_ 4 (d := dd "shared" sShared) rfl
  obtain ⟨fd5, F5⟩ := c.def_ 5 (d := dd "in_lowest" sLowest) rfl
  obtain ⟨fd6, F6⟩ := c.def_ 6 (d := dd "sum_in_lowest" sSumLow) rfl
  obtain ⟨fd7, F7⟩ := c.def_ 7 (d := dd "primes_in" sPrimesIn) rfl
  obtain ⟨fd8, F8⟩ := c.def_ 8 (d := dd "squares_out" sSquares) rfl
  obtain ⟨fd9, F9⟩ := c.def_ 9 (d := dd "plus" sPlus) rfl
  obtain ⟨fd10, F10⟩ := c.def_ 10 (d := dd "times" sTimes) rfl
  obtain ⟨fd11, F11⟩ := c.def_ 11 (d := dd "over" sOver) rfl
  obtain ⟨fd12, F12⟩ := c.def_ 12 (d := dd "need_exact" sNeed) rfl
  obtain ⟨fd13, F13⟩ := c.def_ 13 (d := dd "merged" sMerged) rfl
  obtain ⟨fd14, F14⟩ := c.def_ 14 (d := dd "on_one_bottom" sOneBottom) rfl
  obtain ⟨fd15, F15⟩ := c.def_ 15 (d := dd "lowered" sLowered) rfl
  obtain ⟨fd16, F16⟩ := c.def_ 16 (d := dd "products" sProducts) rfl
  obtain ⟨fd17, F17⟩ := c.def_ 17 (d := dd "primes_of_roots" sPrimesRoots) rfl
  obtain ⟨fd18, F18⟩ := c.def_ 18 (d := dd "upside_down" sUpside) rfl
  obtain ⟨fd19, F19⟩ := c.def_ 19 (d := dd "_law_pen" sPen) rfl
  obtain ⟨fd20, F20⟩ := c.def_ 20 (d := dd "_law_draw" sDraw) rfl
  obtain ⟨fd21, F21⟩ := c.def_ 21 (d := dd "_law_word" sWord) rfl
  obtain ⟨fd22, F22⟩ := c.def_ 22 (d := dd "_law_low" sLow) rfl
  obtain ⟨fd23, F23⟩ := c.def_ 23 (d := dd "_law_cleared" sCleared) rfl
  obtain ⟨fd24, F24⟩ := c.def_ 24 (d := dd "_law_sum" sSum) rfl
  obtain ⟨fd25, F25⟩ := c.def_ 25 (d := dd "_law_by" sBy) rfl
  obtain ⟨fd26, F26⟩ := c.def_ 26 (d := dd "_law_common" sCommon) rfl
  obtain ⟨fd27, F27⟩ := c.def_ 27 (d := dd "_law_product" sProduct) rfl
  obtain ⟨fd28, F28⟩ := c.def_ 28 (d := dd "_law_parts" sParts) rfl
  obtain ⟨fd29, F29⟩ := c.def_ 29 (d := dd "_law_some" sSome) rfl
  obtain ⟨fd30, F30⟩ := c.def_ 30 (d := dd "_law_lower" sLowerL) rfl
  obtain ⟨fd31, F31⟩ := c.def_ 31 (d := dd "_law_many_primes" sManyL) rfl
  obtain ⟨fd32, F32⟩ := c.def_ 32 (d := dd "_law_over" sOverL) rfl
  obtain ⟨fd33, F33⟩ := c.def_ 33 (d := dd "law" sLaw) rfl
  have glo : ∀ (i : Nat) (x : Str), TC.fa[i]? = some (.glo x) → mg x = some (.ref (He.ga K x)) := fun i x e => He.glo_ok X G (c.fact i (f := .glo x) e)
  have free : ∀ (i : Nat) (x : Str), TC.fa[i]? = some (.free x) → mg x = none := fun i x e => He.free_ok X G (c.fact i (f := .free x) e)
  obtain ⟨ti_HIGHEST_ROOT, gi_HIGHEST_ROOT⟩ := He.int_ok X G (c.fact 3 (f := .int "HIGHEST_ROOT" 1000000) rfl)
  obtain ⟨ti_MOST_PRIMES, gi_MOST_PRIMES⟩ := He.int_ok X G (c.fact 4 (f := .int "MOST_PRIMES" 6) rfl)
  obtain ⟨xn, xe⟩ := He.ba sx.more
  obtain ⟨xP, ex⟩ := He.ba xn
  obtain ⟨xN, ex⟩ := He.ba ex
  obtain ⟨xC, ex⟩ := He.ba ex
  obtain ⟨xG, ex⟩ := He.ba ex
  obtain ⟨xT, ex⟩ := He.ba ex
  obtain ⟨xM, xO⟩ := He.ba ex
  have T : TxtN K mg (He.ga K "Exact") (He.ma K (He.ga K "Exact") "__init__") (He.ma K (He.ga K "Exact") "__eq__") := {
    cl := He.cls_ok (c.fact 5 (f := .cls "Exact") rfl)
    nP := He.noat_ok (c.fact 6 (f := .noat "Exact" "parts") rfl)
    mkr := He.mkr_ok (c.fact 7 (f := .mkr "Exact") rfl)
    mq := He.meth_ok (c.fact 8 (f := .meth "Exact" "__eq__") rfl)
    mgC := glo 0 "Exact" rfl
    ne := He.eqO_ok xN
    ca := He.eqO_ok xC
    cn := He.eqO_ok xG
    ct := of_decide_eq_true xT
    cm := of_decide_eq_true xM }
  have hT : ∀ H, SqT K H (He.ga K "PRIMES") (primes.map V.int) := fun H => by
    have z := He.tupB_ok xP H
    rw [List.map_map] at z
    exact z
  have hT2 : ∀ H, SqT K H (He.ga K "PRIMES") (TCM.primes.map V.int) := hT
  obtain ⟨m1, x2⟩ := He.ba xe
  obtain ⟨m2, x3⟩ := He.ba x2
  obtain ⟨m3, x4⟩ := He.ba x3
  have kS := of_decide_eq_true m1
  have kdW := excAllF_ok m2
  have kdB := excAllF_ok m3
  obtain ⟨y1, y2, y3, y4⟩ := excZ_ok x4
  obtain ⟨e1, e2, e3, e4⟩ := He.exc_ok (c.fact 64 (f := .exc "TooWide") rfl)
  have XT : XTxt K mg "TooWide" (He.ga K "TooWide") := ⟨(glo 46 "TooWide" rfl), e1, e2, e3, e4⟩
  have ZT : ZTxt K mg "ByNought" (He.ga K "ByNought") := ⟨(glo 61 "ByNought" rfl), y1, y2, y3, y4⟩
  have ST : STxt K mg := ⟨(glo 40 "TurnError" rfl), (glo 61 "ByNought" rfl), (glo 59 "NoName" rfl), (glo 60 "NoPlace" rfl), (glo 62 "NothingDone" rfl)⟩
  have WT : TB.WTxt K mg := ⟨fun i x e => ?_, (glo 40 "TurnError" rfl), (free 79 "ValueError" rfl), (free 80 "ZeroDivisionError" rfl), (free 81 "KeyError" rfl), (free 82 "IndexError" rfl), (free 83 "LookupError" rfl), (free 65 "isinstance" rfl)⟩
  rotate_left
  · match i, e with
    | 0, e => cases e; exact glo 56 "Empty" rfl
    | 1, e => cases e; exact glo 54 "NoDeed" rfl
    | 2, e => cases e; exact glo 52 "NoHalf" rfl
    | 3, e => cases e; exact glo 53 "NoLinking" rfl
    | 4, e => cases e; exact glo 47 "NoNet" rfl
    | 5, e => cases e; exact glo 41 "NoNumber" rfl
    | 6, e => cases e; exact glo 43 "NoOffset" rfl
    | 7, e => cases e; exact glo 55 "NoQuestion" rfl
    | 8, e => cases e; exact glo 48 "NoRow" rfl
    | 9, e => cases e; exact glo 42 "NoSize" rfl
    | 10, e => cases e; exact glo 49 "NoStanding" rfl
    | 11, e => cases e; exact glo 45 "NoTable" rfl
    | 12, e => cases e; exact glo 58 "NoText" rfl
    | 13, e => cases e; exact glo 57 "NotParted" rfl
    | 14, e => cases e; exact glo 50 "NoTree" rfl
    | 15, e => cases e; exact glo 44 "NoTriple" rfl
    | 16, e => cases e; exact glo 51 "NoWay" rfl
    | 17, e => cases e; exact glo 46 "TooWide" rfl
    | 18, e => cases e; exact glo 61 "ByNought" rfl
    | 19, e => cases e; exact glo 59 "NoName" rfl
    | 20, e => cases e; exact glo 60 "NoPlace" rfl
    | 21, e => cases e; exact glo 62 "NothingDone" rfl
    | n + 22, e =>
      have z : ([] : List Str)[n]? = some x := e
      cases z
  have e := hfa.symm.trans (glo 39 "law" rfl)
  cases e
  have bI := FunD.bindsN (ps := ["self", "parts"]) FI fun _ _ _ _ _ _ us hl => match us, hl with | [_, _], _ => rfl
  have bEq := FunD.bindsN (ps := ["self", "other"]) FEq fun _ _ _ _ _ _ us hl => match us, hl with | [_, _], _ => rfl
  have b3 := FunD.bindsN (ps := ["thing"]) F3 fun _ _ _ _ _ _ us hl => match us, hl with | [_], _ => rfl
  have b4 := FunD.bindsN (ps := ["one", "other"]) F4 fun _ _ _ _ _ _ us hl => match us, hl with | [_, _], _ => rfl
  have b5 := FunD.bindsN (ps := ["top", "bottom"]) F5 fun _ _ _ _ _ _ us hl => match us, hl with | [_, _], _ => rfl
  have b6 := FunD.bindsN (ps := ["top", "bottom", "other", "below"]) F6 fun _ _ _ _ _ _ us hl => match us, hl with | [_, _, _, _], _ => rfl
  have b7 := FunD.bindsN (ps := ["number"]) F7 fun _ _ _ _ _ _ us hl => match us, hl with | [_], _ => rfl
  have b8 := FunD.bindsN (ps := ["number"]) F8 fun _ _ _ _ _ _ us hl => match us, hl with | [_], _ => rfl
  have b9 := FunD.bindsN (ps := ["one", "other"]) F9 fun _ _ _ _ _ _ us hl => match us, hl with | [_, _], _ => rfl
  have b10 := FunD.bindsN (ps := ["one", "other"]) F10 fun _ _ _ _ _ _ us hl => match us, hl with | [_, _], _ => rfl
  have b11 := FunD.bindsN (ps := ["one", "other"]) F11 fun _ _ _ _ _ _ us hl => match us, hl with | [_, _], _ => rfl
  have b12 := FunD.bindsN (ps := ["thing"]) F12 fun _ _ _ _ _ _ us hl => match us, hl with | [_], _ => rfl
  have b13 := FunD.bindsN (ps := ["parts", "others"]) F13 fun _ _ _ _ _ _ us hl => match us, hl with | [_, _], _ => rfl
  have b14 := FunD.bindsN (ps := ["parts"]) F14 fun _ _ _ _ _ _ us hl => match us, hl with | [_], _ => rfl
  have b15 := FunD.bindsN (ps := ["tops", "bottom"]) F15 fun _ _ _ _ _ _ us hl => match us, hl with | [_, _], _ => rfl
  have b16 := FunD.bindsN (ps := ["tops", "others"]) F16 fun _ _ _ _ _ _ us hl => match us, hl with | [_, _], _ => rfl
  have b17 := FunD.bindsN (ps := ["parts"]) F17 fun _ _ _ _ _ _ us hl => match us, hl with | [_], _ => rfl
  have b18 := FunD.bindsN (ps := ["parts", "primes"]) F18 fun _ _ _ _ _ _ us hl => match us, hl with | [_, _], _ => rfl
  have b19 := FunD.bindsN (ps := ["_law_script"]) F19 fun _ _ _ _ _ _ us hl => match us, hl with | [_], _ => rfl
  have b20 := FunD.bindsN (ps := ["_law_pen_here", "_law_many"]) F20 fun _ _ _ _ _ _ us hl => match us, hl with | [_, _], _ => rfl
  have b21 := FunD.bindsN (ps := ["_law_e"]) F21 fun _ _ _ _ _ _ us hl => match us, hl with | [_], _ => rfl
  have b22 := FunD.bindsN (ps := ["_law_up", "_law_under"]) F22 fun _ _ _ _ _ _ us hl => match us, hl with | [_, _], _ => rfl
  have b23 := FunD.bindsN (ps := ["_law_some_here"]) F23 fun _ _ _ _ _ _ us hl => match us, hl with | [_], _ => rfl
  have b24 := FunD.bindsN (ps := ["_law_one", "_law_other"]) F24 fun _ _ _ _ _ _ us hl => match us, hl with | [_, _], _ => rfl
  have b25 := FunD.bindsN (ps := ["_law_one", "_law_up", "_law_under"]) F25 fun _ _ _ _ _ _ us hl => match us, hl with | [_, _, _], _ => rfl
  have b26 := FunD.bindsN (ps := ["_law_one", "_law_other"]) F26 fun _ _ _ _ _ _ us hl => match us, hl with | [_, _], _ => rfl
  have b27 := FunD.bindsN (ps := ["_law_one", "_law_other"]) F27 fun _ _ _ _ _ _ us hl => match us, hl with | [_, _], _ => rfl
  have b28 := FunD.bindsN (ps := ["_law_some_here"]) F28 fun _ _ _ _ _ _ us hl => match us, hl with | [_], _ => rfl
  have b29 := FunD.bindsN (ps := ["_law_pen_here", "_law_many"]) F29 fun _ _ _ _ _ _ us hl => match us, hl with | [_, _], _ => rfl
  have b30 := FunD.bindsN (ps := ["_law_pen_here"]) F30 fun _ _ _ _ _ _ us hl => match us, hl with | [_], _ => rfl
  have b31 := FunD.bindsN (ps := ["_law_some_here"]) F31 fun _ _ _ _ _ _ us hl => match us, hl with | [_], _ => rfl
  have b32 := FunD.bindsN (ps := ["_law_one", "_law_other"]) F32 fun _ _ _ _ _ _ us hl => match us, hl with | [_, _], _ => rfl
  have b := FunD.bindsA (ps := ["_law_script"]) F33 fun _ _ _ _ _ _ us hl => match us, hl with | [_], _ => rfl
  refine ⟨fd33, fun s v => b s [v] rfl, fun base _ _ => ?_⟩
  have G_eq := ok_eq (P := P) (w := w) (mg := mg) (base := base) FEq T (free 65 "isinstance" rfl)
  have G_is_whole := ok_whole (P := P) (w := w) (mg := mg) (base := base) F3 (free 65 "isinstance" rfl) (free 66 "int" rfl) (free 67 "bool" rfl)
  have G_squares_out := ok_squares (P := P) (w := w) (mg := mg) (base := base) F8 (glo 2 "PRIMES" rfl) hT2
  have G_shared := ok_shared (P := P) (w := w) (mg := mg) (base := base) F4 (free 68 "abs" rfl)
  have G_in_lowest := ok_lowest (P := P) (w := w) (mg := mg) (base := base) F5 G_shared b4 F4.kp (glo 10 "shared" rfl)
  have G_init := ok_init (P := P) (w := w) (mg := mg) (base := base) FI T
  have G_lowered := ok_lowered (P := P) (w := w) (mg := mg) (base := base) F15 T G_in_lowest b5 F5.kp (glo 11 "in_lowest" rfl) G_init bI (free 69 "sorted" rfl) (free 70 "list" rfl) (free 71 "tuple" rfl)
  have G_exact := ok_exact (P := P) (w := w) (mg := mg) (base := base) FE G_is_whole b3 F3.kp (glo 9 "is_whole" rfl) G_squares_out b8 F8.kp (glo 14 "squares_out" rfl) G_lowered b15 F15.kp (glo 21 "lowered" rfl) gi_HIGHEST_ROOT
  have G_need_exact := ok_need (P := P) (w := w) (mg := mg) (base := base) F12 T (free 65 "isinstance" rfl)
  have G_on_one_bottom := ok_oneB (P := P) (w := w) (mg := mg) (base := base) F14 G_shared b4 F4.kp (glo 10 "shared" rfl)
  have G_products := ok_products (P := P) (w := w) (mg := mg) (base := base) F16 G_shared b4 F4.kp (glo 10 "shared" rfl)
  have G_times := ok_times (P := P) (w := w) (mg := mg) (base := base) F10 T G_need_exact b12 F12.kp (glo 18 "need_exact" rfl) G_on_one_bottom b14 F14.kp (glo 20 "on_one_bottom" rfl) G_products b16 F16.kp (glo 22 "products" rfl) G_lowered b15 F15.kp (glo 21 "lowered" rfl)
  have G_primes_in := ok_primesIn (P := P) (w := w) (mg := mg) (base := base) F7 (glo 2 "PRIMES" rfl) hT
  have G_primes_of_roots := ok_primesRoots (P := P) (w := w) (mg := mg) (base := base) F17 G_shared b4 F4.kp (glo 10 "shared" rfl) G_primes_in b7 F7.kp (glo 13 "primes_in" rfl)
  have G_upside_down := ok_upside (P := P) (w := w) (mg := mg) (base := base) F18 G_on_one_bottom b14 F14.kp (glo 20 "on_one_bottom" rfl) G_products b16 F16.kp (glo 22 "products" rfl) (free 75 "any" rfl)
  have G_over := ok_over (P := P) (w := w) (mg := mg) (base := base) F11 T ZT XT (free 72 "len" rfl) gi_MOST_PRIMES G_need_exact b12 F12.kp (glo 18 "need_exact" rfl) G_primes_of_roots b17 F17.kp (glo 23 "primes_of_roots" rfl) G_on_one_bottom b14 F14.kp (glo 20 "on_one_bottom" rfl) G_upside_down b18 F18.kp (glo 24 "upside_down" rfl) G_products b16 F16.kp (glo 22 "products" rfl) G_lowered b15 F15.kp (glo 21 "lowered" rfl)
  have G_law_pen := ok_pen (P := P) (w := w) (mg := mg) (base := base) F19 (free 70 "list" rfl)
  have G_law_draw := ok_draw (P := P) (w := w) (mg := mg) (base := base) F20 (free 72 "len" rfl)
  have G_sum_in_lowest := ok_sumLow (P := P) (w := w) (mg := mg) (base := base) F6 G_shared b4 F4.kp (glo 10 "shared" rfl)
  have G_merged := ok_merged (P := P) (w := w) (mg := mg) (base := base) F13 G_sum_in_lowest b6 F6.kp (glo 12 "sum_in_lowest" rfl) (free 69 "sorted" rfl) (free 70 "list" rfl) (free 71 "tuple" rfl)
  have G_plus := ok_plus (P := P) (w := w) (mg := mg) (base := base) F9 T G_need_exact b12 F12.kp (glo 18 "need_exact" rfl) G_merged b13 F13.kp (glo 19 "merged" rfl) G_init bI
  have G_law_low := ok_lowL (P := P) (w := w) (mg := mg) (base := base) F22 (free 68 "abs" rfl)
  have G_law_cleared := ok_cleared (P := P) (w := w) (mg := mg) (base := base) F23 (free 74 "dict" rfl)
  have G_law_sum := ok_sum (P := P) (w := w) (mg := mg) (base := base) F24 G_law_low b22 F22.kp (glo 28 "_law_low" rfl) G_law_cleared b23 F23.kp (glo 29 "_law_cleared" rfl) (free 74 "dict" rfl)
  have G_law_some := ok_someU (P := P) (w := w) (mg := mg) (base := base) F29 FE G_exact (glo 1 "exact" rfl) G_plus b9 F9.kp (glo 15 "plus" rfl) G_law_draw b20 F20.kp (glo 26 "_law_draw" rfl) G_law_low b22 F22.kp (glo 28 "_law_low" rfl) G_law_cleared b23 F23.kp (glo 29 "_law_cleared" rfl) G_law_sum b24 F24.kp (glo 30 "_law_sum" rfl) (free 73 "range" rfl)
  have G_law_lower := ok_lowerU (P := P) (w := w) (mg := mg) (base := base) F30 FE G_exact (glo 1 "exact" rfl) G_plus b9 F9.kp (glo 15 "plus" rfl) G_law_draw b20 F20.kp (glo 26 "_law_draw" rfl) G_law_low b22 F22.kp (glo 28 "_law_low" rfl) G_law_cleared b23 F23.kp (glo 29 "_law_cleared" rfl) G_law_sum b24 F24.kp (glo 30 "_law_sum" rfl) (free 73 "range" rfl)
  have G_law_many_primes := ok_many (P := P) (w := w) (mg := mg) (base := base) F31 (free 72 "len" rfl)
  have G_law_word := ok_word (P := P) (w := w) (mg := mg) (base := base) F21 WT
  have G_law_over := ok_overL (P := P) (w := w) (mg := mg) (base := base) F32 ST G_over b11 F11.kp (glo 17 "over" rfl) G_law_word b21 F21.kp (glo 27 "_law_word" rfl) kdB kdW
  exact ok_law F33 T G_eq bEq FE G_exact (glo 1 "exact" rfl) G_times b10 F10.kp (glo 16 "times" rfl) G_over b11 F11.kp (glo 17 "over" rfl) G_law_pen b19 F19.kp (glo 25 "_law_pen" rfl) G_law_draw b20 F20.kp (glo 26 "_law_draw" rfl) G_law_some b29 F29.kp (glo 35 "_law_some" rfl) G_law_lower b30 F30.kp (glo 36 "_law_lower" rfl) G_law_many_primes b31 F31.kp (glo 37 "_law_many_primes" rfl) G_law_over b32 F32.kp (glo 38 "_law_over" rfl) (free 73 "range" rfl) (free 65 "isinstance" rfl) (free 78 "str" rfl) kS
end TC
open PySem PySem.W PySem.Calls PyProof.Rows
set_option maxHeartbeats 0 in
theorem PySem.Challenge.cw_turncouple_k04_quotients_holds : PySem.Challenge.rw_turncouple_k04_quotients.Holds := by
  w_on; o_law
  refine HandSHeadRun.head_any (r := OpenLaw.row PySem.Challenge.rw_turncouple_k04_quotients) (q := view (OpenLaw.row PySem.Challenge.rw_turncouple_k04_quotients).prog [67]) (H := TC.hk) (ob := TC.ob) (M := 30000) (loose := TC.loose) (d := HandSHeadRun.topDef (OpenLaw.row PySem.Challenge.rw_turncouple_k04_quotients).prog 67) (kwd := []) TC.ob_eq
    (by kernel_rfl) (fun s => by kernel_rfl) TC.run (by kernel_rfl) (by kernel_rfl) (by kernel_rfl) (by rfl) (by first | assumption | decide +kernel) (by decide +kernel) ⟨rfl, rfl, rfl, rfl, rfl, by decide +kernel⟩ ?hw ?hc
  case hw => w_witness2
  case hc =>
    refine L2.walk_ofE (l := PySem.Challenge.rw_turncouple_k04_quotients) (n := 63) (k := 6) (x := "_law_script") (CX := L2.CX0) rfl (by decide) (by kernel_rfl) ⟨rfl, by decide, by decide⟩ ?F (fun _ _ _ _ z => z)
    intro w mg fa h Y G hmg0
    obtain ⟨K, KX, sx⟩ := Y
    have hmg : mg ("law" : PySem.Str) = some (.ref fa) := by
      have e : (HandSHeadRun.topDef (OpenLaw.row PySem.Challenge.rw_turncouple_k04_quotients).prog 67).name = ("law" : PySem.Str) := by kernel_rfl
      rw [← e]
      exact hmg0
    obtain ⟨fd, hb, hF⟩ := TC.facts (P := (PySem.Challenge.rw_turncouple_k04_quotients).prog) (w := w) KX G hmg sx
    exact ⟨K, fd, TC.spLaw K, KX, hb, fun H a ns hl _ hS => ⟨a, ns, rfl, hS, hl, fun _ => rfl⟩, hF⟩
