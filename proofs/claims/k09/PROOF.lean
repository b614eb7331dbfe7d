import PyProof.Rows.All
import Wide.All
import OpenK.AllK
import Wide.FinOn
import KE.KIsAll
import KE.KTryMore
import HandS.ForMost
import HandS.ForExc
import HandS.Defaults
import HandS.ExcIs
import HandS.Lambda
import HandS.Codes
import HandS.Conv
import HandS.More
import HandS.Walk
import HandS.EndTab
import HandS.HeadWalk
import PyProof.ReprRoads
import PyProof.ListRange
import HandS.HeadHook1
import HandS.HeadHook2
import HandS.HeadHook3
import HandS.HeadHook4
import KE.KStateDown
import Lean
import HandS.IsInst
import HandS.Head0
import HandS.Head1
import HandS.Head2
import HandS.HeadEnd
import HandS.Wide
import KE.GoesMore
import KE.GoesEnum
import KE.KFmtOwn
import PyProof.InstEq
import HandS.OwnEq
import HandS.WideMore
import HandS.DictComp
import HandS.TupAny
import HandS.Style
import PyProof.ReprLen
import HandS.TryOnly
import PySem.Challenge.RW_turncouple_k09_offsets_and_sizes
set_option Elab.async false
set_option linter.all false
set_option maxRecDepth 100000
set_option maxHeartbeats 4000000
/-! Exceptions that are caught, kept in a name and asked of later. -/
namespace TCX
open PySem PySem.Spec PyProof.Rows L2
/-! ### a clause that names five classes -/
section
open PySem.W
variable {M : Model} {K : Frag}
theorem exm_tup5 {c1 c2 c3 c4 c5 cls : Value} {tp e : Addr} {b : Bool} {h : Heap} (X : K.In h) (LT : Looks M h (typeOf (.ref e)) cls) (hp : h.get? tp = some { cls := .type "tuple", data := .seq [c1, c2, c3, c4, c5].toArray }) (hx : exmAny K cls [c1, c2, c3, c4, c5] = some b) :
    Looks M h (excMatches (.ref e) (.ref tp)) b := by
  intro A Q E s k₀ q
  obtain ⟨hh, g, d, tk, os⟩ := s
  have k : ∀ b o, h.get? b = some o → hh.get? b = some o := k₀
  have T0 : Looks M h (isInstance (.ref tp) (.type "tuple")) true := ((Looks.ld hp).andThen .now).andThen (Looks.of_pure isSubtype_tuple_tuple)
  have T1 := T0.keeps k
  have TY := LT.keeps k
  have hp' := k _ _ hp
  obtain ⟨b1, d1, x1, y1, z1⟩ := exmAny_cons hx
  obtain ⟨b2, d2, x2, y2, z2⟩ := exmAny_cons y1
  obtain ⟨b3, d3, x3, y3, z3⟩ := exmAny_cons y2
  obtain ⟨b4, d4, x4, y4, z4⟩ := exmAny_cons y3
  obtain ⟨b5, d5, x5, y5, z5⟩ := exmAny_cons y4
  have u1 := (exm_cls (M := M) X x1).1.keeps k
  have v1 := (exm_cls (M := M) X x1).2.keeps k
  have u2 := (exm_cls (M := M) X x2).1.keeps k
  have v2 := (exm_cls (M := M) X x2).2.keeps k
  have u3 := (exm_cls (M := M) X x3).1.keeps k
  have v3 := (exm_cls (M := M) X x3).2.keeps k
  have u4 := (exm_cls (M := M) X x4).1.keeps k
  have v4 := (exm_cls (M := M) X x4).2.keeps k
  have u5 := (exm_cls (M := M) X x5).1.keeps k
  have v5 := (exm_cls (M := M) X x5).2.keeps k
  have w5 : some false = some d5 := y5
  cases w5
  subst z1 z2 z3 z4 z5
  unfold excMatches
  refine wpAny_bind (T1.at ?_)
  dsimp only
  rw [if_pos rfl]
  first
    | refine wpAny_bind (wpAny_seqItems hp' rfl ?_)
    | refine wpAny_bind (wpAny_bind (wpAny_seqItems hp' rfl (wpAny_pure ?_)))
  dsimp only [Option.getD_some, Option.getD]
  cases b1 <;> cases b2 <;> cases b3 <;> cases b4 <;> cases b5 <;> ((repeat (first | simp only [List.forIn_cons, List.forIn_nil, Bool.not_true, Bool.false_eq_true, if_false, if_true] | lk)); exact q)
end
/-- the test t of a clause, asked while an exception of the class cls is handled: it says b -/
def Tst (X : Cx) (t : Expr) (cls : Value) (b : Bool) : Prop :=
  ∀ (a : Addr) (oe : Obj) (pn : List (Addr × Obj)) (σ : L2.St) (H : Hp) (s : Shared) (Q : Bool → Shared → Prop) (E : Value → Shared → Prop),
    Inv (X.suite a ((a, oe) :: pn)) [] σ H s → oe.cls = cls → (∀ h', (∀ q o, s.heap.get? q = some o → h'.get? q = some o) → Q b { s with heap := h' }) →
    wpAny (model X.prog X.w) (X.A.mark (some (.ref a))) (eval t X.env) (fun c s₁ => wpAny (model X.prog X.w) (X.A.mark (some (.ref a))) (excMatches (.ref a) c) Q E s₁) E s
section
variable {X : Cx}
theorem suite_ty {a : Addr} {oe : Obj} {pn : List (Addr × Obj)} {σ : L2.St} {H : Hp} {s : Shared} (I : Inv (X.suite a ((a, oe) :: pn)) [] σ H s) : PySem.W.Looks (model X.prog X.w) s.heap (typeOf (.ref a)) oe.cls := by
  obtain ⟨hget, _⟩ := I.pin (a, oe) (List.mem_append.mpr (.inl List.mem_cons_self))
  exact fun A Q E s k q => wpAny_typeOf_ref (k _ _ hget) q
theorem ld_names {a : Addr} {oe : Obj} {pn : List (Addr × Obj)} {σ : L2.St} {H : Hp} {s : Shared} {x : Str} {c : Value} {np : Pos} {Q : Value → Shared → Prop} {E : Value → Shared → Prop} (hc : Names X x c) (I : Inv (X.suite a ((a, oe) :: pn)) [] σ H s) (q : Q c s) :
    wpAny (model X.prog X.w) (X.A.mark (some (.ref a))) (eval (.Name x np) X.env) Q E s := by
  obtain ⟨hg, hdbg, hm | ⟨hm, hv, hnn⟩⟩ := hc
  · exact ld_glob (X := X.suite a ((a, oe) :: pn)) I hg hm q hdbg
  · exact ld_blt (X := X.suite a ((a, oe) :: pn)) I hg hm hv q hnn hdbg
theorem tst_name {x : Str} {c cls : Value} {np : Pos} {b : Bool} (hc : Names X x c) (he : PySem.W.exmOne X.K cls c = some b) : Tst X (.Name x np) cls b := by
  intro a oe pn σ H s Q E I e q
  subst e
  exact ld_names hc I ((PySem.W.exm_one I.kIn (suite_ty I) he).here (q s.heap fun _ _ z => z))
theorem tst_tup4 {x1 x2 x3 x4 : Str} {c1 c2 c3 c4 cls : Value} {p1 p2 p3 p4 tpos : Pos} {kk : Nat} {b : Bool} (n1 : Names X x1 c1) (n2 : Names X x2 c2) (n3 : Names X x3 c3) (n4 : Names X x4 c4) (he : PySem.W.exmAny X.K cls [c1, c2, c3, c4] = some b) :
    Tst X (.Tuple [.Name x1 p1, .Name x2 p2, .Name x3 p3, .Name x4 p4] kk tpos) cls b := by
  intro a oe pn σ H s Q E I e q
  subst e
  refine wpAny_Tuple ?_
  refine wpAny_items_cons (ld_names n1 I ?_)
  refine wpAny_items_cons (ld_names n2 I ?_)
  refine wpAny_items_cons (ld_names n3 I ?_)
  refine wpAny_items_cons (ld_names n4 I ?_)
  refine wpAny_items_nil ⟨by size_fits, ?_⟩
  have kp : ∀ q o, s.heap.get? q = some o → (s.heap.push { cls := .type "tuple", data := .seq [c1, c2, c3, c4].toArray }).get? q = some o := fun _ _ z => Heap.get?_push_of_some _ z
  exact (PySem.W.exm_tup4 (I.kIn.keeps kp) ((suite_ty I).keeps kp) (Heap.get?_push_size s.heap rfl) he).here (q _ kp)
theorem tst_tup5 {x1 x2 x3 x4 x5 : Str} {c1 c2 c3 c4 c5 cls : Value} {p1 p2 p3 p4 p5 tpos : Pos} {kk : Nat} {b : Bool} (n1 : Names X x1 c1) (n2 : Names X x2 c2) (n3 : Names X x3 c3) (n4 : Names X x4 c4) (n5 : Names X x5 c5) (he : PySem.W.exmAny X.K cls [c1, c2, c3, c4, c5] = some b) :
    Tst X (.Tuple [.Name x1 p1, .Name x2 p2, .Name x3 p3, .Name x4 p4, .Name x5 p5] kk tpos) cls b := by
  intro a oe pn σ H s Q E I e q
  subst e
  refine wpAny_Tuple ?_
  refine wpAny_items_cons (ld_names n1 I ?_)
  refine wpAny_items_cons (ld_names n2 I ?_)
  refine wpAny_items_cons (ld_names n3 I ?_)
  refine wpAny_items_cons (ld_names n4 I ?_)
  refine wpAny_items_cons (ld_names n5 I ?_)
  refine wpAny_items_nil ⟨by size_fits, ?_⟩
  have kp : ∀ q o, s.heap.get? q = some o → (s.heap.push { cls := .type "tuple", data := .seq [c1, c2, c3, c4, c5].toArray }).get? q = some o := fun _ _ z => Heap.get?_push_of_some _ z
  exact (exm_tup5 (I.kIn.keeps kp) ((suite_ty I).keeps kp) (Heap.get?_push_size s.heap rfl) he).here (q _ kp)
end
/-! ### a caught exception that is tracked from now on -/
/-- at a stands an exception of the class cls, its own dict d -/
def ExV (cls : Value) (d : Option Addr) (a : Addr) : HO := .ext fun h => ∃ (oe : Obj) (vs : Array Value), h.get? a = some oe ∧ Zc cls d oe ∧ oe.data = .fields vs
theorem exV_ok {P : Program} {w : World} {H : Hp} {h : Heap} {a : Addr} {cls : Value} {d : Option Addr} {oe : Obj} {vs : Array Value} (e : h.get? a = some oe) (z : Zc cls d oe) (hd : oe.data = .fields vs) : ObjOk P w H h a (ExV cls d a) :=
  ⟨⟨oe, vs, e, z, hd⟩, ⟨oe, e⟩, fun _ _ ⟨o, v, q, r⟩ k => ⟨o, v, k o q, r⟩⟩
theorem flyZ_keeps {B h h' : Heap} {l : List Env} {e : Addr} {Z : Obj → Prop} (R : HandSPX.FlyingZ B l e Z h) (k : ∀ b o, h.get? b = some o → h'.get? b = some o) : HandSPX.FlyingZ B l e Z h' := by
  obtain ⟨f1, f2, f3, oe, ws, T, oT, ts, he, hz, hd, h1, hn, hne, hT, hdT, h3⟩ := R
  exact ⟨fun b o q => k b o (f1 b o q), f2, f3.of_keeps fun b o q _ => ⟨o, k b o q, rfl⟩, oe, ws, T, oT, ts, k _ _ he, hz, hd, h1, hn, hne, k _ _ hT, hdT, h3⟩
section
variable {X : Cx} {pins : List (Addr × Obj)} {σ : L2.St} {H : Hp} {s : Shared}
theorem Inv_track {a : Addr} {cls : Value} {d : Option Addr} {oe : Obj} {vs : Array Value} (I : Inv X pins σ H s) (h0 : X.s_0.heap.get? a = none) (na : H a = none) (he : s.heap.get? a = some oe) (hz : Zc cls d oe) (hd : oe.data = .fields vs) (nL : a ≠ X.env.locals) (nP : ∀ p ∈ X.pn ++ pins, p.1 ≠ a) :
    Inv X pins σ (upd H a (ExV cls d a)) s := by
  have nS : ∀ b u, H b = some u → b ≠ a := fun b u e => ne_of_none e na
  refine ⟨I.ok, I.os, I.bare, ⟨I.base.keep, I.base.slot, fun b o e n hx => ?_, I.base.there, fun b xs e => ?_, fun b o u e => ?_, fun b ps e => ?_⟩, I.loc, I.cell, ?_, fun x c e => ?_, fun p hp => ?_, fun b u e => ?_, I.len⟩
  · rw [upd_ne (fun z => by rw [z, h0] at e; cases e)]
    exact I.base.free b o e n hx
  · have q := I.base.tups b xs e
    rw [upd_ne (nS _ _ q)]
    exact q
  · have q := I.base.frzs b o u e
    rw [upd_ne (nS _ _ q)]
    exact q
  · obtain ⟨m, q⟩ := I.base.tbls b ps e
    exact ⟨m, by rw [upd_ne (nS _ _ q)]; exact q⟩
  · rw [upd_ne (Ne.symm nL)]
    exact I.free
  · obtain ⟨v, o, ho, hdc⟩ := I.cell x c e
    rw [upd_ne (fun z => by
      rw [z, he] at ho
      cases ho
      rw [hd] at hdc
      cases hdc)]
    exact I.freeC x c e
  · obtain ⟨e, n, ne, nf, dd⟩ := I.pin p hp
    exact ⟨e, by rw [upd_ne (nP p hp)]; exact n, ne, nf, dd⟩
  · by_cases hb : b = a
    · subst hb
      rw [upd_same] at e
      cases e
      exact exV_ok he hz hd
    · rw [upd_ne hb] at e
      exact (I.hok b u e).stay (fun c v _ q => q) (fun c q => by rw [upd_ne (nS _ _ q)]; exact q) fun c xs q => by rw [upd_ne (nS _ _ q)]; exact q
theorem Inv_suite0 {a : Addr} (I : Inv X pins σ H s) : Inv (X.suite a (X.pn ++ pins)) [] σ H s :=
  ⟨I.ok.suite _ _, I.os, I.bare, I.base, I.loc, I.cell, I.free, I.freeC, fun p hp => I.pin p (by rw [List.append_nil] at hp; exact hp), I.hok, I.len⟩
theorem Inv_unsuite0 {a : Addr} {pn' : List (Addr × Obj)} (I : Inv (X.suite a (X.pn ++ pins)) pn' σ H s) (ok : X.Ok) : Inv X pins σ H s :=
  ⟨ok, I.os, I.bare, I.base, I.loc, I.cell, I.free, I.freeC, fun p hp => I.pin p (List.mem_append_left _ hp), I.hok, I.len⟩
end
/-- the ends of a suite whose name's slot i is emptied behind it -/
def endsAs (i : Nat) (D : Ends) : Ends := { nx := fun σ' H' => D.nx (σ'.set i none) H', rt := D.rt, bk := fun σ' H' => D.bk (σ'.set i none) H', ct := fun σ' H' => D.ct (σ'.set i none) H' }
/-- what the clauses wish: each has its classes, its name's slot, its suite -/
def wKeep (K : PySem.W.Frag) (D : Ends) : List (List Value × Nat × (Addr → Value → Option Addr → TS)) → WX
  | [] => fun _ _ _ _ => False
  | (cs, i, ts) :: r => fun cls d σ H => ∃ b, PySem.W.exmAny K cls cs = some b ∧ (b = true → ∀ a, H a = none → ts a cls d (endsAs i D) (σ.set i (some (.ref a))) (upd H a (ExV cls d a))) ∧ (b = false → wKeep K D r cls d σ H)
inductive HdK (X : Cx) : List ExceptHandler → List (List Value × Nat × (Addr → Value → Option Addr → TS)) → Prop
  | nil : HdK X [] []
  | cons {t : Expr} {n : Str} {i : Nat} {cs : List Value} {ts : Addr → Value → Option Addr → TS} {b₀ : Stmt} {suite : List Stmt} {pos' : Pos} {hds : List ExceptHandler} {l : List (List Value × Nat × (Addr → Value → Option Addr → TS))}
      (ht : ∀ cls b, PySem.W.exmAny X.K cls cs = some b → Tst X t cls b) (hi : X.N[i]? = some n) (hln : X.env.kindOf n = some .local)
      (hsu : ∀ (a : Addr) (cls : Value) (d : Option Addr) (pn : List (Addr × Obj)), PSs (X.suite a pn) (b₀ :: suite) (ts a cls d)) (r : HdK X hds l) :
      HdK X (.ExceptHandler (some t) (some n) (b₀ :: suite) pos' :: hds) ((cs, i, ts) :: l)
section
variable {X : Cx} {body : List Stmt} {h₀ : ExceptHandler} {hds : List ExceptHandler} {l : List (List Value × Nat × (Addr → Value → Option Addr → TS))} {pos : Pos} {tb : WX → TS}
theorem ps_try_keep (hs : X.stack = X.env :: X.outer) (hf : X.env.frame = some X.env.locals) (hex : X.ex = []) (hN : X.N.Nodup)
    (hb : ∀ (W : WX) (pn : List (Addr × Obj)) (xe : Value → Shared → Prop), Takes (X.tr pn xe) W → PassesOwn (model X.prog X.w) X.A X.env xe → PSs (X.tr pn xe) body (tb W))
    (hh : HdK X (h₀ :: hds) l) : PS X (.Try body (h₀ :: hds) [] [] pos) (fun D σ H => tb (fun cls d σ' H' => σ'.length = X.N.length → wKeep X.K D l cls d σ' H') D σ H) := by
  refine ⟨fun pins s σ H D I h => ?_⟩
  have ok := I.ok
  have hfr : X.A.frames = some (X.env :: X.outer) := by rw [ok.frames, hs]
  refine wpAny_Try_except ?_
  refine wpAny_mono ((hb (fun cls d σ' H' => σ'.length = X.N.length → wKeep X.K D l cls d σ' H') (X.pn ++ pins) (fun e s₁ => wpAny (model X.prog X.w) X.A (noteFrame e X.env) (fun _ s₂ => wpAny (model X.prog X.w) X.A (setFlight e none) (fun _ s₃ =>
    wpAny (model X.prog X.w) X.A (handleBy e X.env (h₀ :: hds)) (SP X pins D) X.xe s₃) X.xe s₂) X.xe s₁) (fun u s' xx => ?_) PassesOwn.looking).run [] s σ H D (I.toTry _) h) (fun f s1 hsp => ?_) (fun e s1 he => he)
  · obtain ⟨a, B, sI, pins', σ', H', cls, d, rfl, J', nb, up, sky, na, os, ag, w⟩ := xx
    have J : Inv X pins σ' H' sI := J'.ofTry ok
    have sky' : Sky B (X.env :: X.outer) a (Zc cls d) X.env.locals s'.heap := by rw [← hs]; exact sky
    show wpAny (model X.prog X.w) X.A (noteFrame (.ref a) X.env) _ _ _
    refine Sky.land Zc.steady hfr hf sky' fun h3 fl3 up3 => ?_
    have notFr : ∀ {h : Heap} {o : Obj} {vs : Array Value}, h.FunFrames B (X.env :: X.outer) → h.get? a = some o → o.data = .fields vs → a ∉ frs (X.env :: X.outer) := fun {h o vs} ff e dd hm => by
      obtain ⟨_, o', e', hnf⟩ := ff.mem hm
      rw [e] at e'; cases e'
      exact hnf _ dd
    have nfr : a ∉ frs (X.env :: X.outer) := by
      obtain ⟨oe3, vs3, he3, hz3, hd3⟩ := fl3.there
      exact notFr fl3.2.2.1 he3 hd3
    have nL : a ≠ X.env.locals := fun z => nfr (List.mem_filterMap.mpr ⟨X.env, List.mem_cons_self, by rw [hf, z]⟩)
    have nF : a ∉ X.fs := fun hm => by
      obtain ⟨e, he, q⟩ := List.mem_filterMap.mp hm
      exact nfr (List.mem_filterMap.mpr ⟨e, List.mem_cons_of_mem _ he, q⟩)
    have nI : sI.heap.get? a = none := by
      cases e : sI.heap.get? a with
      | none => rfl
      | some o =>
        have z := nb a o e (by rw [hs]; exact nfr)
        rw [fl3.2.1] at z
        cases z
    have n0 : X.s_0.heap.get? a = none := by
      cases e : X.s_0.heap.get? a with
      | none => rfl
      | some o =>
        obtain ⟨o', z⟩ := J.base.there a o e (by rw [hex]; exact fun z => nomatch z)
        rw [nI] at z
        cases z
    have nP : ∀ p ∈ X.pn ++ pins, p.1 ≠ a := fun p hp z => by
      obtain ⟨e, _⟩ := J.pin p hp
      rw [z, nI] at e
      cases e
    have go : ∀ {hds' : List ExceptHandler} {l' : List (List Value × Nat × (Addr → Value → Option Addr → TS))}, HdK X hds' l' → wKeep X.K D l' cls d σ' H' → ∀ h3 : Heap, HandSPX.FlyingZ B (X.env :: X.outer) a (Zc cls d) h3 → sI.heap.UpToSlots h3 →
        wpAny (model X.prog X.w) X.A (handleBy (.ref a) X.env hds') (SP X pins D) X.xe { s' with heap := h3 } := by
      intro hds' l' hk
      induction hk with
      | nil =>
        intro w
        exact w.elim
      | @cons t n i cs ts b₀ suite pos' hds2 l2 ht hi hln hsu r ih =>
        intro w h3 fl3 up3
        obtain ⟨b, hb1, hyes, hno⟩ := w
        have J3 : Inv X pins σ' H' { s' with heap := h3 } := J.landed nb fl3.1 up3 os ag
        obtain ⟨oe3, vs3, he3, hz3, hd3⟩ := fl3.there
        have S3 := J3.suite he3 hd3 na nL nF
        refine wpAny_handleBy_cons (codeAny_handlers_test (ht cls b hb1 a oe3 _ _ _ _ _ _ S3 hz3.1 fun h4 kp => ?_)) (by intro q; cases q)
        have fl4 := flyZ_keeps fl3 kp
        have up4 : sI.heap.UpToSlots h4 := up3.trans (Heap.UpToSlots.of_keeps kp)
        cases b with
        | true =>
          refine codeAny_handlers_suite_as ?_
          refine HandSPX.lands_againZ (s := { s' with heap := h4 }) fl4 fun h5 fl5 up5 => ?_
          have J5 : Inv X pins σ' H' { s' with heap := h5 } := J.landed nb fl5.1 (up4.trans up5) os ag
          obtain ⟨oe5, vs5, he5, hz5, hd5⟩ := fl5.there
          have K5 : Inv X pins σ' (upd H' a (ExV cls d a)) { s' with heap := h5 } := Inv_track J5 n0 na he5 hz5 hd5 nL nP
          have S5 : Inv (X.suite a (X.pn ++ pins)) [] σ' (upd H' a (ExV cls d a)) { s' with heap := h5 } := Inv_suite0 K5
          refine store_ok (X := X.suite a (X.pn ++ pins)) (v := .ref a) S5 hN hi (.inl hln) rfl (fun s6 S6 => ?_) (.inr hln)
          refine wpAny_mono ((hsu a cls d (X.pn ++ pins)).run [] s6 _ _ _ S6 (hyes rfl a na)) (fun f s7 hsp => ?_) (fun _ _ z => False.elim z)
          have end_ : ∀ {σ6 : L2.St} {H6 : Hp} {Q : Shared → Prop}, Inv (X.suite a (X.pn ++ pins)) [] σ6 H6 s7 → (∀ s8, Inv X pins (σ6.set i none) H6 s8 → Q s8) →
              wpAny (model X.prog X.w) X.A (do bindName X.env n .none; unbindBehindTheSuite X.env n pos') (fun _ s8 => Q s8) X.xe s7 := fun {σ6 H6 Q} S6 hq => gone_ok (Inv_unsuite0 S6 ok) hN hi hln hq
          cases f with
          | next =>
            obtain ⟨σ6, H6, S6, q6⟩ := hsp
            exact end_ S6 fun s7 J7 => ⟨_, _, J7, q6⟩
          | brk =>
            obtain ⟨σ6, H6, S6, q6⟩ := hsp
            exact end_ S6 fun s7 J7 => ⟨_, _, J7, q6⟩
          | cont =>
            obtain ⟨σ6, H6, S6, q6⟩ := hsp
            exact end_ S6 fun s7 J7 => ⟨_, _, J7, q6⟩
          | ret u =>
            obtain ⟨v6, σ6, H6, S6, r6, q6⟩ := hsp
            exact end_ S6 fun s7 J7 => ⟨_, _, _, J7, r6, q6⟩
        | false =>
          show wpAny _ X.A (handleBy (.ref a) X.env hds2) _ _ _
          exact ih (hno rfl) h4 fl4 up4
    exact go hh (w J.len) h3 fl3 (up.trans up3)
  · cases f with
    | next =>
      obtain ⟨σ', H', J', q⟩ := hsp
      exact wpAny_execs_nil ⟨σ', H', J'.ofTry ok, q⟩
    | brk =>
      obtain ⟨σ', H', J', q⟩ := hsp
      exact ⟨σ', H', J'.ofTry ok, q⟩
    | cont =>
      obtain ⟨σ', H', J', q⟩ := hsp
      exact ⟨σ', H', J'.ofTry ok, q⟩
    | ret u =>
      obtain ⟨v, σ', H', J', r, q⟩ := hsp
      exact ⟨v, σ', H', J'.ofTry ok, r, q⟩
end
/-! ### isinstance of it -/
section
variable {X : Cx}
/-- isinstance(e, c), e a kept exception of an own class without fields -/
def rIsV (K : PySem.W.Frag) : List V → Hp → VK → Prop := fun xs H Q => ∃ (a D : Addr) (c : V) (cv : Value) (b : Bool), xs = [.ref a, c] ∧ H a = some (ExV (.ref D) none a) ∧ ExcC K D ∧ (∀ u, RelV c u → u = cv) ∧ PySem.W.kitOne K (.ref D) cv = some b ∧ Q (.bl b) H
theorem inst_of {pins : List (Addr × Obj)} {σ : L2.St} {H : Hp} {s : Shared} {a D : Addr} (I : Inv X pins σ H s) (h : H a = some (ExV (.ref D) none a)) : ∃ oe, PySem.W.InstAt s.heap a oe D none := by
  obtain ⟨⟨oe, vs, hget, hz, hv⟩, _, _⟩ := I.hok a _ h
  refine ⟨oe, ?_⟩
  obtain ⟨oc, od, oda, osl⟩ := oe
  obtain ⟨h1, h2⟩ := hz
  dsimp only at h1 h2 hv
  subst h1 h2 hv
  exact ⟨hget, rfl, rfl, trivial⟩
theorem call_isV : CallR X (.builtin "isinstance") (rIsV X.K) := by
  intro pins s σ H xs us Q I r h
  obtain ⟨a, D, c, cv, b, rfl, hH, C, hcv, e, q⟩ := h
  cases r with
  | cons rx rr =>
    cases rr with
    | cons rt rr =>
      cases rr
      cases rx
      have ec := hcv _ rt
      subst ec
      obtain ⟨oe, J⟩ := inst_of I hH
      exact PySem.W.kia_one (PySem.W.handS_kitx_exc C.hg C.hk C.hs C.hd C.ha C.hn C.ht C.hm) I.kIn J e (fun z => nomatch z) fun tk => ⟨.bl b, H, I.kept (t' := tk) fun _ _ z => z, rfl, q⟩
/-- xs.count(y), flat items -/
def rCount (K : PySem.W.Frag) : V → List V → Hp → VK → Prop := fun x xs H Q => ∃ (a : Addr) (ys : List V) (y : V), x = V.ref a ∧ xs = [y] ∧ SqL K H a ys ∧ flatV y = true ∧ ys.all flatV = true ∧ Q (.int ((ys.countP fun z => eqV z y : Nat) : Int)) H
theorem count_eqU {y : V} : ∀ {xs : List V} {us : List Value}, Vals xs us → xs.all flatV = true → us.countP (eqU y) = xs.countP fun z => eqV z y
  | _, _, .nil, _ => rfl
  | x :: xs, u :: us, .cons r t, f => by
    rw [List.all_cons, Bool.and_eq_true] at f
    rw [List.countP_cons, List.countP_cons, eqU_of r f.1, count_eqU t f.2]
theorem mt_count : MtR X "list.count" (rCount X.K) := by
  intro pins s σ H x xs v us Q I rx rxs h
  obtain ⟨a, ys, y, rfl, rfl, hs, fy, fys, q⟩ := h
  cases rx
  cases rxs with
  | cons ry rt =>
    rename_i uy ut
    cases rt
    obtain ⟨its, rv, ⟨⟨cls, dd, data, sl⟩, n, ho, hc, hdn, hd⟩, hlen⟩ := I.list hs
    simp only at hc hd
    subst hc hd
    refine call_meets PySem.F.slot_list_count ⟨_, ho, rfl⟩ PySem.F.entry_list_count (PySem.F.args_list_count_2 _ _)
      (SeqAt.list_countAt a its.toArray n dd sl uy (eqU y)) ⟨ho, fun u' hu' => mem_eqAt ry fy rv fys u' (by simpa using hu'), ?_⟩
    have ec : its.toArray.toList.countP (eqU y) = ys.countP fun z => eqV z y := count_eqU rv fys
    refine ⟨.int ((ys.countP fun z => eqV z y : Nat) : Int), H, I.tok _, ⟨s.toks, ?_⟩, q⟩
    rw [ec]
end
end TCX
/-! Defs that ask repr of lists and tuples: the guards of the calls around are told. -/
namespace TCX
open PySem PySem.Spec PyProof.Rows L2
/-- FnOk where no repr is under way -/
structure FnG (P : Program) (w : World) (K : PySem.W.Frag) (mg : Str → Option Value) (base : Heap) (CX : CXT) (k : Nat) (f : Addr) (fd : FuncData) (ps : List Str) (sp : Sp) : Prop where
  glen : ∀ vs H Q E, sp vs H Q E → vs.length = ps.length
  grun : ∀ (A : Around) (outer : List Env) (s : Shared) (H : Hp) (args : Args) (us : List Value) (vs : List V) (Q : VK) (E : XK), A.guards = some [] → Room k A → Env0 P w K mg base A outer s H → BindsTo s fd args (ps.zip us) → Vals vs us → sp vs H Q E →
    codeAny (model P w) A (.call (.ref f) args) (CR CX outer P w H s Q E) s
section
variable {P : Program} {w : World} {K : PySem.W.Frag} {mg : Str → Option Value} {base : Heap} {x qual : Str} {params : Arguments} {body : List Stmt} {scope : Scope} {dvs : List V} {kws : List (Str × V)} {f : Addr} {fd : FuncData} {CX : CXT} {N ps : List Str} {k : Nat} {sp : Sp}
theorem okG (F : FunD K x qual params body scope dvs kws f fd) (S : FnScope N ps scope) (len : ∀ vs H Q E, sp vs H Q E → vs.length = ps.length)
    (hbody : ∀ (cdv : Value) (A : Around) (outer : List Env) (s : Shared) (H : Hp) (vs : List V) (Q : VK) (E : XK), A.guards = some [] → Room k (A.deeper (envOfC qual scope s.heap.objs.size f cdv)) → sp vs H Q E →
      ∃ t, PSs (cxOf CX P w K mg base N qual scope f cdv A outer s H E) body t ∧ t { nx := fun _ H' => Q .non H', rt := Q } (L2.start N vs) H) : FnG P w K mg base CX (k + 1) f fd ps sp := by
  obtain ⟨oc, od, dV, kV, doc, pm, an, cdv, ct, osl, rfl, lk, hcd, _, _⟩ := F.ex
  exact ⟨len, fun A outer s H args us vs Q E hg hr e0 hb r hsp => LamX.run_ofS lk hcd S hr e0 hb r (len _ _ _ _ hsp) fun hr' => hbody cdv A outer s H vs Q E hg hr' hsp⟩
end
section
variable {X : Cx} {CX : CXT} {k : Nat} {f : Addr} {fd : FuncData} {ps : List Str} {sp : Sp} {E : XK} {x : Str} {p pos : Pos} {e : Expr} {es : List Expr} {t : TA} {dvs : List V} {ds : List Value}
/-- f(e, ..) of such a def -/
theorem pe_callG (F : FnG X.prog X.w X.K X.mg X.base CX k f fd ps sp) (hG : X.A.guards = some []) (hr : Room k X.A) (hg : Gl X x) (hm : X.mg x = some (.ref f)) (hk : PySem.W.keepIn X.K (.ref f) = true) (hb : L2.Binds X.K fd ps ds) (hd : Vals dvs ds) (hx : Passes CX X E)
    (ha : PA X (e :: es) t) (hdb : (x == ("__debug__" : Str)) = false := by decide) (he : starEach (e :: es) X.env = (false, eval e X.env) :: starEach es X.env := by rfl) (hpl : (backTo pos (starEach es X.env)).any (·.1) = false := by rfl) :
    PE X (.Call (.Name x p) (e :: es) [] pos) (tCall sp dvs E t) := by
  refine ⟨fun pins s σ H Q I h => wpAny_Call_Name_kw (ld_glob I hg hm ?_ hdb)⟩
  refine PySem.W.callWith_K (h₀ := X.base) I.ok.mod.kin hk (thn (ha.run pos pins s σ H _ I h) fun us s1 z => ?_) he hpl
  obtain ⟨vs, H1, I1, r, q⟩ := z
  refine ⟨I1.kIn, wpAny_call (codeAny_mono (F.grun X.A X.stack s1 H1 ⟨us, []⟩ (us ++ ds) (vs ++ dvs) Q E hG hr I1.env0 (hb s1 us I1.kIn ?_) (r.append hd) q) fun y s' hq => ?_)⟩
  · rw [← (r.append hd).length]
    exact F.glen _ _ _ _ q
  · match y, hq with
    | .error u, hq => exact hx pins σ H1 s1 u s' I1 hq
    | .ok (.ret u), hq => exact I1.after hq
    | .ok .next, hq => exact False.elim hq
    | .ok .brk, hq => exact False.elim hq
    | .ok .cont, hq => exact False.elim hq
/-- repr(x) of lists and tuples of data -/
theorem call_reprD (hG : X.A.guards = some []) (hu : X.A.units + 64 < cLine) : CallR X (.builtin "repr") (fun xs H Q => ∃ (a : Addr) (d : PyData), xs = [.ref a] ∧ Dp X.K H (.ref a) d ∧ d.showable = true ∧ d.hasDict = false ∧ d.depth ≤ 60 ∧ d.shown.length ≤ sizeLine ∧ Q (.str d.shown) H) := by
  intro pins s σ H xs us Q I r h
  obtain ⟨a, d, rfl, hd, hs, hn, hdp, hz, q⟩ := h
  rw [Vals.ref1 r]
  obtain ⟨as, hr⟩ := Dp.reads I d (.ref a) (.ref a) hd rfl
  exact repr_of_reads' hr hs (fun z => by rw [hn] at z; cases z) hG (by omega) (fun _ _ z => z) (fun h' u tk hk => ⟨.str d.shown, H, I.kept (t' := tk) hk, ⟨u, rfl⟩, q⟩) hz
theorem call_reprB : CallR X (.builtin "repr") (fun xs H Q => ∃ b : Bool, xs = [.bl b] ∧ Q (.str (if b then "True" else "False")) H) := by
  intro pins s σ H xs us Q I r h
  obtain ⟨b, rfl, q⟩ := h
  obtain ⟨u, rfl, rfl⟩ := vals1 r
  exact P.repr_of_bool ⟨.str (if b then "True" else "False"), H, I.tok _, ⟨_, rfl⟩, q⟩
end
/-! ### list(range(a, b, 2)) -/
theorem size2 {a b : Int} {n : Nat} (h : a < b) (hn : (b - a - 1) / 2 + 1 = n) : Builtin.Range.rangeSize a b 2 = n := by
  unfold Builtin.Range.rangeSize
  rw [if_pos (by decide), if_pos h, hn]
theorem size2_0 {a b : Int} (h : ¬ a < b) : Builtin.Range.rangeSize a b 2 = (0 : Nat) := by
  unfold Builtin.Range.rangeSize
  rw [if_pos (by decide), if_neg h]
  rfl
theorem small2 {a b : Int} (ha : -100000 ≤ a) (ha' : a < 100000) (hb : -100000 ≤ b) (hb' : b < 100000) : Builtin.Range.small a b 2 = true := by
  unfold Builtin.Range.small
  by_cases h : a < b
  · rw [size2 (n := ((b - a - 1) / 2 + 1).toNat) h (by omega)]
    simp only [Builtin.Range.rangeFitsLong, Bool.and_eq_true, Bool.or_eq_true, decide_eq_true_eq, beq_iff_eq, show (2 : Int) > 0 by decide, if_true]
    omega
  · rw [size2_0 h]
    simp only [Builtin.Range.rangeFitsLong, Bool.and_eq_true, Bool.or_eq_true, decide_eq_true_eq, beq_iff_eq, show (2 : Int) > 0 by decide, if_true]
    omega
/-- a, a + 2, .. : n of them -/
def upV (a : Int) (n : Nat) : List V := (List.range n).map fun i => V.int (a + (i : Nat) * 2)
theorem upV_length (a : Int) (n : Nat) : (upV a n).length = n := by rw [upV, List.length_map, List.length_range]
section
variable {X : Cx} {a b : Expr} {ta : TA}
def tLst2 (ta : TA) : TE := fun σ H Q => ta σ H fun vs H1 => ∃ (i j : Int) (n : Nat), vs = [.int i, .int j, .int 2] ∧ -100000 ≤ i ∧ i < 100000 ∧ -100000 ≤ j ∧ j < 100000 ∧ Builtin.Range.rangeSize i j 2 = n ∧ ∀ q, H1 q = none → Q (.ref q) (upd H1 q (.lst (upV i n)))
theorem pe_list2 {c : Expr} {p pos p2 pos2 : Pos} (hc : X.calm = true) (hgl : Gl X "list") (hml : X.mg "list" = none) (hgr : Gl X "range") (hmr : X.mg "range" = none) (ha : PA X [a, b, c] ta)
    (hs : starEach [a, b, c] X.env = (false, eval a X.env) :: starEach [b, c] X.env := by rfl) (hpl : (backTo pos2 (starEach [b, c] X.env)).any (·.1) = false := by rfl)
    (hs2 : starEach [Expr.Call (.Name "range" p2) [a, b, c] [] pos2] X.env = (false, eval (.Call (.Name "range" p2) [a, b, c] [] pos2) X.env) :: starEach [] X.env := by rfl) :
    PE X (.Call (.Name "list" p) [.Call (.Name "range" p2) [a, b, c] [] pos2] [] pos) (tLst2 ta) := by
  refine ⟨fun pins s σ H Q I h => ?_⟩
  refine Call_ (ld_blt I hgl hml boot_list (PyProof.Rows.callWith_type1 (args_cons ?_ hs2) hs2))
  refine Call_ (ld_blt I hgr hmr boot_range (PyProof.Rows.callWith_type1 (thn (ha.run pos2 pins s σ H _ I h) fun us s1 z => ?_) hs hpl))
  obtain ⟨vs, H1, I1, r1, i, j, n, rfl, i1, i2, j1, j2, hn, q⟩ := z
  match us, r1 with
  | [_, _, _], .cons ⟨t, rfl⟩ (.cons ⟨t', rfl⟩ (.cons ⟨t'', rfl⟩ .nil)) =>
    refine call_range_3 (by decide) (args_nil ?_) (Or.inl (PyProof.noPylong_of_log2 (by decide +kernel)))
    have I2 : Inv X pins σ H1 { s1 with heap := s1.heap.push { cls := .type "range", data := .fields #[.int i t, .int j t', .int 2 t''] } } := I1.kept (t' := s1.toks) fun b u e => Heap.get?_push_of_some _ e
    have nle : n ≤ 2 ^ 24 := by
      unfold Builtin.Range.rangeSize at hn
      rw [if_pos (by decide)] at hn
      by_cases z : i < j
      · rw [if_pos z] at hn
        omega
      · rw [if_neg z] at hn
        omega
    refine call_list_range (n := n) (I2.ok.hd hc) (IsRange.new _ _ _ _ _ _ _) (small2 i1 i2 j1 j2) hn nle fun h' tk acc c' hk e' hi => ?_
    have hv : Vals (upV i n) acc.toList := by
      have e : acc.toList.length = n := by rw [Array.length_toList]; exact hi.1
      rw [upV, ← e]
      refine vals_of_get acc.toList _ fun k u hj => ?_
      obtain ⟨y, rfl⟩ := hi.2 k u (by rw [← hj, Array.getElem?_toList])
      exact ⟨y, rfl⟩
    refine ⟨.ref _, upd H1 _ (.lst (upV i n)), I2.laid hk (Nat.le_refl _) (show ObjOk X.prog X.w _ _ _ (.lst (upV i n)) from ⟨?_, acc.toList, c', hv, ?_⟩), rfl, q _ (I2.hok.fresh (Nat.le_refl _))⟩
    · rw [upV_length, sizeLine_eq]
      omega
    · rw [Array.toArray_toList]
      exact e'
end
end TCX
/-! What the head tells of the program's exception classes. -/
namespace TCX
open PySem PySem.Spec PyProof.Rows L2
/-- what isinstance asks of the class at D -/
def excB (K : PySem.W.Frag) (D : Addr) : Bool :=
  He.eqO (PySem.W.findIn K (.ref D) "__getattribute__") (some (some (.builtin "BaseException.__getattribute__"))) && (He.eqO (PySem.W.findIn K (.ref D) "__getattr__") (some none) && (decide (PySem.W.subIn K (.ref D) (.type "BaseException") = some true) &&
    (PySem.W.hasDictIn K D && (He.eqO (PySem.W.findIn K (.ref D) "__class__") (some (some (.builtin "object.__class__"))) && (He.eqO (PySem.W.specialIn K (.builtin "object.__class__") "__get__") (some (some (.builtin "getset_descriptor.__get__"))) &&
      (decide (PySem.W.takesIn K (.builtin "object.__class__") = some true) && decide (PySem.W.mroIn K D (.type "object") = some true)))))))
theorem excB_ok {K : PySem.W.Frag} {D : Addr} (h : excB K D = true) : ExcC K D := by
  obtain ⟨h1, h⟩ := He.ba h
  obtain ⟨h2, h⟩ := He.ba h
  obtain ⟨h3, h⟩ := He.ba h
  obtain ⟨h4, h⟩ := He.ba h
  obtain ⟨h5, h⟩ := He.ba h
  obtain ⟨h6, h⟩ := He.ba h
  obtain ⟨h7, h8⟩ := He.ba h
  exact ⟨He.eqO_ok h1, He.eqO_ok h2, of_decide_eq_true h3, h4, He.eqO_ok h5, He.eqO_ok h6, of_decide_eq_true h7, of_decide_eq_true h8⟩
/-- the classes in the order in which _law_word asks for them -/
def clsN : List Str := (["Empty", "NoDeed", "NoHalf", "NoLinking", "NoNet", "NoNumber", "NoOffset", "NoQuestion", "NoRow", "NoSize", "NoStanding"] : List Str) ++ (["NoTable", "NoText", "NotParted", "NoTree", "NoTriple", "NoWay", "TooWide", "ByNought", "NoName", "NoPlace", "NothingDone"] : List Str)
def words : List Str := (["empty", "deed", "half", "linking", "net", "number", "offset", "question", "row", "size", "standing"] : List Str) ++ (["table", "text", "parted", "tree", "triple", "way", "wide", "nought", "name", "place", "done"] : List Str)
/-- of the 22 classes the at-th one alone is D's -/
def Kits (K : PySem.W.Frag) (D : Addr) (at_ : Nat) : Prop := clsN.map (fun x => PySem.W.kitOne K (.ref D) (.ref (He.ga K x))) = (List.range 22).map fun i => some (i == at_)
instance {K : PySem.W.Frag} {D : Addr} {n : Nat} : Decidable (Kits K D n) := inferInstanceAs (Decidable (_ = _))
theorem Kits.at {K : PySem.W.Frag} {D : Addr} {n : Nat} (h : Kits K D n) (i : Nat) {x : Str} (hx : clsN[i]? = some x) : PySem.W.kitOne K (.ref D) (.ref (He.ga K x)) = some (i == n) := by
  have e := congrArg (fun l : List (Option Bool) => l[i]?) h
  have hi : i < 22 := by
    obtain ⟨z, _⟩ := List.getElem?_eq_some_iff.mp hx
    exact Nat.lt_of_lt_of_eq z rfl
  simp only [List.getElem?_map, hx, Option.map_some] at e
  rw [List.getElem?_range hi] at e
  exact Option.some.inj e
structure Kind (K : PySem.W.Frag) (D : Addr) (n : Nat) : Prop where
  ec : ExcC K D
  kits : Kits K D n
  te : PySem.W.kitOne K (.ref D) (.ref (He.ga K "TurnError")) = some (decide (n < 18))
  ve : PySem.W.kitOne K (.ref D) (.type "ValueError") = some (decide (n < 18))
def excAll (K : PySem.W.Frag) (x : Str) (n : Nat) : Bool := excB K (He.ga K x) && (decide (Kits K (He.ga K x) n) && (decide (PySem.W.kitOne K (.ref (He.ga K x)) (.ref (He.ga K "TurnError")) = some (decide (n < 18))) && (decide (PySem.W.kitOne K (.ref (He.ga K x)) (.type "ValueError") = some (decide (n < 18))) &&
  decide (PySem.W.exmAny K (.ref (He.ga K x)) [.ref (He.ga K "TurnError")] = some (decide (n < 18))))))
theorem excAll_ok {K : PySem.W.Frag} {x : Str} {n : Nat} (h : excAll K x n = true) : Kind K (He.ga K x) n ∧ PySem.W.exmAny K (.ref (He.ga K x)) [.ref (He.ga K "TurnError")] = some (decide (n < 18)) := by
  obtain ⟨h1, h⟩ := He.ba h
  obtain ⟨h2, h⟩ := He.ba h
  obtain ⟨h3, h⟩ := He.ba h
  obtain ⟨h4, h5⟩ := He.ba h
  exact ⟨⟨excB_ok h1, of_decide_eq_true h2, of_decide_eq_true h3, of_decide_eq_true h4⟩, of_decide_eq_true h5⟩
end TCX
namespace TC
open PySem PySem.Spec PyProof.Rows L2 TCX
/-! the text by places -/
def top (i : Nat) : Stmt := PySem.Challenge.pw_turncouple_k09_offsets_and_sizes.main.body.getD i (.Pass ⟨0, 0, 0, 0⟩)
abbrev sWhole : Stmt := top 25
abbrev sOdd : Stmt := top 26
abbrev sOffsets : Stmt := top 29
abbrev sMayJoin : Stmt := top 30
abbrev sSizesOf : Stmt := top 31
abbrev sIsSize : Stmt := top 32
abbrev sNeed : Stmt := top 33
abbrev sCanJoin : Stmt := top 34
abbrev sPen : Stmt := top 36
abbrev sDraw : Stmt := top 37
abbrev sWord : Stmt := top 38
abbrev sSaid : Stmt := top 39
abbrev sSizeL : Stmt := top 40
abbrev sFits : Stmt := top 41
abbrev sThird : Stmt := top 42
abbrev sOddL : Stmt := top 43
abbrev sAny : Stmt := top 44
abbrev sRef : Stmt := top 45
abbrev sLaw : Stmt := top 46
abbrev FnP (K : PySem.W.Frag) (x : Str) (st : Stmt) (f : Addr) (fd : FuncData) : Prop := FunD K x x (defArgs st) (defBody st) (defScope st) [] [] f fd
def dd (x : Str) (st : Stmt) : He.DefD := ⟨(x, none), x, x, defArgs st, defBody st, defScope st, [], []⟩
def fn : List He.DefD := ([dd "is_whole" sWhole, dd "is_odd" sOdd, dd "offsets" sOffsets, dd "may_join" sMayJoin, dd "sizes_of" sSizesOf, dd "is_size" sIsSize, dd "need_sizes" sNeed, dd "can_join" sCanJoin, dd "_law_pen" sPen, dd "_law_draw" sDraw, dd "_law_word" sWord, dd "_law_said" sSaid, dd "_law_size" sSizeL, dd "_law_fits" sFits, dd "_law_third" sThird, dd "_law_odd" sOddL] : List He.DefD) ++ ([dd "_law_any_three" sAny, dd "_law_refused_right" sRef, dd "law" sLaw] : List He.DefD)
def fa : List He.Fa := ([.glo "TurnError", .glo "NoNumber", .glo "NoSize", .glo "NoOffset", .glo "NoTriple", .glo "NoTable", .glo "TooWide", .glo "NoNet", .glo "NoRow", .glo "NoStanding", .glo "NoTree", .glo "NoWay", .glo "NoHalf", .glo "NoLinking", .glo "NoDeed", .glo "NoQuestion"] : List He.Fa) ++ ([.glo "Empty", .glo "NotParted", .glo "NoText", .glo "NoName", .glo "NoPlace", .glo "ByNought", .glo "NothingDone", .glo "is_whole", .glo "is_odd", .glo "offsets", .glo "may_join", .glo "sizes_of", .glo "is_size", .glo "need_sizes", .glo "can_join", .glo "_law_pen"] : List He.Fa) ++ ([.glo "_law_draw", .glo "_law_word", .glo "_law_said", .glo "_law_size", .glo "_law_fits", .glo "_law_third", .glo "_law_odd", .glo "_law_any_three", .glo "_law_refused_right", .glo "law", .int "HIGHEST_SIZE" 40, .exc "NoSize", .free "isinstance", .free "int", .free "bool", .free "abs"] : List He.Fa) ++ ([.free "min", .free "max", .free "list", .free "range", .free "len", .free "repr", .free "ValueError"] : List He.Fa)
def exB (K : PySem.W.Frag) : Bool := excAll K "NoSize" 9
def tf : List He.Defn := [("_law_refused_right", none)]
def hk : PySem.W.Hook := He.hookX 5 fa fn [] tf exB
abbrev R : PySem.W.OpenRow := PySem.W.OpenLaw.row PySem.Challenge.rw_turncouple_k09_offsets_and_sizes
def ob (s : PySem.W.SharedT) : He.AlX := He.obsX 5 fa fn [] tf exB (HandSHeadRun.getT s)
theorem ob_eq (s : PySem.W.SharedT) : ob s = hk.obs s.abs := He.obsX_eq (s := s.abs) (HandSHeadRun.getT_eq s)
def loose : List PySem.Str := (["TurnError", "NoNumber", "NoSize", "NoOffset", "NoTriple", "NoTable", "TooWide", "NoNet", "NoRow", "NoStanding", "NoTree", "NoWay", "NoHalf", "NoLinking", "NoDeed", "NoQuestion"] : List PySem.Str) ++ (["Empty", "NotParted", "NoText", "NoName", "NoPlace", "ByNought", "NothingDone", "is_whole", "is_odd", "HIGHEST_SIZE", "offsets", "may_join", "sizes_of", "is_size", "need_sizes", "can_join"] : List PySem.Str) ++ (["_law_pen", "_law_draw", "_law_word", "_law_said", "_law_size", "_law_fits", "_law_third", "_law_odd", "_law_any_three", "_law_refused_right"] : List PySem.Str)
end TC
namespace TC
open PySem PySem.Spec PyProof.Rows L2
theorem run (w : World) : HandSHeadRun.RunEq R (PySem.W.view R.prog [46]) hk ob 30000 loose w := by
  intro os
  kernel_rfl
end TC
/-! The mathematics, in plain Lean. -/
namespace TCM
/-! ### the greatest common divisor, by steps with Python's remainder -/
theorem gcd_fmod (a b : Int) : Int.gcd b (a.fmod b) = Int.gcd a b := by
  have e : a.fmod b = a - b * a.fdiv b := by
    have := Int.fmod_add_mul_fdiv a b
    omega
  rw [e, Int.gcd_comm a b]
  apply Nat.dvd_antisymm
  · refine Int.dvd_gcd (Int.gcd_dvd_left ..) ?_
    have h1 : ((Int.gcd b (a - b * a.fdiv b) : Nat) : Int) ∣ b := Int.gcd_dvd_left ..
    have h2 : ((Int.gcd b (a - b * a.fdiv b) : Nat) : Int) ∣ a - b * a.fdiv b := Int.gcd_dvd_right ..
    have h3 := Int.dvd_add h2 (Int.dvd_mul_of_dvd_left (c := a.fdiv b) h1)
    have e2 : a - b * a.fdiv b + b * a.fdiv b = a := by omega
    rw [e2] at h3
    exact h3
  · refine Int.dvd_gcd (Int.gcd_dvd_left ..) ?_
    have h1 : ((Int.gcd b a : Nat) : Int) ∣ b := Int.gcd_dvd_left ..
    have h2 : ((Int.gcd b a : Nat) : Int) ∣ a := Int.gcd_dvd_right ..
    exact Int.dvd_sub h2 (Int.dvd_mul_of_dvd_left (c := a.fdiv b) h1)
theorem fmod_lt (a b : Int) (h : b ≠ 0) : (a.fmod b).natAbs < b.natAbs := by
  rcases Int.lt_or_gt_of_ne h with hb | hb
  · have h1 : a.fmod b = a % b + if 0 ≤ b ∨ b ∣ a then 0 else b := Int.fmod_eq_emod
    have := Int.emod_nonneg a h
    have := Int.emod_lt_of_pos a (b := -b) (by omega)
    rw [Int.emod_neg] at this
    rw [h1]
    split
    · omega
    · rename_i z
      have : a % b ≠ 0 := fun e => z (.inr (Int.dvd_of_emod_eq_zero e))
      omega
  · have h1 := Int.fmod_nonneg_of_pos a hb
    have h2 := Int.fmod_lt_of_pos a hb
    omega
theorem abs_eq (i : Int) : (if i < 0 then -i else i) = ((i.natAbs : Nat) : Int) := by
  split <;> omega
/-! ### a fraction in lowest terms -/
def sgn (t b : Int) : Int := if b < 0 then -((Int.gcd t b : Nat) : Int) else ((Int.gcd t b : Nat) : Int)
def low (t b : Int) : Int × Int := (t.fdiv (sgn t b), b.fdiv (sgn t b))
/-- as the law says it -/
def lowL (t b : Int) : Int × Int := if 0 < b then (t.fdiv ((Int.gcd t b : Nat) : Int), b.fdiv ((Int.gcd t b : Nat) : Int)) else ((-t).fdiv ((Int.gcd t b : Nat) : Int), (-b).fdiv ((Int.gcd t b : Nat) : Int))
theorem low_eq (t b : Int) (h : b ≠ 0) : low t b = lowL t b := by
  unfold low lowL sgn
  by_cases hb : b < 0
  · rw [if_pos hb, if_neg (by omega)]
    have e1 := Int.neg_fdiv_neg (-t) ((Int.gcd t b : Nat) : Int)
    have e2 := Int.neg_fdiv_neg (-b) ((Int.gcd t b : Nat) : Int)
    rw [Int.neg_neg] at e1 e2
    rw [e1, e2]
  · rw [if_neg hb, if_pos (by omega)]
theorem gcd_pos (t b : Int) (h : b ≠ 0) : 0 < Int.gcd t b := by
  have : Int.gcd t b ≠ 0 := fun e => h (Int.gcd_eq_zero_iff.mp e).2
  omega
theorem gcd_le (t b : Int) (h : b ≠ 0) : Int.gcd t b ≤ b.natAbs := by
  show Nat.gcd t.natAbs b.natAbs ≤ b.natAbs
  exact Nat.gcd_le_right _ (by omega)
theorem sgn_ne (t b : Int) (h : b ≠ 0) : sgn t b ≠ 0 := by
  have := gcd_pos t b h
  unfold sgn
  split <;> omega
theorem sgn_abs (t b : Int) : (sgn t b).natAbs = Int.gcd t b := by
  unfold sgn
  split <;> omega
/-- the quotients are no larger -/
theorem fdiv_abs (t d : Int) (h : d ≠ 0) (hd : d ∣ t) : (t.fdiv d).natAbs ≤ t.natAbs := by
  obtain ⟨k, rfl⟩ := hd
  rw [Int.mul_fdiv_cancel_left k h, Int.natAbs_mul]
  exact Nat.le_mul_of_pos_left _ (by omega)
theorem sgn_dvd (t b : Int) : sgn t b ∣ t ∧ sgn t b ∣ b := by
  have h1 : ((Int.gcd t b : Nat) : Int) ∣ t := Int.gcd_dvd_left ..
  have h2 : ((Int.gcd t b : Nat) : Int) ∣ b := Int.gcd_dvd_right ..
  unfold sgn
  split
  · exact ⟨Int.neg_dvd.mpr h1, Int.neg_dvd.mpr h2⟩
  · exact ⟨h1, h2⟩
theorem low_abs (t b : Int) (h : b ≠ 0) : (low t b).1.natAbs ≤ t.natAbs ∧ (low t b).2.natAbs ≤ b.natAbs :=
  ⟨fdiv_abs t _ (sgn_ne t b h) (sgn_dvd t b).1, fdiv_abs b _ (sgn_ne t b h) (sgn_dvd t b).2⟩
theorem low_pos (t b : Int) (h : b ≠ 0) : 0 < (low t b).2 := by
  obtain ⟨k, hk⟩ := (sgn_dvd t b).2
  have hs := sgn_ne t b h
  have e : (low t b).2 = k := by
    show b.fdiv (sgn t b) = k
    rw [hk, ← hk]
    have e2 : b.fdiv (sgn t b) = (sgn t b * k).fdiv (sgn t b) := by rw [← hk]
    rw [e2]
    exact Int.mul_fdiv_cancel_left k hs
  rw [e]
  have g0 := gcd_pos t b h
  unfold sgn at hk
  by_cases hb : b < 0
  · rw [if_pos hb] at hk
    rcases Int.lt_trichotomy k 0 with z | z | z
    · exfalso
      have := Int.mul_nonneg_of_nonpos_of_nonpos (a := -((Int.gcd t b : Nat) : Int)) (b := k) (by omega) (by omega)
      omega
    · rw [z] at hk
      omega
    · exact z
  · rw [if_neg hb] at hk
    rcases Int.lt_trichotomy k 0 with z | z | z
    · exfalso
      have := Int.mul_nonneg (a := ((Int.gcd t b : Nat) : Int)) (b := -k) (by omega) (by omega)
      rw [Int.mul_neg] at this
      omega
    · rw [z] at hk
      omega
    · exact z
theorem low_one (t : Int) : low t 1 = (t, 1) := by
  unfold low sgn
  rw [if_neg (by decide), Int.gcd_one]
  show (t.fdiv 1, (1 : Int).fdiv 1) = (t, 1)
  rw [Int.fdiv_one]
  rfl
/-! ### squares taken out -/
/-- while n % (p * p) == 0: n //= p * p; o *= p -/
def whl : Nat → Int → Int → Int → Int × Int
  | 0, _, n, o => (n, o)
  | k + 1, p, n, o => if n % (p * p) = 0 then whl k p (n / (p * p)) (o * p) else (n, o)
/-- as squares_out goes on: over the primes, until 1 is left: (outside, inside, rest) -/
def sqL : List Int → Int → Int → Int → Int × Int × Int
  | [], n, o, i => (o, i, n)
  | p :: ps, n, o, i => if n = 1 then (o, i, n) else
    if (whl 10 p n o).1 % p = 0 then sqL ps ((whl 10 p n o).1 / p) (whl 10 p n o).2 (i * p) else sqL ps (whl 10 p n o).1 (whl 10 p n o).2 i
/-- as the law goes on: over all numbers -/
def fr : Nat → Int → Int → Int → Int × Int
  | 0, _, n, s => (s, n)
  | k + 1, p, n, s => if p * p ≤ n then fr k (p + 1) (whl 10 p n s).1 (whl 10 p n s).2 else (s, n)
theorem sq_div {n q : Int} (h0 : 0 < n) (hq : 4 ≤ q) (h : n % q = 0) : 0 < n / q ∧ n / q * 4 ≤ n ∧ n / q < n := by
  have e := Int.mul_ediv_add_emod n q
  rw [h, Int.add_zero] at e
  have h1 : 0 < n / q := by
    rcases Int.lt_or_le 0 (n / q) with z | z
    · exact z
    · have := Int.mul_le_mul_of_nonneg_left z (show 0 ≤ q by omega)
      rw [Int.mul_zero] at this
      omega
  have h2 : n / q * 4 ≤ n / q * q := Int.mul_le_mul_of_nonneg_left hq (by omega)
  rw [Int.mul_comm q] at e
  exact ⟨h1, by omega, by omega⟩
theorem pp4 {p : Int} (h : 2 ≤ p) : 4 ≤ p * p := by
  have := Int.mul_le_mul h h (by omega) (by omega)
  omega
theorem whl_ok : ∀ (k : Nat) (p n o : Int), 2 ≤ p → 0 < n → 0 < (whl k p n o).1 ∧ (whl k p n o).1 ≤ n
  | 0, p, n, o, _, h => ⟨h, Int.le_refl _⟩
  | k + 1, p, n, o, hp, h => by
    unfold whl
    split
    · rename_i z
      obtain ⟨a, b, c⟩ := sq_div h (pp4 hp) z
      obtain ⟨d, e⟩ := whl_ok k p (n / (p * p)) (o * p) hp a
      exact ⟨d, by omega⟩
    · exact ⟨h, Int.le_refl _⟩
/-- the loop's measure: whl with more fuel is the same -/
theorem whl_fuel : ∀ (k j : Nat) (p n o : Int), 2 ≤ p → 0 < n → n < 4 ^ k → whl (k + j) p n o = whl k p n o
  | 0, j, p, n, o, _, h, h2 => by
    have : n < 1 := h2
    omega
  | k + 1, j, p, n, o, hp, h, h2 => by
    rw [Nat.add_right_comm]
    show (if n % (p * p) = 0 then whl (k + j) p (n / (p * p)) (o * p) else (n, o)) = (if n % (p * p) = 0 then whl k p (n / (p * p)) (o * p) else (n, o))
    split
    · rename_i z
      obtain ⟨a, b, c⟩ := sq_div h (pp4 hp) z
      exact whl_fuel k j p _ _ hp a (by
        have e : (4 : Int) ^ (k + 1) = 4 ^ k * 4 := Int.pow_succ ..
        omega)
    · rfl
def primes : List Int := [2, 3, 5, 7, 11, 13, 17, 19, 23, 29, 31, 37, 41, 43, 47, 53, 59, 61, 67, 71, 73, 79, 83, 89, 97, 101, 103, 107, 109, 113, 127, 131, 137, 139, 149, 151, 157, 163, 167, 173, 179, 181, 191, 193, 197, 199, 211, 223, 227, 229, 233, 239, 241, 251, 257, 263, 269, 271, 277, 281, 283, 293, 307, 311, 313, 317, 331, 337, 347, 349, 353, 359, 367, 373, 379, 383, 389, 397, 401, 409, 419, 421, 431, 433, 439, 443, 449, 457, 461, 463, 467, 479, 487, 491, 499, 503, 509, 521, 523, 541, 547, 557, 563, 569, 571, 577, 587, 593, 599, 601, 607, 613, 617, 619, 631, 641, 643, 647, 653, 659, 661, 673, 677, 683, 691, 701, 709, 719, 727, 733, 739, 743, 751, 757, 761, 769, 773, 787, 797, 809, 811, 821, 823, 827, 829, 839, 853, 857, 859, 863, 877, 881, 883, 887, 907, 911, 919, 929, 937, 941, 947, 953, 967, 971, 977, 983, 991, 997]
def sqOut (n : Int) : Int × Int × Int := if n = 0 then (0, 1, 1) else sqL primes n 1 1
def free (n : Int) : Int × Int := fr 1000 2 n 1
/-- the roots that the law takes -/
def chk (r : Int) : Bool := match sqOut r, free r with
  | (o, i, m), (s, f) => decide (m = 1) && (decide (0 ≤ o) && (decide (o ≤ 1000) && (decide (1 ≤ i) && (decide (i ≤ 1000000) && (decide (r = 0) || (decide (0 < o) && (decide (s = o) && decide (f = i))))))))
def some11 : List Int := [0, 1, 4, 12, 997, 997 * 997, 2 ^ 19, 510510, 720720, 1000000, 30 * 30 * 7]
theorem chk_11 : some11.all chk = true := by decide +kernel
theorem chk_900 : (List.range 900).all (fun k => chk (1 + (k : Int))) = true := by decide +kernel
def Ok (r : Int) : Prop := 0 ≤ r ∧ r ≤ 1000000 ∧ chk r = true
theorem ok_11 {r : Int} (h : r ∈ some11) : Ok r := by
  refine ⟨?_, ?_, List.all_eq_true.mp chk_11 r h⟩
  · revert r; decide
  · revert r; decide
theorem ok_900 {d : Int} (h0 : 0 ≤ d) (h1 : d < 900) : Ok (1 + d) := by
  refine ⟨by omega, by omega, ?_⟩
  have := List.all_eq_true.mp chk_900 d.toNat (List.mem_range.mpr (by omega))
  rw [Int.toNat_of_nonneg h0] at this
  exact this
theorem Ok.all {r : Int} (h : Ok r) : (sqOut r).2.2 = 1 ∧ 0 ≤ (sqOut r).1 ∧ (sqOut r).1 ≤ 1000 ∧ 1 ≤ (sqOut r).2.1 ∧ (sqOut r).2.1 ≤ 1000000 ∧ (r ≠ 0 → 0 < (sqOut r).1 ∧ free r = ((sqOut r).1, (sqOut r).2.1)) := by
  obtain ⟨_, _, h⟩ := h
  unfold chk at h
  generalize sqOut r = a at h ⊢
  generalize free r = b at h ⊢
  obtain ⟨o, i, m⟩ := a
  obtain ⟨s, f⟩ := b
  simp only [Bool.and_eq_true, Bool.or_eq_true, decide_eq_true_eq] at h
  obtain ⟨h1, h2, h3, h4, h5, h6⟩ := h
  refine ⟨h1, h2, h3, h4, h5, fun hr => ?_⟩
  rcases h6 with h6 | ⟨h6, h7, h8⟩
  · exact absurd h6 hr
  · exact ⟨h6, by rw [h7, h8]⟩
/-- what exact comes to: no part, or one -/
def ex (top bottom root : Int) : Option (Int × Int × Int) :=
  if top * (sqOut root).1 = 0 then none else some ((sqOut root).2.1, (low (top * (sqOut root).1) bottom).1, (low (top * (sqOut root).1) bottom).2)
/-- what is due, as the law says it -/
def due (up under r : Int) : Option (Int × Int × Int) :=
  if up = 0 ∨ r = 0 then none else some ((free r).2, (lowL (up * (free r).1) under).1, (lowL (up * (free r).1) under).2)
theorem ex_due {t b r : Int} (hb : b ≠ 0) (h : Ok r) : ex t b r = due t b r := by
  obtain ⟨h1, h2, h3, h4, h5, h6⟩ := h.all
  unfold ex due
  by_cases hr : r = 0
  · subst hr
    rw [if_pos (show t * (sqOut 0).1 = 0 from Int.mul_zero _), if_pos (Or.inr rfl)]
  · obtain ⟨h7, h8⟩ := h6 hr
    rw [h8, ← low_eq _ _ hb]
    by_cases ht : t = 0
    · subst ht
      rw [if_pos (Int.zero_mul _), if_pos (Or.inl rfl)]
    · rw [if_neg (show ¬ t * (sqOut r).1 = 0 from fun e => by
        rcases Int.mul_eq_zero.mp e with e | e <;> omega), if_neg (show ¬ (t = 0 ∨ r = 0) by omega)]
theorem ok_one : Ok 1 := ok_11 (by decide)
theorem sq_one : sqOut 1 = (1, 1, 1) := by decide +kernel
theorem ex_one (t : Int) : ex t 1 1 = if t = 0 then none else some (1, t, 1) := by
  unfold ex
  rw [sq_one]
  show (if t * 1 = 0 then none else some ((1 : Int), (low (t * 1) 1).1, (low (t * 1) 1).2)) = _
  rw [Int.mul_one, low_one]
theorem ex_succ (t : Int) : ex t 1 1 ≠ ex (t + 1) 1 1 := by
  rw [ex_one, ex_one]
  split <;> split
  · omega
  · simp
  · simp
  · simp only [ne_eq, Option.some.injEq, Prod.mk.injEq, not_and]
    omega
end TCM
namespace TC
open PySem PySem.Spec PyProof.Rows L2 TCX
theorem iteNT {c A B : Prop} [Decidable c] (hc : ¬ c) (h : A) : if (!decide c) = true then A else B := by
  rw [decide_eq_false hc]
  exact iteT h
theorem iteD1 {c A B : Prop} [Decidable c] (hc : c) (h : A) : if decide c = true then A else B := by
  rw [decide_eq_true hc]
  exact iteT h
theorem iteD0 {c A B : Prop} [Decidable c] (hc : ¬ c) (h : B) : if decide c = true then A else B := by
  rw [decide_eq_false hc]
  exact iteF h
theorem iteB {b : Bool} {A B : Prop} (h1 : b = true → A) (h2 : b = false → B) : if b = true then A else B := by
  cases b
  · exact iteF (h2 rfl)
  · exact iteT (h1 rfl)
theorem ine {a b : Int} (h : a ≠ b) : ¬ (V.int a = V.int b) := fun e => h (V.int.inj e)
theorem same_upd {H : Hp} {p : Addr} {o : HO} (h : H p = none) : Same H (upd H p o) := fun b x e => by
  rw [upd_ne (ne_of_none e h)]
  exact e
theorem TyX.same {K : PySem.W.Frag} {H H' : Hp} {v : V} {t : Value} (h : TyX K H v t) (s : Same H H') : TyX K H' v t := by
  cases h with
  | base b =>
    cases b with
    | non => exact .base .non
    | bl y => exact .base (.bl y)
    | int i => exact .base (.int i)
    | str y => exact .base (.str y)
    | flt y => exact .base (.flt y)
    | lst e => exact .base (.lst (s _ _ e))
    | frz e => exact .base (.frz (s _ _ e))
    | tup e => exact .base (.tup (s _ _ e))
    | dK e => exact .base (.dK (s _ _ e))
    | dT e => exact .base (.dT (s _ _ e))
    | ins e cl ha hn htk hm => exact .base (.ins (s _ _ e) cl ha hn htk hm)
  | byt y => exact .byt y
  | set e => exact .set (s _ _ e)
  | kList e c => exact .kList e c
  | kTuple e c => exact .kTuple e c
  | kDict e c => exact .kDict e c
  | fTuple e => exact .fTuple (s _ _ e)
  | fDict e => exact .fDict (s _ _ e)
/-- no whole number -/
def NotInt (K : PySem.W.Frag) (H : Hp) (v : V) : Prop := ∃ (t : Value) (bi bb : Bool), TyX K H v t ∧ PySem.W.kitOne K t (.type "int") = some bi ∧ PySem.W.kitOne K t (.type "bool") = some bb ∧ (bi && !bb) = false
/-- whether v is a size -/
def Siz (K : PySem.W.Frag) (H : Hp) (v : V) (b : Bool) : Prop := (∃ n : Int, v = .int n ∧ b = (decide (0 ≤ n) && decide (n ≤ 40))) ∨ (b = false ∧ NotInt K H v)
theorem NotInt.same {K : PySem.W.Frag} {H H' : Hp} {v : V} (h : NotInt K H v) (s : Same H H') : NotInt K H' v := by
  obtain ⟨t, bi, bb, h1, h2⟩ := h
  exact ⟨t, bi, bb, TyX.same h1 s, h2⟩
theorem Siz.same {K : PySem.W.Frag} {H H' : Hp} {v : V} {b : Bool} (h : Siz K H v b) (s : Same H H') : Siz K H' v b := by
  rcases h with h | ⟨e, h⟩
  · exact .inl h
  · exact .inr ⟨e, h.same s⟩
theorem Siz.int {K : PySem.W.Frag} {H : Hp} {n : Int} (h0 : 0 ≤ n) (h1 : n ≤ 40) : Siz K H (.int n) true := .inl ⟨n, rfl, by rw [decide_eq_true h0, decide_eq_true h1]; rfl⟩
section
variable {P : Program} {w : World} {K : PySem.W.Frag} {mg : Str → Option Value} {base : Heap} {f : Addr} {fd : FuncData}
/-! ### is_whole -/
def spWhole (K : PySem.W.Frag) : Sp := fun vs H Q _ => (∃ n : Int, vs = [.int n] ∧ Q (.bl true) H) ∨ ∃ v, vs = [v] ∧ NotInt K H v ∧ Q (.bl false) H
theorem scWhole : FnScope ["thing"] ["thing"] (defScope sWhole) := ⟨rfl, rfl, rfl, by decide +kernel, rfl, by decide +kernel, by decide +kernel⟩
theorem ok_whole (F : FnP K "is_whole" sWhole f fd) (gI : mg "isinstance" = none) (gi : mg "int" = none) (gb : mg "bool" = none) : FnOk P w K mg base CX0 1 f fd ["thing"] (spWhole K) := by
  refine F.ok scWhole (fun vs H Q E h => ?_) (fun cdv A outer s H vs Q E hr h => ?_)
  · rcases h with ⟨n, rfl, _⟩ | ⟨v, rfl, _⟩ <;> rfl
  · refine ⟨_, PSs.nox (pss_one (ps_ret (pe_and (pe_callB call_isi (by rfl) gI (by decide +kernel) (pa_cons (pv 0) (pa_cons (pe_bltn (v := .ty "int") (by rfl) gi (by decide +kernel) rfl) pa_nil)))
      (pe_one (pe_not (pe_callB call_isi (by rfl) gI (by decide +kernel) (pa_cons (pv 0) (pa_cons (pe_bltn (v := .ty "bool") (by rfl) gb (by decide +kernel) rfl) pa_nil)))))))), ?_⟩
    rcases h with ⟨n, rfl, q⟩ | ⟨v, rfl, ⟨t, bi, bb, ty, ki, kb, e⟩, q⟩
    · refine ⟨_, rfl, _, _, _, _, true, rfl, .ty "int", .base (.int n), kit_ty (by decide +kernel), true, rfl, iteT ?_⟩
      exact ⟨_, rfl, _, _, _, _, false, rfl, .ty "bool", .base (.int n), kit_ty (by decide +kernel), false, rfl, q⟩
    · refine ⟨_, rfl, _, _, _, _, bi, rfl, .ty "int", ty, ki, bi, rfl, iteB (fun z => ?_) fun z => ?_⟩
      · subst z
        refine ⟨_, rfl, _, _, _, _, bb, rfl, .ty "bool", ty, kb, bb, rfl, ?_⟩
        have e2 : (!bb) = false := e
        rw [e2]
        exact q
      · exact q
/-! ### is_odd -/
def spOdd : Sp := fun vs H Q _ => ∃ n : Int, vs = [.int n] ∧ Q (.bl (decide (n % 2 = 1))) H
theorem scOdd : FnScope ["number"] ["number"] (defScope sOdd) := ⟨rfl, rfl, rfl, by decide +kernel, rfl, by decide +kernel, by decide +kernel⟩
theorem dec_int {a b : Int} : decide (V.int a = V.int b) = decide (a = b) := by
  by_cases h : a = b
  · rw [decide_eq_true h, decide_eq_true (congrArg V.int h)]
  · rw [decide_eq_false h, decide_eq_false (ine h)]
theorem ok_odd (F : FnP K "is_odd" sOdd f fd) : FnOk P w K mg base CX0 1 f fd ["number"] spOdd := by
  refine F.ok scOdd (fun vs H Q E h => ?_) (fun cdv A outer s H vs Q E hr h => ?_)
  · obtain ⟨n, rfl, _⟩ := h
    rfl
  · obtain ⟨n, rfl, q⟩ := h
    refine ⟨_, PSs.nox (pss_one (ps_ret (pe_cmpR op_eq (pe_op op_mod (pv 0) pe_int) pe_int (nomark _)))), ?_⟩
    refine ⟨_, rfl, n, 2, rfl, rfl, (show (0 : Int) < 2 by decide), rfl, ?_⟩
    rw [dec_int]
    exact q
/-! ### is_size -/
def spIsSize (K : PySem.W.Frag) : Sp := fun vs H Q _ => ∃ v b, vs = [v] ∧ Siz K H v b ∧ Q (.bl b) H
theorem scIsSize : FnScope ["thing"] ["thing"] (defScope sIsSize) := ⟨rfl, rfl, rfl, by decide +kernel, rfl, by decide +kernel, by decide +kernel⟩
theorem ok_isSize {fW : Addr} {fdW : FuncData} {t40 : Tok} (F : FnP K "is_size" sIsSize f fd) (GW : FnOk P w K mg base CX0 1 fW fdW ["thing"] (spWhole K)) (bW : L2.Binds K fdW ["thing"] []) (kW : PySem.W.keepIn K (.ref fW) = true) (gW : mg "is_whole" = some (.ref fW)) (gH : mg "HIGHEST_SIZE" = some (.int 40 t40)) :
    FnOk P w K mg base CX0 2 f fd ["thing"] (spIsSize K) := by
  refine F.ok scIsSize (fun vs H Q E h => ?_) (fun cdv A outer s H vs Q E hr h => ?_)
  · obtain ⟨v, b, rfl, _⟩ := h
    rfl
  · refine ⟨_, PSs.nox (pss_one (ps_ret (pe_and (pe_call GW hr (by rfl) gW kW bW .nil pass0 (pa_cons (pv 0) pa_nil))
      (pe_one (pe_chain op_le op_le pe_int (pv 0) (pe_glob (v := .int 40) (by rfl) gH ⟨_, rfl⟩)))))), ?_⟩
    obtain ⟨v, b, rfl, ⟨n, rfl, e⟩ | ⟨e, z⟩, q⟩ := h
    · refine ⟨_, rfl, .inl ⟨n, rfl, true, rfl, iteT ?_⟩⟩
      subst e
      refine ⟨_, rfl, 0, n, rfl, rfl, _, rfl, iteB (fun h => ?_) fun h => ?_⟩
      · rw [h] at q
        exact ⟨n, 40, rfl, rfl, q⟩
      · rw [h] at q
        exact q
    · subst e
      exact ⟨_, rfl, .inr ⟨v, rfl, z, false, rfl, iteF q⟩⟩
/-! ### need_sizes -/
def spNeed (K : PySem.W.Frag) (CS : Addr) : Sp := fun vs H Q E => ∃ (a : Addr) (xs : List V) (bs : List Bool), vs = [.ref a] ∧ SqL K H a xs ∧ Paired (Siz K H) xs bs ∧ (bs.all id = true → Q .non H) ∧ (bs.all id = false → E (.ref CS) none H)
theorem scNeed : FnScope ["things", "thing"] ["things"] (defScope sNeed) := ⟨rfl, rfl, rfl, by decide +kernel, rfl, by decide +kernel, by decide +kernel⟩
/-- what the program's text says of an exception class without fields -/
structure XTxt (K : PySem.W.Frag) (mg : Str → Option Value) (x : Str) (C : Addr) : Prop where
  g : mg x = some (.ref C)
  e : PySem.W.excIn K C He.veBase "ValueError.__new__" = true
  k : PySem.W.keepIn K (.ref C) = true
  b : PySem.W.subIn K (.ref C) (.type "BaseException") = some true
  t : PySem.W.typeIn K (.ref C) = some (.type "type")
theorem paired_at {α β : Type} {R : α → β → Prop} : ∀ {xs : List α} {ys : List β}, Paired R xs ys → ∀ (i : Nat) (x : α), xs[i]? = some x → ∃ y, ys[i]? = some y ∧ R x y
  | _, _, .nil, i, x, h => by cases h
  | _, _, .cons r t, 0, x, h => by
    cases h
    exact ⟨_, rfl, r⟩
  | _, _, .cons r t, i + 1, x, h => paired_at t i x h
theorem paired_len {α β : Type} {R : α → β → Prop} : ∀ {xs : List α} {ys : List β}, Paired R xs ys → xs.length = ys.length
  | _, _, .nil => rfl
  | _, _, .cons r t => congrArg (· + 1) (paired_len t)
theorem all_take {bs : List Bool} {i : Nat} {b : Bool} (h : (bs.take i).all id = true) (hb : bs[i]? = some b) (h2 : b = true) : (bs.take (i + 1)).all id = true := by
  rw [List.take_add_one, List.all_append, h, hb]
  subst h2
  rfl
theorem all_false {bs : List Bool} {i : Nat} (hb : bs[i]? = some false) : bs.all id = false := by
  refine List.all_eq_false.mpr ⟨false, List.mem_of_getElem? hb, fun z => Bool.noConfusion z⟩
theorem ok_need {fS CS : Addr} {fdS : FuncData} (F : FnP K "need_sizes" sNeed f fd) (GS : FnOk P w K mg base CX0 2 fS fdS ["thing"] (spIsSize K)) (bS : L2.Binds K fdS ["thing"] []) (kS : PySem.W.keepIn K (.ref fS) = true) (gS : mg "is_size" = some (.ref fS)) (T : XTxt K mg "NoSize" CS) :
    FnOk P w K mg base (L2.CX P w) 3 f fd ["things"] (spNeed K CS) := by
  refine F.ok scNeed (fun vs H Q E h => ?_) (fun cdv A outer s H vs Q E hr h => ?_)
  · obtain ⟨a, xs, bs, rfl, _⟩ := h
    rfl
  · obtain ⟨a, xs, bs, rfl, hS, hp, hq, he⟩ := h
    refine ⟨_, pss_one (ps_for (passes_of rfl) rfl (pi_list (pv 0)) (pg_name (i := 1) scNeed.nd rfl (.inl rfl))
      (pss_one (ps_if (pt_not (pt_val (pe_call GS hr (by rfl) gS kS bS .nil pass0 (pa_cons (pv 1) pa_nil))))
        (pss_one (ps_raise rfl (takes_of rfl rfl rfl rfl) (pmk_own PySem.F.excBase_ValueError T.e T.g T.k (raises_own T.b T.t) rfl))) pss_nil))), ?_⟩
    refine ⟨_, rfl, a, rfl, ⟨_, hS⟩, for_list (K := K) (a := a) (xs := xs) (fun i σ H' => (∃ y, σ = [some (.ref a), y]) ∧ H' = H ∧ (bs.take i).all id = true) ⟨⟨none, rfl⟩, rfl, rfl⟩ (fun i σ H' _ z => by rw [z.2.1]; exact hS) (fun i x σ H' hx z => ?_) (fun σ H' z => ?_)⟩
    · obtain ⟨⟨y, rfl⟩, rfl, hb⟩ := z
      obtain ⟨b, hbi, hs⟩ := paired_at hp i x hx
      refine ⟨_, rfl, x, b, rfl, hs, b, rfl, ?_⟩
      cases b with
      | true => exact iteF ⟨⟨_, rfl⟩, rfl, all_take hb hbi rfl⟩
      | false => exact iteT (he (all_false hbi))
    · obtain ⟨⟨y, rfl⟩, rfl, hb⟩ := z
      rw [paired_len hp, List.take_length] at hb
      exact hq hb
/-! ### can_join -/
def canJ (a b c : Int) : Bool := if (a + b + c) % 2 = 1 then false else decide (a ≤ b + c) && (decide (b ≤ a + c) && decide (c ≤ a + b))
def spCan : Sp := fun vs H Q _ => ∃ a b c : Int, vs = [.int a, .int b, .int c] ∧ Q (.bl (canJ a b c)) H
theorem scCan : FnScope ["one", "other", "third"] ["one", "other", "third"] (defScope sCanJoin) := ⟨rfl, rfl, rfl, by decide +kernel, rfl, by decide +kernel, by decide +kernel⟩
theorem ok_can {fO : Addr} {fdO : FuncData} (F : FnP K "can_join" sCanJoin f fd) (GO : FnOk P w K mg base CX0 1 fO fdO ["number"] spOdd) (bO : L2.Binds K fdO ["number"] []) (kO : PySem.W.keepIn K (.ref fO) = true) (gO : mg "is_odd" = some (.ref fO)) :
    FnOk P w K mg base CX0 2 f fd ["one", "other", "third"] spCan := by
  refine F.ok scCan (fun vs H Q E h => ?_) (fun cdv A outer s H vs Q E hr h => ?_)
  · obtain ⟨a, b, c, rfl, _⟩ := h
    rfl
  · obtain ⟨a, b, c, rfl, q⟩ := h
    refine ⟨_, PSs.nox (pss_cons (ps_if (pt_val (pe_call GO hr (by rfl) gO kO bO .nil pass0 (pa_cons (pe_op op_add (pe_op op_add (pv 0) (pv 1)) (pv 2)) pa_nil))) (pss_one (ps_ret pe_bl)) pss_nil)
      (pss_one (ps_ret (pe_and (pe_cmpR op_le (pv 0) (pe_op op_add (pv 1) (pv 2)) (nomark _)) (pe_and (pe_cmpR op_le (pv 1) (pe_op op_add (pv 0) (pv 2)) (nomark _)) (pe_one (pe_cmpR op_le (pv 2) (pe_op op_add (pv 0) (pv 1)) (nomark _)))))))), ?_⟩
    refine ⟨_, rfl, _, rfl, a, b, rfl, rfl, _, rfl, _, c, rfl, rfl, _, rfl, _, rfl, ?_⟩
    unfold canJ at q
    by_cases h : (a + b + c) % 2 = 1
    · rw [if_pos h] at q
      exact iteD1 h q
    · rw [if_neg h] at q
      refine iteD0 h ?_
      refine ⟨_, rfl, _, rfl, _, rfl, b, c, rfl, rfl, a, _, rfl, rfl, _, rfl, iteB (fun h1 => ?_) fun h1 => ?_⟩
      · rw [h1] at q
        refine ⟨_, rfl, _, rfl, _, rfl, a, c, rfl, rfl, b, _, rfl, rfl, _, rfl, iteB (fun h2 => ?_) fun h2 => ?_⟩
        · rw [h2] at q
          exact ⟨_, rfl, _, rfl, _, rfl, a, b, rfl, rfl, c, _, rfl, rfl, q⟩
        · rw [h2] at q
          exact q
      · rw [h1] at q
        exact q
end
end TC
namespace TC
open PySem PySem.Spec PyProof.Rows L2 TCX
section
variable {P : Program} {w : World} {K : PySem.W.Frag} {mg : Str → Option Value} {base : Heap} {f : Addr} {fd : FuncData}
/-- a new object p, all else as it was -/
def New (H : Hp) (p : Addr) (o : HO) (H' : Hp) : Prop := Same H H' ∧ H p = none ∧ H' p = some o
/-! ### offsets -/
def spOffs (K : PySem.W.Frag) (CS : Addr) : Sp := fun vs H Q E => ∃ (v : V) (b : Bool), vs = [v] ∧ Siz K H v b ∧ (b = false → ∀ H', Same H H' → E (.ref CS) none H') ∧ (∀ n : Int, v = .int n → b = true → ∀ p H', New H p (.lst (upV (-n) (n + 1).toNat)) H' → Q (.ref p) H')
theorem scOffs : FnScope ["size"] ["size"] (defScope sOffsets) := ⟨rfl, rfl, rfl, by decide +kernel, rfl, by decide +kernel, by decide +kernel⟩
theorem siz_int {K : PySem.W.Frag} {H : Hp} {v : V} (h : Siz K H v true) : ∃ n : Int, v = .int n ∧ 0 ≤ n ∧ n ≤ 40 := by
  rcases h with ⟨n, e, z⟩ | ⟨z, _⟩
  · obtain ⟨z1, z2⟩ := He.ba z.symm
    exact ⟨n, e, of_decide_eq_true z1, of_decide_eq_true z2⟩
  · cases z
theorem ok_offs {fN CS : Addr} {fdN : FuncData} (F : FnP K "offsets" sOffsets f fd) (GN : FnOk P w K mg base (L2.CX P w) 3 fN fdN ["things"] (spNeed K CS)) (bN : L2.Binds K fdN ["things"] []) (kN : PySem.W.keepIn K (.ref fN) = true) (gN : mg "need_sizes" = some (.ref fN)) (gl : mg "list" = none) (gr : mg "range" = none) :
    FnOk P w K mg base (L2.CX P w) 4 f fd ["size"] (spOffs K CS) := by
  refine F.ok scOffs (fun vs H Q E h => ?_) (fun cdv A outer s H vs Q E hr h => ?_)
  · obtain ⟨a, b, rfl, _⟩ := h
    rfl
  · obtain ⟨v, b, rfl, hv, he, hq⟩ := h
    refine ⟨_, pss_cons (ps_expr (pe_call GN hr (by rfl) gN kN bN .nil (passes_call (takes_of rfl rfl rfl rfl) fun _ _ _ _ z => z) (pa_cons (pe_lst (pa_cons (pv 0) pa_nil)) pa_nil)))
      (pss_one (ps_ret (pe_list2 rfl (by rfl) gl (by rfl) gr (pa_cons (pe_un un_neg (pv 0)) (pa_cons (pe_op op_add (pv 0) pe_int) (pa_cons pe_int pa_nil)))))), ?_⟩
    refine ⟨_, rfl, by show 1 ≤ sizeLine; decide, fun l hl => ⟨l, _, [b], rfl, SqL.of upd_same, .cons (hv.same (same_upd hl)) .nil, fun z => ?_, fun z => ?_⟩⟩
    · have hb : b = true := by simpa using z
      subst hb
      obtain ⟨n, rfl, n0, n1⟩ := siz_int hv
      refine ⟨_, rfl, n, rfl, _, rfl, n, 1, rfl, rfl, -n, n + 1, (n + 1).toNat, rfl, by omega, by omega, by omega, by omega, size2 (by omega) (by omega), fun p hp => ?_⟩
      exact hq n rfl rfl p _ ⟨(same_upd hl).trans (same_upd hp), (same_upd hl).free hp, upd_same⟩
    · have hb : b = false := by simpa using z
      exact he hb _ (same_upd hl)
/-! ### may_join -/
def spMay (K : PySem.W.Frag) (CS : Addr) : Sp := fun vs H Q E => ∃ (u v y : V) (a b c : Bool), vs = [u, v, y] ∧ Siz K H u a ∧ Siz K H v b ∧ Siz K H y c ∧ ((a && (b && c)) = false → ∀ H', Same H H' → E (.ref CS) none H') ∧
  (∀ n m k : Int, u = .int n → v = .int m → y = .int k → (a && (b && c)) = true → ∀ H', Same H H' → Q (.bl (canJ n m k)) H')
theorem scMay : FnScope ["one", "other", "third"] ["one", "other", "third"] (defScope sMayJoin) := ⟨rfl, rfl, rfl, by decide +kernel, rfl, by decide +kernel, by decide +kernel⟩
theorem ok_may {fN fC CS : Addr} {fdN fdC : FuncData} (F : FnP K "may_join" sMayJoin f fd) (GN : FnOk P w K mg base (L2.CX P w) 3 fN fdN ["things"] (spNeed K CS)) (bN : L2.Binds K fdN ["things"] []) (kN : PySem.W.keepIn K (.ref fN) = true) (gN : mg "need_sizes" = some (.ref fN))
    (GC : FnOk P w K mg base CX0 2 fC fdC ["one", "other", "third"] spCan) (bC : L2.Binds K fdC ["one", "other", "third"] []) (kC : PySem.W.keepIn K (.ref fC) = true) (gC : mg "can_join" = some (.ref fC)) :
    FnOk P w K mg base (L2.CX P w) 4 f fd ["one", "other", "third"] (spMay K CS) := by
  refine F.ok scMay (fun vs H Q E h => ?_) (fun cdv A outer s H vs Q E hr h => ?_)
  · obtain ⟨_, _, _, _, _, _, rfl, _⟩ := h
    rfl
  · obtain ⟨u, v, y, a, b, c, rfl, hu, hv, hy, he, hq⟩ := h
    refine ⟨_, pss_cons (ps_expr (pe_call GN hr (by rfl) gN kN bN .nil (passes_call (takes_of rfl rfl rfl rfl) fun _ _ _ _ z => z) (pa_cons (pe_lst (pa_cons (pv 0) (pa_cons (pv 1) (pa_cons (pv 2) pa_nil)))) pa_nil)))
      (pss_one (ps_ret (pe_call GC (hr.mono (by decide)) (by rfl) gC kC bC .nil (E := E0) pass0 (pa_cons (pv 0) (pa_cons (pv 1) (pa_cons (pv 2) pa_nil)))))), ?_⟩
    refine ⟨_, rfl, _, rfl, _, rfl, by show 3 ≤ sizeLine; decide, fun l hl => ⟨l, _, [a, b, c], rfl, SqL.of upd_same, .cons (hu.same (same_upd hl)) (.cons (hv.same (same_upd hl)) (.cons (hy.same (same_upd hl)) .nil)), fun z => ?_, fun z => ?_⟩⟩
    · have hb : (a && (b && c)) = true := by simpa using z
      obtain ⟨rfl, z2⟩ := He.ba hb
      obtain ⟨rfl, rfl⟩ := He.ba z2
      obtain ⟨n, rfl, _⟩ := siz_int hu
      obtain ⟨m, rfl, _⟩ := siz_int hv
      obtain ⟨k, rfl, _⟩ := siz_int hy
      exact ⟨_, rfl, _, rfl, _, rfl, n, m, k, rfl, hq n m k rfl rfl rfl rfl _ (same_upd hl)⟩
    · have hb : (a && (b && c)) = false := by
        cases a <;> cases b <;> cases c <;> first | rfl | cases z
      exact he hb _ (same_upd hl)
/-! ### sizes_of -/
/-- how many sizes two join to -/
def manyJ (n m : Int) : Nat := (((if 40 < n + m then 40 else n + m) + 1 - (if n - m < 0 then -(n - m) else n - m) - 1) / 2 + 1).toNat
def spSizes (K : PySem.W.Frag) (CS : Addr) : Sp := fun vs H Q E => ∃ (u v : V) (a b : Bool), vs = [u, v] ∧ Siz K H u a ∧ Siz K H v b ∧ ((a && b) = false → ∀ H', Same H H' → E (.ref CS) none H') ∧
  (∀ n m : Int, u = .int n → v = .int m → (a && b) = true → ∀ p H', New H p (.lst (upV (if n - m < 0 then -(n - m) else n - m) (manyJ n m))) H' → Q (.ref p) H')
theorem scSizes : FnScope ["one", "other"] ["one", "other"] (defScope sSizesOf) := ⟨rfl, rfl, rfl, by decide +kernel, rfl, by decide +kernel, by decide +kernel⟩
theorem ok_sizes {fN CS : Addr} {fdN : FuncData} {t40 : Tok} (F : FnP K "sizes_of" sSizesOf f fd) (GN : FnOk P w K mg base (L2.CX P w) 3 fN fdN ["things"] (spNeed K CS)) (bN : L2.Binds K fdN ["things"] []) (kN : PySem.W.keepIn K (.ref fN) = true) (gN : mg "need_sizes" = some (.ref fN)) (gl : mg "list" = none) (gr : mg "range" = none)
    (ga : mg "abs" = none) (gm : mg "min" = none) (gH : mg "HIGHEST_SIZE" = some (.int 40 t40)) :
    FnOk P w K mg base (L2.CX P w) 4 f fd ["one", "other"] (spSizes K CS) := by
  refine F.ok scSizes (fun vs H Q E h => ?_) (fun cdv A outer s H vs Q E hr h => ?_)
  · obtain ⟨_, _, _, _, rfl, _⟩ := h
    rfl
  · obtain ⟨u, v, a, b, rfl, hu, hv, he, hq⟩ := h
    refine ⟨_, pss_cons (ps_expr (pe_call GN hr (by rfl) gN kN bN .nil (passes_call (takes_of rfl rfl rfl rfl) fun _ _ _ _ z => z) (pa_cons (pe_lst (pa_cons (pv 0) (pa_cons (pv 1) pa_nil))) pa_nil)))
      (pss_one (ps_ret (pe_list2 rfl (by rfl) gl (by rfl) gr (pa_cons (pe_callB call_abs (by rfl) ga (by decide +kernel) (pa_cons (pe_op op_sub (pv 0) (pv 1)) pa_nil))
        (pa_cons (pe_op op_add (pe_callB (call_min2 rfl) (by rfl) gm (by decide +kernel) (pa_cons (pe_op op_add (pv 0) (pv 1)) (pa_cons (pe_glob (v := .int 40) (by rfl) gH ⟨_, rfl⟩) pa_nil))) pe_int) (pa_cons pe_int pa_nil)))))), ?_⟩
    refine ⟨_, rfl, _, rfl, by show 2 ≤ sizeLine; decide, fun l hl => ⟨l, _, [a, b], rfl, SqL.of upd_same, .cons (hu.same (same_upd hl)) (.cons (hv.same (same_upd hl)) .nil), fun z => ?_, fun z => ?_⟩⟩
    · have hb : (a && b) = true := by simpa using z
      obtain ⟨rfl, rfl⟩ := He.ba hb
      obtain ⟨n, rfl, n0, n1⟩ := siz_int hu
      obtain ⟨m, rfl, m0, m1⟩ := siz_int hv
      refine ⟨_, rfl, _, rfl, n, m, rfl, rfl, n - m, rfl, _, rfl, _, rfl, n, m, rfl, rfl, n + m, 40, rfl, _, 1, rfl, rfl, _, _, manyJ n m, rfl, ?_, ?_, ?_, ?_, size2 ?_ ?_, fun p hp => ?_⟩
      · split <;> omega
      · split <;> omega
      · split <;> omega
      · split <;> omega
      · split <;> split <;> omega
      · unfold manyJ
        split <;> split <;> omega
      · exact hq n m rfl rfl rfl p _ ⟨(same_upd hl).trans (same_upd hp), (same_upd hl).free hp, upd_same⟩
    · have hb : (a && b) = false := by
        cases a <;> cases b <;> first | rfl | cases z
      exact he hb _ (same_upd hl)
end
end TC
/-! Rules of my own: == and != by an own __eq__ with either answer, str of an instance, enumerate of a tuple. -/
namespace TCA
open PySem PySem.Spec PyProof.Rows L2
/-! ### enumerate(tuple) -/
theorem meets_enum1 {v : Value} {o : Obj} {H : Heap → Prop} (B : Begins v o H) :
    Meets (Builtin.«enumerate.__new__» ⟨[.type "enumerate", v], []⟩) (fun _ R s => H s.heap ∧
      R (.ok (.ret (.ref (s.heap.push o).objs.size))) { s with heap := (s.heap.push o).push { cls := .type "enumerate", data := .fields #[.none, .bool false, .ref s.heap.objs.size, rawInt 0, .none, .none] } }) :=
  .of_wp fun prog w A R s h => by
    obtain ⟨hp, g, d, tk, os⟩ := s; obtain ⟨h1, h⟩ := h
    have hsub := sub_enumerate
    have q1 : ∀ {A' : Around} {E : Value → Shared → Prop} {Q : Value → Shared → Prop}, Q (.ref hp.objs.size) ⟨hp.push o, g, d, tk, os⟩ → wpAny (model prog w) A' (pyIter v) Q E ⟨hp, g, d, tk, os⟩ :=
      fun q => B.iter prog w _ _ ⟨hp, g, d, tk, os⟩ _ h1 q
    wp_walk using q1
    refine wpAny_stack_any fun st => wpAny_pure ?_
    split
    · rename_i c _ _ _ _ _
      cases (c == Value.type "enumerate")
      · wp_walk using q1
        exact ⟨_, rfl, h⟩
      · wp_walk using q1
        exact ⟨_, rfl, h⟩
    · wp_walk using q1
      exact ⟨_, rfl, h⟩
theorem enum_begins1 {prog : Program} {w : World} {A : Around} {E : Value → Shared → Prop} {s : Shared} {v : Value} {o : Obj} {H : Heap → Prop} {Q : Value → Shared → Prop} (B : Begins v o H) (h1 : H s.heap)
    (h : ∀ h', IsEnum h' (s.heap.objs.size + 1) s.heap.objs.size 0 .none → h'.get? s.heap.objs.size = some o → h'.objs.size = s.heap.objs.size + 2 →
      (∀ b o, s.heap.get? b = some o → h'.get? b = some o) → Q (.ref (s.heap.objs.size + 1)) { s with heap := h' }) :
    wpAny (model prog w) A (call (.type "enumerate") [v]) Q E s := by
  refine callType_new F.called_enumerate (by decide) (F.typeCall_enumerate_1 _) (F.newCall_enumerate_1 _) (fun obj => F.args_object_init_2 obj _) F.entry_enumerate_new
    (meets_enum1 B) ⟨h1, ?_⟩
  have hz : (s.heap.push o).objs.size = s.heap.objs.size + 1 := Heap.size_push ..
  show _ ∧ _
  rw [hz]
  have he : IsEnum ((s.heap.push o).push { cls := .type "enumerate", data := .fields #[.none, .bool false, .ref s.heap.objs.size, rawInt 0, .none, .none] }) (s.heap.objs.size + 1) s.heap.objs.size 0 .none := by
    have := Heap.get?_push_size (s.heap.push o) (o := { cls := .type "enumerate", data := .fields #[.none, .bool false, .ref s.heap.objs.size, rawInt 0, .none, .none] }) rfl
    rw [hz] at this; exact this
  refine ⟨⟨_, he, rfl⟩, h _ he (Heap.get?_push_of_some _ (Heap.get?_push_size _ B.free)) (by rw [Heap.size_push, hz]) fun b o x => Heap.get?_push_of_some _ (Heap.get?_push_of_some _ x)⟩
/-- the tuple at a of xs, each item in a new pair -/
def Iet (K : PySem.W.Frag) (a : Addr) (xs : List V) : It :=
  ⟨fun i H => i < xs.length ∧ SqT K H a xs, fun i H v H' => ∃ T x, v = .ref T ∧ H T = none ∧ H' = upd H T (.tup [.int (i : Nat), x]) ∧ xs[i]? = some x, fun i H => xs.length ≤ i ∧ SqT K H a xs⟩
theorem turn_enumT {P : Program} {w : World} {K : PySem.W.Frag} {elts : List Expr} {kk : Nat} {tpos : Pos} (a e it : Addr) (xs : List V) :
    Turn P w K (.Tuple elts kk tpos) (Iet K a xs) [e, it] e (fun i h => (∃ old, IsEnum h e it ((i : Nat) : Int) old) ∧ h.IsTupleIter it a i ∧ e ≠ it ∧ a ≠ it ∧ e ≠ a ∧ i ≤ xs.length) where
  mem := by simp
  obj := fun i h st b hb => by
    obtain ⟨⟨old, he⟩, ⟨o, ho, hc, hd⟩, _⟩ := st
    have e' : b = e ∨ b = it := by simpa using hb
    rcases e' with z | z
    · rw [z]; exact ⟨_, he, fun v q => nomatch q⟩
    · rw [z]; exact ⟨o, ho, fun v q => by rw [hd] at q; cases q⟩
  keep := fun i h h' st k => let ⟨⟨old, he⟩, hi, hne⟩ := st; ⟨⟨old, k e (by simp) _ he⟩, hi.at fun o q => k it (by simp) o q, hne⟩
  item := by
    intro X hP hw hK hc i pins s σ H E I hf st hg
    subst hP hw hK
    obtain ⟨⟨old, he⟩, hit, hne, hai, hea, hle⟩ := st
    obtain ⟨hlt, hq⟩ := hg
    obtain ⟨its, rv, p, hz⟩ := I.tuple hq
    have hl := rv.length
    have hel : e < s.heap.objs.size := Heap.lt_size he
    have hil : it < s.heap.objs.size := by obtain ⟨_, q, _⟩ := hit; exact Heap.lt_size q
    have hh : X.A.in1.handled = none := I.ok.hd hc
    have D := Draws.tuple (prog := X.prog) (w := X.w) hh it a hai its.toArray
    refine wpAny_pyNext_enum_itemD D he ⟨hit, p⟩ (by simp; omega) hne (by simp; exact ⟨hne, hea⟩) fun u h' tk hu ho hst hT hsz hk => ?_
    obtain ⟨hit', _⟩ := hst
    have hu2 : its[i]? = some u := by simpa using hu
    have hx : xs[i]? = some xs[i] := List.getElem?_eq_getElem hlt
    obtain ⟨u2, hu3, ru⟩ := rv.get hx
    have eu : u2 = u := Option.some.inj (hu3.symm.trans hu2)
    subst eu
    refine ⟨_, rfl, wpAny_letOwnedTupleGo_enum (s := { s with heap := h', toks := tk + 1 }) ho fun h'' he' sb => ?_⟩
    have hT2 : h''.get? s.heap.objs.size = some { cls := .type "tuple", data := .seq #[.int i tk, u2] } := (sb.2 _ (Nat.ne_of_gt hel)).trans hT
    have new : ObjOk X.prog X.w (upd H s.heap.objs.size (.tup [.int (i : Nat), xs[i]])) h'' s.heap.objs.size (.tup [.int (i : Nat), xs[i]]) :=
      ⟨by show 2 ≤ sizeLine; decide, [.int i tk, u2], .cons ⟨_, rfl⟩ (.cons ru .nil), ⟨_, hT2, rfl, _, rfl⟩⟩
    have I1 : Inv X pins σ (upd H s.heap.objs.size (.tup [.int (i : Nat), xs[i]])) { s with heap := h'', toks := tk + 1 } :=
      I.turnedNew (ch := [e, it]) (fun b ob hb q => (sb.2 b (fun z => hb (by simp [z]))).trans (hk b ob (fun z => hb (by simp [z])) (fun z => hb (by simp [z])) q)) hf (Nat.le_refl _) new
    refine ⟨.ref s.heap.objs.size, _, I1, rfl, ⟨_, xs[i], rfl, I.hok.fresh (Nat.le_refl _), rfl, hx⟩, ⟨⟨u2, ?_⟩, hit'.at fun o q => (sb.2 it (Ne.symm hne)).trans q, hne, hai, hea, hlt⟩, fun b hb => ?_⟩
    · have e1 : ((i + 1 : Nat) : Int) = (i : Int) + 1 := by omega
      rw [e1]; exact he'
    · have hb' : b < s.heap.objs.size := by
        have e' : b = e ∨ b = it := by simpa using hb
        rcases e' with z | z
        · rw [z]; exact hel
        · rw [z]; exact hil
      rw [upd_ne (Nat.ne_of_lt hb')]
      exact (hf b hb).1
  done := by
    intro X hP hw hK hc i pins s σ H E I hf st hg
    subst hP hw hK
    obtain ⟨⟨old, he⟩, hit, hne, hai, hea, hle⟩ := st
    obtain ⟨hge, hq⟩ := hg
    obtain ⟨its, rv, p, hz⟩ := I.tuple hq
    obtain ⟨f0, f1, f2, f3, f4, f5⟩ := hf it (by simp)
    have hl := rv.length
    have hh : X.A.in1.handled = none := I.ok.hd hc
    have D := Draws.tuple (prog := X.prog) (w := X.w) hh it a hai its.toArray
    have ei : i = its.toArray.size := by simp; omega
    subst ei
    exact wpAny_pyNext_enum_endD D he ⟨hit, p⟩ fun h' eb => ⟨rfl, I.turned (t' := s.toks) (fun b o hb q => eb b o hb q) f0 f1 f3 f4 f5⟩
  self := fun A i s Q E st h => let ⟨⟨_, he⟩, _⟩ := st; wpAny_pyIter_enum he h
def iEnumT (K : PySem.W.Frag) (ta : TA) : TI := fun σ H R => ta σ H fun vs H1 => ∃ a xs, vs = [.ref a] ∧ SqT K H1 a xs ∧ R (Iet K a xs) H1
theorem pi_enumT {X : Cx} {e : Expr} {ta : TA} {p pos tpos : Pos} {elts : List Expr} {kk : Nat} (hg : Gl X "enumerate") (hm : X.mg "enumerate" = none) (ha : PA X [e] ta) (hs : starEach [e] X.env = [(false, eval e X.env)] := by rfl) :
    PI X (.Tuple elts kk tpos) (.Call (.Name "enumerate" p) [e] [] pos) (iEnumT X.K ta) := by
  refine ⟨fun pins s σ H R I h => ?_⟩
  refine Call_ (ld_blt I hg hm boot_enumerate (PyProof.Rows.callWith_type1 (thn (ha.run pos pins s σ H _ I h) fun us s1 ⟨vs, H1, I1, r1, q1⟩ => ?_) hs rfl))
  obtain ⟨a, xs, ex, hq, q⟩ := q1
  subst ex
  cases r1 with
  | cons r rr =>
    cases rr
    cases r
    obtain ⟨its, rv, p', hz⟩ := I1.tuple hq
    have hal : a < s1.heap.objs.size := by obtain ⟨o, h1, _⟩ := p'; exact Heap.lt_size h1
    refine enum_begins1 (begins_tuple a its.toArray) p' fun h' he hit hsz hk => wpAny_pyIter_enum he ?_
    have I2 : Inv X pins σ H1 { s1 with heap := h' } := I1.kept (t' := s1.toks) hk
    refine ⟨s1.heap.objs.size + 1, [s1.heap.objs.size + 1, s1.heap.objs.size], _, _, H1, rfl, I2, turn_enumT a (s1.heap.objs.size + 1) s1.heap.objs.size xs, ⟨⟨.none, he⟩, ⟨_, hit, rfl, rfl⟩, Nat.succ_ne_self _, Nat.ne_of_lt hal, Nat.ne_of_gt (Nat.lt_succ_of_lt hal), Nat.zero_le _⟩, fun b hb => ?_, q⟩
    have e' : b = s1.heap.objs.size + 1 ∨ b = s1.heap.objs.size := by simpa using hb
    have hle : s1.heap.objs.size ≤ b := by
      rcases e' with z | z
      · rw [z]; exact Nat.le_add_right _ _
      · rw [z]; exact Nat.le_refl _
    exact I1.fpOk hle (I1.hok.fresh hle)
/-! ### == and != by an own __eq__ -/
section
variable {X : Cx} {CX : CXT} {n : Nat} {C f : Addr} {fd : FuncData} {ps : List Str} {sp : Sp} {E : XK}
/-- the own method runs somewhere below -/
theorem run_sub {A : Around} {pins : List (Addr × Obj)} {σ : L2.St} {H : Hp} {s : Shared} {Q : VK} {us : List Value} {vs : List V} (F : FnOk X.prog X.w X.K X.mg X.base CX n f fd ps sp) (hb : Binds X.K fd ps []) (hx : Passes CX X E)
    (sb : Sub X n A) (I : Inv X pins σ H s) (r : Vals vs us) (h : sp vs H Q E) : wpAny (model X.prog X.w) A (call (.ref f) us) (EP X pins σ Q) X.xe s := by
  have e0 : Env0 X.prog X.w X.K X.mg X.base A X.stack s H := by
    have e := I.env0
    exact ⟨by rw [sb.fr]; exact e.frames, e.mod, e.bs, e.bsz, e.funs, e.frf, e.hok, e.bare⟩
  have hl : us.length = ps.length := by rw [← r.length]; exact F.len _ _ _ _ h
  refine wpAny_call (codeAny_mono (F.run A X.stack s H ⟨us, []⟩ us vs Q E sb.room e0 (by
    have := hb s us I.kIn (by simpa using hl)
    simpa using this) r h) fun r s' hq => ?_)
  cases r with
  | error e => exact hx pins σ H s e s' I hq
  | ok fl =>
    cases fl with
    | ret w => exact I.after hq
    | next => exact False.elim hq
    | brk => exact False.elim hq
    | cont => exact False.elim hq
/-- x == y, x an instance of the class at C with an own __eq__ that hands back a truth -/
def rEqO (K : PySem.W.Frag) (C : Addr) (sp : Sp) (E : XK) : R2 := fun x y H Q => ∃ a dx fs t, x = .ref a ∧ H a = some (.ins C dx fs) ∧ TyX K H y t ∧ PySem.W.notFirst K C t = true ∧
  sp [x, y] H (fun v H' => ∃ b, v = .bl b ∧ Q (.bl b) H') E
theorem op_eqO (F : FnOk X.prog X.w X.K X.mg X.base CX n f fd ps sp) (hs : PySem.W.findIn X.K (.ref C) "__eq__" = some (some (.ref f))) (hf : PySem.W.isFn X.K (.ref f) = true) (hb : Binds X.K fd ps []) (hx : Passes CX X E)
    (hr : Room n X.A) : OpR X (compareOp .Eq) (rEqO X.K C sp E) := by
  intro pins s σ H x y v u Q I rx ry hq
  obtain ⟨a, dx, fs, t, rfl, ha, ty, nf, q⟩ := hq
  cases (show v = Value.ref a from rx)
  obtain ⟨mA, J, _⟩ := ins_get I.hok ha
  obtain ⟨od, J, _⟩ := J.look
  obtain ⟨m, hF⟩ := I.fr
  obtain ⟨Pz, Z, pz, _⟩ := kit_of I ry ty
  have hu : X.A.units < cLine := Nat.lt_of_succ_lt (hu_of hr)
  refine PySem.W.cmp_K (op := .Eq) (tb := t) hu hF I.ok.mod.kin J (Z.ty _ _ I.kIn pz) nf hs hf ?_
  refine wpAny_mono (run_sub F hb hx ⟨hr, rfl⟩ I (.cons rx (.cons ry .nil)) q) (fun r s' hz => ?_) fun _ _ z => z
  obtain ⟨z, H', I', rz, b, rfl, qb⟩ := hz
  cases (show r = Value.bool b from rz)
  exact ⟨.bl b, H', I', rfl, qb⟩
/-- x != y: the default __ne__ asks the own __eq__ -/
def rNeO (K : PySem.W.Frag) (C : Addr) (sp : Sp) (E : XK) : R2 := fun x y H Q => ∃ a dx fs t, x = .ref a ∧ H a = some (.ins C dx fs) ∧ TyX K H y t ∧ PySem.W.notFirst K C t = true ∧
  sp [x, y] H (fun v H' => ∃ b, v = .bl b ∧ Q (.bl (!b)) H') E
theorem ifBound_B {M : Model} {A : Around} {E : Value → Shared → Prop} {s : Shared} {K : PySem.W.Frag} {x C : Addr} {ox : Obj} {od : Option Obj} {name : Str} {id : String} {args : List Value} {Q : Option Value → Shared → Prop} (X : K.In s.heap) (I : PySem.W.InstAt s.heap x ox C od)
    (hs : PySem.W.findIn K (.ref C) name = some (some (.builtin id))) (hb : ∀ self, bindSpecial (.builtin id) self = pure (.builtin id, [self]))
    (h : wpAny M A (call (.builtin id) (.ref x :: args)) (fun v => Q (some v)) E s) : wpAny M A (callSpecialIfBound? (.ref x) name args) Q E s := by
  simp only [callSpecialIfBound?, bindSpecialIfBound?]
  refine wpAny_holding (wpAny_bind (wpAny_bind (wpAny_bind (I.type.here ((PySem.W.looks_findIn X hs).here ?_)))))
  refine wpAny_bind (wpAny_askSetting (wpAny_ite ?_))
  have fin : wpAny M A (call (.builtin id) ([.ref x] ++ args) >>= fun v => pure (some v)) Q E s := wpAny_bind (wpAny_mono h (fun v s' h' => wpAny_pure h') fun _ _ h' => h')
  have L := (PySem.W.Looks.of_pure (M := M) (h := s.heap) (hb (.ref x)))
  split
  · exact wpAny_bind (L.here (wpAny_pure (by exact fin)))
  · exact wpAny_tryCatch (wpAny_bind (L.here (wpAny_pure (by exact fin))))
theorem op_neO (F : FnOk X.prog X.w X.K X.mg X.base CX n f fd ps sp) (hs : PySem.W.findIn X.K (.ref C) "__eq__" = some (some (.ref f))) (hf : PySem.W.isFn X.K (.ref f) = true) (hb : Binds X.K fd ps []) (hx : Passes CX X E)
    (hn : PySem.W.findIn X.K (.ref C) "__ne__" = some (some (.builtin "object.__ne__"))) (hm : PySem.W.mroIn X.K C (.type "object") = some true)
    (hr : Room (n + 1) X.A) : OpR X (compareOp .NotEq) (rNeO X.K C sp E) := by
  intro pins s σ H x y v u Q I rx ry hq
  obtain ⟨a, dx, fs, t, rfl, ha, ty, nf, q⟩ := hq
  cases (show v = Value.ref a from rx)
  obtain ⟨mA, J, _⟩ := ins_get I.hok ha
  obtain ⟨od, J, _⟩ := J.look
  obtain ⟨Pz, Z, pz, _⟩ := kit_of I ry ty
  have hu : X.A.units < cLine := Nat.lt_of_succ_lt (hu_of hr)
  have hu1 : X.A.in1.units < cLine := hu_of hr
  have K0 := I.kIn
  have run := run_sub F hb hx (A := X.A.in1) ⟨hr.in1, rfl⟩ I (.cons rx (.cons ry .nil)) q
  have one : wpAny (model X.prog X.w) X.A (tryCompare (.ref a) "__ne__" u) (fun r s' => ∃ v, r = some v ∧ EP X pins σ Q v s') X.xe s := by
    unfold tryCompare
    refine wpAny_bind (ifBound_B K0 J hn PySem.F.cmp_object.ne.bind ?_)
    refine wpAny_call (codeAny_call_builtin PySem.F.cmp_object.ne.plain PySem.F.cmpEntry_ne (PySem.W.check_slot (i := "object.__ne__") (owner := "object") (n := "__ne__") PySem.F.cmpKind_ne PySem.F.cmpSplit_ne (J.type.andThen (PySem.W.looks_mroIn K0 hm)) (PySem.F.cmpArgs_ne _ _) ?_))
    unfold Builtin.«object.__ne__»
    refine wpAny_bind (m := slotArgs "__ne__" 1 _) (wpAny_pure ?_)
    refine wpAny_bind (m := cRoomFor _ _) (wpAny_cRoomFor hu1 ?_)
    refine wpAny_bind (m := callSpecialIfBound? (.ref a) (Str.ofString "__eq__") _) (PySem.W.ifBound_K K0 J hs hf (wpAny_mono run (fun r s' hz => ?_) fun _ _ z => z))
    obtain ⟨z, H', I', rz, b, rfl, qb⟩ := hz
    cases (show r = Value.bool b from rz)
    refine wpAny_bind (wpAny_truthy_bool ?_)
    exact wpAny_pure (wpAny_pure ⟨_, rfl, .bl (!b), H', I', rfl, qb⟩)
  show wpAny (model X.prog X.w) X.A (richCompare .NotEq (.ref a) u) (EP X pins σ Q) X.xe s
  unfold richCompare
  simp only [oneThing_ref]
  refine wpAny_holding (wpAny_bind (wpAny_cRoomFor hu ?_))
  refine wpAny_bind (J.type.here (wpAny_bind ((Z.ty _ _ I.kIn pz).here ?_)))
  split
  · rename_i q2
    have e : PySem.W.subIn X.K t (.ref C) = some false := by
      rcases Bool.or_eq_true_iff.mp nf with e | e
      · rw [beq_iff_eq.mp e] at q2; simp at q2
      · exact beq_iff_eq.mp e
    refine wpAny_bind ((PySem.W.looks_subIn K0 e).here ?_)
    simp only [Bool.false_eq_true, if_false]
    refine wpAny_bind (wpAny_mono one (fun r s' z => ?_) fun _ _ e => e)
    obtain ⟨v, rfl, hq⟩ := z
    exact wpAny_pure hq
  · refine wpAny_bind (wpAny_pure ?_)
    simp only [Bool.false_eq_true, if_false]
    refine wpAny_bind (wpAny_mono one (fun r s' z => ?_) fun _ _ e => e)
    obtain ⟨v, rfl, hq⟩ := z
    exact wpAny_pure hq
/-! ### str(x) by an own __str__ -/
def rStrO (C : Addr) (sp : Sp) (E : XK) : List V → Hp → VK → Prop := fun xs H Q => ∃ a dx fs, xs = [.ref a] ∧ H a = some (.ins C dx fs) ∧ sp [.ref a] H (fun v H' => ∃ z, v = .str z ∧ Q (.str z) H') E
theorem call_strO (F : FnOk X.prog X.w X.K X.mg X.base CX n f fd ps sp) (hs : PySem.W.findIn X.K (.ref C) "__str__" = some (some (.ref f))) (hf : PySem.W.isFn X.K (.ref f) = true) (hb : Binds X.K fd ps []) (hx : Passes CX X E)
    (hr : Room (n + 2) X.A) : CallR X (.type "str") (rStrO C sp E) := by
  intro pins s σ H xs us Q I r hq
  obtain ⟨a, dx, fs, rfl, ha, q⟩ := hq
  obtain ⟨u, rfl, rx⟩ : ∃ u, us = [u] ∧ RelV (.ref a) u := by
    cases r with
    | cons r rr => cases rr; exact ⟨_, rfl, r⟩
  cases (show u = Value.ref a from rx)
  obtain ⟨mA, J, _⟩ := ins_get I.hok ha
  obtain ⟨od, J, _⟩ := J.look
  have hr2 : Room n X.A.in1.in1 := hr.in1.in1
  have hu : X.A.in1.in1.units < cLine := Nat.lt_of_succ_lt (hu_of hr2)
  refine PySem.W.kso_call hu I.kIn J hs hf ?_
  refine wpAny_mono (run_sub F hb hx (A := X.A.in1.in1) ⟨hr2, rfl⟩ I (.cons rx .nil) q) (fun r s' hz => ?_) fun _ _ z => z
  obtain ⟨z, H', I', rz, x, rfl, qb⟩ := hz
  obtain ⟨t, e⟩ := (show ∃ t, r = Value.str x t from rz)
  cases e
  exact ⟨.str x, H', I', ⟨t, rfl⟩, qb⟩
/-! ### // by a number of either sign -/
def CDivNW (_ j : Int) : Prop := j ≠ 0 ∧ j.natAbs.log2 < 9000
theorem op_fdivNW : OpR X (binaryOp .FloorDiv) (rI CDivNW fun i j => .int (i.fdiv j)) := opI fun _ _ _ _ _ _ _ hc q => floordiv_int hc.1 q (.inl (PyProof.noPylong_of_log2 hc.2))
end
end TCA
namespace TC
open PySem PySem.Spec PyProof.Rows L2 TCA TCX
section
variable {P : Program} {w : World} {K : PySem.W.Frag} {mg : Str → Option Value} {base : Heap} {f : Addr} {fd : FuncData}
/-! ### _law_pen -/
def spPen (K : PySem.W.Frag) : Sp := fun vs H Q _ => ∃ (a : Addr) (ns : List Int), vs = [.ref a] ∧ SqL K H a (ns.map V.int) ∧ ns.length ≤ 63 ∧
  ∀ (p c : Addr) (ms : List Int) H', Same H H' → H p = none → H' p = some (.lst [.ref c, .int 0, .int 0]) → H' c = some (.lst (ms.map V.int)) → p ≠ c → Q (.ref p) H'
theorem scPen : FnScope ["_law_script"] ["_law_script"] (defScope sPen) := ⟨rfl, rfl, rfl, by decide +kernel, rfl, by decide +kernel, by decide +kernel⟩
theorem ok_pen (F : FnP K "_law_pen" sPen f fd) (gl : mg "list" = none) : FnOk P w K mg base CX0 1 f fd ["_law_script"] (spPen K) := by
  refine F.ok scPen (fun vs H Q E h => ?_) (fun cdv A outer s H vs Q E hr h => ?_)
  · obtain ⟨a, ns, rfl, _⟩ := h
    rfl
  · obtain ⟨a, ns, rfl, hS, hn, q⟩ := h
    refine ⟨_, PSs.nox (pss_one (ps_ret (pe_lst (pa_cons (pe_callTy call_list_of (by rfl) gl (by decide +kernel) (pa_cons (pe_slice sl_list (pv 0) po_none (po_some pe_int)) pa_nil)) (pa_cons pe_int (pa_cons pe_int pa_nil)))))), ?_⟩
    refine ⟨_, rfl, _, rfl, a, _, rfl, hS, fun c1 hc1 => ?_⟩
    have sm1 := same_upd (o := .lst (cutV (ns.map V.int) none (some 63))) hc1
    refine ⟨c1, _, rfl, .inl (SqL.of upd_same), fun c hc => ?_⟩
    have sm2 := same_upd (o := .lst (cutV (ns.map V.int) none (some 63))) hc
    refine ⟨by show 3 ≤ sizeLine; decide, fun p hp => ?_⟩
    have sm3 := same_upd (o := .lst [.ref c, .int 0, .int 0]) hp
    have ec : cutV (ns.map V.int) none (some 63) = ((ns.drop (HT.sIx (ns.map V.int).length 0 none)).take (HT.sIx (ns.map V.int).length (ns.map V.int).length (some 63) - HT.sIx (ns.map V.int).length 0 none)).map V.int := by
      rw [List.map_take, List.map_drop]
      rfl
    refine q p c ((ns.drop (HT.sIx (ns.map V.int).length 0 none)).take (HT.sIx (ns.map V.int).length (ns.map V.int).length (some 63) - HT.sIx (ns.map V.int).length 0 none)) _ ((sm1.trans sm2).trans sm3) ((sm1.trans sm2).free hp) upd_same ?_ ?_
    · rw [← ec]
      exact sm3 _ _ upd_same
    · exact fun e => by
        rw [e, upd_same] at hp
        cases hp
/-! ### _law_draw -/
/-- the pen: its cells at c, where it stands, what is left of a great cell -/
def PenAt (H : Hp) (p c : Addr) (ms : List Int) (n : Int) : Prop := ∃ left : Int, H p = some (.lst [.ref c, .int n, .int left]) ∧ H c = some (.lst (ms.map V.int)) ∧ p ≠ c
/-- all but the pen is as it was -/
def SameBut (p : Addr) (H H' : Hp) : Prop := ∀ b o, b ≠ p → H b = some o → H' b = some o
def spDraw : Sp := fun vs H Q _ => ∃ (p c : Addr) (ms : List Int) (n m : Int), vs = [.ref p, .int m] ∧ PenAt H p c ms n ∧ 0 ≤ n ∧ n ≤ 1000000 ∧ 0 < m ∧ m < 2 ^ 1000 ∧
  ∀ (d n' : Int) H', 0 ≤ d → d < m → n ≤ n' → n' ≤ n + 1 → PenAt H' p c ms n' → SameBut p H H' → Q (.int d) H'
theorem scDraw : FnScope ["_law_pen_here", "_law_many", "_law_found", "_law_at", "_law_cell", "_law_number"] ["_law_pen_here", "_law_many"] (defScope sDraw) := ⟨rfl, rfl, rfl, by decide +kernel, rfl, by decide +kernel, by decide +kernel⟩
theorem but_upd {p : Addr} {H H1 : Hp} {o : HO} (s : SameBut p H H1) : SameBut p H (upd H1 p o) := fun b x hb e => by
  rw [upd_ne hb]
  exact s b x hb e
set_option exponentiation.threshold 2000 in
theorem wdiv {i m : Int} (h : 0 < m) (h2 : m < 2 ^ 1000) : CDivW i m := ⟨h, Nat.lt_of_lt_of_le (PySem.Flt.log2_lt_of (show 0 < 1000 by decide) (show m.natAbs < 2 ^ 1000 by omega)) (by decide)⟩
theorem ok_draw (F : FnP K "_law_draw" sDraw f fd) (gl : mg "len" = none) : FnOk P w K mg base CX0 1 f fd ["_law_pen_here", "_law_many"] spDraw := by
  refine F.ok scDraw (fun vs H Q E h => ?_) (fun cdv A outer s H vs Q E hr h => ?_)
  · obtain ⟨p, c, ms, n, m, rfl, _⟩ := h
    rfl
  · obtain ⟨p, c, ms, n, m, rfl, ⟨left, hp, hc, hpc⟩, n0, n1, m0, m1, q⟩ := h
    refine ⟨_, PSs.nox (pss_cons (ps_if (pt_cmpR op_gt (pe_ix ix_list (pv 0) pe_int (fun _ _ => rfl)) pe_int (nomark _))
        (pss_cons (ps_set (i := 2) scDraw.nd rfl (.inl rfl) (pe_op op_mod (pe_ix ix_list (pv 0) pe_int (fun _ _ => rfl)) (pv 1)))
        (pss_cons (ps_asg (pe_op op_fdivW (pe_ix ix_list (pv 0) pe_int (fun _ _ => rfl)) (pv 1)) (pg_sub (pv 0) pe_int set_list))
        (pss_one (ps_ret (pv 2))))) pss_nil)
      (pss_cons (ps_set (i := 3) scDraw.nd rfl (.inl rfl) (pe_ix ix_list (pv 0) pe_int (fun _ _ => rfl)))
      (pss_cons (ps_asg (pe_op op_add (pv 3) pe_int) (pg_sub (pv 0) pe_int set_list))
      (pss_cons (ps_set (i := 4) scDraw.nd rfl (.inl rfl) pe_int)
      (C8.pss_cut (ps_if (pt_cmpR op_gt (pe_callB call_len_seq (by rfl) gl PySem.boot_len (pa_cons (pe_ix ix_list (pv 0) pe_int (fun _ _ => rfl)) pa_nil)) pe_int (nomark _))
        (pss_one (ps_set (i := 4) scDraw.nd rfl (.inl rfl) (pe_ix ix_list (pe_ix ix_list (pv 0) pe_int (fun _ _ => rfl)) (pe_op op_mod (pv 3) (pe_callB call_len_seq (by rfl) gl PySem.boot_len (pa_cons (pe_ix ix_list (pv 0) pe_int (fun _ _ => rfl)) pa_nil))) (fun _ _ => rfl)))) pss_nil)
      (C8.pss_cut (ps_if (PW.pt (pw_and (pt_cmpR op_lt (pv 3) (pe_callB call_len_seq (by rfl) gl PySem.boot_len (pa_cons (pe_ix ix_list (pv 0) pe_int (fun _ _ => rfl)) pa_nil)) (nomark _)) (pw_and1 (pt_cmpR op_ge (pv 4) (pe_op op_pow pe_int pe_int) (nomark _)))))
        (pss_cons (ps_asg (pe_op op_fdivW (pv 4) (pv 1)) (pg_sub (pv 0) pe_int set_list)) (pss_one (ps_ret (pe_op op_mod (pv 4) (pv 1))))) pss_nil)
      (pss_cons (ps_set (i := 5) scDraw.nd rfl (.inl rfl) (pe_op op_mod (pe_op op_mul (pe_op op_add (pe_op op_mod (pv 4) pe_int) pe_int) (pe_op op_add (pe_op op_add (pe_op op_mul (pv 3) (pv 3)) (pe_op op_mul pe_int (pv 3))) pe_int)) pe_int))
      (pss_cons (ps_set (i := 5) scDraw.nd rfl (.inl rfl) (pe_op op_mod (pe_op op_mul (pe_op op_mod (pe_op op_add (pe_op op_pow (pv 5) pe_int) (pe_op op_mul pe_int (pv 3))) pe_int) pe_int) pe_int))
      (C8.pss_cut (ps_if (pt_cmpR op_gt (pv 1) (pe_op op_pow pe_int pe_int) (nomark _))
        (pss_one (ps_set (i := 5) scDraw.nd rfl (.inl rfl) (pe_op op_add (pe_op op_mul (pv 5) pe_int) (pe_op op_mod (pe_op op_mul (pe_op op_mod (pv 5) pe_int) pe_int) pe_int)))) pss_nil)
      (pss_one (ps_ret (pe_op op_mod (pe_op op_fdiv (pv 5) pe_int) (pv 1))))))))))))), ?_⟩
    have i2 : atI ([.ref c, .int n, .int left] : List V) 2 = some (.int left) := atI_nat (j := 2) rfl
    have i1 : atI ([.ref c, .int n, .int left] : List V) 1 = some (.int n) := atI_nat (j := 1) rfl
    refine ⟨_, rfl, p, _, 2, _, rfl, rfl, SqL.of hp, i2, left, 0, rfl, rfl, _, rfl, ?_⟩
    by_cases hl : 0 < left
    · refine iteD1 hl ?_
      refine ⟨_, rfl, p, _, 2, _, rfl, rfl, SqL.of hp, i2, _, rfl, left, m, rfl, rfl, m0, ?_⟩
      refine ⟨_, rfl, p, _, 2, _, rfl, rfl, SqL.of hp, i2, _, rfl, left, m, rfl, rfl, wdiv m0 m1, ?_⟩
      refine ⟨_, rfl, p, _, 2, 2, rfl, rfl, hp, rfl, ?_⟩
      refine ⟨_, rfl, ?_⟩
      exact q _ n _ (Int.emod_nonneg _ (by omega)) (Int.emod_lt_of_pos _ m0) (by omega) (by omega) ⟨left / m, upd_same, by rw [upd_ne hpc.symm]; exact hc, hpc⟩ (but_upd fun _ _ _ e => e)
    · refine iteD0 hl ?_
      refine ⟨_, rfl, p, _, 1, _, rfl, rfl, SqL.of hp, i1, ?_⟩
      refine ⟨_, rfl, n, 1, rfl, rfl, _, rfl, p, _, 1, 1, rfl, rfl, hp, rfl, ?_⟩
      have hp2u : (upd H p (.lst [.ref c, .int (n + 1), .int left])) p = some (.lst [.ref c, .int (n + 1), .int left]) := upd_same
      have hc2u : (upd H p (.lst [.ref c, .int (n + 1), .int left])) c = some (.lst (ms.map V.int)) := by
        rw [upd_ne hpc.symm]
        exact hc
      obtain ⟨H2, eH2⟩ : ∃ H2 : Hp, upd H p (.lst [.ref c, .int (n + 1), .int left]) = H2 := ⟨_, rfl⟩
      have hp2 : H2 p = some (.lst [.ref c, .int (n + 1), .int left]) := by
        rw [← eH2]
        exact hp2u
      have hc2 : H2 c = some (.lst (ms.map V.int)) := by
        rw [← eH2]
        exact hc2u
      have sb : SameBut p H H2 := by
        rw [← eH2]
        exact but_upd fun _ _ _ e => e
      have j0 : atI ([.ref c, .int (n + 1), .int left] : List V) 0 = some (.ref c) := atI_nat (j := 0) rfl
      refine ⟨fun σ H' => ∃ cell : Int, σ = [some (.ref p), some (.int m), none, some (.int n), some (.int cell), none] ∧ H' = H2, ?_, fun σ' H' hM => ?_⟩
      · refine ⟨_, rfl, p, _, 0, _, rfl, rfl, SqL.of hp2u, j0, c, _, rfl, .inl (SqL.of hc2u), _, 0, rfl, rfl, _, rfl, ite2 (fun e => ?_) (fun e => ?_)⟩
        · have e2 : 0 < ((ms.map V.int).length : Int) := of_decide_eq_true e
          rw [List.length_map] at e2
          have hk0 := Int.emod_nonneg n (show (ms.length : Int) ≠ 0 by omega)
          have hk1 := Int.emod_lt_of_pos n e2
          have hk : (n % (ms.length : Int)).toNat < ms.length := by omega
          refine ⟨_, rfl, p, _, 0, _, rfl, rfl, SqL.of hp2u, j0, _, rfl, _, rfl, p, _, 0, _, rfl, rfl, SqL.of hp2u, j0, c, _, rfl, .inl (SqL.of hc2u), n, _, rfl, rfl, by
            show 0 < ((ms.map V.int).length : Int)
            rw [List.length_map]
            exact e2, c, _, _, .int (ms[(n % (ms.length : Int)).toNat]), rfl, rfl, SqL.of hc2u, ?_, ?_⟩
          · rw [List.length_map]
            exact at_of (j := (n % (ms.length : Int)).toNat) (by omega) (by rw [List.getElem?_map, List.getElem?_eq_getElem hk]; rfl)
          · exact ⟨_, rfl, eH2⟩
        · exact ⟨7, rfl, eH2⟩
      · obtain ⟨cell, rfl, eM⟩ := hM
        replace eM := eM.symm
        subst eM
        refine ⟨fun σ H' => σ = [some (.ref p), some (.int m), none, some (.int n), some (.int cell), none] ∧ H' = H2, ?_, fun σ' H' hM => ?_⟩
        · refine ⟨_, rfl, _, rfl, p, _, 0, _, rfl, rfl, SqL.of hp2, j0, c, _, rfl, .inl (SqL.of hc2), n, _, rfl, rfl, _, rfl, ite2 (fun _ => ?_) (fun _ => iteF ⟨rfl, rfl⟩)⟩
          refine ⟨_, rfl, 10, 18, rfl, rfl, ⟨by decide, by decide, by decide⟩, cell, _, rfl, rfl, _, rfl, ite2 (fun _ => ?_) (fun _ => ⟨rfl, rfl⟩)⟩
          refine ⟨_, rfl, _, rfl, cell, m, rfl, rfl, wdiv m0 m1, _, rfl, p, _, 2, 2, rfl, rfl, hp2, rfl, ?_⟩
          refine ⟨_, rfl, _, rfl, cell, m, rfl, rfl, m0, ?_⟩
          exact q _ (n + 1) _ (Int.emod_nonneg _ (by omega)) (Int.emod_lt_of_pos _ m0) (by omega) (by omega) ⟨cell / m, upd_same, by rw [upd_ne hpc.symm]; exact hc2, hpc⟩ (but_upd sb)
        · obtain ⟨rfl, eM⟩ := hM
          replace eM := eM.symm
          subst eM
          have c0 := Int.emod_nonneg cell (show (2147483629 : Int) ≠ 0 by decide)
          have c1 := Int.emod_lt_of_pos cell (show (0 : Int) < 2147483629 by decide)
          refine ⟨_, rfl, cell, 2147483629, rfl, rfl, (show (0 : Int) < 2147483629 by decide), _, 11, rfl, rfl, _, rfl, _, rfl, n, n, rfl, rfl, .inl ⟨by omega, by omega⟩, _, rfl, 5, n, rfl, rfl, .inl ⟨by decide, by decide⟩, _, _, rfl, rfl, _, 3, rfl, rfl, _, _, rfl, rfl, .inl ⟨by omega, by omega⟩, _, 2147483647, rfl, rfl, (show (0 : Int) < 2147483647 by decide), ?_⟩
          have hz2 : ∀ z : Int, (z % 2147483647).natAbs < 2 ^ 64 := fun z => by
            have d0 := Int.emod_nonneg z (show (2147483647 : Int) ≠ 0 by decide)
            have d1 := Int.emod_lt_of_pos z (show (0 : Int) < 2147483647 by decide)
            omega
          refine ⟨_, rfl, _, 3, rfl, rfl, ⟨by decide, by decide, hz2 _⟩, _, rfl, 69621, n, rfl, rfl, .inl ⟨by decide, by decide⟩, _, _, rfl, rfl, _, 2147483587, rfl, rfl, (show (0 : Int) < 2147483587 by decide), _, 40692, rfl, rfl, .inr ⟨by decide, by decide⟩, _, 2147483399, rfl, rfl, (show (0 : Int) < 2147483399 by decide), ?_⟩
          refine ⟨fun σ H' => ∃ z : Int, σ = [some (.ref p), some (.int m), none, some (.int n), some (.int cell), some (.int z)] ∧ H' = H2, ?_, fun σ' H' hM => ?_⟩
          · refine ⟨_, rfl, 10, 6, rfl, rfl, ⟨by decide, by decide, by decide⟩, m, _, rfl, rfl, _, rfl, ite2 (fun _ => ?_) (fun _ => ⟨_, rfl, rfl⟩)⟩
            exact ⟨_, rfl, _, 2147483629, rfl, rfl, .inr ⟨by decide, by decide⟩, _, rfl, _, 1000003, rfl, rfl, (show (0 : Int) < 1000003 by decide), _, 48271, rfl, rfl, .inr ⟨by decide, by decide⟩, _, 2147483587, rfl, rfl, (show (0 : Int) < 2147483587 by decide), _, _, rfl, rfl, _, rfl, rfl⟩
          · obtain ⟨z, rfl, eM⟩ := hM
            replace eM := eM.symm
            subst eM
            refine ⟨_, rfl, z, 64, rfl, rfl, ⟨by decide, by decide⟩, _, rfl, _, m, rfl, rfl, m0, ?_⟩
            exact q _ (n + 1) _ (Int.emod_nonneg _ (by omega)) (Int.emod_lt_of_pos _ m0) (by omega) (by omega) ⟨left, hp2, hc2, hpc⟩ sb
end
theorem Same.but {H H' : Hp} {p : Addr} (s : Same H H') : SameBut p H H' := fun b o _ e => s b o e
theorem SameBut.trans {H H1 H2 : Hp} {p : Addr} (s : SameBut p H H1) (t : SameBut p H1 H2) : SameBut p H H2 := fun b o n e => t b o n (s b o n e)
theorem SameBut.refl {H : Hp} {p : Addr} : SameBut p H H := fun _ _ _ e => e
theorem SameBut.new {H H1 : Hp} {p q : Addr} {o : HO} (s : SameBut p H H1) (n : H1 q = none) : SameBut p H (upd H1 q o) := s.trans (Same.but (same_upd n))
theorem PenAt.same {H H' : Hp} {p c : Addr} {ms : List Int} {n : Int} (h : PenAt H p c ms n) (s : Same H H') : PenAt H' p c ms n := by
  obtain ⟨l, h1, h2, h3⟩ := h
  exact ⟨l, s _ _ h1, s _ _ h2, h3⟩
theorem PenAt.new {H : Hp} {p c q : Addr} {ms : List Int} {n : Int} {o : HO} (h : PenAt H p c ms n) (hq : H q = none) : PenAt (upd H q o) p c ms n := h.same (same_upd hq)
theorem PenAt.ne {H : Hp} {p c q : Addr} {ms : List Int} {n : Int} (h : PenAt H p c ms n) (hq : H q = none) : q ≠ p := by
  obtain ⟨l, h1, h2, h3⟩ := h
  exact fun e => by rw [e, h1] at hq; cases hq
end TC
namespace TC
open PySem PySem.Spec PyProof.Rows L2 TCX
/-- what _law_word reads of the module -/
structure WTxt (K : PySem.W.Frag) (mg : Str → Option Value) : Prop where
  g : ∀ (i : Nat) {x : Str}, clsN[i]? = some x → mg x = some (.ref (He.ga K x))
  gT : mg "TurnError" = some (.ref (He.ga K "TurnError"))
  gV : mg "ValueError" = none
  is : mg "isinstance" = none
section
variable {P : Program} {w : World} {K : PySem.W.Frag} {mg : Str → Option Value} {base : Heap} {f : Addr} {fd : FuncData}
/-! ### _law_word, of a class under TurnError -/
def spWord (K : PySem.W.Frag) : Sp := fun vs H Q _ => ∃ (a D : Addr) (n : Nat), vs = [.ref a] ∧ H a = some (ExV (.ref D) none a) ∧ Kind K D n ∧ n < 18 ∧ ∀ H', Same H H' → Q (.str (words.getD n "")) H'
theorem scWord : FnScope ["_law_e", "_law_words", "_law_some", "_law_at", "_law_under"] ["_law_e"] (defScope sWord) := ⟨rfl, rfl, rfl, by decide +kernel, rfl, by decide +kernel, by decide +kernel⟩
def bits (n : Nat) : List Bool := (List.range 22).map fun i => i == n
theorem bits_all : ∀ n, n < 22 → (((bits n).map V.bl).countP fun z => eqV z (.bl true)) = 1 ∧ (bits n)[n]? = some true ∧ (∀ m, m < n → (bits n)[m]? = some false) := by decide
theorem words_at : ∀ n, n < 22 → words[n]? = some (words.getD n "") := by decide
theorem ok_word (F : FnP K "_law_word" sWord f fd) (T : WTxt K mg) : FnOk P w K mg base CX0 1 f fd ["_law_e"] (spWord K) := by
  refine F.ok scWord (fun vs H Q E h => ?_) (fun cdv A outer s H vs Q E hr h => ?_)
  · obtain ⟨_, _, _, rfl, _⟩ := h
    rfl
  · obtain ⟨a, D, n, rfl, ha, kd, n18, q⟩ := h
    refine ⟨_, PSs.nox
    (pss_cons (ps_set (i := 1) scWord.nd rfl (.inl rfl) (pe_lst (pa_cons pe_str (pa_cons pe_str (pa_cons pe_str (pa_cons pe_str (pa_cons pe_str (pa_cons pe_str (pa_cons pe_str (pa_cons pe_str (pa_cons pe_str (pa_cons pe_str (pa_cons pe_str pa_nil)))))))))))))
    (C8.pss_cut (ps_set (i := 1) scWord.nd rfl (.inl rfl) (pe_op op_cat (pv 1) (pe_lst (pa_cons pe_str (pa_cons pe_str (pa_cons pe_str (pa_cons pe_str (pa_cons pe_str (pa_cons pe_str (pa_cons pe_str (pa_cons pe_str (pa_cons pe_str (pa_cons pe_str (pa_cons pe_str pa_nil))))))))))))))
    (C8.pss_cut (ps_set (i := 2) scWord.nd rfl (.inl rfl) (pe_lst (pa_cons (pe_callB call_isV (by rfl) T.is (by decide +kernel) (pa_cons (pv 0) (pa_cons (pe_glob (v := .ref (He.ga K "Empty")) (by rfl) (T.g 0 rfl) rfl) pa_nil))) (pa_cons (pe_callB call_isV (by rfl) T.is (by decide +kernel) (pa_cons (pv 0) (pa_cons (pe_glob (v := .ref (He.ga K "NoDeed")) (by rfl) (T.g 1 rfl) rfl) pa_nil))) (pa_cons (pe_callB call_isV (by rfl) T.is (by decide +kernel) (pa_cons (pv 0) (pa_cons (pe_glob (v := .ref (He.ga K "NoHalf")) (by rfl) (T.g 2 rfl) rfl) pa_nil))) (pa_cons (pe_callB call_isV (by rfl) T.is (by decide +kernel) (pa_cons (pv 0) (pa_cons (pe_glob (v := .ref (He.ga K "NoLinking")) (by rfl) (T.g 3 rfl) rfl) pa_nil))) pa_nil))))))
    (C8.pss_cut (ps_set (i := 2) scWord.nd rfl (.inl rfl) (pe_op op_cat (pv 2) (pe_lst (pa_cons (pe_callB call_isV (by rfl) T.is (by decide +kernel) (pa_cons (pv 0) (pa_cons (pe_glob (v := .ref (He.ga K "NoNet")) (by rfl) (T.g 4 rfl) rfl) pa_nil))) (pa_cons (pe_callB call_isV (by rfl) T.is (by decide +kernel) (pa_cons (pv 0) (pa_cons (pe_glob (v := .ref (He.ga K "NoNumber")) (by rfl) (T.g 5 rfl) rfl) pa_nil))) (pa_cons (pe_callB call_isV (by rfl) T.is (by decide +kernel) (pa_cons (pv 0) (pa_cons (pe_glob (v := .ref (He.ga K "NoOffset")) (by rfl) (T.g 6 rfl) rfl) pa_nil))) (pa_cons (pe_callB call_isV (by rfl) T.is (by decide +kernel) (pa_cons (pv 0) (pa_cons (pe_glob (v := .ref (He.ga K "NoQuestion")) (by rfl) (T.g 7 rfl) rfl) pa_nil))) pa_nil)))))))
    (C8.pss_cut (ps_set (i := 2) scWord.nd rfl (.inl rfl) (pe_op op_cat (pv 2) (pe_lst (pa_cons (pe_callB call_isV (by rfl) T.is (by decide +kernel) (pa_cons (pv 0) (pa_cons (pe_glob (v := .ref (He.ga K "NoRow")) (by rfl) (T.g 8 rfl) rfl) pa_nil))) (pa_cons (pe_callB call_isV (by rfl) T.is (by decide +kernel) (pa_cons (pv 0) (pa_cons (pe_glob (v := .ref (He.ga K "NoSize")) (by rfl) (T.g 9 rfl) rfl) pa_nil))) (pa_cons (pe_callB call_isV (by rfl) T.is (by decide +kernel) (pa_cons (pv 0) (pa_cons (pe_glob (v := .ref (He.ga K "NoStanding")) (by rfl) (T.g 10 rfl) rfl) pa_nil))) (pa_cons (pe_callB call_isV (by rfl) T.is (by decide +kernel) (pa_cons (pv 0) (pa_cons (pe_glob (v := .ref (He.ga K "NoTable")) (by rfl) (T.g 11 rfl) rfl) pa_nil))) pa_nil)))))))
    (C8.pss_cut (ps_set (i := 2) scWord.nd rfl (.inl rfl) (pe_op op_cat (pv 2) (pe_lst (pa_cons (pe_callB call_isV (by rfl) T.is (by decide +kernel) (pa_cons (pv 0) (pa_cons (pe_glob (v := .ref (He.ga K "NoText")) (by rfl) (T.g 12 rfl) rfl) pa_nil))) (pa_cons (pe_callB call_isV (by rfl) T.is (by decide +kernel) (pa_cons (pv 0) (pa_cons (pe_glob (v := .ref (He.ga K "NotParted")) (by rfl) (T.g 13 rfl) rfl) pa_nil))) (pa_cons (pe_callB call_isV (by rfl) T.is (by decide +kernel) (pa_cons (pv 0) (pa_cons (pe_glob (v := .ref (He.ga K "NoTree")) (by rfl) (T.g 14 rfl) rfl) pa_nil))) (pa_cons (pe_callB call_isV (by rfl) T.is (by decide +kernel) (pa_cons (pv 0) (pa_cons (pe_glob (v := .ref (He.ga K "NoTriple")) (by rfl) (T.g 15 rfl) rfl) pa_nil))) pa_nil)))))))
    (C8.pss_cut (ps_set (i := 2) scWord.nd rfl (.inl rfl) (pe_op op_cat (pv 2) (pe_lst (pa_cons (pe_callB call_isV (by rfl) T.is (by decide +kernel) (pa_cons (pv 0) (pa_cons (pe_glob (v := .ref (He.ga K "NoWay")) (by rfl) (T.g 16 rfl) rfl) pa_nil))) (pa_cons (pe_callB call_isV (by rfl) T.is (by decide +kernel) (pa_cons (pv 0) (pa_cons (pe_glob (v := .ref (He.ga K "TooWide")) (by rfl) (T.g 17 rfl) rfl) pa_nil))) (pa_cons (pe_callB call_isV (by rfl) T.is (by decide +kernel) (pa_cons (pv 0) (pa_cons (pe_glob (v := .ref (He.ga K "ByNought")) (by rfl) (T.g 18 rfl) rfl) pa_nil))) (pa_cons (pe_callB call_isV (by rfl) T.is (by decide +kernel) (pa_cons (pv 0) (pa_cons (pe_glob (v := .ref (He.ga K "NoName")) (by rfl) (T.g 19 rfl) rfl) pa_nil))) pa_nil)))))))
    (C8.pss_cut (ps_set (i := 2) scWord.nd rfl (.inl rfl) (pe_op op_cat (pv 2) (pe_lst (pa_cons (pe_callB call_isV (by rfl) T.is (by decide +kernel) (pa_cons (pv 0) (pa_cons (pe_glob (v := .ref (He.ga K "NoPlace")) (by rfl) (T.g 20 rfl) rfl) pa_nil))) (pa_cons (pe_callB call_isV (by rfl) T.is (by decide +kernel) (pa_cons (pv 0) (pa_cons (pe_glob (v := .ref (He.ga K "NothingDone")) (by rfl) (T.g 21 rfl) rfl) pa_nil))) pa_nil)))))
    (pss_cons (ps_if (pt_cmpR op_ne (pe_bm PySem.F.plainAttrs_list PySem.F.slot_list_count PySem.F.type_list_count mt_count (pv 2) (pa_cons pe_bl pa_nil)) pe_int (nomark _)) (pss_one (ps_ret pe_str)) pss_nil)
    (pss_cons (ps_set (i := 3) scWord.nd rfl (.inl rfl) (pe_bm PySem.F.plainAttrs_list PySem.F.slot_list_index PySem.F.type_list_index mt_index (pv 2) (pa_cons pe_bl pa_nil)))
    (pss_cons (ps_if (pt_cmpR op_lt (pv 3) pe_int (nomark _)) (pss_one (ps_ret (pe_ifExp (PW.pt (pw_and (pt_val (pe_callB call_isV (by rfl) T.is (by decide +kernel) (pa_cons (pv 0) (pa_cons (pe_glob (v := .ref (He.ga K "TurnError")) (by rfl) T.gT rfl) pa_nil)))) (pw_and1 (pt_val (pe_callB call_isV (by rfl) T.is (by decide +kernel) (pa_cons (pv 0) (pa_cons (pe_bltn (v := .ty "ValueError") (by rfl) T.gV (by decide +kernel) rfl) pa_nil))))))) (pe_ix ix_list (pv 1) (pv 3) (fun _ _ => rfl)) pe_str))) pss_nil)
      pss_never))))))))))), ?_⟩
    refine ⟨by show 11 ≤ sizeLine; decide, fun l0 hl0 => ?_⟩
    have s0 := same_upd (o := .lst ((words.take 11).map V.str)) hl0
    refine ⟨fun σ H1 => ∃ pw, σ = [some (.ref a), some (.ref pw), none, none, none] ∧ H1 pw = some (.lst (words.map V.str)) ∧ Same H H1, ?_, fun σ1 H1 h1 => ?_⟩
    · refine ⟨_, rfl, by show 11 ≤ sizeLine; decide, fun l1 hl1 => ?_⟩
      have s1 := same_upd (o := .lst ((words.drop 11).map V.str)) hl1
      refine ⟨_, _, _, _, rfl, rfl, s1 _ _ upd_same, upd_same, by show 22 ≤ sizeLine; decide, fun p hp => ?_⟩
      exact ⟨p, rfl, upd_same, (s0.trans s1).trans (same_upd hp)⟩
    obtain ⟨pw, rfl, hw, sm⟩ := h1
    have ha0 := sm _ _ ha
    refine ⟨fun σ H2 => ∃ ps, σ = [some (.ref a), some (.ref pw), some (.ref ps), none, none] ∧ H2 pw = some (.lst (words.map V.str)) ∧ H2 ps = some (.lst (((bits n).take 4).map V.bl)) ∧ Same H H2, ?_, fun σ2 H2 h2 => ?_⟩
    · refine ⟨_, rfl, a, D, _, _, _, rfl, ha0, kd.ec, fun _ r => r, kd.kits.at 0 rfl, _, rfl, a, D, _, _, _, rfl, ha0, kd.ec, fun _ r => r, kd.kits.at 1 rfl, _, rfl, a, D, _, _, _, rfl, ha0, kd.ec, fun _ r => r, kd.kits.at 2 rfl, _, rfl, a, D, _, _, _, rfl, ha0, kd.ec, fun _ r => r, kd.kits.at 3 rfl, by show 4 ≤ sizeLine; decide, fun l hl => ?_⟩
      exact ⟨l, rfl, (same_upd hl) _ _ hw, upd_same, sm.trans (same_upd hl)⟩
    obtain ⟨ps, rfl, hw, hs, sm⟩ := h2
    have ha1 := sm _ _ ha
    refine ⟨fun σ H3 => ∃ ps, σ = [some (.ref a), some (.ref pw), some (.ref ps), none, none] ∧ H3 pw = some (.lst (words.map V.str)) ∧ H3 ps = some (.lst (((bits n).take 8).map V.bl)) ∧ Same H H3, ?_, fun σ2 H3 h2 => ?_⟩
    · refine ⟨_, rfl, _, rfl, a, D, _, _, _, rfl, ha1, kd.ec, fun _ r => r, kd.kits.at 4 rfl, _, rfl, a, D, _, _, _, rfl, ha1, kd.ec, fun _ r => r, kd.kits.at 5 rfl, _, rfl, a, D, _, _, _, rfl, ha1, kd.ec, fun _ r => r, kd.kits.at 6 rfl, _, rfl, a, D, _, _, _, rfl, ha1, kd.ec, fun _ r => r, kd.kits.at 7 rfl, by show 4 ≤ sizeLine; decide, fun l hl => ?_⟩
      have s1 := same_upd (o := .lst (([4 == n, 5 == n, 6 == n, 7 == n] : List Bool).map V.bl)) hl
      refine ⟨_, _, _, _, rfl, rfl, s1 _ _ hs, upd_same, by show 8 ≤ sizeLine; decide, fun p hp => ?_⟩
      exact ⟨p, rfl, (same_upd hp) _ _ (s1 _ _ hw), upd_same, (sm.trans s1).trans (same_upd hp)⟩
    obtain ⟨ps, rfl, hw, hs, sm⟩ := h2
    have ha2 := sm _ _ ha
    refine ⟨fun σ H4 => ∃ ps, σ = [some (.ref a), some (.ref pw), some (.ref ps), none, none] ∧ H4 pw = some (.lst (words.map V.str)) ∧ H4 ps = some (.lst (((bits n).take 12).map V.bl)) ∧ Same H H4, ?_, fun σ2 H4 h2 => ?_⟩
    · refine ⟨_, rfl, _, rfl, a, D, _, _, _, rfl, ha2, kd.ec, fun _ r => r, kd.kits.at 8 rfl, _, rfl, a, D, _, _, _, rfl, ha2, kd.ec, fun _ r => r, kd.kits.at 9 rfl, _, rfl, a, D, _, _, _, rfl, ha2, kd.ec, fun _ r => r, kd.kits.at 10 rfl, _, rfl, a, D, _, _, _, rfl, ha2, kd.ec, fun _ r => r, kd.kits.at 11 rfl, by show 4 ≤ sizeLine; decide, fun l hl => ?_⟩
      have s1 := same_upd (o := .lst (([8 == n, 9 == n, 10 == n, 11 == n] : List Bool).map V.bl)) hl
      refine ⟨_, _, _, _, rfl, rfl, s1 _ _ hs, upd_same, by show 12 ≤ sizeLine; decide, fun p hp => ?_⟩
      exact ⟨p, rfl, (same_upd hp) _ _ (s1 _ _ hw), upd_same, (sm.trans s1).trans (same_upd hp)⟩
    obtain ⟨ps, rfl, hw, hs, sm⟩ := h2
    have ha3 := sm _ _ ha
    refine ⟨fun σ H5 => ∃ ps, σ = [some (.ref a), some (.ref pw), some (.ref ps), none, none] ∧ H5 pw = some (.lst (words.map V.str)) ∧ H5 ps = some (.lst (((bits n).take 16).map V.bl)) ∧ Same H H5, ?_, fun σ2 H5 h2 => ?_⟩
    · refine ⟨_, rfl, _, rfl, a, D, _, _, _, rfl, ha3, kd.ec, fun _ r => r, kd.kits.at 12 rfl, _, rfl, a, D, _, _, _, rfl, ha3, kd.ec, fun _ r => r, kd.kits.at 13 rfl, _, rfl, a, D, _, _, _, rfl, ha3, kd.ec, fun _ r => r, kd.kits.at 14 rfl, _, rfl, a, D, _, _, _, rfl, ha3, kd.ec, fun _ r => r, kd.kits.at 15 rfl, by show 4 ≤ sizeLine; decide, fun l hl => ?_⟩
      have s1 := same_upd (o := .lst (([12 == n, 13 == n, 14 == n, 15 == n] : List Bool).map V.bl)) hl
      refine ⟨_, _, _, _, rfl, rfl, s1 _ _ hs, upd_same, by show 16 ≤ sizeLine; decide, fun p hp => ?_⟩
      exact ⟨p, rfl, (same_upd hp) _ _ (s1 _ _ hw), upd_same, (sm.trans s1).trans (same_upd hp)⟩
    obtain ⟨ps, rfl, hw, hs, sm⟩ := h2
    have ha4 := sm _ _ ha
    refine ⟨fun σ H6 => ∃ ps, σ = [some (.ref a), some (.ref pw), some (.ref ps), none, none] ∧ H6 pw = some (.lst (words.map V.str)) ∧ H6 ps = some (.lst (((bits n).take 20).map V.bl)) ∧ Same H H6, ?_, fun σ2 H6 h2 => ?_⟩
    · refine ⟨_, rfl, _, rfl, a, D, _, _, _, rfl, ha4, kd.ec, fun _ r => r, kd.kits.at 16 rfl, _, rfl, a, D, _, _, _, rfl, ha4, kd.ec, fun _ r => r, kd.kits.at 17 rfl, _, rfl, a, D, _, _, _, rfl, ha4, kd.ec, fun _ r => r, kd.kits.at 18 rfl, _, rfl, a, D, _, _, _, rfl, ha4, kd.ec, fun _ r => r, kd.kits.at 19 rfl, by show 4 ≤ sizeLine; decide, fun l hl => ?_⟩
      have s1 := same_upd (o := .lst (([16 == n, 17 == n, 18 == n, 19 == n] : List Bool).map V.bl)) hl
      refine ⟨_, _, _, _, rfl, rfl, s1 _ _ hs, upd_same, by show 20 ≤ sizeLine; decide, fun p hp => ?_⟩
      exact ⟨p, rfl, (same_upd hp) _ _ (s1 _ _ hw), upd_same, (sm.trans s1).trans (same_upd hp)⟩
    obtain ⟨ps, rfl, hw, hs, sm⟩ := h2
    have ha5 := sm _ _ ha
    refine ⟨fun σ H7 => ∃ ps, σ = [some (.ref a), some (.ref pw), some (.ref ps), none, none] ∧ H7 pw = some (.lst (words.map V.str)) ∧ H7 ps = some (.lst (((bits n).take 22).map V.bl)) ∧ Same H H7, ?_, fun σ2 H7 h2 => ?_⟩
    · refine ⟨_, rfl, _, rfl, a, D, _, _, _, rfl, ha5, kd.ec, fun _ r => r, kd.kits.at 20 rfl, _, rfl, a, D, _, _, _, rfl, ha5, kd.ec, fun _ r => r, kd.kits.at 21 rfl, by show 2 ≤ sizeLine; decide, fun l hl => ?_⟩
      have s1 := same_upd (o := .lst (([20 == n, 21 == n] : List Bool).map V.bl)) hl
      refine ⟨_, _, _, _, rfl, rfl, s1 _ _ hs, upd_same, by show 22 ≤ sizeLine; decide, fun p hp => ?_⟩
      exact ⟨p, rfl, (same_upd hp) _ _ (s1 _ _ hw), upd_same, (sm.trans s1).trans (same_upd hp)⟩
    obtain ⟨ps, rfl, hw, hs, sm⟩ := h2
    have ha7 := sm _ _ ha
    obtain ⟨c1, c2, c3⟩ := bits_all n (by omega)
    have hs2 : H7 ps = some (.lst ((bits n).map V.bl)) := hs
    have fl : ((bits n).map V.bl).all flatV = true := by
      rw [List.all_map]
      exact List.all_eq_true.mpr fun _ _ => rfl
    refine ⟨_, rfl, .inl ⟨rfl, _, SqL.of hs2⟩, ps, _, _, rfl, rfl, SqL.of hs2, rfl, fl, rfl, _, rfl, iteNS (congrArg V.int (by rw [c1]; rfl)) ?_⟩
    refine ⟨_, rfl, .inl ⟨rfl, _, SqL.of hs2⟩, ps, _, _, n, _, rfl, rfl, SqL.of hs2, rfl, fl, by rw [List.getElem?_map, c2]; rfl, rfl, fun m z hm hz => ?_, ?_⟩
    · rw [List.getElem?_map, c3 m hm] at hz
      cases hz
      rfl
    refine ⟨_, rfl, _, 18, rfl, rfl, _, rfl, iteD1 (by omega) ?_⟩
    refine ⟨_, rfl, a, D, _, _, _, rfl, ha7, kd.ec, fun _ r => r, kd.te, _, rfl, iteD1 n18 ?_⟩
    refine ⟨_, rfl, a, D, _, _, _, rfl, ha7, kd.ec, fun _ r => r, kd.ve, _, rfl, iteD1 n18 ?_⟩
    refine ⟨_, rfl, _, rfl, pw, _, _, _, rfl, rfl, SqL.of hw, atI_nat (by rw [List.getElem?_map, words_at n (by omega)]; rfl), ?_⟩
    exact q _ sm
end
end TC
namespace TC
open PySem PySem.Spec PyProof.Rows L2 TCX
/-- a wish may be made stronger -/
theorem pe_weak {X : Cx} {e : Expr} {t : TE} (he : PE X e t) : PE X e (fun σ H Q => ∃ Q' : VK, (∀ v H', Q' v H' → Q v H') ∧ t σ H Q') := by
  refine ⟨fun pins s σ H Q I h => ?_⟩
  obtain ⟨Q', m, h⟩ := h
  refine wpAny_mono (he.run pins s σ H Q' I h) (fun u s' z => ?_) fun _ _ z => z
  obtain ⟨v, H1, I1, r, q⟩ := z
  exact ⟨v, H1, I1, r, m v H1 q⟩
/-! ### _law_said, handed a lambda -/
/-- what _law_said makes of the lambda's reading tl: refusals are of classes under TurnError without fields -/
def TSaid (K : PySem.W.Frag) : (XK → Hp → VK → Prop) → Hp → VK → Prop := fun tl H Q => ∀ H1, Same H H1 →
  tl (fun cls d H' => ∃ (D : Addr) (n : Nat), cls = .ref D ∧ d = none ∧ Kind K D n ∧ n < 18 ∧ PySem.W.exmAny K (.ref D) [.ref (He.ga K "TurnError")] = some true ∧ ∀ p H2, Same H' H2 → H2 p = some (.tup [.str "refused", .str (words.getD n "")]) → Q (.ref p) H2)
    H1 (fun v H' => ∀ p, H' p = none → Q (.ref p) (upd H' p (.tup [.str "told", v])))
theorem scSaid : FnScope ["_law_call", "_law_told", "_law_error", "_law_e"] ["_law_call"] (defScope sSaid) := ⟨rfl, rfl, rfl, by decide +kernel, rfl, by decide +kernel, by decide +kernel⟩
structure STxt (K : PySem.W.Frag) (mg : Str → Option Value) : Prop where
  g1 : mg "TurnError" = some (.ref (He.ga K "TurnError"))
  g2 : mg "ByNought" = some (.ref (He.ga K "ByNought"))
  g3 : mg "NoName" = some (.ref (He.ga K "NoName"))
  g4 : mg "NoPlace" = some (.ref (He.ga K "NoPlace"))
  g5 : mg "NothingDone" = some (.ref (He.ga K "NothingDone"))
theorem said_gives {X : Cx} {g fW : Addr} {fdW : FuncData} {cdg : Value} {q : Str} (T : STxt X.K X.mg) (GW : FnOk X.prog X.w X.K X.mg X.base CX0 1 fW fdW ["_law_e"] (spWord X.K)) (bW : L2.Binds X.K fdW ["_law_e"] []) (kW : PySem.W.keepIn X.K (.ref fW) = true) (gW : X.mg "_law_word" = some (.ref fW)) (hr : Room 2 X.A) :
    LamX.GivesTo X ["_law_call", "_law_told", "_law_error", "_law_e"] "_law_said" (defScope sSaid) g cdg (defBody sSaid) "_law_call" q (TSaid X.K) := by
  intro f c' s H Q tl act hc h
  have hr' : Room 1 (cxOf C8.CX0 X.prog X.w X.K X.mg X.base ["_law_call", "_law_told", "_law_error", "_law_e"] "_law_said" (defScope sSaid) g cdg X.A X.stack s H C8.E0).nox.A := hr.deeper _
  refine ⟨_, pss_cons (ps_asg (pe_tup (pa_cons pe_non (pa_cons pe_non pa_nil))) (pg_tup rfl (pgs_cons (pg_name (i := 1) scSaid.nd rfl (.inl rfl)) (pgs_cons (pg_name (i := 2) scSaid.nd rfl (.inl rfl)) pgs_nil))))
    (pss_cons (ps_try_keep (tb := fun W D σ H => ∃ (Ech : XK) (Qn : VK), (∀ cls d σ' H', Ech cls d H' → W cls d σ' H') ∧ (∀ v H', Qn v H' → D.nx (σ.set 1 (some v)) H') ∧ σ[0]? = some (some (.ref f)) ∧ H c' = some (LamX.CodeO c' q) ∧ tl Ech H Qn) rfl rfl rfl scSaid.nd (fun W pn xe tk _ => ?_)
      (HdK.cons (i := 3) (cs := [.ref (He.ga X.K "TurnError")]) (fun cls b z => ?_) rfl rfl (fun a cls d pn => pss_one (ps_set (i := 2) scSaid.nd rfl (.inl rfl) (pv 3)))
      (HdK.cons (i := 3) (cs := [.ref (He.ga X.K "ByNought"), .ref (He.ga X.K "NoName"), .ref (He.ga X.K "NoPlace"), .ref (He.ga X.K "NothingDone")]) (fun cls b z => ?_) rfl rfl (fun a cls d pn => pss_one (ps_set (i := 2) scSaid.nd rfl (.inl rfl) (pv 3))) HdK.nil)))
    (pss_one (ps_ret (pe_ifExp (pt_cmpR op_isN (pv 2) pe_non (nomark _)) (pe_tup (pa_cons pe_str (pa_cons (pv 1) pa_nil)))
      (pe_tup (pa_cons pe_str (pa_cons (pe_call GW hr' (by rfl) gW kW bW .nil (E := E0) pass0 (pa_cons (pv 2) pa_nil)) pa_nil))))))), ?_⟩
  · refine ⟨fun pins s' σ H' D I h' => ?_⟩
    obtain ⟨Ech, Qn, hW, hn, h1, h2, h3⟩ := h'
    exact (pss_one (ps_set (i := 1) scSaid.nd rfl (.inl rfl) (pe_weak (act W pn xe Ech _ _ tk hW)))).run pins s' σ H' D I ⟨Qn, hn, h1, h2, h3⟩
  · refine tst_name ⟨rfl, by decide, .inl T.g1⟩ ?_
    obtain ⟨b1, d1, z1, z2, z3⟩ := PySem.W.exmAny_cons z
    cases (show some false = some d1 from z2)
    rw [z1, z3, Bool.or_false]
  · exact tst_tup4 ⟨rfl, by decide, .inl T.g2⟩ ⟨rfl, by decide, .inl T.g3⟩ ⟨rfl, by decide, .inl T.g4⟩ ⟨rfl, by decide, .inl T.g5⟩ z
  · refine ⟨by show 2 ≤ sizeLine; decide, fun t ht => ⟨t, _, rfl, SqT.of upd_same, rfl, _, _, rfl, _, _, rfl, rfl, ?_⟩⟩
    have s1 := same_upd (o := .tup [.non, .non]) ht
    refine ⟨_, _, fun cls d σ' H' z => ?_, ?_, rfl, s1 _ _ hc, h _ s1⟩
    · intro hl
      obtain ⟨D, n, rfl, rfl, kd, n18, hx, hq⟩ := z
      match σ', hl with
      | [x0, x1, x2, x3], _ =>
        refine ⟨true, hx, fun _ a ha => ?_, fun z => Bool.noConfusion z⟩
        have s2 := same_upd (o := ExV (.ref D) none a) ha
        refine ⟨_, rfl, _, rfl, rfl, _, rfl, iteD0 (fun z => by cases z) ?_⟩
        refine ⟨_, rfl, a, D, n, rfl, upd_same, kd, n18, fun H2 s3 => ?_⟩
        exact ⟨by show 2 ≤ sizeLine; decide, fun p hp => hq p _ ((s2.trans s3).trans (same_upd hp)) upd_same⟩
    · exact fun v H' hv => ⟨_, rfl, rfl, _, rfl, iteD1 rfl ⟨_, rfl, by show 2 ≤ sizeLine; decide, fun p hp => hv p hp⟩⟩
end TC
/-! name = {k: v for ..}, the name a local: the dict is stored while the comprehension's block still stands. -/
namespace TCA
open PySem PySem.Spec PyProof.Rows L2
section
variable {X : Cx}
theorem sw_dict {kx vx : Expr} {gs : List Comprehension} {scope : Scope} {pos py : Pos} {y : Str} {l : Nat} {env : Env} (hk : env.scope.kind = .function) (hy : env.scope.names.lookup y = some .local) (hl : (py.line == pos.line) = true)
    (ha : (scope.names.any fun (n, k) => n == y && (k == .local || k == .cell)) = false) : swapsWith (.DictComp kx vx gs scope pos) (some (.Name y py)) l env = pure true := by
  have e1 : env.kindOf y = some .local := hy
  have e2 : env.blockKind = .function := by
    unfold Env.blockKind
    rw [hk]
    rfl
  unfold swapsWith
  simp only [e2, e1, ha, Expr.pos, hl]
  rfl
theorem ps_setDc {i : Nat} {y : Str} {py : Pos} {kx vx tg iter : Expr} {ifs : List Expr} {scope : Scope} {own : List (Str × Nat)} {pos spos : Pos} {wi : TI} {g : TG} {tt : TT} {tk tv : TE} (hc : X.calm = true) (hN : X.N.Nodup) (hy : X.N[i]? = some y) (hyl : X.env.scope.names.lookup y = some .local)
    (hsw : swapsWith (.DictComp kx vx [⟨tg, iter, ifs, 0⟩] scope pos) (some (.Name y py)) spos.line X.env = pure true) (hi : PI X tg iter wi) (ok : BlkOk X.N X.env.scope scope own)
    (hg : ∀ (s : Shared) (H : Hp) (C : Addr) (cl : List (Str × Addr)) (fp : List Addr), PG (X.blk s H scope (compEnvC scope cl C X.env) fp) tg g)
    (ht : ∀ (s : Shared) (H : Hp) (C : Addr) (cl : List (Str × Addr)) (fp : List Addr), PTs (X.blk s H scope (compEnvC scope cl C X.env) fp) ifs tt)
    (hk : ∀ (s : Shared) (H : Hp) (C : Addr) (cl : List (Str × Addr)) (fp : List Addr), PE (X.blk s H scope (compEnvC scope cl C X.env) fp) kx tk)
    (hv : ∀ (s : Shared) (H : Hp) (C : Addr) (cl : List (Str × Addr)) (fp : List Addr), PE (X.blk s H scope (compEnvC scope cl C X.env) fp) vx tv)
    (hs : ∀ x, foldedSetIterable iter X.env x = pure x := by intro _; rfl) :
    PS X (.Assign [.Name y py] (.DictComp kx vx [⟨tg, iter, ifs, 0⟩] scope pos) spos) (tAsg (tDc wi g tt tk tv (own.map (·.2))) (gName i)) := by
  refine ⟨fun pins s σ H D I h => ?_⟩
  rw [exec_Assign_Name_used _ _ _ _ hsw]
  refine wpAny_bind (wpAny_standAt (wpAny_bind ?_))
  show wpAny _ X.A (do let _ ← comprehension (.DictComp kx vx [⟨tg, iter, ifs, 0⟩] scope pos) scope X.env (firstIterPos [⟨tg, iter, ifs, 0⟩] pos) newDict false (eval iter X.env) (some (assign (.Name y py) X.env))) _ _ s
  have h' : tDc wi g tt tk tv (own.map (·.2)) σ H (fun x H1 => gName i x σ H1 D.nx) := h
  have core := dc_core (Qf := fun _ s' => SP X pins D .next s') (pos := pos) (pos' := firstIterPos [⟨tg, iter, ifs, 0⟩] pos) (use := some (assign (.Name y py) X.env)) hc hN I hi ok hg ht hk hv hs h' fun d C s' m H' I' q hn fp => by
    show wpAny _ _ (assign (.Name y py) X.env (.ref d)) _ _ _
    refine wpAny_assign_Name (store_ok2 (v := V.ref d) I' hN hy (.inl hyl) rfl (fun s2 I2 ⟨a, sb, ha⟩ => ?_) (.inr hyl))
    obtain ⟨f0, f1, f2, f3, f4, f5⟩ := fp
    have hCa : C ≠ a := by
      rcases ha with z | z
      · rw [z]
        exact f1
      · exact fun e => f4 y a z e.symm
    exact ⟨m, hn.sameBut sb hCa, fun h3 sb3 => ⟨_, H', I2.turned (t' := s2.toks) (fun b o hb e => (sb3.2 b hb).trans e) f0 f1 f3 f4 f5, q⟩⟩
  exact wpAny_bind (thn core fun _ s' hq => wpAny_pure (wpAny_pure hq))
/-! a for over a list or a tuple, whichever it is -/
theorem seqL_at {K : PySem.W.Frag} {H H' : Hp} {a : Addr} {xs : List V} (e : ∀ u, H a = some u → H' a = some u) (h : SqL K H a xs) : SqL K H' a xs := by
  rcases h with (h | ⟨o, h⟩) | h
  · exact .inl (.inl (e _ h))
  · exact .inl (.inr ⟨o, e _ h⟩)
  · exact .inr h
theorem seqT_at {K : PySem.W.Frag} {H H' : Hp} {a : Addr} {xs : List V} (e : ∀ u, H a = some u → H' a = some u) (h : SqT K H a xs) : SqT K H' a xs := by
  rcases h with (h | ⟨o, h⟩) | h
  · exact .inl (.inl (e _ h))
  · exact .inl (.inr ⟨o, e _ h⟩)
  · exact .inr h
def iSeq (K : PySem.W.Frag) (tl : TE) : TI := fun σ H R => tl σ H fun x H1 => ∃ a xs, x = .ref a ∧ (SqL K H1 a xs ∨ SqT K H1 a xs) ∧ ∀ (J : It) (G : Hp → Prop), (∀ H', (∀ u, H1 a = some u → H' a = some u) → G H') → Walk J xs.length G (YAt xs) → R J H1
theorem pi_seq {tg l : Expr} {tl : TE} (hl : PE X l tl) : PI X tg l (iSeq X.K tl) := by
  refine ⟨fun pins s σ H R I h => thn (hl.run pins s σ H _ I h) fun v s1 ⟨x, H1, I1, r1, q1⟩ => ?_⟩
  obtain ⟨a, xs, ex, hq, q⟩ := q1
  subst ex
  cases r1
  have own : ∀ b ∈ [s1.heap.objs.size], FpOk X pins H1 b := fun b hb => by
    rw [List.mem_singleton.mp hb]
    exact I1.fpOk (Nat.le_refl _) (I1.hok.fresh (Nat.le_refl _))
  rcases hq with hq | hq
  · obtain ⟨its, _, pl, _⟩ := I1.list hq
    exact wpAny_pyIter_list pl.isList ⟨s1.heap.objs.size, [s1.heap.objs.size], _, _, H1, rfl, I1.kept (t' := s1.toks) fun b o e => Heap.get?_push_of_some _ e, turn_list a _, ⟨_, Heap.get?_push_size _ rfl, rfl, rfl⟩, own, q _ _ (fun H' e => seqL_at e hq) walk_list⟩
  · obtain ⟨its, _, pl, _⟩ := I1.tuple hq
    exact wpAny_pyIter_tuple (show s1.heap.IsTuple a its.toArray from pl) ⟨s1.heap.objs.size, [s1.heap.objs.size], _, _, H1, rfl, I1.kept (t' := s1.toks) fun b o e => Heap.get?_push_of_some _ e, turn_tuple a _, ⟨_, Heap.get?_push_size _ rfl, rfl, rfl⟩, own, q _ _ (fun H' e => seqT_at e hq) walk_tup⟩
end
end TCA
namespace TC
open PySem PySem.Spec PyProof.Rows L2 TCA TCX
section
variable {P : Program} {w : World} {K : PySem.W.Frag} {mg : Str → Option Value} {base : Heap} {f fD : Addr} {fd fdD : FuncData}
/-! ### _law_size -/
def spSizeL : Sp := fun vs H Q _ => ∃ (p c : Addr) (ms : List Int) (n : Int), vs = [.ref p] ∧ PenAt H p c ms n ∧ 0 ≤ n ∧ n ≤ 900000 ∧
  ∀ (d n' : Int) H', 0 ≤ d → d ≤ 40 → n ≤ n' → n' ≤ n + 5 → PenAt H' p c ms n' → SameBut p H H' → Q (.int d) H'
theorem scSizeL : FnScope ["_law_pen_here", "_law_some"] ["_law_pen_here"] (defScope sSizeL) := ⟨rfl, rfl, rfl, by decide +kernel, rfl, by decide +kernel, by decide +kernel⟩
theorem at4 {a b c d : V} {i : Int} (h0 : 0 ≤ i) (h1 : i < 4) : atI [a, b, c, d] i = some ([a, b, c, d].getD i.toNat a) := by
  have : i = 0 ∨ i = 1 ∨ i = 2 ∨ i = 3 := by omega
  rcases this with rfl | rfl | rfl | rfl <;> exact atI_nat rfl
theorem ok_sizeL (F : FnP K "_law_size" sSizeL f fd) (GD : FnOk P w K mg base CX0 1 fD fdD ["_law_pen_here", "_law_many"] spDraw) (bD : L2.Binds K fdD ["_law_pen_here", "_law_many"] []) (kD : PySem.W.keepIn K (.ref fD) = true) (gD : mg "_law_draw" = some (.ref fD)) :
    FnOk P w K mg base CX0 2 f fd ["_law_pen_here"] spSizeL := by
  refine F.ok scSizeL (fun vs H Q E h => ?_) (fun cdv A outer s H vs Q E hr h => ?_)
  · obtain ⟨p, c, ms, n, rfl, _⟩ := h
    rfl
  · obtain ⟨p, c, ms, n, rfl, hp, n0, n1, q⟩ := h
    refine ⟨_, PSs.nox (pss_cons (ps_set (i := 1) scSizeL.nd rfl (.inl rfl) (pe_lst (pa_cons (pe_call GD hr (by rfl) gD kD bD .nil pass0 (pa_cons (pv 0) (pa_cons pe_int pa_nil))) (pa_cons (pe_call GD hr (by rfl) gD kD bD .nil pass0 (pa_cons (pv 0) (pa_cons pe_int pa_nil)))
      (pa_cons (pe_call GD hr (by rfl) gD kD bD .nil pass0 (pa_cons (pv 0) (pa_cons pe_int pa_nil))) (pa_cons (pe_ix ix_list (pe_lst (pa_cons pe_int (pa_cons pe_int (pa_cons pe_int (pa_cons pe_int pa_nil))))) (pe_call GD hr (by rfl) gD kD bD .nil pass0 (pa_cons (pv 0) (pa_cons pe_int pa_nil))) (fun _ _ => rfl)) pa_nil))))))
      (pss_one (ps_ret (pe_ix ix_list (pv 1) (pe_call GD hr (by rfl) gD kD bD .nil pass0 (pa_cons (pv 0) (pa_cons pe_int pa_nil))) (fun _ _ => rfl))))), ?_⟩
    refine ⟨_, rfl, p, c, ms, n, 6, rfl, hp, n0, by omega, by decide, by decide, fun d1 m1 H1 a1 b1 c1 e1 p1 s1 => ?_⟩
    refine ⟨_, rfl, p, c, ms, m1, 13, rfl, p1, by omega, by omega, by decide, by decide, fun d2 m2 H2 a2 b2 c2 e2 p2 s2 => ?_⟩
    refine ⟨_, rfl, p, c, ms, m2, 41, rfl, p2, by omega, by omega, by decide, by decide, fun d3 m3 H3 a3 b3 c3 e3 p3 s3 => ?_⟩
    refine ⟨by show 4 ≤ sizeLine; decide, fun l hl => ?_⟩
    have pl := PenAt.ne p3 hl
    refine ⟨_, rfl, p, c, ms, m3, 4, rfl, p3.new hl, by omega, by omega, by decide, by decide, fun d4 m4 H4 a4 b4 c4 e4 p4 s4 => ?_⟩
    have hL := s4 _ _ pl upd_same
    refine ⟨l, _, d4, _, rfl, rfl, SqL.of hL, at4 a4 b4, ?_⟩
    obtain ⟨z, hz, z0, z1⟩ : ∃ z : Int, ([V.int 0, V.int 1, V.int 39, V.int 40] : List V).getD d4.toNat (V.int 0) = .int z ∧ 0 ≤ z ∧ z ≤ 40 := by
      have : d4 = 0 ∨ d4 = 1 ∨ d4 = 2 ∨ d4 = 3 := by omega
      rcases this with rfl | rfl | rfl | rfl
      · exact ⟨0, rfl, by decide, by decide⟩
      · exact ⟨1, rfl, by decide, by decide⟩
      · exact ⟨39, rfl, by decide, by decide⟩
      · exact ⟨40, rfl, by decide, by decide⟩
    rw [hz]
    refine ⟨by show 4 ≤ sizeLine; decide, fun l2 hl2 => ?_⟩
    have pl2 := PenAt.ne p4 hl2
    refine ⟨_, rfl, _, rfl, p, c, ms, m4, 4, rfl, p4.new hl2, by omega, by omega, by decide, by decide, fun d5 m5 H5 a5 b5 c5 e5 p5 s5 => ?_⟩
    have hL2 := s5 _ _ pl2 upd_same
    refine ⟨l2, _, d5, _, rfl, rfl, SqL.of hL2, at4 a5 b5, ?_⟩
    have sall : SameBut p H H5 := (((((s1.trans s2).trans s3).new hl).trans s4).new hl2).trans s5
    have : d5 = 0 ∨ d5 = 1 ∨ d5 = 2 ∨ d5 = 3 := by omega
    rcases this with rfl | rfl | rfl | rfl
    · exact q d1 m5 _ a1 (by omega) (by omega) (by omega) p5 sall
    · exact q d2 m5 _ a2 (by omega) (by omega) (by omega) p5 sall
    · exact q d3 m5 _ a3 (by omega) (by omega) (by omega) p5 sall
    · exact q z m5 _ z0 z1 (by omega) (by omega) p5 sall
/-! ### _law_fits -/
def fitsB (a b c : Int) : Bool := decide ((a + b + c) % 2 = 0) && (decide (c ≤ a + b) && (decide (a ≤ b + c) && decide (b ≤ a + c)))
def spFits : Sp := fun vs H Q _ => ∃ a b c : Int, vs = [.int a, .int b, .int c] ∧ Q (.bl (fitsB a b c)) H
theorem scFits : FnScope ["_law_a", "_law_b", "_law_c"] ["_law_a", "_law_b", "_law_c"] (defScope sFits) := ⟨rfl, rfl, rfl, by decide +kernel, rfl, by decide +kernel, by decide +kernel⟩
theorem ok_fits (F : FnP K "_law_fits" sFits f fd) : FnOk P w K mg base CX0 1 f fd ["_law_a", "_law_b", "_law_c"] spFits := by
  refine F.ok scFits (fun vs H Q E h => ?_) (fun cdv A outer s H vs Q E hr h => ?_)
  · obtain ⟨a, b, c, rfl, _⟩ := h
    rfl
  · obtain ⟨a, b, c, rfl, q⟩ := h
    refine ⟨_, PSs.nox (pss_one (ps_ret (pe_and (pe_cmpR op_eq (pe_op op_mod (pe_op op_add (pe_op op_add (pv 0) (pv 1)) (pv 2)) pe_int) pe_int (nomark _)) (pe_and (pe_cmpR op_le (pv 2) (pe_op op_add (pv 0) (pv 1)) (nomark _))
      (pe_and (pe_cmpR op_le (pv 0) (pe_op op_add (pv 1) (pv 2)) (nomark _)) (pe_one (pe_cmpR op_le (pv 1) (pe_op op_add (pv 0) (pv 2)) (nomark _)))))))), ?_⟩
    unfold fitsB at q
    refine ⟨_, rfl, _, rfl, a, b, rfl, rfl, _, rfl, _, c, rfl, rfl, _, 2, rfl, rfl, (show (0 : Int) < 2 by decide), rfl, _, rfl, ?_⟩
    rw [dec_int]
    refine iteB (fun h => ?_) fun h => by rw [h] at q; exact q
    rw [h] at q
    refine ⟨_, rfl, _, rfl, _, rfl, a, b, rfl, rfl, c, _, rfl, rfl, _, rfl, iteB (fun h => ?_) fun h => by rw [h] at q; exact q⟩
    rw [h] at q
    refine ⟨_, rfl, _, rfl, _, rfl, b, c, rfl, rfl, a, _, rfl, rfl, _, rfl, iteB (fun h => ?_) fun h => by rw [h] at q; exact q⟩
    rw [h] at q
    exact ⟨_, rfl, _, rfl, _, rfl, a, c, rfl, rfl, b, _, rfl, rfl, q⟩
end
end TC
namespace TC
open PySem PySem.Spec PyProof.Rows L2 TCA TCX
section
variable {P : Program} {w : World} {K : PySem.W.Frag} {mg : Str → Option Value} {base : Heap} {f fD fF : Addr} {fd fdD fdF : FuncData}
/-! ### _law_third -/
/-- the whole numbers from 0 to k - 1 that fit -/
def fitL (a b : Int) (k : Nat) : List Int := ((List.range k).map fun i => (0 : Int) + (i : Nat)).filter (fitsB a b)
theorem fitL_succ (a b : Int) (k : Nat) : fitL a b (k + 1) = fitL a b k ++ (if fitsB a b (0 + (k : Nat)) = true then [0 + ((k : Nat) : Int)] else []) := by
  unfold fitL
  rw [List.range_succ, List.map_append, List.filter_append]
  congr 1
  show List.filter (fitsB a b) [0 + ((k : Nat) : Int)] = _
  by_cases h : fitsB a b (0 + (k : Nat)) = true
  · rw [if_pos h, List.filter_cons_of_pos h]
    rfl
  · rw [if_neg h, List.filter_cons_of_neg h]
    rfl
theorem fitL_len (a b : Int) (k : Nat) : (fitL a b k).length ≤ k := by
  unfold fitL
  refine Nat.le_trans (List.length_filter_le _ _) ?_
  rw [List.length_map, List.length_range]
  exact Nat.le_refl _
theorem fitL_mem {a b : Int} {k : Nat} {c : Int} : c ∈ fitL a b k ↔ 0 ≤ c ∧ c < k ∧ fitsB a b c = true := by
  unfold fitL
  rw [List.mem_filter, List.mem_map]
  constructor
  · rintro ⟨⟨i, hi, rfl⟩, h⟩
    have := List.mem_range.mp hi
    exact ⟨by omega, by omega, h⟩
  · rintro ⟨h0, h1, h2⟩
    exact ⟨⟨c.toNat, List.mem_range.mpr (by omega), by omega⟩, h2⟩
def thirdL (a b h : Int) : List Int := fitL a b (h + 1).toNat ++ (if (if a - b < 0 then -(a - b) else a - b) > h then [h] else [])
theorem thirdL_ne {a b h : Int} (ha : 0 ≤ a) (hb : 0 ≤ b) (hh : 0 ≤ h) : 0 < (thirdL a b h).length := by
  unfold thirdL
  by_cases z : (if a - b < 0 then -(a - b) else a - b) > h
  · rw [if_pos z, List.length_append]
    show 0 < _ + 1
    omega
  · rw [if_neg z, List.append_nil]
    refine List.length_pos_of_mem (a := if a - b < 0 then -(a - b) else a - b) (fitL_mem.mpr ⟨?_, ?_, ?_⟩)
    · split <;> omega
    · split at z <;> split <;> omega
    · unfold fitsB
      have e : ∀ c : Int, (c = a - b ∨ c = b - a) → 0 ≤ c → (decide ((a + b + c) % 2 = 0) && (decide (c ≤ a + b) && (decide (a ≤ b + c) && decide (b ≤ a + c)))) = true := fun c hc h0 => by
        rw [decide_eq_true (by omega), decide_eq_true (by omega), decide_eq_true (by omega), decide_eq_true (by omega)]
        rfl
      split
      · exact e _ (by omega) (by omega)
      · exact e _ (by omega) (by omega)
def spThird : Sp := fun vs H Q _ => ∃ (p c : Addr) (ms : List Int) (n a b h : Int), vs = [.ref p, .int a, .int b, .int h] ∧ PenAt H p c ms n ∧ 0 ≤ n ∧ n ≤ 900000 ∧ 0 ≤ a ∧ 0 ≤ b ∧ 0 ≤ h ∧ h ≤ 1000 ∧
  ∀ (d n' : Int) H', d ∈ thirdL a b h → n ≤ n' → n' ≤ n + 1 → PenAt H' p c ms n' → SameBut p H H' → Q (.int d) H'
abbrev nThird : List Str := ["_law_pen_here", "_law_a", "_law_b", "_law_high", "_law_some", "_law_c"]
theorem scThird : FnScope nThird ["_law_pen_here", "_law_a", "_law_b", "_law_high"] (defScope sThird) := ⟨rfl, rfl, rfl, by decide +kernel, rfl, by decide +kernel, by decide +kernel⟩
theorem ok_third (F : FnP K "_law_third" sThird f fd) (GD : FnOk P w K mg base CX0 1 fD fdD ["_law_pen_here", "_law_many"] spDraw) (bD : L2.Binds K fdD ["_law_pen_here", "_law_many"] []) (kD : PySem.W.keepIn K (.ref fD) = true) (gD : mg "_law_draw" = some (.ref fD))
    (GF : FnOk P w K mg base CX0 1 fF fdF ["_law_a", "_law_b", "_law_c"] spFits) (bF : L2.Binds K fdF ["_law_a", "_law_b", "_law_c"] []) (kF : PySem.W.keepIn K (.ref fF) = true) (gF : mg "_law_fits" = some (.ref fF))
    (gr : mg "range" = none) (gi : mg "int" = none) (ga : mg "abs" = none) (gl : mg "len" = none) :
    FnOk P w K mg base CX0 2 f fd ["_law_pen_here", "_law_a", "_law_b", "_law_high"] spThird := by
  refine F.ok scThird (fun vs H Q E h => ?_) (fun cdv A outer s H vs Q E hr h => ?_)
  · obtain ⟨p, c, ms, n, a, b, h, rfl, _⟩ := h
    rfl
  · obtain ⟨p, c, ms, n, a, b, h, rfl, hp, n0, n1, a0, b0, h0, h1, q⟩ := h
    refine ⟨_, PSs.nox (pss_cons (ps_set (i := 4) scThird.nd rfl (.inl rfl) (pe_op op_cat
        (pe_lc (own := [("_law_c", 5)]) (g := gName 5) (tt := tB (tCall spFits [] E0 (tCons (tVar 1) (tCons (tVar 2) (tCons (tVar 5) tNil))))) (te := tVar 5) rfl scThird.nd (pi_range1 rfl gr (pa_cons (pe_op op_add (pv 3) pe_int) pa_nil))
          (blkOk_by (N := nThird) (sc := defScope sThird) (by decide +kernel)) (fun _ _ _ _ _ => pg_name (i := 5) scThird.nd rfl (.inl rfl)) (fun _ _ _ _ _ => pts_one (pt_val (pe_call GF hr (by rfl) gF kF bF .nil pass0 (pa_cons (pv 1) (pa_cons (pv 2) (pa_cons (pv 5) pa_nil)))))) (fun _ _ _ _ _ => pv 5))
        (pe_op op_rep (pe_lst (pa_cons (pv 3) pa_nil)) (pe_callTy call_int1 (by rfl) gi (by decide +kernel) (pa_cons (pe_cmpR op_gt (pe_callB call_abs (by rfl) ga (by decide +kernel) (pa_cons (pe_op op_sub (pv 1) (pv 2)) pa_nil)) (pv 3) (nomark _)) pa_nil)))))
      (pss_one (ps_ret (pe_ix ix_list (pv 4) (pe_call GD hr (by rfl) gD kD bD .nil pass0 (pa_cons (pv 0) (pa_cons (pe_callB call_len_seq (by rfl) gl PySem.boot_len (pa_cons (pv 4) pa_nil)) pa_nil))) (fun _ _ => rfl))))), ?_⟩
    refine ⟨_, rfl, h, 1, rfl, rfl, h + 1, rfl, by omega, by omega, fun D hD => lc_range (lo := 0) (n := (h + 1).toNat) (fun i H' => Same H H' ∧ H' D = some (.lst ((fitL a b i).map V.int))) ⟨same_upd hD, upd_same⟩ (fun i H' hi hP => ?_) (fun H' hP => ?_)⟩
    · obtain ⟨sm, hd⟩ := hP
      refine ⟨rfl, ?_⟩
      refine ⟨_, rfl, _, rfl, _, rfl, a, b, _, rfl, _, rfl, ?_⟩
      refine iteB (fun z => ?_) fun z => ?_
      · refine ⟨_, rfl, _, hd, ?_, ?_, ?_⟩
        · have := fitL_len a b i
          rw [List.length_map, sizeLine_eq]
          omega
        · intro b' o e
          rw [upd_ne (ne_of_none e hD)]
          exact sm b' o e
        · rw [upd_same, fitL_succ, if_pos z, List.map_append]
          rfl
      · refine ⟨sm, ?_⟩
        rw [hd, fitL_succ, if_neg (by rw [z]; exact Bool.false_ne_true), List.append_nil]
    · obtain ⟨sm, hd⟩ := hP
      refine ⟨_, rfl, by show 1 ≤ sizeLine; decide, fun l hl => ?_⟩
      have s1 := same_upd (o := .lst [.int h]) hl
      obtain ⟨gap, eg⟩ : ∃ g : Int, (if a - b < 0 then -(a - b) else a - b) = g := ⟨_, rfl⟩
      refine ⟨_, rfl, _, rfl, a, b, rfl, rfl, a - b, rfl, _, rfl, _, h, rfl, rfl, .inr ⟨_, rfl, ?_⟩⟩
      rw [eg]
      obtain ⟨k, ek⟩ : ∃ k : Int, (if decide (gap > h) = true then (1 : Int) else 0) = k := ⟨_, rfl⟩
      rw [ek]
      have k01 : k = 0 ∨ k = 1 := by
        rw [← ek]
        split <;> omega
      refine ⟨l, k, _, rfl, rfl, upd_same, by omega, by omega, ?_, fun l2 hl2 => ?_⟩
      · rw [sizeLine_eq]
        show 1 * k.toNat ≤ _
        omega
      obtain ⟨tail, et⟩ : ∃ t : List Int, (if gap > h then [h] else []) = t := ⟨_, rfl⟩
      have er : (List.replicate k.toNat ([V.int h] : List V)).flatten = tail.map V.int := by
        rw [← ek, ← et]
        by_cases z : gap > h
        · rw [if_pos (decide_eq_true z), if_pos z]
          rfl
        · rw [if_neg (by rw [decide_eq_false z]; exact Bool.false_ne_true), if_neg z]
          rfl
      have tl : tail.length ≤ 1 := by
        rw [← et]
        split <;> simp
      have s2 := same_upd (o := .lst ((List.replicate k.toNat ([V.int h] : List V)).flatten)) hl2
      refine ⟨D, l2, _, _, rfl, rfl, s2 _ _ (s1 _ _ hd), upd_same, ?_, fun l3 hl3 => ?_⟩
      · have := fitL_len a b (h + 1).toNat
        rw [er, List.length_map, List.length_map, sizeLine_eq]
        omega
      have e3 : ((fitL a b (h + 1).toNat).map V.int) ++ (List.replicate k.toNat ([V.int h] : List V)).flatten = (thirdL a b h).map V.int := by
        rw [er, ← List.map_append, ← et, ← eg]
        rfl
      rw [e3]
      have s3 := same_upd (o := .lst ((thirdL a b h).map V.int)) hl3
      have sA : Same H _ := (sm.trans (s1.trans s2)).trans s3
      have p3 := hp.same sA
      have tn := thirdL_ne a0 b0 h0
      have tlen : (thirdL a b h).length ≤ 1002 := by
        have := fitL_len a b (h + 1).toNat
        unfold thirdL
        rw [List.length_append, eg, et]
        omega
      refine ⟨_, rfl, _, rfl, _, rfl, l3, _, rfl, .inl (SqL.of upd_same), p, c, ms, n, _, rfl, p3, n0, by omega, ?_, ?_, fun d n' H5 d0 d1 e0 e1 p5 s5 => ?_⟩
      · rw [List.length_map]
        omega
      · rw [List.length_map]
        exact Int.lt_of_le_of_lt (show ((thirdL a b h).length : Int) ≤ 1002 by omega) (by decide)
      · rw [List.length_map] at d1
        have hL := s5 _ _ (PenAt.ne (hp.same (sm.trans (s1.trans s2))) hl3) upd_same
        refine ⟨l3, _, d, .int ((thirdL a b h)[d.toNat]'(by omega)), rfl, rfl, SqL.of hL, at_of (j := d.toNat) (by omega) (by rw [List.getElem?_map, List.getElem?_eq_getElem (by omega)]; rfl), ?_⟩
        exact q _ n' _ (List.getElem_mem _) e0 e1 p5 (SameBut.trans (Same.but sA) s5)
end
end TC
namespace TC
open PySem PySem.Spec PyProof.Rows L2 TCA TCX
section
variable {P : Program} {w : World} {K : PySem.W.Frag} {mg : Str → Option Value} {base : Heap} {f fD fZ fT : Addr} {fd fdD fdZ fdT : FuncData}
/-! ### _law_odd -/
theorem no_non {K : PySem.W.Frag} {H : Hp} : NotInt K H .non := ⟨_, false, false, .base .non, kit_ty (by decide +kernel), kit_ty (by decide +kernel), rfl⟩
theorem no_bl {K : PySem.W.Frag} {H : Hp} (b : Bool) : NotInt K H (.bl b) := ⟨_, true, true, .base (.bl b), kit_ty (by decide +kernel), kit_ty (by decide +kernel), rfl⟩
theorem no_str {K : PySem.W.Frag} {H : Hp} (z : Str) : NotInt K H (.str z) := ⟨_, false, false, .base (.str z), kit_ty (by decide +kernel), kit_ty (by decide +kernel), rfl⟩
theorem no_tup {K : PySem.W.Frag} {H : Hp} {a : Addr} {xs : List V} (h : H a = some (.tup xs)) : NotInt K H (.ref a) := ⟨_, false, false, .base (.tup h), kit_ty (by decide +kernel), kit_ty (by decide +kernel), rfl⟩
theorem no_lst {K : PySem.W.Frag} {H : Hp} {a : Addr} {xs : List V} (h : H a = some (.lst xs)) : NotInt K H (.ref a) := ⟨_, false, false, .base (.lst h), kit_ty (by decide +kernel), kit_ty (by decide +kernel), rfl⟩
theorem no_dK {K : PySem.W.Frag} {H : Hp} {a : Addr} {xs : List (Key × V)} (h : H a = some (.dK xs)) : NotInt K H (.ref a) := ⟨_, false, false, .base (.dK h), kit_ty (by decide +kernel), kit_ty (by decide +kernel), rfl⟩
def spOddL (K : PySem.W.Frag) : Sp := fun vs H Q _ => ∃ (p c : Addr) (ms : List Int) (n : Int), vs = [.ref p] ∧ PenAt H p c ms n ∧ 0 ≤ n ∧ n ≤ 900000 ∧
  ∀ (v : V) (n' : Int) H', Siz K H' v false → n ≤ n' → n' ≤ n + 1 → PenAt H' p c ms n' → SameBut p H H' → Q v H'
theorem scOddL : FnScope ["_law_pen_here", "_law_some"] ["_law_pen_here"] (defScope sOddL) := ⟨rfl, rfl, rfl, by decide +kernel, rfl, by decide +kernel, by decide +kernel⟩
theorem cases17 {d : Int} (h0 : 0 ≤ d) (h1 : d < 17) : d = 0 ∨ d = 1 ∨ d = 2 ∨ d = 3 ∨ d = 4 ∨ d = 5 ∨ d = 6 ∨ d = 7 ∨ d = 8 ∨ d = 9 ∨ d = 10 ∨ d = 11 ∨ d = 12 ∨ d = 13 ∨ d = 14 ∨ d = 15 ∨ d = 16 := by omega
theorem ok_oddL (F : FnP K "_law_odd" sOddL f fd) (GD : FnOk P w K mg base CX0 1 fD fdD ["_law_pen_here", "_law_many"] spDraw) (bD : L2.Binds K fdD ["_law_pen_here", "_law_many"] []) (kD : PySem.W.keepIn K (.ref fD) = true) (gD : mg "_law_draw" = some (.ref fD)) :
    FnOk P w K mg base CX0 2 f fd ["_law_pen_here"] (spOddL K) := by
  refine F.ok scOddL (fun vs H Q E h => ?_) (fun cdv A outer s H vs Q E hr h => ?_)
  · obtain ⟨p, c, ms, n, rfl, _⟩ := h
    rfl
  · obtain ⟨p, c, ms, n, rfl, hp, n0, n1, q⟩ := h
    refine ⟨_, PSs.nox (pss_cons (ps_set (i := 1) scOddL.nd rfl (.inl rfl) (pe_lst (pa_cons pe_non (pa_cons pe_bl (pa_cons pe_bl (pa_cons (pe_un un_neg pe_int) (pa_cons pe_int (pa_cons (pe_op op_pow pe_int pe_int) (pa_cons (pe_un un_neg pe_int) (pa_cons pe_str (pa_cons pe_str
      (pa_cons (pe_tup pa_nil) (pa_cons (pe_tup (pa_cons pe_int pa_nil)) (pa_cons (pe_lst (pa_cons pe_int pa_nil)) (pa_cons pe_dnewK (pa_cons (pe_tup (pa_cons (pe_un un_neg pe_int) (pa_cons pe_int pa_nil))) (pa_cons pe_str (pa_cons (pe_lst (pa_cons (pe_lst pa_nil) pa_nil)) (pa_cons (pe_tup (pa_cons pe_non (pa_cons pe_non pa_nil))) pa_nil)))))))))))))))))))
      (pss_one (ps_ret (pe_ix ix_list (pv 1) (pe_call GD hr (by rfl) gD kD bD .nil pass0 (pa_cons (pv 0) (pa_cons pe_int pa_nil))) (fun _ _ => rfl))))), ?_⟩
    refine ⟨1, rfl, 10, 30, rfl, rfl, ⟨by decide, by decide, by decide⟩, 2, rfl, by show 0 ≤ sizeLine; decide, fun t1 h1 => ?_⟩
    refine ⟨by show 1 ≤ sizeLine; decide, fun t2 h2 => ?_⟩
    refine ⟨by show 1 ≤ sizeLine; decide, fun t3 h3 => ?_⟩
    intro t4 h4
    refine ⟨1, rfl, by show 2 ≤ sizeLine; decide, fun t5 h5 => ?_⟩
    refine ⟨by show 0 ≤ sizeLine; decide, fun t6 h6 => ?_⟩
    refine ⟨by show 1 ≤ sizeLine; decide, fun t7 h7 => ?_⟩
    refine ⟨by show 2 ≤ sizeLine; decide, fun t8 h8 => ?_⟩
    refine ⟨by show 17 ≤ sizeLine; decide, fun t9 h9 => ?_⟩
    have s1 := same_upd (o := .tup []) h1
    have s2 := same_upd (o := .tup [.int 2]) h2
    have s3 := same_upd (o := .lst [.int 2]) h3
    have s4 := same_upd (o := .dK []) h4
    have s5 := same_upd (o := .tup [.int (-1), .int 0]) h5
    have s6 := same_upd (o := .lst []) h6
    have s7 := same_upd (o := .lst [.ref t6]) h7
    have s8 := same_upd (o := .tup [.non, .non]) h8
    have s9 := same_upd (o := .lst [.non, .bl true, .bl false, .int (-1), .int 41, .int (10 ^ 30), .int (-2), .str "2", .str "", .ref t1, .ref t2, .ref t3, .ref t4, .ref t5, .str "a", .ref t7, .ref t8]) h9
    have e9 := s9
    have e8 := s8.trans e9
    have e7 := s7.trans e8
    have e6 := s6.trans e7
    have e5 := s5.trans e6
    have e4 := s4.trans e5
    have e3 := s3.trans e4
    have e2 := s2.trans e3
    have e1 := s1.trans e2
    refine ⟨_, rfl, _, rfl, p, c, ms, n, 17, rfl, hp.same e1, n0, by omega, by decide, by decide, fun d n' H' d0 d1 a0 a1 p' sb => ?_⟩
    have sall : SameBut p H H' := SameBut.trans (Same.but e1) sb
    have hne : ∀ {G : Hp} {t : Addr}, Same H G → G t = none → t ≠ p := fun sg hg => PenAt.ne (hp.same sg) hg
    have u1 := sb t1 _ (hne (fun _ _ z => z) h1) (e2 _ _ upd_same)
    have u2 := sb t2 _ (hne s1 h2) (e3 _ _ upd_same)
    have u3 := sb t3 _ (hne (s1.trans s2) h3) (e4 _ _ upd_same)
    have u4 := sb t4 _ (hne ((s1.trans s2).trans s3) h4) (e5 _ _ upd_same)
    have u5 := sb t5 _ (hne (((s1.trans s2).trans s3).trans s4) h5) (e6 _ _ upd_same)
    have u7 := sb t7 _ (hne (((((s1.trans s2).trans s3).trans s4).trans s5).trans s6) h7) (e8 _ _ upd_same)
    have u8 := sb t8 _ (hne ((((((s1.trans s2).trans s3).trans s4).trans s5).trans s6).trans s7) h8) (e9 _ _ upd_same)
    have u9 := sb t9 _ (hne (((((((s1.trans s2).trans s3).trans s4).trans s5).trans s6).trans s7).trans s8) h9) upd_same
    have dn : ∀ v, NotInt K H' v → Siz K H' v false := fun v z => .inr ⟨rfl, z⟩
    have fin : ∀ v : V, Siz K H' v false → Q v H' := fun v z => q v n' H' z a0 a1 p' sall
    rcases cases17 d0 d1 with rfl | rfl | rfl | rfl | rfl | rfl | rfl | rfl | rfl | rfl | rfl | rfl | rfl | rfl | rfl | rfl | rfl
    · exact ⟨t9, _, 0, _, rfl, rfl, SqL.of u9, atI_nat (j := 0) rfl, fin _ (dn _ no_non)⟩
    · exact ⟨t9, _, 1, _, rfl, rfl, SqL.of u9, atI_nat (j := 1) rfl, fin _ (dn _ (no_bl _))⟩
    · exact ⟨t9, _, 2, _, rfl, rfl, SqL.of u9, atI_nat (j := 2) rfl, fin _ (dn _ (no_bl _))⟩
    · exact ⟨t9, _, 3, _, rfl, rfl, SqL.of u9, atI_nat (j := 3) rfl, fin _ (.inl ⟨-1, rfl, rfl⟩)⟩
    · exact ⟨t9, _, 4, _, rfl, rfl, SqL.of u9, atI_nat (j := 4) rfl, fin _ (.inl ⟨41, rfl, rfl⟩)⟩
    · exact ⟨t9, _, 5, _, rfl, rfl, SqL.of u9, atI_nat (j := 5) rfl, fin _ (.inl ⟨10 ^ 30, rfl, by decide⟩)⟩
    · exact ⟨t9, _, 6, _, rfl, rfl, SqL.of u9, atI_nat (j := 6) rfl, fin _ (.inl ⟨-2, rfl, rfl⟩)⟩
    · exact ⟨t9, _, 7, _, rfl, rfl, SqL.of u9, atI_nat (j := 7) rfl, fin _ (dn _ (no_str _))⟩
    · exact ⟨t9, _, 8, _, rfl, rfl, SqL.of u9, atI_nat (j := 8) rfl, fin _ (dn _ (no_str _))⟩
    · exact ⟨t9, _, 9, _, rfl, rfl, SqL.of u9, atI_nat (j := 9) rfl, fin _ (dn _ (no_tup u1))⟩
    · exact ⟨t9, _, 10, _, rfl, rfl, SqL.of u9, atI_nat (j := 10) rfl, fin _ (dn _ (no_tup u2))⟩
    · exact ⟨t9, _, 11, _, rfl, rfl, SqL.of u9, atI_nat (j := 11) rfl, fin _ (dn _ (no_lst u3))⟩
    · exact ⟨t9, _, 12, _, rfl, rfl, SqL.of u9, atI_nat (j := 12) rfl, fin _ (dn _ (no_dK u4))⟩
    · exact ⟨t9, _, 13, _, rfl, rfl, SqL.of u9, atI_nat (j := 13) rfl, fin _ (dn _ (no_tup u5))⟩
    · exact ⟨t9, _, 14, _, rfl, rfl, SqL.of u9, atI_nat (j := 14) rfl, fin _ (dn _ (no_str _))⟩
    · exact ⟨t9, _, 15, _, rfl, rfl, SqL.of u9, atI_nat (j := 15) rfl, fin _ (dn _ (no_lst u7))⟩
    · exact ⟨t9, _, 16, _, rfl, rfl, SqL.of u9, atI_nat (j := 16) rfl, fin _ (dn _ (no_tup u8))⟩
end
end TC
namespace TC
open PySem PySem.Spec PyProof.Rows L2 TCA TCX
section
variable {P : Program} {w : World} {K : PySem.W.Frag} {mg : Str → Option Value} {base : Heap} {f fD fZ fT : Addr} {fd fdD fdZ fdT : FuncData}
/-! ### _law_any_three -/
def Sizes (xs : List Int) : Prop := ∀ x ∈ xs, 0 ≤ x ∧ x ≤ 40
def spAny : Sp := fun vs H Q _ => ∃ (p c : Addr) (ms : List Int) (n : Int), vs = [.ref p] ∧ PenAt H p c ms n ∧ 0 ≤ n ∧ n ≤ 800000 ∧
  ∀ (l : Addr) (xs : List Int) (n' : Int) H', 3 ≤ xs.length → Sizes xs → H' l = some (.lst (xs.map V.int)) → n ≤ n' → n' ≤ n + 30 → PenAt H' p c ms n' → SameBut p H H' → Q (.ref l) H'
theorem scAny : FnScope ["_law_pen_here", "_law_a", "_law_b", "_law_c", "_law_some"] ["_law_pen_here"] (defScope sAny) := ⟨rfl, rfl, rfl, by decide +kernel, rfl, by decide +kernel, by decide +kernel⟩
theorem at6 {d : Int} (h0 : 0 ≤ d) (h1 : d < 6) : ∃ z : Int, atI [V.int 0, V.int 0, V.int 1, V.int 2, V.int (-1), V.int (-2)] d = some (.int z) := by
  have : d = 0 ∨ d = 1 ∨ d = 2 ∨ d = 3 ∨ d = 4 ∨ d = 5 := by omega
  rcases this with rfl | rfl | rfl | rfl | rfl | rfl
  · exact ⟨0, atI_nat (j := 0) rfl⟩
  · exact ⟨0, atI_nat (j := 1) rfl⟩
  · exact ⟨1, atI_nat (j := 2) rfl⟩
  · exact ⟨2, atI_nat (j := 3) rfl⟩
  · exact ⟨-1, atI_nat (j := 4) rfl⟩
  · exact ⟨-2, atI_nat (j := 5) rfl⟩
theorem ok_any (F : FnP K "_law_any_three" sAny f fd) (GD : FnOk P w K mg base CX0 1 fD fdD ["_law_pen_here", "_law_many"] spDraw) (bD : L2.Binds K fdD ["_law_pen_here", "_law_many"] []) (kD : PySem.W.keepIn K (.ref fD) = true) (gD : mg "_law_draw" = some (.ref fD))
    (GZ : FnOk P w K mg base CX0 2 fZ fdZ ["_law_pen_here"] spSizeL) (bZ : L2.Binds K fdZ ["_law_pen_here"] []) (kZ : PySem.W.keepIn K (.ref fZ) = true) (gZ : mg "_law_size" = some (.ref fZ))
    (GT : FnOk P w K mg base CX0 2 fT fdT ["_law_pen_here", "_law_a", "_law_b", "_law_high"] spThird) (bT : L2.Binds K fdT ["_law_pen_here", "_law_a", "_law_b", "_law_high"] []) (kT : PySem.W.keepIn K (.ref fT) = true) (gT : mg "_law_third" = some (.ref fT))
    (gmx : mg "max" = none) (gmn : mg "min" = none) : FnOk P w K mg base CX0 3 f fd ["_law_pen_here"] spAny := by
  refine F.ok scAny (fun vs H Q E h => ?_) (fun cdv A outer s H vs Q E hr h => ?_)
  · obtain ⟨p, c, ms, n, rfl, _⟩ := h
    rfl
  · obtain ⟨p, c, ms, n, rfl, hp, n0, n1, q⟩ := h
    have hr1 := hr.mono (show 1 ≤ 2 by decide)
    refine ⟨_, PSs.nox (pss_cons (ps_par3 (i := 1) (j := 2) (l := 3) rfl scAny.nd rfl rfl rfl (by decide) (by decide) (by decide) rfl rfl rfl (pa_cons (pe_call GZ hr (by rfl) gZ kZ bZ .nil pass0 (pa_cons (pv 0) pa_nil)) (pa_cons (pe_call GZ hr (by rfl) gZ kZ bZ .nil pass0 (pa_cons (pv 0) pa_nil)) (pa_cons (pe_call GZ hr (by rfl) gZ kZ bZ .nil pass0 (pa_cons (pv 0) pa_nil)) pa_nil))) (by rfl))
      (C8.pss_cut (ps_if (pt_cmpR op_eq (pe_call GD hr1 (by rfl) gD kD bD .nil pass0 (pa_cons (pv 0) (pa_cons pe_int pa_nil))) pe_int (nomark _))
        (pss_one (ps_set (i := 3) scAny.nd rfl (.inl rfl) (pe_op op_add (pe_call GT hr (by rfl) gT kT bT .nil pass0 (pa_cons (pv 0) (pa_cons (pv 1) (pa_cons (pv 2) (pa_cons pe_int pa_nil)))))
          (pe_ix ix_list (pe_lst (pa_cons pe_int (pa_cons pe_int (pa_cons pe_int (pa_cons pe_int (pa_cons (pe_un un_neg pe_int) (pa_cons (pe_un un_neg pe_int) pa_nil))))))) (pe_call GD hr1 (by rfl) gD kD bD .nil pass0 (pa_cons (pv 0) (pa_cons pe_int pa_nil))) (fun _ _ => rfl))))) pss_nil)
      (pss_cons (ps_set (i := 4) scAny.nd rfl (.inl rfl) (pe_lst (pa_cons (pv 1) (pa_cons (pv 2) (pa_cons (pe_callB (call_max2 rfl) (by rfl) gmx (by decide +kernel) (pa_cons pe_int (pa_cons (pe_callB (call_min2 rfl) (by rfl) gmn (by decide +kernel) (pa_cons pe_int (pa_cons (pv 3) pa_nil))) pa_nil))) pa_nil)))))
      (pss_one (ps_ret (pe_op op_cat (pe_slice sl_list (pv 4) (po_some (pe_call GD hr1 (by rfl) gD kD bD .nil pass0 (pa_cons (pv 0) (pa_cons pe_int pa_nil)))) po_none) (pv 4))))))), ?_⟩
    refine ⟨_, rfl, p, c, ms, n, rfl, hp, n0, by omega, fun a m1 H1 a0 a1 x1 y1 p1 s1 => ?_⟩
    refine ⟨_, rfl, p, c, ms, m1, rfl, p1, by omega, by omega, fun b m2 H2 b0 b1 x2 y2 p2 s2 => ?_⟩
    refine ⟨_, rfl, p, c, ms, m2, rfl, p2, by omega, by omega, fun t m3 H3 t0 t1 x3 y3 p3 s3 => ?_⟩
    refine ⟨_, _, _, rfl, ?_⟩
    have sA := (s1.trans s2).trans s3
    refine ⟨fun σ H' => ∃ (z m : Int), σ = [some (.ref p), some (.int a), some (.int b), some (.int z), none] ∧ m3 ≤ m ∧ m ≤ m3 + 5 ∧ PenAt H' p c ms m ∧ SameBut p H H', ?_, fun σ' H' hM => ?_⟩
    · refine ⟨_, rfl, p, c, ms, m3, 2, rfl, p3, by omega, by omega, by decide, by decide, fun d m4 H4 d0 d1 x4 y4 p4 s4 => ?_⟩
      refine ⟨rfl, _, rfl, ite2 (fun _ => ?_) fun _ => ⟨t, m4, rfl, by omega, by omega, p4, sA.trans s4⟩⟩
      refine ⟨_, rfl, _, rfl, _, rfl, p, c, ms, m4, a, b, 40, rfl, p4, by omega, by omega, a0, b0, by decide, by decide, fun e m5 H5 he x5 y5 p5 s5 => ?_⟩
      refine ⟨1, rfl, 2, rfl, by show 6 ≤ sizeLine; decide, fun l hl => ?_⟩
      refine ⟨_, rfl, p, c, ms, m5, 6, rfl, p5.new hl, by omega, by omega, by decide, by decide, fun g m6 H6 g0 g1 x6 y6 p6 s6 => ?_⟩
      obtain ⟨z, hz⟩ := at6 g0 g1
      refine ⟨l, _, g, _, rfl, rfl, SqL.of (s6 _ _ (PenAt.ne p5 hl) upd_same), hz, e, z, rfl, rfl, ?_⟩
      exact ⟨e + z, m6, rfl, by omega, by omega, p6, (((sA.trans s4).trans s5).new hl).trans s6⟩
    · obtain ⟨z, m, rfl, x4, y4, p4, s4⟩ := hM
      obtain ⟨y, ey⟩ : ∃ y : Int, (if (if z < 40 then z else 40) > 0 then (if z < 40 then z else 40) else 0) = y := ⟨_, rfl⟩
      have y01 : 0 ≤ y ∧ y ≤ 40 := by
        rw [← ey]
        split <;> split <;> omega
      refine ⟨_, rfl, _, rfl, _, rfl, 40, z, rfl, 0, _, rfl, ?_⟩
      rw [ey]
      refine ⟨by show 3 ≤ sizeLine; decide, fun l hl => ?_⟩
      have ne := PenAt.ne p4 hl
      refine ⟨_, rfl, _, rfl, p, c, ms, m, 3, rfl, p4.new hl, by omega, by omega, by decide, by decide, fun d m5 H5 d0 d1 x5 y5 p5 s5 => ?_⟩
      have hL := s5 _ _ ne upd_same
      refine ⟨d, rfl, l, _, rfl, SqL.of hL, fun l2 hl2 => ?_⟩
      have s6 := same_upd (o := .lst (cutV [.int a, .int b, .int y] (some d) none)) hl2
      have hcut : ∃ us : List Int, Sizes us ∧ cutV [.int a, .int b, .int y] (some d) none = us.map V.int := by
        have : d = 0 ∨ d = 1 ∨ d = 2 := by omega
        rcases this with rfl | rfl | rfl
        · exact ⟨[a, b, y], by intro x hx; simp at hx; rcases hx with rfl | rfl | rfl <;> exact ⟨by omega, by omega⟩, rfl⟩
        · exact ⟨[b, y], by intro x hx; simp at hx; rcases hx with rfl | rfl <;> exact ⟨by omega, by omega⟩, rfl⟩
        · exact ⟨[y], by intro x hx; simp at hx; subst hx; exact ⟨by omega, by omega⟩, rfl⟩
      obtain ⟨us, hus, eus⟩ := hcut
      have ul : us.length ≤ 3 := by
        have z1 := cutV_length [.int a, .int b, .int y] (some d) none
        rw [eus, List.length_map] at z1
        exact z1
      refine ⟨_, rfl, l2, l, _, _, rfl, rfl, upd_same, s6 _ _ hL, ?_, fun l3 hl3 => ?_⟩
      · rw [eus, List.length_map, sizeLine_eq]
        show us.length + 3 ≤ _
        omega
      · rw [eus] at s6 hl3 ⊢
        refine q l3 (us ++ [a, b, y]) m5 _ (by rw [List.length_append]; show 3 ≤ us.length + 3; omega) ?_ ?_ (by omega) (by omega) ((p5.same s6).new hl3) ((((s4.new hl).trans s5).trans (Same.but s6)).new hl3)
        · intro x hx
          rcases List.mem_append.mp hx with h | h
          · exact hus x h
          · simp at h
            rcases h with rfl | rfl | rfl <;> exact ⟨by omega, by omega⟩
        · rw [upd_same, List.map_append]
          rfl
end
end TC
namespace TC
open PySem PySem.Spec PyProof.Rows L2 TCA TCX
/-- all but the pen and the tables of code objects is as it was -/
def Ext2 (p : Addr) (H H' : Hp) : Prop := ∀ b o, b ≠ p → H b = some o → (∀ ps, o ≠ .tbl ps) → H' b = some o
theorem SameBut.ext {p : Addr} {H H' : Hp} (s : SameBut p H H') : Ext2 p H H' := fun b o n e _ => s b o n e
theorem Ext2.trans {p : Addr} {H H1 H2 : Hp} (a : Ext2 p H H1) (b : Ext2 p H1 H2) : Ext2 p H H2 := fun c o n e z => b c o n (a c o n e z) z
theorem ExtN.ext {p : Addr} {H H' : Hp} (s : LamX.ExtN H H') : Ext2 p H H' := fun b o _ e z => s b o e z
theorem PenAt.extN {H H' : Hp} {p c : Addr} {ms : List Int} {n : Int} (h : PenAt H p c ms n) (s : LamX.ExtN H H') : PenAt H' p c ms n := by
  obtain ⟨l, h1, h2, h3⟩ := h
  exact ⟨l, s _ _ h1 (fun _ z => by cases z), s _ _ h2 (fun _ z => by cases z), h3⟩
theorem PenAt.nt {H : Hp} {p c q : Addr} {ms : List Int} {n : Int} {ps : Array Value} (h : PenAt H p c ms n) (hq : H q = some (.tbl ps)) : q ≠ p := by
  obtain ⟨l, h1, h2, h3⟩ := h
  exact fun e => by rw [e, h1] at hq; cases hq
theorem tyX_at {K : PySem.W.Frag} {H H' : Hp} {v : V} {t : Value} (h : TyX K H v t) (s : ∀ a o, v = .ref a → H a = some o → (∀ ps, o ≠ .tbl ps) → H' a = some o) : TyX K H' v t := by
  cases h with
  | base b =>
    cases b with
    | non => exact .base .non
    | bl y => exact .base (.bl y)
    | int i => exact .base (.int i)
    | str y => exact .base (.str y)
    | flt y => exact .base (.flt y)
    | lst e => exact .base (.lst (s _ _ rfl e fun _ z => by cases z))
    | frz e => exact .base (.frz (s _ _ rfl e fun _ z => by cases z))
    | tup e => exact .base (.tup (s _ _ rfl e fun _ z => by cases z))
    | dK e => exact .base (.dK (s _ _ rfl e fun _ z => by cases z))
    | dT e => exact .base (.dT (s _ _ rfl e fun _ z => by cases z))
    | ins e cl ha hn htk hm => exact .base (.ins (s _ _ rfl e fun _ z => by cases z) cl ha hn htk hm)
  | byt y => exact .byt y
  | set e => exact .set (s _ _ rfl e fun _ z => by cases z)
  | kList e c => exact .kList e c
  | kTuple e c => exact .kTuple e c
  | kDict e c => exact .kDict e c
  | fTuple e => exact .fTuple (s _ _ rfl e fun _ z => by cases z)
  | fDict e => exact .fDict (s _ _ rfl e fun _ z => by cases z)
theorem Siz.ext {K : PySem.W.Frag} {H H' : Hp} {v : V} {b : Bool} {p c : Addr} {ms : List Int} {n : Int} (h : Siz K H v b) (s : Ext2 p H H') (hp : PenAt H' p c ms n) : Siz K H' v b := by
  rcases h with h | ⟨e, t, bi, bb, ty, h⟩
  · exact .inl h
  · refine .inr ⟨e, ?_⟩
    by_cases z : v = .ref p
    · obtain ⟨l, h1, _, _⟩ := hp
      rw [z]
      exact no_lst h1
    · exact ⟨t, bi, bb, tyX_at ty fun a o ea h1 h2 => s a o (fun y => z (by rw [ea, y])) h1 h2, h⟩
theorem tabs_but {T : List (Addr × Str)} {H H' : Hp} {p c : Addr} {ms : List Int} {n : Int} (t : LamX.Tabs T H) (hp : PenAt H p c ms n) (s : SameBut p H H') : LamX.Tabs T H' := fun q hq => by
  obtain ⟨ps, h1, h2, h3⟩ := t q hq
  refine ⟨ps, s _ _ (PenAt.nt hp h1) h1, h2, fun pos cv hc => ?_⟩
  obtain ⟨c0, e1, e2⟩ := h3 pos cv hc
  refine ⟨c0, e1, s _ _ (fun z => ?_) e2⟩
  obtain ⟨l, g1, _, _⟩ := hp
  rw [z, g1] at e2
  unfold LamX.CodeO at e2
  cases e2
theorem Siz.updL {K : PySem.W.Frag} {H : Hp} {v : V} {b : Bool} {q : Addr} {ys : List V} (h : Siz K H v b) : Siz K (upd H q (.lst ys)) v b := by
  rcases h with h | ⟨e, t, bi, bb, ty, h⟩
  · exact .inl h
  · refine .inr ⟨e, ?_⟩
    by_cases z : v = .ref q
    · rw [z]
      exact no_lst upd_same
    · exact ⟨t, bi, bb, tyX_at ty fun a o ea h1 h2 => by rw [upd_ne (fun y => z (by rw [ea, y]))]; exact h1, h⟩
/-- what is refused as no size -/
def dRef : PyData := .tuple [.str "refused", .str "size"]
theorem dRef_ok : SeqAt.shaped dRef = true ∧ PyData.eqv dRef dRef = true := by decide +kernel
theorem dp_ref {K : PySem.W.Frag} {H : Hp} {a : Addr} (h : H a = some (.tup [.str "refused", .str "size"])) : Dp K H (.ref a) dRef := .tup (SqT.of h) (.cons (.str _) (.cons (.str _) .nil))
abbrev qRef : Str := (envOfC "_law_refused_right" (defScope sRef) 0 0 .none).qual ++ "<lambda>"
abbrev tRef (K : PySem.W.Frag) : List (Addr × Str) := [((He.cT K ("_law_refused_right", none)).2, qRef)]
abbrev nRef : List Str := ["_law_pen_here", "_law_sizes", "_law_at", "_law_odd_here", "_law_pair", "_law_some"]
theorem scRef : FnScope nRef ["_law_pen_here", "_law_sizes"] (defScope sRef) := ⟨rfl, rfl, rfl, by decide +kernel, rfl, by decide +kernel, by decide +kernel⟩
def spRef (K : PySem.W.Frag) : Sp := fun vs H Q _ => ∃ (p c l : Addr) (ms : List Int) (n x y z : Int), vs = [.ref p, .ref l] ∧ PenAt H p c ms n ∧ 0 ≤ n ∧ n ≤ 800000 ∧ H l = some (.lst [.int x, .int y, .int z]) ∧ Sizes [x, y, z] ∧ LamX.Tabs (tRef K) H ∧
  ∀ (n' : Int) H', n ≤ n' → n' ≤ n + 30 → PenAt H' p c ms n' → Ext2 p H H' → LamX.Tabs (tRef K) H' → Q (.bl true) H'
section
variable {P : Program} {w : World} {K : PySem.W.Frag} {mg : Str → Option Value} {base : Heap} {f fD fO fS fM fZ fF fW CS : Addr} {fd fdD fdO fdS fdM fdZ fdF fdW : FuncData}
structure RefTxt (P : Program) (w : World) (K : PySem.W.Frag) (mg : Str → Option Value) (base : Heap) (fD fO fS fM fZ fF fW CS : Addr) (fdD fdO fdS fdM fdZ fdF fdW : FuncData) : Prop where
  GD : FnOk P w K mg base CX0 1 fD fdD ["_law_pen_here", "_law_many"] spDraw
  bD : L2.Binds K fdD ["_law_pen_here", "_law_many"] []
  kD : PySem.W.keepIn K (.ref fD) = true
  gD : mg "_law_draw" = some (.ref fD)
  GO : FnOk P w K mg base CX0 2 fO fdO ["_law_pen_here"] (spOddL K)
  bO : L2.Binds K fdO ["_law_pen_here"] []
  kO : PySem.W.keepIn K (.ref fO) = true
  gO : mg "_law_odd" = some (.ref fO)
  FS : FnP K "_law_said" sSaid fS fdS
  bS : L2.Binds K fdS ["_law_call"] []
  gS : mg "_law_said" = some (.ref fS)
  GM : FnOk P w K mg base (L2.CX P w) 4 fM fdM ["one", "other", "third"] (spMay K CS)
  bM : L2.Binds K fdM ["one", "other", "third"] []
  kM : PySem.W.keepIn K (.ref fM) = true
  gM : mg "may_join" = some (.ref fM)
  GZ : FnOk P w K mg base (L2.CX P w) 4 fZ fdZ ["one", "other"] (spSizes K CS)
  bZ : L2.Binds K fdZ ["one", "other"] []
  kZ : PySem.W.keepIn K (.ref fZ) = true
  gZ : mg "sizes_of" = some (.ref fZ)
  GF : FnOk P w K mg base (L2.CX P w) 4 fF fdF ["size"] (spOffs K CS)
  bF : L2.Binds K fdF ["size"] []
  kF : PySem.W.keepIn K (.ref fF) = true
  gF : mg "offsets" = some (.ref fF)
  GW : FnOk P w K mg base CX0 1 fW fdW ["_law_e"] (spWord K)
  bW : L2.Binds K fdW ["_law_e"] []
  kW : PySem.W.keepIn K (.ref fW) = true
  gW : mg "_law_word" = some (.ref fW)
  ST : STxt K mg
  kd : Kind K CS 9
  hx : PySem.W.exmAny K (.ref CS) [.ref (He.ga K "TurnError")] = some true
theorem ok_ref (F : FnP K "_law_refused_right" sRef (He.fAd K ("_law_refused_right", none)) fd) (T : RefTxt P w K mg base fD fO fS fM fZ fF fW CS fdD fdO fdS fdM fdZ fdF fdW) (TB : LamX.TabB base mg (He.cT K ("_law_refused_right", none)).1 (He.cT K ("_law_refused_right", none)).2) :
    FnOk P w K mg base CX0 8 (He.fAd K ("_law_refused_right", none)) fd ["_law_pen_here", "_law_sizes"] (spRef K) := by
  obtain ⟨oc, od, dV, kV, doc, pm, an, cdv, ct, osl, rfl, lk, hcd, _, _⟩ := F.ex
  obtain ⟨cc, rfl⟩ := He.codeIn_ref hcd
  have ecc : He.codeOf K ("_law_refused_right", none) = cc := He.codeOf_eq lk rfl
  obtain ⟨oc2, od2, dV2, kV2, doc2, pm2, an2, cdv2, ct2, osl2, e2, lk2, hcd2, _, _⟩ := T.FS.ex
  have bS := T.bS
  rw [e2] at bS lk2
  refine fn_of lk hcd scRef (fun vs H Q E h => ?_) (fun A outer s H vs Q E hr h => ?_)
  · obtain ⟨p, c, l, ms, n, x, y, z, rfl, _⟩ := h
    rfl
  · obtain ⟨p, c, l, ms, n, x, y, z, rfl, hp, n0, n1, hl, hz, hT, q⟩ := h
    have hr1 := hr.mono (show 1 ≤ 7 by decide)
    have hr2 := hr.mono (show 2 ≤ 7 by decide)
    have hr6 := hr.mono (show 6 ≤ 7 by decide)
    refine ⟨_, PSs.nox (pss_cons (ps_asg (pe_tup (pa_cons (pe_call T.GD hr1 (by rfl) T.gD T.kD T.bD .nil pass0 (pa_cons (pv 0) (pa_cons pe_int pa_nil))) (pa_cons (pe_call T.GO hr2 (by rfl) T.gO T.kO T.bO .nil pass0 (pa_cons (pv 0) pa_nil)) pa_nil))) (pg_tup rfl (pgs_cons (pg_name (i := 2) scRef.nd rfl (.inl rfl)) (pgs_cons (pg_name (i := 3) scRef.nd rfl (.inr rfl)) pgs_nil))))
      (C8.pss_cut (ps_set (i := 5) scRef.nd rfl (.inr rfl) (pe_op op_cat (pe_op op_cat (pe_slice sl_list (pv 1) po_none (po_some (pv 2))) (pe_lst (pa_cons (pv 3) pa_nil))) (pe_slice sl_list (pv 1) (po_some (pe_op op_add (pv 2) pe_int)) po_none)))
      (C8.pss_cut (ps_if (pt_cmpR op_eq (pe_call T.GD hr1 (by rfl) T.gD T.kD T.bD .nil pass0 (pa_cons (pv 0) (pa_cons pe_int pa_nil))) pe_int (nomark _))
        (pss_one (ps_asg (pe_call T.GO hr2 (by rfl) T.gO T.kO T.bO .nil pass0 (pa_cons (pv 0) pa_nil)) (pg_sub (pv 5) (pe_call T.GD hr1 (by rfl) T.gD T.kD T.bD .nil pass0 (pa_cons (pv 0) (pa_cons pe_int pa_nil))) set_list))) pss_nil)
      (C8.pss_cut (ps_if (pt_cmpR (op_neD (hr.mono (show 1 ≤ 7 by decide)).units) (LamX.pe_lamcall (T := tRef K) (k := 4) (TT := TSaid K) (t := fun E => tCall (spMay K CS) [] E (tCons (tOp (rIxL K) (tVar 5) (tC (.int 0))) (tCons (tOp (rIxL K) (tVar 5) (tC (.int 1))) (tCons (tOp (rIxL K) (tVar 5) (tC (.int 2))) tNil)))) (by rfl) T.gS T.FS.kp lk2 hcd2 bS scSaid rfl (.inl rfl) (said_gives T.ST T.GW T.bW T.kW T.gW hr2) TB (congrArg Value.ref ecc.symm) (List.mem_singleton.mpr rfl) (fun p hp _ => by rw [List.mem_singleton.mp hp]; rfl) hr6 (LamX.lamS_by (sc := defScope sRef) (by decide +kernel)) rfl (fun _ _ _ _ _ => rfl)
          (fun A outer s H E f c' hrl => pe_call T.GM hrl (by rfl) T.gM T.kM T.bM .nil (passes_call (takes_of rfl rfl rfl rfl) fun _ _ _ _ z => z) (pa_cons (pe_ix ix_list (pv 5) pe_int (fun _ _ => rfl)) (pa_cons (pe_ix ix_list (pv 5) pe_int (fun _ _ => rfl)) (pa_cons (pe_ix ix_list (pv 5) pe_int (fun _ _ => rfl)) pa_nil)))))
        (pe_tup (pa_cons pe_str (pa_cons pe_str pa_nil))) (nomark _)) (pss_one (ps_ret pe_bl)) pss_nil)
      (C8.pss_cut (ps_set (i := 4) scRef.nd rfl (.inr rfl) (pe_ix ix_list (pe_lst (pa_cons (pe_lst (pa_cons (pv 3) (pa_cons (pe_ix ix_list (pv 1) pe_int (fun _ _ => rfl)) pa_nil))) (pa_cons (pe_lst (pa_cons (pe_ix ix_list (pv 1) pe_int (fun _ _ => rfl)) (pa_cons (pv 3) pa_nil))) (pa_cons (pe_lst (pa_cons (pv 3) (pa_cons (pv 3) pa_nil))) pa_nil)))) (pe_call T.GD hr1 (by rfl) T.gD T.kD T.bD .nil pass0 (pa_cons (pv 0) (pa_cons pe_int pa_nil))) (fun _ _ => rfl)))
      (C8.pss_cut (ps_if (pt_cmpR (op_neD (hr.mono (show 1 ≤ 7 by decide)).units) (LamX.pe_lamcall (T := tRef K) (k := 4) (TT := TSaid K) (t := fun E => tCall (spSizes K CS) [] E (tCons (tOp (rIxL K) (tVar 4) (tC (.int 0))) (tCons (tOp (rIxL K) (tVar 4) (tC (.int 1))) tNil))) (by rfl) T.gS T.FS.kp lk2 hcd2 bS scSaid rfl (.inl rfl) (said_gives T.ST T.GW T.bW T.kW T.gW hr2) TB (congrArg Value.ref ecc.symm) (List.mem_singleton.mpr rfl) (fun p hp _ => by rw [List.mem_singleton.mp hp]; rfl) hr6 (LamX.lamS_by (sc := defScope sRef) (by decide +kernel)) rfl (fun _ _ _ _ _ => rfl)
          (fun A outer s H E f c' hrl => pe_call T.GZ hrl (by rfl) T.gZ T.kZ T.bZ .nil (passes_call (takes_of rfl rfl rfl rfl) fun _ _ _ _ z => z) (pa_cons (pe_ix ix_list (pv 4) pe_int (fun _ _ => rfl)) (pa_cons (pe_ix ix_list (pv 4) pe_int (fun _ _ => rfl)) pa_nil))))
        (pe_tup (pa_cons pe_str (pa_cons pe_str pa_nil))) (nomark _)) (pss_one (ps_ret pe_bl)) pss_nil)
      (pss_one (ps_ret (pe_cmpR (op_eqD (hr.mono (show 1 ≤ 7 by decide)).units) (LamX.pe_lamcall (T := tRef K) (k := 4) (TT := TSaid K) (t := fun E => tCall (spOffs K CS) [] E (tCons (tVar 3) tNil)) (by rfl) T.gS T.FS.kp lk2 hcd2 bS scSaid rfl (.inl rfl) (said_gives T.ST T.GW T.bW T.kW T.gW hr2) TB (congrArg Value.ref ecc.symm) (List.mem_singleton.mpr rfl) (fun p hp _ => by rw [List.mem_singleton.mp hp]; rfl) hr6 (LamX.lamS_by (sc := defScope sRef) (by decide +kernel)) rfl (fun _ _ _ _ _ => rfl)
          (fun A outer s H E f c' hrl => pe_call T.GF hrl (by rfl) T.gF T.kF T.bF .nil (passes_call (takes_of rfl rfl rfl rfl) fun _ _ _ _ z => z) (pa_cons (pv 3) pa_nil)))
        (pe_tup (pa_cons pe_str (pa_cons pe_str pa_nil))) (nomark _)))))))))), ?_⟩
    refine ⟨_, rfl, p, c, ms, n, 3, rfl, hp, n0, by omega, by decide, by decide, fun at_ m1 H1 a0 a1 x1 y1 p1 s1 => ?_⟩
    refine ⟨_, rfl, p, c, ms, m1, rfl, p1, by omega, by omega, fun v m2 H2 hv x2 y2 p2 s2 => ?_⟩
    refine ⟨by show 2 ≤ sizeLine; decide, fun t ht => ⟨t, _, rfl, SqT.of upd_same, rfl, _, _, rfl, _, _, rfl, rfl, ?_⟩⟩
    have lp : l ≠ p := fun e => by
      obtain ⟨lf, g1, _, _⟩ := hp
      rw [e, g1] at hl
      cases hl
    have t1 : Same H2 (upd H2 t (.tup [.int at_, v])) := same_upd ht
    have hl2 := t1 _ _ (s2 _ _ lp (s1 _ _ lp hl))
    refine ⟨fun σ H' => ∃ (q5 : Addr) (m : Int) (u0 u1 u2 : V) (b0 b1 b2 : Bool), σ = [some (.ref p), some (.ref l), some (.int at_), some v, none, some (.ref q5)] ∧ m2 ≤ m ∧ m ≤ m2 + 3 ∧ PenAt H' p c ms m ∧ SameBut p H H' ∧ H q5 = none ∧ q5 ≠ p ∧ q5 ≠ c ∧ H' q5 = some (.lst [u0, u1, u2]) ∧ Siz K H' v false ∧ Siz K H' u0 b0 ∧ Siz K H' u1 b1 ∧ Siz K H' u2 b2 ∧ (b0 && (b1 && b2)) = false, ?_, fun σ' H3 hM => ?_⟩
    · refine ⟨_, rfl, _, rfl, at_, rfl, l, _, rfl, SqL.of hl2, fun q1 hq1 => ?_⟩
      have t2 := same_upd (o := .lst (cutV [.int x, .int y, .int z] none (some at_))) hq1
      refine ⟨_, rfl, by show 1 ≤ sizeLine; decide, fun q2 hq2 => ?_⟩
      have t3 := same_upd (o := .lst [v]) hq2
      refine ⟨q1, q2, _, _, rfl, rfl, t3 _ _ upd_same, upd_same, ?_, fun q3 hq3 => ?_⟩
      · have := cutV_length [.int x, .int y, .int z] none (some at_)
        rw [sizeLine_eq]
        show (cutV [V.int x, V.int y, V.int z] none (some at_)).length + 1 ≤ _
        have e3 : ([.int x, .int y, .int z] : List V).length = 3 := rfl
        omega
      have t4 := same_upd (o := .lst (cutV [.int x, .int y, .int z] none (some at_) ++ [v])) hq3
      have t24 := (t2.trans t3).trans t4
      refine ⟨_, rfl, _, rfl, at_, 1, rfl, rfl, at_ + 1, rfl, l, _, rfl, SqL.of (t24 _ _ hl2), fun q4 hq4 => ?_⟩
      have t5 := same_upd (o := .lst (cutV [.int x, .int y, .int z] (some (at_ + 1)) none)) hq4
      obtain ⟨u0, u1, u2, b0, b1, b2, eu, w0, w1, w2, hf⟩ : ∃ (u0 u1 u2 : V) (b0 b1 b2 : Bool), (cutV [.int x, .int y, .int z] none (some at_) ++ [v]) ++ cutV [.int x, .int y, .int z] (some (at_ + 1)) none = [u0, u1, u2] ∧ Siz K H2 u0 b0 ∧ Siz K H2 u1 b1 ∧ Siz K H2 u2 b2 ∧ (b0 && (b1 && b2)) = false := by
        have hx := hz x (by simp)
        have hy := hz y (by simp)
        have hzz := hz z (by simp)
        have : at_ = 0 ∨ at_ = 1 ∨ at_ = 2 := by omega
        rcases this with rfl | rfl | rfl
        · exact ⟨v, .int y, .int z, false, true, true, rfl, hv, Siz.int hy.1 hy.2, Siz.int hzz.1 hzz.2, rfl⟩
        · exact ⟨.int x, v, .int z, true, false, true, rfl, Siz.int hx.1 hx.2, hv, Siz.int hzz.1 hzz.2, rfl⟩
        · exact ⟨.int x, .int y, v, true, true, false, rfl, Siz.int hx.1 hx.2, Siz.int hy.1 hy.2, hv, rfl⟩
      refine ⟨q3, q4, _, _, rfl, rfl, t5 _ _ upd_same, upd_same, ?_, fun q5 hq5 => ?_⟩
      · rw [← List.length_append, eu]
        show 3 ≤ sizeLine
        decide
      have t15 := t1.trans (t24.trans t5)
      have t6 := same_upd (o := .lst [u0, u1, u2]) hq5
      have t16 := t15.trans t6
      have pq := p2.same t15
      have n5 : q5 ≠ p := PenAt.ne pq hq5
      have n6 : q5 ≠ c := fun e => by
        obtain ⟨lf, g1, g2, g3⟩ := pq
        rw [e, g2] at hq5
        cases hq5
      have sH : SameBut p H _ := (s1.trans s2).trans (Same.but t15)
      have n7 : H q5 = none := by
        cases e : H q5 with
        | none => rfl
        | some o =>
          have z := sH _ _ n5 e
          rw [hq5] at z
          cases z
      rw [eu]
      exact ⟨q5, m2, u0, u1, u2, b0, b1, b2, rfl, by omega, by omega, p2.same t16, (s1.trans s2).trans (Same.but t16), n7, n5, n6, upd_same, hv.same t16, w0.same t16, w1.same t16, w2.same t16, hf⟩
    obtain ⟨q5, m3, u0, u1, u2, b0, b1, b2, rfl, x3, y3, p3, sA, n7, n5, n6, h5, rv, r0, r1, r2, hf⟩ := hM
    clear hl2 t1 ht t hv p2 s2
    refine ⟨fun σ H' => ∃ (q5 : Addr) (m : Int) (u0 u1 u2 : V) (b0 b1 b2 : Bool), σ = [some (.ref p), some (.ref l), some (.int at_), some v, none, some (.ref q5)] ∧ m2 ≤ m ∧ m ≤ m2 + 6 ∧ PenAt H' p c ms m ∧ SameBut p H H' ∧ H q5 = none ∧ q5 ≠ p ∧ q5 ≠ c ∧ H' q5 = some (.lst [u0, u1, u2]) ∧ Siz K H' v false ∧ Siz K H' u0 b0 ∧ Siz K H' u1 b1 ∧ Siz K H' u2 b2 ∧ (b0 && (b1 && b2)) = false, ?_, fun σ' H4 hM => ?_⟩
    · refine ⟨_, rfl, p, c, ms, m3, 3, rfl, p3, by omega, by omega, by decide, by decide, fun d m4 H4 d0 d1 x4 y4 p4 s4 => ?_⟩
      refine ⟨rfl, _, rfl, ite2 (fun _ => ?_) fun _ => ?_⟩
      · refine ⟨_, rfl, p, c, ms, m4, rfl, p4, by omega, by omega, fun e m5 H5 he x5 y5 p5 s5 => ?_⟩
        refine ⟨_, rfl, _, rfl, p, c, ms, m5, 3, rfl, p5, by omega, by omega, by decide, by decide, fun g m6 H6 g0 g1 x6 y6 p6 s6 => ?_⟩
        have s46 : SameBut p H3 H6 := (s4.trans s5).trans s6
        have h6 := s46 _ _ n5 h5
        have e6 := SameBut.ext s46
        have he6 : Siz K H6 e false := he.ext (SameBut.ext s6) p6
        have j0 := r0.ext e6 p6
        have j1 := r1.ext e6 p6
        have j2 := r2.ext e6 p6
        have jv := rv.ext e6 p6
        have pe : ∀ ys, PenAt (upd H6 q5 (.lst ys)) p c ms m6 := fun ys => by
          obtain ⟨lf, g1, g2, g3⟩ := p6
          exact ⟨lf, by rw [upd_ne (Ne.symm n5)]; exact g1, by rw [upd_ne (Ne.symm n6)]; exact g2, g3⟩
        have sx : ∀ ys, SameBut p H (upd H6 q5 (.lst ys)) := fun ys b o nb hb => by
          rw [upd_ne (fun z => by rw [z, n7] at hb; cases hb)]
          exact s46 _ _ nb (sA _ _ nb hb)
        have : g = 0 ∨ g = 1 ∨ g = 2 := by omega
        rcases this with rfl | rfl | rfl
        · exact ⟨q5, _, 0, 0, rfl, rfl, h6, rfl, q5, m6, e, u1, u2, false, b1, b2, rfl, by omega, by omega, pe _, sx _, n7, n5, n6, upd_same, jv.updL, he6.updL, j1.updL, j2.updL, rfl⟩
        · exact ⟨q5, _, 1, 1, rfl, rfl, h6, rfl, q5, m6, u0, e, u2, b0, false, b2, rfl, by omega, by omega, pe _, sx _, n7, n5, n6, upd_same, jv.updL, j0.updL, he6.updL, j2.updL, by cases b0 <;> rfl⟩
        · exact ⟨q5, _, 2, 2, rfl, rfl, h6, rfl, q5, m6, u0, u1, e, b0, b1, false, rfl, by omega, by omega, pe _, sx _, n7, n5, n6, upd_same, jv.updL, j0.updL, j1.updL, he6.updL, by cases b0 <;> cases b1 <;> rfl⟩
      · have e4 := SameBut.ext s4
        exact ⟨q5, m4, u0, u1, u2, b0, b1, b2, rfl, by omega, by omega, p4, sA.trans s4, n7, n5, n6, s4 _ _ n5 h5, rv.ext e4 p4, r0.ext e4 p4, r1.ext e4 p4, r2.ext e4 p4, hf⟩
    obtain ⟨q5, m4, u0, u1, u2, b0, b1, b2, rfl, x4, y4, p4, sB, n7, n5, n6, h5, rv, r0, r1, r2, hf⟩ := hM
    have T4 := tabs_but hT hp sB
    -- the third refused: may_join
    refine ⟨fun σ H' => σ = [some (.ref p), some (.ref l), some (.int at_), some v, none, some (.ref q5)] ∧ PenAt H' p c ms m4 ∧ Ext2 p H H' ∧ LamX.Tabs (tRef K) H' ∧ Siz K H' v false, ?_, fun σ' H5 hM => ?_⟩
    · refine ⟨T4, fun H5 eN T5 H6 s6 => ?_⟩
      have h6 := s6 _ _ (eN _ _ h5 (fun _ z => by cases z))
      have p5 := p4.extN eN
      have e5 : Ext2 p H4 H5 := ExtN.ext eN
      refine ⟨_, rfl, q5, _, 0, _, rfl, rfl, SqL.of h6, atI_nat (j := 0) rfl, _, rfl, q5, _, 1, _, rfl, rfl, SqL.of h6, atI_nat (j := 1) rfl, _, rfl, q5, _, 2, _, rfl, rfl, SqL.of h6, atI_nat (j := 2) rfl, ?_⟩
      refine ⟨u0, u1, u2, b0, b1, b2, rfl, (r0.ext e5 p5).same s6, (r1.ext e5 p5).same s6, (r2.ext e5 p5).same s6, fun _ H7 s7 => ?_, fun _ _ _ _ _ _ z => by rw [hf] at z; cases z⟩
      refine ⟨CS, 9, rfl, rfl, T.kd, by decide, T.hx, fun pp H8 s8 hpp => ?_⟩
      refine ⟨by show 2 ≤ sizeLine; decide, fun t ht => ?_⟩
      have s9 := same_upd (o := .tup [.str "refused", .str "size"]) ht
      have sE := ((s6.trans s7).trans s8).trans s9
      refine ⟨dRef, dRef, dp_ref (s9 _ _ hpp), dp_ref upd_same, dRef_ok.1, dRef_ok.1, _, rfl, ?_⟩
      rw [dRef_ok.2]
      exact iteF ⟨rfl, p5.same sE, ((SameBut.ext sB).trans e5).trans (SameBut.ext (Same.but sE)), T5.ext sE, (rv.ext e5 p5).same sE⟩
    obtain ⟨rfl, p5, e5, T5, v5⟩ := hM
    clear r0 r1 r2 rv h5 T4 sB hf
    -- the pair
    refine ⟨fun σ H' => ∃ (q6 : Addr) (m : Int) (w0 w1 : V) (c0 c1 : Bool), σ = [some (.ref p), some (.ref l), some (.int at_), some v, some (.ref q6), some (.ref q5)] ∧ m4 ≤ m ∧ m ≤ m4 + 1 ∧ PenAt H' p c ms m ∧ Ext2 p H H' ∧ LamX.Tabs (tRef K) H' ∧ Siz K H' v false ∧ H' q6 = some (.lst [w0, w1]) ∧ Siz K H' w0 c0 ∧ Siz K H' w1 c1 ∧ (c0 && c1) = false, ?_, fun σ' H6 hM => ?_⟩
    · have hl5 := e5 _ _ lp hl (fun _ z => by cases z)
      refine ⟨_, rfl, _, rfl, l, _, 0, _, rfl, rfl, SqL.of hl5, atI_nat (j := 0) rfl, by show 2 ≤ sizeLine; decide, fun l1 h1 => ?_⟩
      have t1 := same_upd (o := .lst [v, .int x]) h1
      refine ⟨_, rfl, l, _, 0, _, rfl, rfl, SqL.of (t1 _ _ hl5), atI_nat (j := 0) rfl, _, rfl, by show 2 ≤ sizeLine; decide, fun l2 h2 => ?_⟩
      have t2 := same_upd (o := .lst [.int x, v]) h2
      refine ⟨_, rfl, _, rfl, by show 2 ≤ sizeLine; decide, fun l3 h3 => ?_⟩
      have t3 := same_upd (o := .lst [v, v]) h3
      refine ⟨by show 3 ≤ sizeLine; decide, fun l4 h4 => ?_⟩
      have t4 := same_upd (o := .lst [.ref l1, .ref l2, .ref l3]) h4
      have t34 := t3.trans t4
      have t24 := t2.trans t34
      have t14 := t1.trans t24
      have p6 := p5.same t14
      refine ⟨_, rfl, p, c, ms, m4, 3, rfl, p6, by omega, by omega, by decide, by decide, fun d m6 H6 d0 d1 x6 y6 p7 s6 => ?_⟩
      have k1 := s6 _ _ (PenAt.ne p5 h1) (t24 _ _ upd_same)
      have k2 := s6 _ _ (PenAt.ne (p5.same t1) h2) (t34 _ _ upd_same)
      have k3 := s6 _ _ (PenAt.ne (p5.same (t1.trans t2)) h3) (t4 _ _ upd_same)
      have k4 := s6 _ _ (PenAt.ne (p5.same ((t1.trans t2).trans t3)) h4) upd_same
      have e6 : Ext2 p H5 H6 := (SameBut.ext (Same.but t14)).trans (SameBut.ext s6)
      have T6 := tabs_but (T5.ext t14) p6 s6
      have v6 := v5.ext e6 p7
      have hx := hz x (by simp)
      have : d = 0 ∨ d = 1 ∨ d = 2 := by omega
      rcases this with rfl | rfl | rfl
      · exact ⟨l4, _, 0, _, rfl, rfl, SqL.of k4, atI_nat (j := 0) rfl, l1, m6, v, .int x, false, true, rfl, by omega, by omega, p7, e5.trans e6, T6, v6, k1, v6, Siz.int hx.1 hx.2, rfl⟩
      · exact ⟨l4, _, 1, _, rfl, rfl, SqL.of k4, atI_nat (j := 1) rfl, l2, m6, .int x, v, true, false, rfl, by omega, by omega, p7, e5.trans e6, T6, v6, k2, Siz.int hx.1 hx.2, v6, rfl⟩
      · exact ⟨l4, _, 2, _, rfl, rfl, SqL.of k4, atI_nat (j := 2) rfl, l3, m6, v, v, false, false, rfl, by omega, by omega, p7, e5.trans e6, T6, v6, k3, v6, v6, rfl⟩
    obtain ⟨q6, m6, w0, w1, c0, c1, rfl, x6, y6, p6, e6, T6, v6, k6, r0, r1, hf⟩ := hM
    clear p5 e5 T5 v5
    -- sizes_of
    refine ⟨fun σ H' => σ = [some (.ref p), some (.ref l), some (.int at_), some v, some (.ref q6), some (.ref q5)] ∧ PenAt H' p c ms m6 ∧ Ext2 p H H' ∧ LamX.Tabs (tRef K) H' ∧ Siz K H' v false, ?_, fun σ' H7 hM => ?_⟩
    · refine ⟨T6, fun H7 eN T7 H8 s8 => ?_⟩
      have h8 := s8 _ _ (eN _ _ k6 (fun _ z => by cases z))
      have p7 := p6.extN eN
      have e7 : Ext2 p H6 H7 := ExtN.ext eN
      refine ⟨_, rfl, q6, _, 0, _, rfl, rfl, SqL.of h8, atI_nat (j := 0) rfl, _, rfl, q6, _, 1, _, rfl, rfl, SqL.of h8, atI_nat (j := 1) rfl, ?_⟩
      refine ⟨w0, w1, c0, c1, rfl, (r0.ext e7 p7).same s8, (r1.ext e7 p7).same s8, fun _ H9 s9 => ?_, fun _ _ _ _ z => by rw [hf] at z; cases z⟩
      refine ⟨CS, 9, rfl, rfl, T.kd, by decide, T.hx, fun pp Ha sa hpp => ?_⟩
      refine ⟨by show 2 ≤ sizeLine; decide, fun t ht => ?_⟩
      have sb := same_upd (o := .tup [.str "refused", .str "size"]) ht
      have sE := ((s8.trans s9).trans sa).trans sb
      refine ⟨dRef, dRef, dp_ref (sb _ _ hpp), dp_ref upd_same, dRef_ok.1, dRef_ok.1, _, rfl, ?_⟩
      rw [dRef_ok.2]
      exact iteF ⟨rfl, p7.same sE, (e6.trans e7).trans (SameBut.ext (Same.but sE)), T7.ext sE, (v6.ext e7 p7).same sE⟩
    obtain ⟨rfl, p7, e7, T7, v7⟩ := hM
    -- offsets
    refine ⟨T7, fun H8 eN T8 H9 s9 => ?_⟩
    have p8 := p7.extN eN
    have e8 : Ext2 p H7 H8 := ExtN.ext eN
    refine ⟨_, rfl, v, false, rfl, (v7.ext e8 p8).same s9, fun _ Ha sa => ?_, fun _ _ z => by cases z⟩
    refine ⟨CS, 9, rfl, rfl, T.kd, by decide, T.hx, fun pp Hb sb hpp => ?_⟩
    refine ⟨by show 2 ≤ sizeLine; decide, fun t ht => ?_⟩
    have sc := same_upd (o := .tup [.str "refused", .str "size"]) ht
    have sE := ((s9.trans sa).trans sb).trans sc
    refine ⟨dRef, dRef, dp_ref (sc _ _ hpp), dp_ref upd_same, dRef_ok.1, dRef_ok.1, ?_⟩
    rw [dRef_ok.2]
    exact q m6 _ (by omega) (by omega) (p8.same sE) ((e7.trans e8).trans (SameBut.ext (Same.but sE))) (T8.ext sE)
end
end TC
/-! repr of lists of ints; the end of a law whose own def asks repr. -/
namespace TCX
open PySem PySem.Spec PyProof.Rows L2
/-! ### data of lists of ints -/
def dInts (ns : List Int) : List PyData := ns.map PyData.int
theorem dpAll_ints {K : PySem.W.Frag} {H : Hp} : ∀ ns : List Int, DpAll K H (ns.map V.int) (dInts ns)
  | [] => .nil
  | n :: r => .cons (.int n) (dpAll_ints r)
theorem dp_ints {K : PySem.W.Frag} {H : Hp} {a : Addr} {ns : List Int} (h : H a = some (.lst (ns.map V.int))) : Dp K H (.ref a) (.list (dInts ns)) := .lst (SqL.of h) (dpAll_ints ns)
theorem log_small {i : Int} (h : i.natAbs < 10 ^ 9) : i.natAbs.log2 < 30 := Nat.lt_of_lt_of_le (PySem.Flt.log2_lt_of (show 0 < 30 by decide) (Nat.lt_trans h (by decide))) (by decide)
theorem ints_show : ∀ ns : List Int, (∀ n ∈ ns, n.natAbs < 10 ^ 9) → PyData.showableAll (dInts ns) = true ∧ PyData.hasDictAll (dInts ns) = false ∧ PyData.depthAll (dInts ns) = 0 ∧ PyData.leavesShortAll 13 (dInts ns) = true ∧ PyData.weightAll (dInts ns) ≤ 40 * ns.length
  | [], _ => ⟨rfl, rfl, rfl, rfl, Nat.le_refl _⟩
  | n :: r, h => by
    obtain ⟨h1, h2, h3, h4, h5⟩ := ints_show r fun m hm => h m (List.mem_cons_of_mem _ hm)
    have hn := h n List.mem_cons_self
    have hl := log_small hn
    refine ⟨?_, ?_, ?_, ?_, ?_⟩
    · show (PyData.showable (.int n) && PyData.showableAll (dInts r)) = true
      rw [h1, Bool.and_true]
      simp only [PyData.showable, decide_eq_true_eq]
      omega
    · show (PyData.hasDict (.int n) || PyData.hasDictAll (dInts r)) = false
      rw [h2]
      rfl
    · show max (PyData.depth (.int n)) (PyData.depthAll (dInts r)) = 0
      rw [h3]
      rfl
    · show (PyData.leavesShort 13 (.int n) && PyData.leavesShortAll 13 (dInts r)) = true
      rw [h4, Bool.and_true]
      exact decide_eq_true (PyData.shown_int_le (Nat.lt_trans hn (by decide)))
    · show PyData.weight (.int n) + 1 + PyData.weightAll (dInts r) ≤ 40 * (r.length + 1)
      have : PyData.weight (.int n) ≤ 31 := by
        show (if n == 0 then 0 else n.natAbs.log2 + 1) ≤ 31
        split <;> omega
      omega
structure Shows (d : PyData) : Prop where
  s : d.showable = true
  h : d.hasDict = false
  dp : d.depth ≤ 60
  z : d.shown.length ≤ sizeLine
theorem shows_ints {ns : List Int} (h : ∀ n ∈ ns, n.natAbs < 10 ^ 9) (hl : ns.length ≤ 10000) : Shows (.list (dInts ns)) := by
  obtain ⟨h1, h2, h3, h4, h5⟩ := ints_show ns h
  refine ⟨h1, h2, ?_, PyData.shown_fits (B := 13) (by decide) (by decide) (d := .list (dInts ns)) h4 ?_⟩
  · show PyData.depthAll (dInts ns) + 1 ≤ 60
    omega
  · show PyData.weightAll (dInts ns) ≤ 2 ^ 20
    omega
/-! ### the end of a law, by FnG -/
section
variable {P : Program} {w : World} {K : PySem.W.Frag} {mg mb : Str → Option Value} {CX : CXT} {k : Nat} {fa a : Addr} {cs : List (Addr × Addr)} {fd : FuncData} {x : Str} {sp : Sp} {s₁ : Shared} {vs : List Value} {ns : List Int}
/-- the script (where K doesn't hold it) and the tables are tracked at the law's call -/
def hLaw (K : PySem.W.Frag) (T : List Addr) (a : Addr) (ob : Obj) (xs : List V) : Hp := fun b =>
  if b ∈ T then some (.tbl #[]) else if b = a ∧ K.lookup a = none then some (.frz ob (.lst xs)) else none
theorem hLaw_tab {T : List Addr} {ob : Obj} {xs : List V} {b : Addr} (h : b ∈ T) : hLaw K T a ob xs b = some (.tbl #[]) := if_pos h
theorem hLaw_inv {T : List Addr} {ob : Obj} {xs : List V} {b : Addr} {u : HO} (h : hLaw K T a ob xs b = some u) : (b ∈ T ∧ u = .tbl #[]) ∨ (b = a ∧ K.lookup a = none ∧ u = .frz ob (.lst xs)) := by
  unfold hLaw at h
  by_cases hT : b ∈ T
  · rw [if_pos hT] at h
    exact .inl ⟨hT, (Option.some.inj h).symm⟩
  · rw [if_neg hT] at h
    by_cases ha : b = a ∧ K.lookup a = none
    · rw [if_pos ha] at h
      exact .inr ⟨ha.1, ha.2, (Option.some.inj h).symm⟩
    · rw [if_neg ha] at h
      cases h
theorem law_callG (KX : K.In s₁.heap) (hns : s₁.heap.Ns mainGlobals mg) (hb : s₁.heap.Ns builtinsNs mb) (hbb : ∀ x : Str, x ≠ "__name__" → mb x = bootBuiltins x) (hlim : s₁.heap.NoLimit) (hg : s₁.gens = #[])
    (hT : ∀ p ∈ cs, s₁.heap.get? p.2 = some { cls := .none, data := .fields #[] }) (nT : ∀ p ∈ cs, K.lookup p.2 = none) (C : ∀ p ∈ cs, PySem.W.CodeHd s₁.heap p.1 p.2)
    (hbm : ∃ (bm : Addr) (ob : Obj), mg "__builtins__" = some (.ref bm) ∧ bm ≠ builtinsNs ∧ s₁.heap.get? bm = some ob ∧ ob.cls = .type "module" ∧ ob.dict = some builtinsNs ∧ ob.data = .plain)
    (ha : s₁.heap.get? a = some { cls := .type "list", data := .seq vs.toArray }) (hi : IntsAre vs ns) (hl : ns.length ≤ sizeLine) (hr : Room k callerA)
    (F : ∀ base : Heap, K.In base → base.Ns mainGlobals mg → (∀ p ∈ cs, LamX.TabB base mg p.1 p.2) → FnG P w K mg base CX k fa fd [x] sp) (hbind : ∀ (s : Shared) (u : Value), BindsTo s fd ⟨[u], []⟩ [(x, u)])
    (hsp : ∀ H : Hp, (∀ p ∈ cs, H p.2 = some (.tbl #[])) → SqL K H a (ns.map V.int) → sp [.ref a] H (fun v _ => v = .bl true) fun _ _ _ => False)
    (hCX : ∀ H e s', CX [] H s₁ (fun _ _ _ => False) e s' → False) :
    codeAny (model P w) callerA (.call (.ref fa) ⟨[.ref a], []⟩) (fun r s' => r = .ok (.ret (.bool true)) ∧ OldK s₁.heap s'.heap ∧ s'.os = s₁.os ∧ AllBare s'.gens) s₁ := by
  have rv := vals_ints hi
  have lenV := hi.length
  obtain ⟨T, eT⟩ : ∃ T : List Addr, cs.map (·.2) = T := ⟨_, rfl⟩
  have tIn : ∀ p ∈ cs, p.2 ∈ T := fun p hp => by
    rw [← eT]
    exact List.mem_map.mpr ⟨p, hp, rfl⟩
  have tOut : ∀ b, b ∈ T → ∃ p ∈ cs, p.2 = b := fun b h => by
    rw [← eT] at h
    exact List.mem_map.mp h
  have tGet : ∀ b, b ∈ T → s₁.heap.get? b = some { cls := .none, data := .fields #[] } := fun b h => by
    obtain ⟨p, hp, rfl⟩ := tOut b h
    exact hT p hp
  have aOut : a ∉ T := fun z => by
    have q := ha.symm.trans (tGet a z)
    cases q
  obtain ⟨H, eH⟩ : ∃ H : Hp, hLaw K T a { cls := .type "list", data := .seq vs.toArray } (ns.map V.int) = H := ⟨_, rfl⟩
  have inv : ∀ {b : Addr} {u : HO}, H b = some u → (b ∈ T ∧ u = .tbl #[]) ∨ (b = a ∧ K.lookup a = none ∧ u = .frz { cls := .type "list", data := .seq vs.toArray } (.lst (ns.map V.int))) := fun h => by
    rw [← eH] at h
    exact hLaw_inv h
  have hH : ∀ p ∈ cs, H p.2 = some (.tbl #[]) := fun p hp => by
    rw [← eH]
    exact hLaw_tab (tIn p hp)
  have hS : SqL K H a (ns.map V.int) := by
    cases hk : K.lookup a with
    | none => exact .inl (.inr ⟨_, by rw [← eH]; exact (if_neg aOut).trans (if_pos ⟨rfl, hk⟩)⟩)
    | some o =>
      have e := (KX a o hk).symm.trans ha
      cases e
      exact .inr ⟨_, vs.toArray, _, hk, rfl, rfl, rfl, by rw [List.size_toArray, lenV]; exact hl, by simpa using rv⟩
  have hok : HOk P w H s₁.heap := fun b u e => by
    rcases inv e with ⟨h1, rfl⟩ | ⟨rfl, _, rfl⟩
    · exact tGet b h1
    · exact ⟨ha, by rw [List.length_map]; exact hl, vs, _, rv, ha⟩
  -- what is neither the script nor a table isn't tracked
  have off : ∀ {b : Addr} {o : Obj}, s₁.heap.get? b = some o → (∀ us n, o.data ≠ .seq us n) → o.data ≠ .fields #[] → H b = none := fun {b o} e h1 h2 => by
    cases q : H b with
    | none => rfl
    | some u =>
      rcases inv q with ⟨g1, _⟩ | ⟨rfl, _, _⟩
      · rw [tGet b g1] at e
        cases e
        exact absurd rfl h2
      · rw [ha] at e
        cases e
        exact absurd rfl (h1 _ _)
  have nsK : ∀ {b : Addr} {m : Str → Option Value}, s₁.heap.Ns b m → (hidT s₁.heap H).Ns b m := fun {b m} z => by
    obtain ⟨o, es, ep, e, d, r⟩ := z
    exact ⟨o, es, ep, hidT_get e (off e (fun us n y => by rw [d] at y; cases y) fun y => by rw [d] at y; cases y), d, r⟩
  have hKb : K.In (hidT s₁.heap H) := fun b o e => hidT_get (KX b o e) (by
    cases q : H b with
    | none => rfl
    | some u =>
      rcases inv q with ⟨g1, _⟩ | ⟨rfl, g2, _⟩
      · obtain ⟨p, hp, rfl⟩ := tOut b g1
        rw [nT p hp] at e
        cases e
      · rw [g2] at e
        cases e)
  have hM : L2.Mod K mg (hidT s₁.heap H) := ⟨hKb, nsK hns, ⟨mb, nsK hb, hbb⟩, let ⟨mc, h1, h2⟩ := hlim; ⟨mc, nsK h1, h2⟩⟩
  have TB : ∀ p ∈ cs, LamX.TabB (hidT s₁.heap H) mg p.1 p.2 := fun p hp => by
    have hTp := hT p hp
    refine ⟨?_, ?_, fun z => ?_⟩
    · obtain ⟨o, us, file, tf, flags, tg, inF, text, tt, e1, r1, r2, r3, r4⟩ := C p hp
      exact ⟨o, us, file, tf, flags, tg, inF, text, tt, hidT_get e1 (off e1 (fun _ _ z => by rw [r2] at z; cases z) fun z => by
        rw [r2] at z
        cases z
        simp at r3), r1, r2, r3, r4⟩
    · obtain ⟨bm, ob, b1, b2, b3, b4, b5, b6⟩ := hbm
      refine ⟨bm, ob, b1, b2, fun y => ?_, fun y => ?_, hidT_get b3 (off b3 (fun _ _ z => by rw [b6] at z; cases z) fun z => by rw [b6] at z; cases z), b4, b5, b6⟩
      · obtain ⟨o, es, ep, e, hd, _⟩ := hns
        rw [y, e] at b3
        cases b3
        rw [hd] at b6
        cases b6
      · rw [y, hTp] at b3
        cases b3
        cases b6
    · obtain ⟨o, es, ep, e, hd, _⟩ := hns
      rw [z, hTp] at e
      cases e
      cases hd
  have e0 : Env0 P w K mg (hidT s₁.heap H) callerA [] s₁ H := ⟨rfl, hM, fun b o e => of_hidT e, Nat.le_of_eq (hidT_size _ _), trivial, fun b hb => absurd (show b ∈ ([] : List Addr) from hb) (by simp), hok, .of_eq hg⟩
  refine codeAny_mono ((F _ hKb (nsK hns) TB).grun callerA [] s₁ H ⟨[.ref a], []⟩ [.ref a] [.ref a] _ _ rfl hr e0 (hbind s₁ (.ref a)) (.cons rfl .nil) (hsp H hH hS)) fun r s' h => ?_
  match r, h with
  | .error e, h => exact (hCX H e s' h).elim
  | .ok .next, h => exact False.elim h
  | .ok .brk, h => exact False.elim h
  | .ok .cont, h => exact False.elim h
  | .ok (.ret u), h =>
    obtain ⟨v, H', os, bare, un, hok', r', q'⟩ := h
    cases (show v = .bl true from q')
    cases (show u = Value.bool true from r')
    have noF : ∀ b : Addr, b ∉ frs ([] : List Env) := fun b z => nomatch (show b ∈ ([] : List Addr) from z)
    have key : ∀ b o, b ∉ T → s₁.heap.get? b = some o → s'.heap.get? b = some o := fun b o nb e => by
      cases q : H b with
      | none => exact un.keep b o e q (noF b) (fun z => nomatch z)
      | some u =>
        rcases inv q with ⟨g1, _⟩ | ⟨rfl, _, rfl⟩
        · exact absurd g1 nb
        · obtain ⟨e2, _⟩ := hok' b _ (un.frzs b _ _ q)
          rw [ha] at e
          cases e
          exact e2
    have grown : ∀ p ∈ cs, ∃ more : Array Value, s'.heap.get? p.2 = some { cls := .none, data := .fields more } := fun p hp => by
      obtain ⟨more, z⟩ := un.tbls p.2 #[] (hH p hp)
      exact ⟨_, hok' p.2 _ z⟩
    refine ⟨rfl, ⟨fun b o e => ?_, fun b o e => ?_⟩, os, bare⟩
    · by_cases hb : b ∈ T
      · obtain ⟨p, hp, rfl⟩ := tOut b hb
        obtain ⟨more, hm⟩ := grown p hp
        rw [hT p hp] at e
        cases e
        exact .inr (.inl ⟨((C p hp).tab (hT p hp)).isCodeTable, rfl, #[], more, rfl, by rw [Array.empty_append]; exact hm⟩)
      · exact .inl (key b o hb e)
    · by_cases hb : b ∈ T
      · obtain ⟨p, hp, rfl⟩ := tOut b hb
        obtain ⟨more, hm⟩ := grown p hp
        exact ⟨_, hm⟩
      · exact ⟨o, key b o hb e⟩
end
/-- what is known of the law's promise at the head's heap -/
def LawAtG (l : PySem.W.OpenLaw) (w : World) (K : PySem.W.Frag) (CX : CXT) (k n : Nat) (x : Str) (mg : Str → Option Value) (fa : Addr) (h : Heap) : Prop :=
  ∃ (fd : FuncData) (cs : List (Addr × Addr)) (sp : Sp), (∀ p ∈ cs, h.get? p.2 = some { cls := .none, data := .fields #[] }) ∧ (∀ p ∈ cs, K.lookup p.2 = none) ∧ (∀ p ∈ cs, PySem.W.CodeHd h p.1 p.2) ∧ (∀ (s : Shared) (u : Value), BindsTo s fd ⟨[u], []⟩ [(x, u)]) ∧
    (∀ (H : Hp) (a : Addr) (ns : List Int), ns.length ≤ n → (∀ p ∈ cs, H p.2 = some (.tbl #[])) → SqL K H a (ns.map V.int) → sp [.ref a] H (fun v _ => v = .bl true) fun _ _ _ => False) ∧
    ∀ base : Heap, K.In base → base.Ns mainGlobals mg → (∀ p ∈ cs, LamX.TabB base mg p.1 p.2) → FnG l.prog w K mg base CX k fa fd [x] sp
theorem walk_ofG {l : PySem.W.OpenLaw} {n k : Nat} {q : Program} {loose : List Str} {XP : (Str → Option Value) → Heap → Prop} {YP : World → Heap → Prop} {d : DefRec} {CX : World → CXT} {x : Str}
    (hn : l.most = some n) (hn2 : n ≤ sizeLine) (hdf : d.params.defaults = []) (hr : Room k callerA)
    (F : ∀ (w : World) (mg : Str → Option Value) (fa : Addr) (h : Heap), YP w h → h.Ns mainGlobals mg → mg d.name = some (.ref fa) → ∃ K : PySem.W.Frag, K.In h ∧ LawAtG l w K (CX w) k n x mg fa h)
    (hCX : ∀ (w : World) (H : Hp) (s : Shared) (e : Value) (s' : Shared), CX w [] H s (fun _ _ _ => False) e s' → False) :
    PySem.W.WalkO q loose XP YP l.row.toRowW d [] (fun f vs => PySem.call f vs) := by
  refine Att.attach_callB hn hdf fun w s₀ s₁ mg mb fa o pm cd doc a vs ns G Y ho hd hcd hmg hobj hints hlen hbits hg => ?_
  obtain ⟨K, KX, fd, cs, sp, hT, nT, C, hb, hsp, hF⟩ := F w mg fa _ Y G.T.g hmg
  exact law_callG KX G.T.g G.T.b G.T.builtins G.T.nolimit hg hT nT C G.T.bmain hobj hints (Nat.le_trans hlen hn2) hr hF hb (fun H hH hS => hsp H a ns hlen hH hS) fun H e s' => hCX w H s₁ e s'
end TCX
namespace TC
open PySem PySem.Spec PyProof.Rows L2 TCA TCX
def upL (a : Int) (n : Nat) : List Int := (List.range n).map fun i => a + (i : Nat) * 2
theorem upV_eq (a : Int) (n : Nat) : upV a n = (upL a n).map V.int := by
  unfold upV upL
  rw [List.map_map]
  rfl
def dueL (a : Int) (n : Nat) : List Int := (List.range n).map fun i => 2 * ((0 : Int) + (i : Nat)) - a
theorem dueL_succ (a : Int) (n : Nat) : dueL a (n + 1) = dueL a n ++ [2 * ((0 : Int) + (n : Nat)) - a] := by
  unfold dueL
  rw [List.range_succ, List.map_append]
  rfl
theorem due_up (a : Int) (n : Nat) : dueL a n = upL (-a) n := by
  unfold dueL upL
  refine List.map_congr_left fun i _ => ?_
  omega
theorem up_small {a : Int} {n : Nat} (h0 : -100 ≤ a) (h1 : a ≤ 100) (hn : n ≤ 100) : ∀ x ∈ upL a n, x.natAbs < 10 ^ 9 := by
  intro x hx
  unfold upL at hx
  obtain ⟨i, hi, rfl⟩ := List.mem_map.mp hx
  have := List.mem_range.mp hi
  omega
theorem upL_len (a : Int) (n : Nat) : (upL a n).length = n := by
  unfold upL
  rw [List.length_map, List.length_range]
theorem dueL_len (a : Int) (n : Nat) : (dueL a n).length = n := by
  unfold dueL
  rw [List.length_map, List.length_range]
set_option maxRecDepth 1000000 in
theorem fit_up0 : ∀ a, a < 41 → ∀ b, b < 41 → fitL ((a : Nat) : Int) ((b : Nat) : Int) 41 = upL (if (a : Int) - b < 0 then -((a : Int) - b) else (a : Int) - b) (manyJ a b) := by decide +kernel
theorem fit_up {a b : Int} (a0 : 0 ≤ a) (a1 : a ≤ 40) (b0 : 0 ≤ b) (b1 : b ≤ 40) : fitL a b 41 = upL (if a - b < 0 then -(a - b) else a - b) (manyJ a b) := by
  have h := fit_up0 a.toNat (by omega) b.toNat (by omega)
  rw [Int.toNat_of_nonneg a0, Int.toNat_of_nonneg b0] at h
  exact h
theorem can_fits (a b c : Int) : canJ a b c = fitsB a b c := by
  unfold canJ fitsB
  by_cases h : (a + b + c) % 2 = 1
  · rw [if_pos h, decide_eq_false (show ¬ (a + b + c) % 2 = 0 by omega)]
    rfl
  · rw [if_neg h, decide_eq_true (show (a + b + c) % 2 = 0 by omega)]
    cases decide (a ≤ b + c) <;> cases decide (b ≤ a + c) <;> cases decide (c ≤ a + b) <;> rfl
theorem manyJ_le {a b : Int} (a0 : 0 ≤ a) (a1 : a ≤ 40) (b0 : 0 ≤ b) (b1 : b ≤ 40) : manyJ a b ≤ 50 := by
  unfold manyJ
  split <;> split <;> omega
end TC
namespace TC
open PySem PySem.Spec PyProof.Rows L2 TCA TCX
abbrev nLaw : List Str := ["_law_script", "_law_pen_here", "_law_turn", "_law_sizes", "_law_a", "_law_b", "_law_c", "_law_due", "_law_told", "_law_k"]
theorem scLaw : FnScope nLaw ["_law_script"] (defScope sLaw) := ⟨rfl, rfl, rfl, by decide +kernel, rfl, by decide +kernel, by decide +kernel⟩
def spLaw (K : PySem.W.Frag) : Sp := fun vs H Q _ => ∃ (a : Addr) (ns : List Int), vs = [.ref a] ∧ SqL K H a (ns.map V.int) ∧ ns.length ≤ 63 ∧ H (He.cT K ("_law_refused_right", none)).2 = some (.tbl #[]) ∧ ∀ H', Q (.bl true) H'
structure LTxt (P : Program) (w : World) (K : PySem.W.Frag) (mg : Str → Option Value) (base : Heap) (fP fA fF fM fZ fT fR CS : Addr) (fdP fdA fdF fdM fdZ fdT fdR : FuncData) : Prop where
  GP : FnOk P w K mg base CX0 1 fP fdP ["_law_script"] (spPen K)
  bP : L2.Binds K fdP ["_law_script"] []
  kP : PySem.W.keepIn K (.ref fP) = true
  gP : mg "_law_pen" = some (.ref fP)
  GA : FnOk P w K mg base CX0 3 fA fdA ["_law_pen_here"] spAny
  bA : L2.Binds K fdA ["_law_pen_here"] []
  kA : PySem.W.keepIn K (.ref fA) = true
  gA : mg "_law_any_three" = some (.ref fA)
  GF : FnOk P w K mg base (L2.CX P w) 4 fF fdF ["size"] (spOffs K CS)
  bF : L2.Binds K fdF ["size"] []
  kF : PySem.W.keepIn K (.ref fF) = true
  gF : mg "offsets" = some (.ref fF)
  GM : FnOk P w K mg base (L2.CX P w) 4 fM fdM ["one", "other", "third"] (spMay K CS)
  bM : L2.Binds K fdM ["one", "other", "third"] []
  kM : PySem.W.keepIn K (.ref fM) = true
  gM : mg "may_join" = some (.ref fM)
  GZ : FnOk P w K mg base (L2.CX P w) 4 fZ fdZ ["one", "other"] (spSizes K CS)
  bZ : L2.Binds K fdZ ["one", "other"] []
  kZ : PySem.W.keepIn K (.ref fZ) = true
  gZ : mg "sizes_of" = some (.ref fZ)
  GT : FnOk P w K mg base CX0 1 fT fdT ["_law_a", "_law_b", "_law_c"] spFits
  bT : L2.Binds K fdT ["_law_a", "_law_b", "_law_c"] []
  kT : PySem.W.keepIn K (.ref fT) = true
  gT : mg "_law_fits" = some (.ref fT)
  GR : FnOk P w K mg base CX0 8 fR fdR ["_law_pen_here", "_law_sizes"] (spRef K)
  bR : L2.Binds K fdR ["_law_pen_here", "_law_sizes"] []
  kR : PySem.W.keepIn K (.ref fR) = true
  gR : mg "_law_refused_right" = some (.ref fR)
  gr : mg "range" = none
  gp : mg "repr" = none
theorem same_at {H H' : Hp} {q : Addr} {o : HO} (s : Same H H') (h : H q = none) : Same H (upd H' q o) := fun b x e => by
  rw [upd_ne (ne_of_none e h)]
  exact s b x e
section
variable {P : Program} {w : World} {K : PySem.W.Frag} {mg : Str → Option Value} {base : Heap} {f fP fA fF fM fZ fT fR CS : Addr} {fd fdP fdA fdF fdM fdZ fdT fdR : FuncData}
theorem ok_law (F : FnP K "law" sLaw f fd) (T : LTxt P w K mg base fP fA fF fM fZ fT fR CS fdP fdA fdF fdM fdZ fdT fdR) : FnG P w K mg base CX0 9 f fd ["_law_script"] (spLaw K) := by
  refine okG F scLaw (fun vs H Q E h => ?_) (fun cdv A outer s H vs Q E hG hr h => ?_)
  · obtain ⟨a, ns, rfl, _⟩ := h
    rfl
  · obtain ⟨a, ns, rfl, hS, hn, hTb, q⟩ := h
    have hu := (hr.mono (show 1 ≤ 8 by decide)).units
    have hr1 := hr.mono (show 1 ≤ 8 by decide)
    have hr3 := hr.mono (show 3 ≤ 8 by decide)
    have hr4 := hr.mono (show 4 ≤ 8 by decide)
    refine ⟨_, PSs.nox (pss_cons (ps_set (i := 1) scLaw.nd rfl (.inl rfl) (pe_call T.GP hr1 (by rfl) T.gP T.kP T.bP .nil pass0 (pa_cons (pv 0) pa_nil)))
      (pss_cons (ps_for PassesOwn.never rfl (pi_range1 (by rfl) T.gr (pa_cons pe_int pa_nil)) (pg_name (i := 2) scLaw.nd rfl (.inl rfl))
        (C8.pss_cut (ps_set (i := 3) scLaw.nd rfl (.inl rfl) (pe_slice sl_list (pe_call T.GA hr3 (by rfl) T.gA T.kA T.bA .nil pass0 (pa_cons (pv 1) pa_nil)) po_none (po_some pe_int)))
        (pss_cons (ps_asg (pv 3) (pg_lst rfl (pgs_cons (pg_name (i := 4) scLaw.nd rfl (.inr rfl)) (pgs_cons (pg_name (i := 5) scLaw.nd rfl (.inr rfl)) (pgs_cons (pg_name (i := 6) scLaw.nd rfl (.inl rfl)) pgs_nil)))))
        (C8.pss_cut (ps_setLc (i := 7) (own := [("_law_k", 9)]) (g := gName 9) (tt := tYes) (te := tOp (rI0 fun i j => .int (i - j)) (tOp (rI CMul fun i j => .int (i * j)) (tC (.int 2)) (tVar 9)) (tVar 4)) (by rfl) scLaw.nd rfl rfl (sw_true rfl rfl rfl (by decide +kernel)) (pi_range1 (by rfl) T.gr (pa_cons (pe_op op_add (pv 4) pe_int) pa_nil))
          (blkOk_by (N := nLaw) (sc := defScope sLaw) (by decide +kernel)) (fun _ _ _ _ _ => pg_name (i := 9) scLaw.nd rfl (.inl rfl)) (fun _ _ _ _ _ => pts_nil) (fun _ _ _ _ _ => pe_op op_sub (pe_op op_mul pe_int (pv 9)) (pv 4)))
        (pss_cons (ps_set (i := 8) scLaw.nd rfl (.inl rfl) (pe_call T.GF hr4 (by rfl) T.gF T.kF T.bF .nil (E := E0) passL (pa_cons (pv 4) pa_nil)))
        (pss_cons (ps_if (pt_cmpR op_ne (pe_callB (call_reprD hG hu) (by rfl) T.gp (by decide +kernel) (pa_cons (pv 8) pa_nil)) (pe_callB (call_reprD hG hu) (by rfl) T.gp (by decide +kernel) (pa_cons (pv 7) pa_nil)) (nomark _)) (pss_one (ps_ret pe_bl)) pss_nil)
        (C8.pss_cut (ps_expr (pe_bm PySem.F.plainAttrs_list PySem.F.slot_list_append PySem.F.type_list_append mt_append (pv 8) (pa_cons pe_int pa_nil)))
        (C8.pss_cut (ps_if (PW.pt (pw_or (pt_cmpR op_ne (pe_callB (call_reprD hG hu) (by rfl) T.gp (by decide +kernel) (pa_cons (pe_call T.GF hr4 (by rfl) T.gF T.kF T.bF .nil (E := E0) passL (pa_cons (pv 4) pa_nil)) pa_nil)) (pe_callB (call_reprD hG hu) (by rfl) T.gp (by decide +kernel) (pa_cons (pv 7) pa_nil)) (nomark _)) (pw_or1 (pt_cmpR op_ne (pe_callB call_reprB (by rfl) T.gp (by decide +kernel) (pa_cons (pe_call T.GM hr4 (by rfl) T.gM T.kM T.bM .nil (E := E0) passL (pa_cons (pv 4) (pa_cons (pv 5) (pa_cons (pv 6) pa_nil)))) pa_nil)) (pe_callB call_reprB (by rfl) T.gp (by decide +kernel) (pa_cons (pe_call T.GT hr1 (by rfl) T.gT T.kT T.bT .nil pass0 (pa_cons (pv 4) (pa_cons (pv 5) (pa_cons (pv 6) pa_nil)))) pa_nil)) (nomark _))))) (pss_one (ps_ret pe_bl)) pss_nil)
        (C8.pss_cut (ps_setLc (i := 7) (own := [("_law_k", 9)]) (g := gName 9) (tt := tB (tCall spFits [] E0 (tCons (tVar 4) (tCons (tVar 5) (tCons (tVar 9) tNil))))) (te := tVar 9) (by rfl) scLaw.nd rfl rfl (sw_true rfl rfl rfl (by decide +kernel)) (pi_range1 (by rfl) T.gr (pa_cons pe_int pa_nil))
          (blkOk_by (N := nLaw) (sc := defScope sLaw) (by decide +kernel)) (fun _ _ _ _ _ => pg_name (i := 9) scLaw.nd rfl (.inl rfl)) (fun _ _ _ _ _ => pts_one (pt_val (pe_call T.GT hr1 (by rfl) T.gT T.kT T.bT .nil pass0 (pa_cons (pv 4) (pa_cons (pv 5) (pa_cons (pv 9) pa_nil)))))) (fun _ _ _ _ _ => pv 9))
        (pss_cons (ps_set (i := 8) scLaw.nd rfl (.inl rfl) (pe_call T.GZ hr4 (by rfl) T.gZ T.kZ T.bZ .nil (E := E0) passL (pa_cons (pv 4) (pa_cons (pv 5) pa_nil))))
        (pss_cons (ps_if (pt_cmpR op_ne (pe_callB (call_reprD hG hu) (by rfl) T.gp (by decide +kernel) (pa_cons (pv 8) pa_nil)) (pe_callB (call_reprD hG hu) (by rfl) T.gp (by decide +kernel) (pa_cons (pv 7) pa_nil)) (nomark _)) (pss_one (ps_ret pe_bl)) pss_nil)
        (C8.pss_cut (ps_expr (pe_bm0 PySem.F.plainAttrs_list PySem.F.slot_list_clear PySem.F.type_list_clear mt_clear (pv 8)))
        (pss_one (ps_if (PW.pt (pw_or (pt_cmpR op_ne (pe_callB (call_reprD hG hu) (by rfl) T.gp (by decide +kernel) (pa_cons (pe_call T.GZ hr4 (by rfl) T.gZ T.kZ T.bZ .nil (E := E0) passL (pa_cons (pv 4) (pa_cons (pv 5) pa_nil))) pa_nil)) (pe_callB (call_reprD hG hu) (by rfl) T.gp (by decide +kernel) (pa_cons (pv 7) pa_nil)) (nomark _)) (pw_or1 (pt_not (pt_val (pe_call T.GR hr (by rfl) T.gR T.kR T.bR .nil pass0 (pa_cons (pv 1) (pa_cons (pv 3) pa_nil)))))))) (pss_one (ps_ret pe_bl)) pss_nil))))))))))))))
      (pss_one (ps_ret pe_bl)))), ?_⟩
    refine ⟨_, rfl, a, ns, rfl, hS, hn, fun p c ms H1 sm hp0 hp1 hc1 hpc => ?_⟩
    have tb0 : LamX.Tabs (tRef K) H := fun y hy => by
      rw [List.mem_singleton.mp hy]
      exact LamX.TabS.nil hTb
    have hP : PenAt H1 p c ms 0 := ⟨0, hp1, hc1, hpc⟩
    refine ⟨12, rfl, by decide, by decide, for_range (n := 12) (fun i σ H' => ∃ (m : Int) (z2 z3 z4 z5 z6 z7 z8 z9 : Option V), σ = [some (.ref a), some (.ref p), z2, z3, z4, z5, z6, z7, z8, z9] ∧ 0 ≤ m ∧ m ≤ 100 * i ∧ PenAt H' p c ms m ∧ LamX.Tabs (tRef K) H')
      ⟨0, none, none, none, none, none, none, none, none, rfl, by omega, by omega, hP, tb0.ext sm⟩ (fun i σ H2 hi hW => ?_) (fun σ H2 hW => ?_)⟩
    rotate_left
    · obtain ⟨m, z2, z3, z4, z5, z6, z7, z8, z9, rfl, _⟩ := hW
      exact q _
    obtain ⟨m, z2, z3, z4, z5, z6, z7, z8, z9, rfl, m0, m1, hp2, tb2⟩ := hW
    have i12 : i < 12 := hi
    -- sizes
    refine ⟨fun σ H' => ∃ (l : Addr) (x y z m' : Int), σ = [some (.ref a), some (.ref p), some (.int (0 + (i : Nat))), some (.ref l), z4, z5, z6, z7, z8, z9] ∧ H' l = some (.lst [.int x, .int y, .int z]) ∧ Sizes [x, y, z] ∧ 0 ≤ m' ∧ m' ≤ 100 * i + 30 ∧ PenAt H' p c ms m' ∧ LamX.Tabs (tRef K) H', ?_, fun σ H3 hM => ?_⟩
    · refine ⟨_, rfl, p, c, ms, m, rfl, hp2, m0, by omega, fun l xs m' H3 h3 hz hl x1 x2 p3 s3 => ?_⟩
      refine ⟨3, rfl, l, _, rfl, SqL.of hl, fun l2 hl2 => ?_⟩
      match xs, h3 with
      | x :: y :: z :: r, _ =>
        have ec : cutV ((x :: y :: z :: r).map V.int) none (some 3) = [.int x, .int y, .int z] := by
          unfold cutV
          have e1 : HT.sIx ((x :: y :: z :: r).map V.int).length 0 none = 0 := rfl
          have e2 : HT.sIx ((x :: y :: z :: r).map V.int).length ((x :: y :: z :: r).map V.int).length (some 3) = 3 := by
            refine (HT.sIx_nat _ _ 3).trans (Nat.min_eq_left ?_)
            rw [List.length_map]
            show 3 ≤ r.length + 1 + 1 + 1
            omega
          rw [e1, e2]
          rfl
        rw [ec] at *
        refine ⟨l2, x, y, z, m', rfl, upd_same, fun u hu => hz u ?_, by omega, by omega, p3.new hl2, (tabs_but tb2 hp2 s3).ext (same_upd hl2)⟩
        simp at hu ⊢
        rcases hu with h | h | h
        · exact .inl h
        · exact .inr (.inl h)
        · exact .inr (.inr (.inl h))
    obtain ⟨l, x, y, z, m3, rfl, hl, hz, a0, a1, p3, tb3⟩ := hM
    obtain ⟨x0, x1⟩ := hz x (by simp)
    obtain ⟨y0, y1⟩ := hz y (by simp)
    obtain ⟨w0, w1⟩ := hz z (by simp)
    refine ⟨_, rfl, l, _, rfl, SqL.of hl, rfl, _, _, rfl, _, _, rfl, _, _, rfl, rfl, ?_⟩
    -- due
    refine ⟨fun σ H' => ∃ (ld : Addr) (u9 : Option V), σ = [some (.ref a), some (.ref p), some (.int (0 + (i : Nat))), some (.ref l), some (.int x), some (.int y), some (.int z), some (.ref ld), z8, u9] ∧ H' ld = some (.lst ((dueL x (x + 1).toNat).map V.int)) ∧ Same H3 H', ?_, fun σ H4 hM => ?_⟩
    · refine ⟨_, rfl, x, 1, rfl, rfl, x + 1, rfl, by omega, by omega, fun D hD => lc_range (lo := 0) (n := (x + 1).toNat) (fun k H' => Same H3 H' ∧ H' D = some (.lst ((dueL x k).map V.int))) ⟨same_upd hD, upd_same⟩ (fun k H' hk hP => ?_) (fun H' hP => ?_)⟩
      · obtain ⟨sm, hd⟩ := hP
        refine ⟨rfl, ?_⟩
        refine ⟨_, rfl, 2, _, rfl, rfl, .inl ⟨by decide, by decide⟩, _, rfl, _, x, rfl, rfl, _, hd, ?_, same_at sm hD, ?_⟩
        · rw [List.length_map, dueL_len, sizeLine_eq]
          omega
        · rw [upd_same, dueL_succ, List.map_append]
          rfl
      · exact ⟨D, _, rfl, hP.2, hP.1⟩
    obtain ⟨ld, u9, rfl, hd4, s4⟩ := hM
    have shD : Shows (.list (dInts (upL (-x) (x + 1).toNat))) := shows_ints (up_small (by omega) (by omega) (by omega)) (by rw [upL_len]; omega)
    have eD : ∀ {G : Hp} {t : Addr}, G t = some (.lst ((dueL x (x + 1).toNat).map V.int)) → Dp K G (.ref t) (.list (dInts (upL (-x) (x + 1).toNat))) := fun h => by
      rw [due_up] at h
      exact dp_ints h
    have eU : ∀ {G : Hp} {t : Addr}, G t = some (.lst (upV (-x) (x + 1).toNat)) → Dp K G (.ref t) (.list (dInts (upL (-x) (x + 1).toNat))) := fun h => by
      rw [upV_eq] at h
      exact dp_ints h
    -- offsets
    refine ⟨_, rfl, .int x, true, rfl, Siz.int x0 x1, (fun z => by cases z), fun n e _ lt H5 hN => ?_⟩
    cases e
    obtain ⟨s5, f5, h5⟩ := hN
    refine ⟨_, rfl, lt, _, rfl, eU h5, shD.s, shD.h, shD.dp, shD.z, _, rfl, ld, _, rfl, eD (s5 _ _ hd4), shD.s, shD.h, shD.dp, shD.z, rfl, _, rfl, iteNS rfl ?_⟩
    refine ⟨fun σ H' => σ = [some (.ref a), some (.ref p), some (.int (0 + (i : Nat))), some (.ref l), some (.int x), some (.int y), some (.int z), some (.ref ld), some (.ref lt), u9] ∧ Same H4 H', ?_, fun σ H6 hM => ?_⟩
    · refine ⟨_, rfl, .inl ⟨rfl, _, SqL.of h5⟩, lt, _, _, rfl, rfl, h5, ?_, rfl, same_at s5 f5⟩
      rw [upV_length, sizeLine_eq]
      omega
    obtain ⟨rfl, s6⟩ := hM
    -- offsets anew, may_join
    refine ⟨fun σ H' => σ = [some (.ref a), some (.ref p), some (.int (0 + (i : Nat))), some (.ref l), some (.int x), some (.int y), some (.int z), some (.ref ld), some (.ref lt), u9] ∧ Same H4 H', ?_, fun σ H7 hM => ?_⟩
    · refine ⟨_, rfl, .int x, true, rfl, Siz.int x0 x1, (fun z => by cases z), fun n e _ lt2 H7 hN => ?_⟩
      cases e
      obtain ⟨s7, f7, h7⟩ := hN
      refine ⟨lt2, _, rfl, eU h7, shD.s, shD.h, shD.dp, shD.z, _, rfl, ld, _, rfl, eD (s7 _ _ (s6 _ _ hd4)), shD.s, shD.h, shD.dp, shD.z, rfl, _, rfl, iteNS rfl ?_⟩
      refine ⟨_, rfl, _, rfl, _, rfl, .int x, .int y, .int z, true, true, true, rfl, Siz.int x0 x1, Siz.int y0 y1, Siz.int w0 w1, (fun z => by cases z), fun n m' k e1 e2 e3 _ H8 s8 => ?_⟩
      cases e1
      cases e2
      cases e3
      refine ⟨_, rfl, _, rfl, _, rfl, _, rfl, x, y, z, rfl, _, rfl, rfl, _, rfl, iteNS ?_ ⟨rfl, (s6.trans s7).trans s8⟩⟩
      rw [can_fits]
    obtain ⟨rfl, s7⟩ := hM
    -- the sizes due
    refine ⟨fun σ H' => ∃ (le : Addr) (u9 : Option V), σ = [some (.ref a), some (.ref p), some (.int (0 + (i : Nat))), some (.ref l), some (.int x), some (.int y), some (.int z), some (.ref le), some (.ref lt), u9] ∧ H' le = some (.lst ((fitL x y 41).map V.int)) ∧ Same H4 H', ?_, fun σ H8 hM => ?_⟩
    · refine ⟨41, rfl, by decide, by decide, fun D hD => lc_range (lo := 0) (n := 41) (fun k H' => Same H7 H' ∧ H' D = some (.lst ((fitL x y k).map V.int))) ⟨same_upd hD, upd_same⟩ (fun k H' hk hP => ?_) (fun H' hP => ?_)⟩
      · obtain ⟨sm, hd⟩ := hP
        refine ⟨rfl, ?_⟩
        refine ⟨_, rfl, _, rfl, _, rfl, x, y, _, rfl, _, rfl, ?_⟩
        refine iteB (fun z => ?_) fun z => ?_
        · refine ⟨_, rfl, _, hd, ?_, same_at sm hD, ?_⟩
          · have := fitL_len x y k
            have hk2 : k < 41 := hk
            rw [List.length_map, sizeLine_eq]
            omega
          · rw [upd_same, fitL_succ, if_pos z, List.map_append]
            rfl
        · refine ⟨sm, ?_⟩
          rw [hd, fitL_succ, if_neg (by rw [z]; exact Bool.false_ne_true), List.append_nil]
      · exact ⟨D, _, rfl, hP.2, s7.trans hP.1⟩
    obtain ⟨le, u9, rfl, he8, s8⟩ := hM
    have ff := fit_up x0 x1 y0 y1
    have mj := manyJ_le x0 x1 y0 y1
    obtain ⟨gap, eg⟩ : ∃ g : Int, (if x - y < 0 then -(x - y) else x - y) = g := ⟨_, rfl⟩
    have g01 : 0 ≤ gap ∧ gap ≤ 40 := by
      rw [← eg]
      split <;> omega
    rw [eg] at ff
    have shS : Shows (.list (dInts (upL gap (manyJ x y)))) := shows_ints (up_small (by omega) (by omega) (by omega)) (by rw [upL_len]; omega)
    have fD : ∀ {G : Hp} {t : Addr}, G t = some (.lst ((fitL x y 41).map V.int)) → Dp K G (.ref t) (.list (dInts (upL gap (manyJ x y)))) := fun h => by
      rw [ff] at h
      exact dp_ints h
    have fU : ∀ {G : Hp} {t : Addr}, G t = some (.lst (upV gap (manyJ x y))) → Dp K G (.ref t) (.list (dInts (upL gap (manyJ x y)))) := fun h => by
      rw [upV_eq] at h
      exact dp_ints h
    -- sizes_of
    refine ⟨_, rfl, _, rfl, .int x, .int y, true, true, rfl, Siz.int x0 x1, Siz.int y0 y1, (fun z => by cases z), fun n m' e1 e2 _ ls H9 hN => ?_⟩
    cases e1
    cases e2
    rw [eg] at hN
    obtain ⟨s9, f9, h9⟩ := hN
    refine ⟨_, rfl, ls, _, rfl, fU h9, shS.s, shS.h, shS.dp, shS.z, _, rfl, le, _, rfl, fD (s9 _ _ he8), shS.s, shS.h, shS.dp, shS.z, rfl, _, rfl, iteNS rfl ?_⟩
    refine ⟨fun σ H' => σ = [some (.ref a), some (.ref p), some (.int (0 + (i : Nat))), some (.ref l), some (.int x), some (.int y), some (.int z), some (.ref le), some (.ref ls), u9] ∧ Same H8 H', ?_, fun σ Ha hM => ?_⟩
    · exact ⟨_, rfl, .inl ⟨rfl, _, SqL.of h9⟩, ls, _, rfl, rfl, h9, rfl, same_at s9 f9⟩
    obtain ⟨rfl, sa⟩ := hM
    -- sizes_of anew, what is refused
    refine ⟨_, rfl, _, rfl, .int x, .int y, true, true, rfl, Siz.int x0 x1, Siz.int y0 y1, (fun z => by cases z), fun n m' e1 e2 _ lu Hb hN => ?_⟩
    cases e1
    cases e2
    rw [eg] at hN
    obtain ⟨sb, fb, hb⟩ := hN
    refine ⟨lu, _, rfl, fU hb, shS.s, shS.h, shS.dp, shS.z, _, rfl, le, _, rfl, fD (sb _ _ (sa _ _ he8)), shS.s, shS.h, shS.dp, shS.z, rfl, _, rfl, iteNS rfl ?_⟩
    have sAll : Same H3 Hb := (s4.trans s8).trans (sa.trans sb)
    refine ⟨_, rfl, _, rfl, p, c, l, ms, m3, x, y, z, rfl, p3.same sAll, a0, by omega, sAll _ _ hl, hz, tb3.ext sAll, fun m' Hc c0 c1 pc ec tc => ?_⟩
    refine ⟨true, rfl, iteF ⟨m', _, _, _, _, _, _, _, _, rfl, by omega, ?_, pc, tc⟩⟩
    have : (((i + 1 : Nat)) : Int) = (i : Int) + 1 := by omega
    omega
end
end TC
namespace TC
open PySem PySem.Spec PyProof.Rows L2 TCA TCX
theorem facts {P : Program} {w : World} {K : PySem.W.Frag} {h : Heap} {mg : Str → Option Value} {f : Addr} (X : K.In h) (G : h.Ns mainGlobals mg) (hfa : mg ("law" : Str) = some (.ref f)) (sx : He.SaysX fa fn [] tf exB w h K) :
    ∃ fd : FuncData, (∀ (s : Shared) (v : Value), BindsTo s fd ⟨[v], []⟩ [("_law_script", v)]) ∧ ∀ base : Heap, K.In base → base.Ns mainGlobals mg → LamX.TabB base mg (He.cT K ("_law_refused_right", none)).1 (He.cT K ("_law_refused_right", none)).2 → FnG P w K mg base CX0 9 f fd ["_law_script"] (spLaw K) := by
  have c := sx.t.d
  obtain ⟨fd0, F0⟩ := c.def_ 0 (d := dd "is_whole" sWhole) rfl
  obtain ⟨fd1, F1⟩ := c.def_ 1 (d := dd "is_odd" sOdd) rfl
  obtain ⟨fd2, F2⟩ := c.def_ 2 (d := dd "offsets" sOffsets) rfl
  obtain ⟨fd3, F3⟩ := c.def_ 3 (d := dd "may_join" sMayJoin) rfl
  obtain ⟨fd4, F4⟩ := c.def_ 4 (d := dd "sizes_of" sSizesOf) rfl
  obtain ⟨fd5, F5⟩ := c.def_ 5 (d := dd "is_size" sIsSize) rfl
  obtain ⟨fd6, F6⟩ := c.def_ 6 (d := dd "need_sizes" sNeed) rfl
  obtain ⟨fd7, F7⟩ := c.def_ 7 (d := dd "can_join" sCanJoin) rfl
  obtain ⟨fd8, F8⟩ := c.def_ 8 (d := dd "_law_pen" sPen) rfl
  obtain ⟨fd9, F9⟩ := c.def_ 9 (d := dd "_law_draw" sDraw) rfl
  obtain ⟨fd10, F10⟩ := c.def_ 10 (d := dd "_law_word" sWord) rfl
  obtain ⟨fd11, F11⟩ := c.def_ 11 (d := dd "_law_said" sSaid) rfl
  obtain ⟨fd12, F12⟩ := c.def_ 12 (d := dd "_law_size" sSizeL) rfl
  obtain ⟨fd13, F13⟩ := c.def_ 13 (d := dd "_law_fits" sFits) rfl
  obtain ⟨fd14, F14⟩ := c.def_ 14 (d := dd "_law_third" sThird) rfl
  obtain ⟨fd15, F15⟩ := c.def_ 15 (d := dd "_law_odd" sOddL) rfl
  obtain ⟨fd16, F16⟩ := c.def_ 16 (d := dd "_law_any_three" sAny) rfl
  obtain ⟨fd17, F17⟩ := c.def_ 17 (d := dd "_law_refused_right" sRef) rfl
  obtain ⟨fd18, F18⟩ := c.def_ 18 (d := dd "law" sLaw) rfl
  have glo : ∀ (i : Nat) (x : Str), TC.fa[i]? = some (.glo x) → mg x = some (.ref (He.ga K x)) := fun i x e => He.glo_ok X G (c.fact i (f := .glo x) e)
  have free : ∀ (i : Nat) (x : Str), TC.fa[i]? = some (.free x) → mg x = none := fun i x e => He.free_ok X G (c.fact i (f := .free x) e)
  obtain ⟨t40, g40⟩ := He.int_ok X G (c.fact 42 (f := .int "HIGHEST_SIZE" 40) rfl)
  obtain ⟨xE, xK, xB, xT⟩ := He.exc_ok (c.fact 43 (f := .exc "NoSize") rfl)
  obtain ⟨kd, hx⟩ := excAll_ok sx.more
  have XT : XTxt K mg "NoSize" (He.ga K "NoSize") := ⟨(glo 2 "NoSize" rfl), xE, xK, xB, xT⟩
  have WT : WTxt K mg := ⟨fun i x e => ?_, (glo 0 "TurnError" rfl), (free 54 "ValueError" rfl), (free 44 "isinstance" rfl)⟩
  rotate_left
  · match i, e with
    | 0, e => cases e; exact glo 16 "Empty" rfl
    | 1, e => cases e; exact glo 14 "NoDeed" rfl
    | 2, e => cases e; exact glo 12 "NoHalf" rfl
    | 3, e => cases e; exact glo 13 "NoLinking" rfl
    | 4, e => cases e; exact glo 7 "NoNet" rfl
    | 5, e => cases e; exact glo 1 "NoNumber" rfl
    | 6, e => cases e; exact glo 3 "NoOffset" rfl
    | 7, e => cases e; exact glo 15 "NoQuestion" rfl
    | 8, e => cases e; exact glo 8 "NoRow" rfl
    | 9, e => cases e; exact glo 2 "NoSize" rfl
    | 10, e => cases e; exact glo 9 "NoStanding" rfl
    | 11, e => cases e; exact glo 5 "NoTable" rfl
    | 12, e => cases e; exact glo 18 "NoText" rfl
    | 13, e => cases e; exact glo 17 "NotParted" rfl
    | 14, e => cases e; exact glo 10 "NoTree" rfl
    | 15, e => cases e; exact glo 4 "NoTriple" rfl
    | 16, e => cases e; exact glo 11 "NoWay" rfl
    | 17, e => cases e; exact glo 6 "TooWide" rfl
    | 18, e => cases e; exact glo 21 "ByNought" rfl
    | 19, e => cases e; exact glo 19 "NoName" rfl
    | 20, e => cases e; exact glo 20 "NoPlace" rfl
    | 21, e => cases e; exact glo 22 "NothingDone" rfl
    | n + 22, e =>
      have z : ([] : List Str)[n]? = some x := e
      cases z
  have ST : STxt K mg := ⟨(glo 0 "TurnError" rfl), (glo 21 "ByNought" rfl), (glo 19 "NoName" rfl), (glo 20 "NoPlace" rfl), (glo 22 "NothingDone" rfl)⟩
  have e := hfa.symm.trans (glo 41 "law" rfl)
  cases e
  have b0 := FunD.bindsN (ps := ["thing"]) F0 fun _ _ _ _ _ _ us hl => match us, hl with | [_], _ => rfl
  have b1 := FunD.bindsN (ps := ["number"]) F1 fun _ _ _ _ _ _ us hl => match us, hl with | [_], _ => rfl
  have b2 := FunD.bindsN (ps := ["size"]) F2 fun _ _ _ _ _ _ us hl => match us, hl with | [_], _ => rfl
  have b3 := FunD.bindsN (ps := ["one", "other", "third"]) F3 fun _ _ _ _ _ _ us hl => match us, hl with | [_, _, _], _ => rfl
  have b4 := FunD.bindsN (ps := ["one", "other"]) F4 fun _ _ _ _ _ _ us hl => match us, hl with | [_, _], _ => rfl
  have b5 := FunD.bindsN (ps := ["thing"]) F5 fun _ _ _ _ _ _ us hl => match us, hl with | [_], _ => rfl
  have b6 := FunD.bindsN (ps := ["things"]) F6 fun _ _ _ _ _ _ us hl => match us, hl with | [_], _ => rfl
  have b7 := FunD.bindsN (ps := ["one", "other", "third"]) F7 fun _ _ _ _ _ _ us hl => match us, hl with | [_, _, _], _ => rfl
  have b8 := FunD.bindsN (ps := ["_law_script"]) F8 fun _ _ _ _ _ _ us hl => match us, hl with | [_], _ => rfl
  have b9 := FunD.bindsN (ps := ["_law_pen_here", "_law_many"]) F9 fun _ _ _ _ _ _ us hl => match us, hl with | [_, _], _ => rfl
  have b10 := FunD.bindsN (ps := ["_law_e"]) F10 fun _ _ _ _ _ _ us hl => match us, hl with | [_], _ => rfl
  have b11 := FunD.bindsN (ps := ["_law_call"]) F11 fun _ _ _ _ _ _ us hl => match us, hl with | [_], _ => rfl
  have b12 := FunD.bindsN (ps := ["_law_pen_here"]) F12 fun _ _ _ _ _ _ us hl => match us, hl with | [_], _ => rfl
  have b13 := FunD.bindsN (ps := ["_law_a", "_law_b", "_law_c"]) F13 fun _ _ _ _ _ _ us hl => match us, hl with | [_, _, _], _ => rfl
  have b14 := FunD.bindsN (ps := ["_law_pen_here", "_law_a", "_law_b", "_law_high"]) F14 fun _ _ _ _ _ _ us hl => match us, hl with | [_, _, _, _], _ => rfl
  have b15 := FunD.bindsN (ps := ["_law_pen_here"]) F15 fun _ _ _ _ _ _ us hl => match us, hl with | [_], _ => rfl
  have b16 := FunD.bindsN (ps := ["_law_pen_here"]) F16 fun _ _ _ _ _ _ us hl => match us, hl with | [_], _ => rfl
  have b17 := FunD.bindsN (ps := ["_law_pen_here", "_law_sizes"]) F17 fun _ _ _ _ _ _ us hl => match us, hl with | [_, _], _ => rfl
  have b := FunD.bindsA (ps := ["_law_script"]) F18 fun _ _ _ _ _ _ us hl => match us, hl with | [_], _ => rfl
  refine ⟨fd18, fun s v => b s [v] rfl, fun base _ _ TB => ?_⟩
  have GW : FnOk P w K mg base CX0 1 _ fd0 ["thing"] (spWhole K) := ok_whole F0 (free 44 "isinstance" rfl) (free 45 "int" rfl) (free 46 "bool" rfl)
  have GO : FnOk P w K mg base CX0 1 _ fd1 ["number"] spOdd := ok_odd F1
  have GIS : FnOk P w K mg base CX0 2 _ fd5 ["thing"] (spIsSize K) := ok_isSize F5 GW b0 F0.kp (glo 23 "is_whole" rfl) g40
  have GN : FnOk P w K mg base (L2.CX P w) 3 _ fd6 ["things"] (spNeed K (He.ga K "NoSize")) := ok_need F6 GIS b5 F5.kp (glo 28 "is_size" rfl) XT
  have GC : FnOk P w K mg base CX0 2 _ fd7 ["one", "other", "third"] spCan := ok_can F7 GO b1 F1.kp (glo 24 "is_odd" rfl)
  have GOF : FnOk P w K mg base (L2.CX P w) 4 _ fd2 ["size"] (spOffs K (He.ga K "NoSize")) := ok_offs F2 GN b6 F6.kp (glo 29 "need_sizes" rfl) (free 50 "list" rfl) (free 51 "range" rfl)
  have GMJ : FnOk P w K mg base (L2.CX P w) 4 _ fd3 ["one", "other", "third"] (spMay K (He.ga K "NoSize")) := ok_may F3 GN b6 F6.kp (glo 29 "need_sizes" rfl) GC b7 F7.kp (glo 30 "can_join" rfl)
  have GSZ : FnOk P w K mg base (L2.CX P w) 4 _ fd4 ["one", "other"] (spSizes K (He.ga K "NoSize")) := ok_sizes F4 GN b6 F6.kp (glo 29 "need_sizes" rfl) (free 50 "list" rfl) (free 51 "range" rfl) (free 47 "abs" rfl) (free 48 "min" rfl) g40
  have GP : FnOk P w K mg base CX0 1 _ fd8 ["_law_script"] (spPen K) := ok_pen F8 (free 50 "list" rfl)
  have GD : FnOk P w K mg base CX0 1 _ fd9 ["_law_pen_here", "_law_many"] spDraw := ok_draw F9 (free 52 "len" rfl)
  have GWD : FnOk P w K mg base CX0 1 _ fd10 ["_law_e"] (spWord K) := ok_word F10 WT
  have GSL : FnOk P w K mg base CX0 2 _ fd12 ["_law_pen_here"] spSizeL := ok_sizeL F12 GD b9 F9.kp (glo 32 "_law_draw" rfl)
  have GFI : FnOk P w K mg base CX0 1 _ fd13 ["_law_a", "_law_b", "_law_c"] spFits := ok_fits F13
  have GTH : FnOk P w K mg base CX0 2 _ fd14 ["_law_pen_here", "_law_a", "_law_b", "_law_high"] spThird := ok_third F14 GD b9 F9.kp (glo 32 "_law_draw" rfl) GFI b13 F13.kp (glo 36 "_law_fits" rfl) (free 51 "range" rfl) (free 45 "int" rfl) (free 47 "abs" rfl) (free 52 "len" rfl)
  have GOD : FnOk P w K mg base CX0 2 _ fd15 ["_law_pen_here"] (spOddL K) := ok_oddL F15 GD b9 F9.kp (glo 32 "_law_draw" rfl)
  have GAN : FnOk P w K mg base CX0 3 _ fd16 ["_law_pen_here"] spAny := ok_any F16 GD b9 F9.kp (glo 32 "_law_draw" rfl) GSL b12 F12.kp (glo 35 "_law_size" rfl) GTH b14 F14.kp (glo 37 "_law_third" rfl) (free 49 "max" rfl) (free 48 "min" rfl)
  have RT := RefTxt.mk GD b9 F9.kp (glo 32 "_law_draw" rfl) GOD b15 F15.kp (glo 38 "_law_odd" rfl) F11 b11 (glo 34 "_law_said" rfl) GMJ b3 F3.kp (glo 26 "may_join" rfl) GSZ b4 F4.kp (glo 27 "sizes_of" rfl) GOF b2 F2.kp (glo 25 "offsets" rfl) GWD b10 F10.kp (glo 33 "_law_word" rfl) ST kd hx
  have GRR : FnOk P w K mg base CX0 8 _ fd17 ["_law_pen_here", "_law_sizes"] (spRef K) := ok_ref F17 RT TB
  exact ok_law F18 ⟨GP, b8, F8.kp, (glo 31 "_law_pen" rfl), GAN, b16, F16.kp, (glo 39 "_law_any_three" rfl), GOF, b2, F2.kp, (glo 25 "offsets" rfl), GMJ, b3, F3.kp, (glo 26 "may_join" rfl), GSZ, b4, F4.kp, (glo 27 "sizes_of" rfl), GFI, b13, F13.kp, (glo 36 "_law_fits" rfl), GRR, b17, F17.kp, (glo 40 "_law_refused_right" rfl), (free 51 "range" rfl), (free 53 "repr" rfl)⟩
end TC
open PySem PySem.W PySem.Calls PyProof.Rows
set_option maxHeartbeats 0 in
theorem PySem.Challenge.cw_turncouple_k09_offsets_and_sizes_holds : PySem.Challenge.rw_turncouple_k09_offsets_and_sizes.Holds := by
  w_on; o_law
  refine HandSHeadRun.head_any (r := OpenLaw.row PySem.Challenge.rw_turncouple_k09_offsets_and_sizes) (q := view (OpenLaw.row PySem.Challenge.rw_turncouple_k09_offsets_and_sizes).prog [46]) (H := TC.hk) (ob := TC.ob) (M := 30000) (loose := TC.loose) (d := HandSHeadRun.topDef (OpenLaw.row PySem.Challenge.rw_turncouple_k09_offsets_and_sizes).prog 46) (kwd := []) TC.ob_eq
    (by kernel_rfl) (fun s => by kernel_rfl) TC.run (by kernel_rfl) (by kernel_rfl) (by kernel_rfl) (by rfl) (by first | assumption | decide +kernel) (by decide +kernel) ⟨rfl, rfl, rfl, rfl, rfl, by decide +kernel⟩ ?hw ?hc
  case hw => w_witness2
  case hc =>
    refine TCX.walk_ofG (l := PySem.Challenge.rw_turncouple_k09_offsets_and_sizes) (n := 63) (k := 9) (x := "_law_script") (CX := fun _ => L2.CX0) rfl (by decide) (by kernel_rfl) ⟨rfl, by decide, by decide⟩ ?F (fun _ _ _ _ _ z => z)
    intro w mg fa h Y G hmg0
    obtain ⟨K, KX, sx⟩ := Y
    have hmg : mg ("law" : PySem.Str) = some (.ref fa) := by
      have e : (HandSHeadRun.topDef (OpenLaw.row PySem.Challenge.rw_turncouple_k09_offsets_and_sizes).prog 46).name = ("law" : PySem.Str) := by kernel_rfl
      rw [← e]
      exact hmg0
    obtain ⟨fd, hb, hF⟩ := TC.facts (P := (PySem.Challenge.rw_turncouple_k09_offsets_and_sizes).prog) (w := w) KX G hmg sx
    refine ⟨K, KX, fd, [He.cT K ("_law_refused_right", none)], TC.spLaw K, fun p hp => ?_, fun p hp => ?_, fun p hp => ?_, hb, fun H a ns hl hT hS => ⟨a, ns, rfl, hS, hl, hT _ (List.mem_singleton.mpr rfl), fun _ => rfl⟩, fun base h1 h2 h3 => hF base h1 h2 (h3 _ (List.mem_singleton.mpr rfl))⟩
    · rw [List.mem_singleton.mp hp]
      exact sx.empty _ (List.mem_singleton.mpr rfl)
    · rw [List.mem_singleton.mp hp]
      exact sx.out _ (List.mem_singleton.mpr rfl)
    · rw [List.mem_singleton.mp hp]
      exact PySem.W.codeHd_of_K KX (sx.hd _ (List.mem_singleton.mpr rfl))
