import PyProof.Rows.All
import Wide.All
import OpenK.AllK
import Wide.FinOn
import KE.KEqNest
import HandS.ForMost
import HandS.ForExc
import HandS.ExcInit
import HandS.ExcField
import HandS.IsInst
import HandS.TryMany
import HandS.RaiseMore
import HandS.Words
import PyProof.NeData
import KE.KOpsOwn
import HandS.Property
import HandS.OwnEq
import PyProof.NeKinds
import HandS.TupAny
import PySem.Challenge.RW_threecounts_k05_texts_told
import HandS.FStr
import PyProof.ReprLen
set_option Elab.async false
set_option linter.all false
set_option maxRecDepth 100000
set_option maxHeartbeats 8000000
/-! # K4Rules -/
namespace Tc
open PySem PySem.Spec PyProof.Rows L2

/-! ## data that may hold an empty dict, and its repr -/
mutual
inductive Dq (K : PySem.W.Frag) (H : Hp) : V → PyData → Prop
  | no : Dq K H .non .none
  | bo (b : Bool) : Dq K H (.bl b) (.bool b)
  | it (i : Int) : Dq K H (.int i) (.int i)
  | tx (x : Str) : Dq K H (.str x) (.str x)
  | li {a : Addr} {xs : List V} {ds : List PyData} (h : SqL K H a xs) (g : DqA K H xs ds) : Dq K H (.ref a) (.list ds)
  | tu {a : Addr} {xs : List V} {ds : List PyData} (h : SqT K H a xs) (g : DqA K H xs ds) : Dq K H (.ref a) (.tuple ds)
  | em {a : Addr} (h : H a = some (.dK [])) : Dq K H (.ref a) (.dict [])
inductive DqA (K : PySem.W.Frag) (H : Hp) : List V → List PyData → Prop
  | no : DqA K H [] []
  | co {v : V} {vs : List V} {d : PyData} {ds : List PyData} (h : Dq K H v d) (g : DqA K H vs ds) : DqA K H (v :: vs) (d :: ds)
end
section
variable {X : Cx} {pins : List (Addr × Obj)} {σ : L2.St} {H : Hp} {s : Shared}
/-- what stands at sys.modules holds a dict's entries -/
def SysD (h : Heap) : Prop := ∃ mm, h.Ns sysModules mm
mutual
theorem Dq.reads (I : Inv X pins σ H s) (hs : SysD s.heap) : ∀ (d : PyData) (v : V) (u : Value), Dq X.K H v d → RelV v u → ∃ as, Reads s.heap u d as ∧ sysModules ∉ as
  | .none, _, _, h, r => by
    cases h
    cases r
    exact ⟨_, .none, by simp⟩
  | .bool b, _, _, h, r => by
    cases h
    cases r
    exact ⟨_, .bool b, by simp⟩
  | .int i, _, _, h, r => by
    cases h
    obtain ⟨t, rfl⟩ := r
    exact ⟨_, .int i t, by simp⟩
  | .str x, _, _, h, r => by
    cases h
    obtain ⟨t, rfl⟩ := r
    exact ⟨_, .str x t, by simp⟩
  | .list ds, _, _, h, r => by
    cases h with
    | li q qa =>
      cases r
      obtain ⟨zs, rz, ⟨o, n, ho, hc, _, hd⟩, _⟩ := I.list q
      obtain ⟨as, ra, na⟩ := DqA.reads I hs ds _ zs qa rz
      refine ⟨_, .list ho hc hd ra, ?_⟩
      intro m
      rcases List.mem_cons.mp m with e | e
      · obtain ⟨mm, o2, es2, ep2, h2, d2, _⟩ := hs
        rw [e, ho] at h2
        obtain rfl := Option.some.inj h2
        rw [hd] at d2
        cases d2
      · exact na e
  | .tuple ds, _, _, h, r => by
    cases h with
    | tu q qa =>
      cases r
      obtain ⟨zs, rz, ⟨o, ho, hc, n, hd⟩, _⟩ := I.tuple q
      obtain ⟨as, ra, na⟩ := DqA.reads I hs ds _ zs qa rz
      exact ⟨_, .tuple ho hc hd ra, na⟩
  | .dict ds, _, _, h, r => by
    cases h with
    | em q =>
      cases r
      obtain ⟨_, hn, vs, rel, o, es, ep, ho, hx, hd, _, hp, _⟩ := I.hok _ _ q
      cases rel
      have ee : es.toList = [] := by
        cases hl : es.toList with
        | nil => rfl
        | cons z zs =>
          rw [hl] at hp
          cases hp
      refine ⟨_, .dict (kvs := []) ho hx.1 hd (by rw [ee]; exact .nil) (by rw [ee]; exact .nil), ?_⟩
      intro m
      rcases List.mem_cons.mp m with e | e
      · rw [← e] at hn
        exact absurd hn (by decide)
      · simp at e
theorem DqA.reads (I : Inv X pins σ H s) (hs : SysD s.heap) : ∀ (ds : List PyData) (vs : List V) (us : List Value), DqA X.K H vs ds → Vals vs us → ∃ as, ReadsAll s.heap us ds as ∧ sysModules ∉ as
  | [], _, _, h, r => by
    cases h
    cases r
    exact ⟨_, .nil, by simp⟩
  | d :: ds, _, _, h, r => by
    cases h with
    | co h1 h2 =>
      cases r with
      | cons r1 r2 =>
        obtain ⟨as, qa, na⟩ := Dq.reads I hs d _ _ h1 r1
        obtain ⟨bs, qb, nb⟩ := DqA.reads I hs ds _ _ h2 r2
        refine ⟨_, .cons qa qb, fun m => ?_⟩
        rcases List.mem_append.mp m with e | e
        · exact na e
        · exact nb e
end
/-- repr(x), x a list of such data, or an int -/
def rRepr (K : PySem.W.Frag) : List V → Hp → VK → Prop := fun xs H Q =>
  (∃ i, xs = [.int i] ∧ i.natAbs.log2 < 1920 ∧ Q (.str (toString i)) H) ∨
  ∃ (a : Addr) (d : PyData), xs = [.ref a] ∧ Dq K H (.ref a) d ∧ d.showable = true ∧ d.depth ≤ 8 ∧ d.shown.length ≤ sizeLine ∧ Q (.str d.shown) H
theorem call_reprQ (hg : X.A.guards = some []) (hu : X.A.units + 64 < cLine) (hS : SysD X.base) : CallR X (.builtin "repr") (rRepr X.K) := by
  intro pins s σ H xs us Q I r h
  rcases h with ⟨i, rfl, hz, q⟩ | ⟨a, d, rfl, hd, sh, dp, sz, q⟩
  · obtain ⟨u, rfl, t, rfl⟩ := vals1 r
    exact PySem.P.repr_of_int hz ⟨.str _, H, I.tok _, ⟨_, rfl⟩, q⟩
  · obtain ⟨u, rfl, ru⟩ := vals1 r
    obtain ⟨as, rd, ns⟩ := Dq.reads I (let ⟨mm, z⟩ := hS; ⟨mm, z.keeps I.bk⟩) d _ _ hd ru
    obtain rfl : u = Value.ref a := ru
    exact repr_of_reads' rd sh (fun _ => ns) hg (by omega) (fun _ _ e => e) (fun h' u tk kp => ⟨.str _, H, I.kept kp, ⟨_, rfl⟩, q⟩) sz
end
end Tc

/-! # K4Try -/
namespace Tc
open PySem PySem.Spec PyProof.Rows L2
abbrev Suite := Addr → Value → Option Addr → TS
/-- a clause with a name: its class, the slot of its name, its suite; what several of them, one behind the other, wish of an exception of the body -/
def wCl (K : PySem.W.Frag) (Wz : WX) (D : Ends) : List (Value × Nat × Suite) → WX
  | [] => Wz
  | (c, i, ts) :: more => fun cl d σ H => ∃ hit, PySem.W.exmOne K cl c = some hit ∧
      (hit = true → ∀ a, H a = none → ts a cl d { nx := fun σ' H' => D.nx (σ'.set i none) H', rt := D.rt, bk := fun σ' H' => D.bk (σ'.set i none) H', ct := fun σ' H' => D.ct (σ'.set i none) H' } (σ.set i (some (.ref a))) H) ∧
      (hit = false → wCl K Wz D more cl d σ H)
inductive ClOk (X : Cx) : List ExceptHandler → List (Value × Nat × Suite) → Prop
  | no : ClOk X [] []
  | co {x n : Str} {c : Value} {i : Nat} {ts : Suite} {st₀ : Stmt} {sts : List Stmt} {p1 p2 : Pos} {hs : List ExceptHandler} {l : List (Value × Nat × Suite)}
      (hN : X.N.Nodup) (hi : X.N[i]? = some n) (hn : X.env.kindOf n = some .local) (hc : Names X x c)
      (su : ∀ (a : Addr) (ob : Obj) (cl : Value) (d : Option Addr) (pn : List (Addr × Obj)), Zc cl d ob → (∃ fv, ob.data = .fields fv) → PSs (X.suite a ((a, ob) :: pn)) (st₀ :: sts) (ts a cl d)) (r : ClOk X hs l) :
      ClOk X (.ExceptHandler (some (.Name x p1)) (some n) (st₀ :: sts) p2 :: hs) ((c, i, ts) :: l)
section
variable {X : Cx} {body : List Stmt} {h₀ : ExceptHandler} {hs : List ExceptHandler} {l : List (Value × Nat × Suite)} {pos : Pos} {tb : WX → TS} {Wz : WX}
theorem ps_try_names (hst : X.stack = X.env :: X.outer) (hf : X.env.frame = some X.env.locals) (take : Takes X Wz)
    (hb : ∀ (W : WX) (pn : List (Addr × Obj)) (xe : Value → Shared → Prop), Takes (X.tr pn xe) W → PassesOwn (model X.prog X.w) X.A X.env xe → PSs (X.tr pn xe) body (tb W))
    (hh : ClOk X (h₀ :: hs) l) : PS X (.Try body (h₀ :: hs) [] [] pos) (fun D σ H => tb (wCl X.K Wz D l) D σ H) := by
  constructor
  intro pins s σ H D I goal
  have good := I.ok
  have frs_ : X.A.frames = some (X.env :: X.outer) := by rw [good.frames, hst]
  refine wpAny_Try_except ?_
  refine wpAny_mono ((hb (wCl X.K Wz D l) (X.pn ++ pins)
    (fun ex sa => wpAny (model X.prog X.w) X.A (noteFrame ex X.env)
      (fun _ sb => wpAny (model X.prog X.w) X.A (setFlight ex none)
        (fun _ sc => wpAny (model X.prog X.w) X.A (handleBy ex X.env (h₀ :: hs)) (SP X pins D) X.xe sc) X.xe sb) X.xe sa)
    (fun val s' caught => ?_) PassesOwn.looking).run [] s σ H D (I.toTry _) goal) (fun fl s1 done => ?_) (fun _ _ z => z)
  · obtain ⟨a, B, sI, pins', σ', H', cl, d, rfl, Jt, nb, up, sky, na, os, ag, wish⟩ := caught
    have J : Inv X pins σ' H' sI := Jt.ofTry good
    have sky1 : Sky B (X.env :: X.outer) a (Zc cl d) X.env.locals s'.heap := by
      rw [← hst]
      exact sky
    show wpAny (model X.prog X.w) X.A (noteFrame (.ref a) X.env) _ _ _
    refine Sky.land Zc.steady frs_ hf sky1 fun hA flA upA => ?_
    have JA : Inv X pins σ' H' { s' with heap := hA } := J.landed nb flA.1 (up.trans upA) os ag
    obtain ⟨obA, fvA, heA, hzA, hdA⟩ := flA.there
    have apart : ∀ {h : Heap} {ob : Obj} {fv : Array Value}, h.FunFrames B (X.env :: X.outer) → h.get? a = some ob → ob.data = .fields fv → a ∉ frs (X.env :: X.outer) := by
      intro h ob fv ff e dd hm
      obtain ⟨_, ob2, e2, hnf⟩ := ff.mem hm
      rw [e] at e2
      cases e2
      exact hnf _ dd
    have nfr := apart flA.2.2.1 heA hdA
    have nL : a ≠ X.env.locals := by
      intro z
      refine nfr (List.mem_filterMap.mpr ⟨X.env, List.mem_cons_self, ?_⟩)
      rw [hf, z]
    have nF : a ∉ X.fs := by
      intro hm
      obtain ⟨en, hen, q⟩ := List.mem_filterMap.mp hm
      exact nfr (List.mem_filterMap.mpr ⟨en, List.mem_cons_of_mem _ hen, q⟩)
    have SA := JA.suite heA hdA na nL nF
    have go : ∀ {hs' : List ExceptHandler} {l' : List (Value × Nat × Suite)}, ClOk X hs' l' → wCl X.K Wz D l' cl d σ' H' →
        wpAny (model X.prog X.w) X.A (handleBy (.ref a) X.env hs') (SP X pins D) X.xe { s' with heap := hA } := by
      intro hs' l' hk
      induction hk with
      | no =>
        intro wz
        refine wpAny_handleBy_nil ?_
        obtain ⟨k1, k2, k3, ob, fv, T, oT, ts', he, hz, hd, hone, hr⟩ := id flA
        unfold PySem.passOn
        refine wpAny_bind (wpAny_field he hd hone ?_)
        have nn : ¬ ((Value.ref T == Value.none) = true) := by simp
        rw [if_neg nn]
        have out : wpAny (model X.prog X.w) X.A (setFlight (.ref a) X.env.frame)
            (fun _ sd => wpAny (model X.prog X.w) X.A (throw (.ref a) : Sem Flow) (SP X pins D) X.xe sd) X.xe { s' with heap := hA } := by
          rw [hf]
          refine HandSPX.setFlight_upZ flA fun hB hhB upB => ?_
          refine wpAny_throw (take _ _ ⟨a, B, sI, pins, σ', H', cl, d, rfl, J, nb, (up.trans upA).trans upB, .inr (.inr ?_), na, os, ag, wz⟩)
          rw [hst]
          exact hhB
        first
          | exact wpAny_bind (wpAny_pure (wpAny_bind out))
          | exact wpAny_bind out
      | @co x n c i ts st₀ sts p1 p2 hs2 l2 hN hi hn hc su more ih =>
        intro wz
        obtain ⟨hit, hit1, yes, no⟩ := wz
        refine wpAny_handleBy_cons (codeAny_handlers_test ?_) (by intro q; cases q)
        have lookT : PySem.W.Looks (model X.prog X.w) hA (typeOf (.ref a)) cl := fun A Q E sq kq q =>
          wpAny_typeOf_ref (kq _ _ heA) (by rw [hzA.1]; exact q)
        have lookM := PySem.W.exm_one (M := model X.prog X.w) JA.kIn lookT hit1
        have named : ∀ {Q : Value → Shared → Prop} {E : Value → Shared → Prop}, Q c { s' with heap := hA } →
            wpAny (model X.prog X.w) (X.A.mark (some (.ref a))) (eval (.Name x p1) X.env) Q E { s' with heap := hA } := by
          intro Q E q
          obtain ⟨hg, hdb, hm | ⟨hm, hv, hnn⟩⟩ := hc
          · exact ld_glob (X := X.suite a ((a, obA) :: (X.pn ++ pins))) SA hg hm q hdb
          · exact ld_blt (X := X.suite a ((a, obA) :: (X.pn ++ pins))) SA hg hm hv q hnn hdb
        refine named (lookM.here ?_)
        cases hit with
        | false =>
          show wpAny _ X.A (handleBy (.ref a) X.env hs2) _ _ _
          exact ih (no rfl)
        | true =>
          refine codeAny_handlers_suite_as ?_
          refine HandSPX.lands_againZ flA fun hB flB upB => ?_
          have JB : Inv X pins σ' H' { s' with heap := hB } := J.landed nb flB.1 ((up.trans upA).trans upB) os ag
          obtain ⟨obB, fvB, heB, hzB, hdB⟩ := flB.there
          have SB := JB.suite heB hdB na nL nF
          refine store_ok (X := X.suite a ((a, obB) :: (X.pn ++ pins))) (v := .ref a) SB hN hi (.inl hn) rfl (fun sC SC => ?_) (.inr hn)
          refine wpAny_mono ((su a obB cl d (X.pn ++ pins) hzB ⟨_, hdB⟩).run [] sC _ H' _ SC (yes rfl a na)) (fun fl sD spD => ?_) (fun _ _ z => z.elim)
          have fin : ∀ {σD : L2.St} {HD : Hp} {Q : Shared → Prop}, Inv (X.suite a ((a, obB) :: (X.pn ++ pins))) [] σD HD sD → (∀ sE, Inv X pins (σD.set i none) HD sE → Q sE) →
              wpAny (model X.prog X.w) X.A (do bindName X.env n .none; unbindBehindTheSuite X.env n p2) (fun _ sE => Q sE) X.xe sD := fun {σD HD Q} SD hq => gone_ok (SD.unsuite good) hN hi hn hq
          cases fl with
          | next =>
            obtain ⟨σD, HD, SD, qD⟩ := spD
            exact fin SD fun _ JE => ⟨_, _, JE, qD⟩
          | brk =>
            obtain ⟨σD, HD, SD, qD⟩ := spD
            exact fin SD fun _ JE => ⟨_, _, JE, qD⟩
          | cont =>
            obtain ⟨σD, HD, SD, qD⟩ := spD
            exact fin SD fun _ JE => ⟨_, _, JE, qD⟩
          | ret rv =>
            obtain ⟨vD, σD, HD, SD, rD, qD⟩ := spD
            exact fin SD fun _ JE => ⟨_, _, _, JE, rD, qD⟩
    exact go hh wish
  · cases fl with
    | next =>
      obtain ⟨σ', H', J', q⟩ := done
      exact wpAny_execs_nil ⟨σ', H', J'.ofTry good, q⟩
    | brk =>
      obtain ⟨σ', H', J', q⟩ := done
      exact ⟨σ', H', J'.ofTry good, q⟩
    | cont =>
      obtain ⟨σ', H', J', q⟩ := done
      exact ⟨σ', H', J'.ofTry good, q⟩
    | ret rv =>
      obtain ⟨v, σ', H', J', r, q⟩ := done
      exact ⟨v, σ', H', J'.ofTry good, r, q⟩
end
end Tc

/-! # K4More -/
namespace Tc
open PySem PySem.Spec PyProof.Rows L2
def plainV : V → Bool
  | .byt _ => false
  | .flt _ => false
  | _ => true
theorem eq_same {A : Around} {s : Shared} {x : V} {u v : Value} (r : RelV x u) (q : RelV x v) (h : plainV x = true) : SeqAt.EqAt A s u v true := by
  cases x with
  | non =>
    obtain rfl : u = Value.none := r
    obtain rfl : v = Value.none := q
    exact .same _
  | bl b =>
    obtain rfl : u = Value.bool b := r
    obtain rfl : v = Value.bool b := q
    exact .same _
  | ref a =>
    obtain rfl : u = Value.ref a := r
    obtain rfl : v = Value.ref a := q
    exact .same _
  | ty n =>
    obtain rfl : u = Value.type n := r
    obtain rfl : v = Value.type n := q
    exact .same _
  | byt b => cases h
  | flt b => cases h
  | int i =>
    obtain ⟨t, e1⟩ := (show ∃ t, u = Value.int i t from r)
    obtain ⟨t', e2⟩ := (show ∃ t, v = Value.int i t from q)
    subst e1 e2
    have e := SeqAt.EqAt.int_int (A := A) (s := s) i t i t'
    simpa using e
  | str z =>
    obtain ⟨t, e1⟩ := (show ∃ t, u = Value.str z t from r)
    obtain ⟨t', e2⟩ := (show ∃ t, v = Value.str z t from q)
    subst e1 e2
    have e := SeqAt.EqAt.str_str (A := A) (s := s) z t z t'
    simpa using e
/-- p != q: two lists whose items are, place by place, the very same -/
def rNeSame (K : PySem.W.Frag) : R2 := fun x y H Q => ∃ (p q : Addr) (xs : List V), x = .ref p ∧ y = .ref q ∧ SqL K H p xs ∧ SqL K H q xs ∧ xs.all plainV = true ∧ Q (.bl false) H
section
variable {X : Cx}
theorem op_neSame (hu : X.A.units + 64 < cLine) : OpR X (compareOp .NotEq) (rNeSame X.K) := by
  intro pins s σ H x y v u Q I rx ry h
  obtain ⟨p, q, xs, rfl, rfl, hp, hq, pl, k⟩ := h
  obtain rfl : v = Value.ref p := rx
  obtain rfl : u = Value.ref q := ry
  obtain ⟨us, ru, lu, _⟩ := I.list hp
  obtain ⟨vs, rv, lv, _⟩ := I.list hq
  have sz : us.length = vs.length := by rw [← ru.length, ← rv.length]
  have base := SeqAt.RcNeAt.lists (A := X.A) (s := s) (e := fun _ => true) lu.isList lv.isList (by simpa using sz) (by omega) (fun j h1 h2 => by
    have h1' : j < us.length := by simpa using h1
    have h2' : j < vs.length := by simpa using h2
    have hx : j < xs.length := by rw [ru.length]; exact h1'
    obtain ⟨a, ea, ra⟩ := Vals.get (i := j) ru (List.getElem?_eq_getElem hx)
    obtain ⟨b, eb, rb⟩ := Vals.get (i := j) rv (List.getElem?_eq_getElem hx)
    have ea' : us[j] = a := Option.some.inj ((List.getElem?_eq_getElem h1').symm.trans ea)
    have eb' : vs[j] = b := Option.some.inj ((List.getElem?_eq_getElem h2').symm.trans eb)
    have pj : plainV xs[j] = true := List.all_eq_true.mp pl _ (List.getElem_mem hx)
    have := eq_same (A := X.A.in1) (s := s) ra rb pj
    simpa [ea', eb'] using this)
  have tt : (!(List.range us.toArray.size).all fun _ => true) = false := by simp
  refine base X.prog X.w X.xe _ ?_
  rw [tt]
  exact ⟨.bl false, H, I, rfl, k⟩
end
/-! ## a written dict with whole numbers as keys -/
def litD (l : List (Int × Int × Tok × Tok)) : Array DictEntry := (l.map fun p => ⟨hashInt p.1, .int p.1 p.2.2.1, .int p.2.1 p.2.2.2⟩).toArray
/-- the written part holds such a dict at a -/
def KInts (K : PySem.W.Frag) (a : Addr) (l : List (Int × Int × Tok × Tok)) : Prop := ∃ n, K.lookup a = some ⟨.type "dict", none, .dict (litD l) n, #[]⟩
def rIxI (K : PySem.W.Frag) (l : List (Int × Int × Tok × Tok)) : R2 := fun x y H Q => ∃ a k r, x = .ref a ∧ y = .int k ∧ KInts K a l ∧ (l.lookup k).map (·.1) = some r ∧ Q (.int r) H
section
variable {X : Cx}
theorem find_lit (k : Int) : ∀ l : List (Int × Int × Tok × Tok), findBy Value.isInt (litD l) k = (l.lookup k).map fun p => Value.int p.1 p.2.2
  | [] => rfl
  | (i, r, t, u) :: l => by
    have ih := find_lit k l
    unfold findBy litD at ih ⊢
    rw [List.find?_toArray] at ih ⊢
    rw [List.map_cons, List.find?_cons]
    by_cases e : k = i
    · subst e
      simp [Value.isInt, List.lookup]
    · have e1 : Value.isInt k (Value.int i t) = false := by
        simp [Value.isInt]
        first | exact fun z => e z.symm | exact e | omega
      have e2 : (k == i) = false := by simpa using e
      simp only [e1, List.lookup, e2]
      exact ih
theorem ix_kints (l : List (Int × Int × Tok × Tok)) : IxR X (rIxI X.K l) := by
  intro value slice pins s σ H x y v u Q I rx ry h hs
  obtain ⟨a, k, r, rfl, rfl, ⟨n, hl⟩, e, q⟩ := h
  obtain rfl : v = Value.ref a := rx
  obtain ⟨t, rfl⟩ := (show ∃ t, u = Value.int k t from ry)
  have hm : s.heap.MapOf (intKind X.prog X.w) a (fun j => findBy Value.isInt (litD l) j) := by
    refine ⟨_, litD l, n, I.kIn _ _ hl, ⟨rfl, rfl, rfl⟩, rfl, fun d hd => ?_, fun _ => rfl⟩
    have hd' : d ∈ (litD l).toList := Array.mem_toList_iff.mpr hd
    unfold litD at hd'
    simp only [List.mem_map] at hd'
    obtain ⟨p, _, rfl⟩ := hd'
    exact ⟨p.1, by simp [intKind, Value.isInt], rfl⟩
  cases e2 : l.lookup k with
  | none =>
    rw [e2] at e
    cases e
  | some p =>
    rw [e2] at e
    have e' : p.1 = r := Option.some.inj e
    have hv : findBy Value.isInt (litD l) k = some (Value.int p.1 p.2.2) := by
      rw [find_lit, e2]
      rfl
    subst e'
    exact tail_any hm.typeIs slot_dict_getitem.lookup (wpAny_getItem_of (by simp [intKind, Value.isInt]) hm hv ⟨.int p.1, H, I.tok _, ⟨_, rfl⟩, q⟩) hs
end
/-! ## the law's own call, where the guards are known -/
/-- a def of the text at one call -/
theorem fn_here {CX : CXT} {P : Program} {w : World} {K : PySem.W.Frag} {mg : Str → Option Value} {base : Heap} {k : Nat} {x qual : Str} {st : Stmt} {f : Addr} {fd : FuncData} {N ps : List Str}
    (F : Fun K x qual st f fd) (S : FnScope N ps (defScope st)) {A : Around} {outer : List Env} {s : Shared} {H : Hp} {us : List Value} {vs : List V} {Q : VK} {E : XK} {args : Args}
    (room : Room (k + 1) A) (e0 : Env0 P w K mg base A outer s H) (bd : BindsTo s fd args (ps.zip us)) (rv : Vals vs us) (hl : vs.length = ps.length)
    (go : ∀ cdv, Room k (A.deeper (envOfC qual (defScope st) s.heap.objs.size f cdv)) →
      ∃ t, PSs (cxOf CX P w K mg base N qual (defScope st) f cdv A outer s H E) (defBody st) t ∧ t { nx := fun _ H' => Q .non H', rt := Q } (start N vs) H) :
    codeAny (model P w) A (.call (.ref f) args) (CR CX outer P w H s Q E) s := by
  obtain ⟨oc, od, kV, doc, pm, an, cdv, ct, osl, rfl, lk, code⟩ := F.ex
  have KH : K.In s.heap := e0.mod.kin.keeps fun b o e => (e0.bs b o e).1
  have noL : s.heap.NoLimit := e0.mod.nolimit.keeps fun b o e => (e0.bs b o e).1
  have kinds : ∀ y ∈ ps.zip us, (defScope st).names.lookup y.1 = some .local ∨ ((defScope st).names.lookup y.1 = some .cell ∧ ((cellsFrom (s.heap.objs.size + 1) (defScope st).names []).lookup y.1).isSome = true) := by
    rintro ⟨n, v⟩ hy
    rcases S.par n (List.of_mem_zip hy).1 with q | q
    · exact .inl q
    · exact .inr ⟨q, PySem.W.cellsFrom_some _ _ _ (.inl q)⟩
  refine codeAny_call_function room.depth (KH _ _ lk) rfl S.co S.gen rfl (PySem.W.codeRec_of KH code) (bd _ _ _ _ ?_)
  refine wpAny_newFunctionEnv_cells S.kind kinds ?_
  intro env he s1 ic
  subst he
  refine ⟨noL.keeps ic.toInCall.keep, codeAny_func ?_⟩
  obtain ⟨t, ht, hq⟩ := go cdv (room.deeper _)
  have I := inv_start (CX := CX) (N := N) (qual := qual) (f := f) (cd := cdv) (E := E) S room.hd e0 hl rv ic
  refine wpAny_mono (ht.run [] s1 (start N vs) H _ I hq) (fun fl s' done => ?_) fun _ _ z => z
  cases fl with
  | ret u =>
    obtain ⟨v, σ', H', J, r, q⟩ := done
    exact ⟨v, H', J.os, J.bare, J.base, J.hok, r, q⟩
  | next =>
    obtain ⟨σ', H', J, q⟩ := done
    exact ⟨V.non, H', J.os, J.bare, J.base, J.hok, rfl, q⟩
  | brk =>
    obtain ⟨_, _, _, q⟩ := done
    exact q.elim
  | cont =>
    obtain ⟨_, _, _, q⟩ := done
    exact q.elim
/-- what the law's call wants: run over the heap that the top left, with the guards that stand there -/
theorem call_here {P : Program} {w : World} {K : PySem.W.Frag} {mg mb : Str → Option Value} {fa a : Addr} {s₁ : Shared} {us : List Value} {ns : List Int}
    (KH : K.In s₁.heap) (hns : s₁.heap.Ns mainGlobals mg) (hb : s₁.heap.Ns builtinsNs mb) (boot : ∀ x : Str, x ≠ "__name__" → mb x = bootBuiltins x) (noL : s₁.heap.NoLimit) (sysm : SysD s₁.heap) (hg : s₁.gens = #[])
    (ha : s₁.heap.get? a = some { cls := .type "list", data := .seq us.toArray }) (hi : IntsAre us ns) (hl : ns.length ≤ sizeLine)
    (run : ∀ (base : Heap) (H : Hp), K.In base → base.Ns mainGlobals mg → Only H → SqL K H a (ns.map V.int) → Env0 P w K mg base callerA [] s₁ H → SysD base →
      codeAny (model P w) callerA (.call (.ref fa) ⟨[.ref a], []⟩) (CR CX0 [] P w H s₁ (fun v _ => v = .bl true) fun _ _ _ => False) s₁) :
    codeAny (model P w) callerA (.call (.ref fa) ⟨[.ref a], []⟩) (fun r s' => r = .ok (.ret (.bool true)) ∧ OldK s₁.heap s'.heap ∧ s'.os = s₁.os ∧ AllBare s'.gens) s₁ := by
  have rs := vals_ints hi
  have ln := hi.length
  have from_ : ∀ H : Hp, Only H → SqL K H a (ns.map V.int) → HOk P w H s₁.heap → (∀ b, H b ≠ none → b = a) → (H a ≠ none → K.lookup a = none) →
      codeAny (model P w) callerA (.call (.ref fa) ⟨[.ref a], []⟩) (fun r s' => r = .ok (.ret (.bool true)) ∧ OldK s₁.heap s'.heap ∧ s'.os = s₁.os ∧ AllBare s'.gens) s₁ := by
    intro H hO hS hok only notK
    have hid : ∀ {b : Addr} {o : Obj}, s₁.heap.get? b = some o → H b = none → (hidT s₁.heap H).get? b = some o := fun e n => hidT_get e n
    have dicts : ∀ {b : Addr} {o : Obj} {es : Array DictEntry} {ep : Nat}, s₁.heap.get? b = some o → o.data = .dict es ep → H b = none := by
      intro b o es ep e dd
      cases q : H b with
      | none => rfl
      | some z =>
        have eb : b = a := only b (by rw [q]; simp)
        subst eb
        rw [ha] at e
        cases e
        cases dd
    have keepNs : ∀ {b : Addr} {m : Str → Option Value}, s₁.heap.Ns b m → (hidT s₁.heap H).Ns b m := by
      rintro b m ⟨o, es, ep, e, dd, r⟩
      exact ⟨o, es, ep, hid e (dicts e dd), dd, r⟩
    have KB : K.In (hidT s₁.heap H) := by
      intro b o e
      refine hid (KH b o e) ?_
      cases q : H b with
      | none => rfl
      | some z =>
        have eb : b = a := only b (by rw [q]; simp)
        subst eb
        rw [notK (by rw [q]; simp)] at e
        cases e
    obtain ⟨mc, m1, m2⟩ := id noL
    have mod : Mod K mg (hidT s₁.heap H) := ⟨KB, keepNs hns, ⟨mb, keepNs hb, boot⟩, ⟨mc, keepNs m1, m2⟩⟩
    have e0 : Env0 P w K mg (hidT s₁.heap H) callerA [] s₁ H :=
      ⟨rfl, mod, fun b o e => of_hidT e, Nat.le_of_eq (hidT_size _ _), trivial, fun b z => absurd (show b ∈ ([] : List Addr) from z) (by simp), hok, .of_eq hg⟩
    refine codeAny_mono (run _ H KB (keepNs hns) hO hS e0 (let ⟨mm, z⟩ := sysm; ⟨mm, keepNs z⟩)) fun r s' done => ?_
    cases r with
    | error e => exact done.elim
    | ok fl =>
      cases fl with
      | next => exact done.elim
      | brk => exact done.elim
      | cont => exact done.elim
      | ret u =>
        obtain ⟨v, H', os, bare, un, hok', r', q⟩ := done
        have q' : v = .bl true := q
        subst q'
        obtain rfl : u = Value.bool true := r'
        refine ⟨rfl, OldK.of_keep fun b o e => ?_, os, bare⟩
        rcases hO b with z | ⟨ob, xs, z⟩
        · exact un.keep b o e z (by intro y; exact absurd (show b ∈ ([] : List Addr) from y) (by simp)) (by simp)
        · obtain ⟨e1, _⟩ := hok b _ z
          obtain ⟨e2, _⟩ := hok' b _ (un.frzs b ob _ z)
          rw [e] at e1
          cases e1
          exact e2
  cases hk : K.lookup a with
  | some o =>
    have e := KH a o hk
    rw [ha] at e
    cases e
    refine from_ (fun _ => none) (fun _ => .inl rfl) (.inr ⟨_, us.toArray, _, hk, rfl, rfl, rfl, ?_, ?_⟩) ?_ (fun b z => absurd rfl z) fun z => absurd rfl z
    · rw [List.size_toArray, ln]
      exact hl
    · simpa using rs
    · intro b z y
      cases (show (none : Option HO) = some z from y)
  | none =>
    have at_ : ∀ b : Addr, b = a → (fun c : Addr => if c = a then some (HO.frz { cls := .type "list", data := .seq us.toArray } (.lst (ns.map V.int))) else none) b = some (.frz { cls := .type "list", data := .seq us.toArray } (.lst (ns.map V.int))) := fun b e => if_pos e
    have off : ∀ b : Addr, b ≠ a → (fun c : Addr => if c = a then some (HO.frz { cls := .type "list", data := .seq us.toArray } (.lst (ns.map V.int))) else none) b = none := fun b e => if_neg e
    refine from_ (fun c : Addr => if c = a then some (HO.frz { cls := .type "list", data := .seq us.toArray } (.lst (ns.map V.int))) else none) (fun b => ?_) (.inl (.inr ⟨{ cls := .type "list", data := .seq us.toArray }, at_ a rfl⟩)) (fun b z y => ?_) (fun b y => ?_) fun _ => hk
    · by_cases e : b = a
      · exact .inr ⟨_, _, at_ b e⟩
      · exact .inl (off b e)
    · by_cases e : b = a
      · cases (at_ b e).symm.trans y
        subst e
        exact ⟨ha, by rw [List.length_map]; exact hl, us, _, rs, ha⟩
      · cases (off b e).symm.trans y
    · by_cases e : b = a
      · exact e
      · exact absurd (off b e) y
end Tc

/-! # Own1 -/
namespace Tc
open PySem PySem.Spec PyProof.Rows L2
/-! ## a promise of a def that may ask for repr: its callers know the guards -/
structure FnG (P : Program) (w : World) (K : PySem.W.Frag) (mg : Str → Option Value) (base : Heap) (CX : CXT) (k : Nat) (f : Addr) (fd : FuncData) (ps : List Str) (sp : Sp) : Prop where
  len : ∀ vs H Q E, sp vs H Q E → vs.length = ps.length
  run : ∀ (A : Around) (outer : List Env) (s : Shared) (H : Hp) (args : Args) (us : List Value) (vs : List V) (Q : VK) (E : XK), A.guards = some [] → Room k A → Env0 P w K mg base A outer s H →
    BindsTo s fd args (ps.zip us) → Vals vs us → sp vs H Q E → codeAny (model P w) A (.call (.ref f) args) (CR CX outer P w H s Q E) s
section
variable {P : Program} {w : World} {K : PySem.W.Frag} {mg : Str → Option Value} {base : Heap} {CX : CXT} {k : Nat} {f : Addr} {fd : FuncData} {ps : List Str} {sp : Sp}
theorem FnG.of (F : FnOk P w K mg base CX k f fd ps sp) : FnG P w K mg base CX k f fd ps sp := ⟨F.len, fun A outer s H args us vs Q E _ => F.run A outer s H args us vs Q E⟩
theorem okG {x qual : Str} {st : Stmt} {N : List Str} (F : Fun K x qual st f fd) (S : FnScope N ps (defScope st)) (len : ∀ vs H Q E, sp vs H Q E → vs.length = ps.length)
    (body : ∀ (cdv : Value) (A : Around) (outer : List Env) (s : Shared) (H : Hp) (vs : List V) (Q : VK) (E : XK), A.guards = some [] → Room k (A.deeper (envOfC qual (defScope st) s.heap.objs.size f cdv)) → sp vs H Q E →
      ∃ t, PSs (cxOf CX P w K mg base N qual (defScope st) f cdv A outer s H E) (defBody st) t ∧ t { nx := fun _ H' => Q .non H', rt := Q } (start N vs) H) :
    FnG P w K mg base CX (k + 1) f fd ps sp :=
  ⟨len, fun A outer s H args us vs Q E hg hr e0 bd rv h => fn_here F S hr e0 bd rv (len _ _ _ _ h) fun cdv room => body cdv A outer s H vs Q E hg room h⟩
end
/-! ## a callee that runs below the body, its refusal wished for at the slots -/
section
variable {X : Cx} {CX : CXT} {k : Nat} {f C : Addr} {fd : FuncData} {ps : List Str} {sp : Sp} {x m : Str} {p pos apos : Pos} {e o a b : Expr} {es : List Expr} {ta tb : TE} {t : TA}
/-- how an answer of a callee is taken -/
theorem ans_of {pins : List (Addr × Obj)} {σ : L2.St} {H : Hp} {s : Shared} {Q : VK} {E : XK} (hx : PassesAt CX X σ E) (I : Inv X pins σ H s) {r : Result} {s' : Shared} (h : CR CX X.stack X.prog X.w H s Q E r s') :
    wants (EP X pins σ Q) X.xe r s' := by
  cases r with
  | error er => exact hx pins H s er s' I h
  | ok fl =>
    cases fl with
    | ret u => exact I.after h
    | next => exact h.elim
    | brk => exact h.elim
    | cont => exact h.elim
theorem env_at {pins : List (Addr × Obj)} {σ : L2.St} {H : Hp} {s : Shared} {A : Around} (hA : A.frames = X.A.frames) (I : Inv X pins σ H s) : Env0 X.prog X.w X.K X.mg X.base A X.stack s H := by
  have e := I.env0
  exact ⟨hA.trans e.frames, e.mod, e.bs, e.bsz, e.funs, e.frf, e.hok, e.bare⟩
theorem run_at {pins : List (Addr × Obj)} {σ : L2.St} {H : Hp} {s : Shared} {Q : VK} {E : XK} {A : Around} {us : List Value} {vs : List V} (hA : A.frames = X.A.frames) (hr : Room k A) (F : FnOk X.prog X.w X.K X.mg X.base CX k f fd ps sp)
    (hb : Binds X.K fd ps []) (hx : PassesAt CX X σ E) (I : Inv X pins σ H s) (r : Vals vs us) (h : sp vs H Q E) : wpAny (model X.prog X.w) A (call (.ref f) us) (EP X pins σ Q) X.xe s := by
  have hl : us.length = ps.length := by rw [← r.length]; exact F.len _ _ _ _ h
  have bd := hb s us I.kIn (by rw [List.append_nil]; exact hl)
  rw [List.append_nil] at bd
  exact wpAny_call (codeAny_mono (F.run A X.stack s H ⟨us, []⟩ us vs Q E hr (env_at hA I) bd r h) fun r s' hq => ans_of hx I hq)
theorem run_atG {pins : List (Addr × Obj)} {σ : L2.St} {H : Hp} {s : Shared} {Q : VK} {E : XK} {A : Around} {us : List Value} {vs : List V} (hA : A.frames = X.A.frames) (hg : A.guards = some []) (hr : Room k A) (F : FnG X.prog X.w X.K X.mg X.base CX k f fd ps sp)
    (hb : Binds X.K fd ps []) (hx : PassesAt CX X σ E) (I : Inv X pins σ H s) (r : Vals vs us) (h : sp vs H Q E) : wpAny (model X.prog X.w) A (call (.ref f) us) (EP X pins σ Q) X.xe s := by
  have hl : us.length = ps.length := by rw [← r.length]; exact F.len _ _ _ _ h
  have bd := hb s us I.kIn (by rw [List.append_nil]; exact hl)
  rw [List.append_nil] at bd
  exact wpAny_call (codeAny_mono (F.run A X.stack s H ⟨us, []⟩ us vs Q E hg hr (env_at hA I) bd r h) fun r s' hq => ans_of hx I hq)
/-- f(e, ..), f a def that may ask for repr -/
theorem pe_callG {E : L2.St → XK} (F : FnG X.prog X.w X.K X.mg X.base CX k f fd ps sp) (hgd : X.A.guards = some []) (hr : Room k X.A) (hg : Gl X x) (hm : X.mg x = some (.ref f)) (hk : PySem.W.keepIn X.K (.ref f) = true) (hb : Binds X.K fd ps []) (hx : ∀ σ, PassesAt CX X σ (E σ))
    (ha : PA X (e :: es) t) (hdb : (x == ("__debug__" : Str)) = false := by decide) (he : starEach (e :: es) X.env = (false, eval e X.env) :: starEach es X.env := by rfl) (hpl : (backTo pos (starEach es X.env)).any (·.1) = false := by rfl) :
    PE X (.Call (.Name x p) (e :: es) [] pos) (tCallS sp E t) := by
  refine ⟨fun pins s σ H Q I h => ?_⟩
  refine wpAny_Call_Name_kw (ld_glob I hg hm ?_ hdb)
  refine PySem.W.callWith_K (h₀ := X.base) I.ok.mod.kin hk (thn (ha.run pos pins s σ H _ I h) fun us s1 ⟨vs, H1, I1, r, q⟩ => ⟨I1.kIn, ?_⟩) he hpl
  exact run_atG rfl hgd hr F hb (hx σ) I1 r q
theorem pass0S {σ : L2.St} : PassesAt CX0 X σ E0 := fun _ _ _ _ _ _ h => h.elim
theorem passLS {σ : L2.St} : PassesAt (L2.CX X.prog X.w) X σ E0 := fun _ H s e s' I h => passL [] σ H s e s' (I.pins_of fun _ z => by cases z) h
/-! ### an own class's len, item, comparison, membership -/
/-- the class has the method, a def of the text -/
structure Spc (K : PySem.W.Frag) (C : Addr) (m : Str) (f : Addr) : Prop where
  at_ : PySem.W.findIn K (.ref C) m = some (some (.ref f))
  fn : PySem.W.isFn K (.ref f) = true
theorem inst_at {pins : List (Addr × Obj)} {σ : L2.St} {H : Hp} {s : Shared} {p dx : Addr} {fs : List (Str × V)} (I : Inv X pins σ H s) (h : H p = some (.ins C dx fs)) : ∃ od, PySem.W.InstAt s.heap p (PySem.W.instObj C dx) C (some od) := by
  obtain ⟨mA, O, _⟩ := ins_get I.hok h
  obtain ⟨od, J, _⟩ := O.look
  exact ⟨od, J⟩
/-- len(o) -/
def rLenO (C : Addr) (sp : Sp) : List V → Hp → VK → Prop := fun xs H Q => ∃ (p dx : Addr) (fs : List (Str × V)), xs = [.ref p] ∧ H p = some (.ins C dx fs) ∧ sp [.ref p] H (fun v H' => ∃ n : Nat, v = .int n ∧ n < 2 ^ 62 ∧ Q (.int n) H') E0
theorem call_lenO (S : Spc X.K C "__len__" f) (F : FnOk X.prog X.w X.K X.mg X.base CX k f fd ps sp) (hr : Room (k + 1) X.A) (hb : Binds X.K fd ps []) (hx : ∀ σ, PassesAt CX X σ E0) : CallR X (.builtin "len") (rLenO C sp) := by
  intro pins s σ H xs us Q I r h
  obtain ⟨p, dx, fs, rfl, hp, q⟩ := h
  obtain ⟨u, rfl, ru⟩ := vals1 r
  obtain rfl : u = Value.ref p := ru
  obtain ⟨od, J⟩ := inst_at I hp
  obtain ⟨m, fr⟩ := I.fr
  refine PySem.W.len_K fr I.ok.mod.kin J S.at_ S.fn (thn (run_at (A := X.A.in1) (vs := [.ref p]) rfl hr.in1 F hb (hx σ) I (.cons rfl .nil) q) fun v s' z => ?_)
  obtain ⟨y, H', I', ry, n, rfl, hn, q'⟩ := z
  obtain ⟨tk, rfl⟩ := (show ∃ t, v = Value.int n t from ry)
  exact ⟨⟨by omega, by omega⟩, .int n, H', I'.tok _, ⟨_, rfl⟩, q'⟩
/-- o[e] -/
def tIxO (C : Addr) (sp : Sp) (E : L2.St → XK) (ta tb : TE) : TE := fun σ H Q => ta σ H fun x H1 => tb σ H1 fun y H2 => ∃ (p dx : Addr) (fs : List (Str × V)), x = .ref p ∧ H2 p = some (.ins C dx fs) ∧ sp [.ref p, y] H2 Q (E σ)
theorem pe_ixO {E : L2.St → XK} (S : Spc X.K C "__getitem__" f) (fnK : PySem.W.fnIn X.K f = true) (F : FnOk X.prog X.w X.K X.mg X.base CX k f fd ps sp) (hr : Room (k + 1) X.A) (hb : Binds X.K fd ps []) (hx : ∀ σ, PassesAt CX X σ (E σ))
    (ha : PE X a ta) (hb2 : PE X b tb) (hs : ∀ (pp : Addr) (i : Value), subscripted b true (.ref pp) i = runValue (.builtin "lifetime.subscript" ⟨[.ref pp, i], []⟩) := by intro _ _; with_unfolding_all rfl) : PE X (.Subscript a b pos) (tIxO C sp E ta tb) := by
  refine ⟨fun pins s σ H Q I h => ?_⟩
  refine Subscript_ (bin ha hb2 I h fun v u s2 x y H2 I2 rx ry q => ?_)
  obtain ⟨pp, dx, fs, rfl, hp, q⟩ := q
  obtain rfl : v = Value.ref pp := rx
  obtain ⟨od, J⟩ := inst_at I2 hp
  obtain ⟨m, fr⟩ := I2.fr
  exact PySem.W.sub_K fr I2.ok.mod.kin J S.at_ fnK S.fn (run_at (A := X.A.in1) (vs := [.ref pp, y]) rfl hr.in1 F hb (hx σ) I2 (.cons rfl (.cons ry .nil)) q) (hs _ _)
/-- C(e, ..), its __init__ may refuse -/
def tMakeS (C : Addr) (sp : Sp) (E : L2.St → XK) (t : TA) : TE := fun σ H Q => t σ H fun vs H1 => ∀ x dx, H1 x = none → H1 dx = none → dx ≠ x →
  sp (.ref x :: vs) (upd (upd H1 dx (.own x)) x (.ins C dx [])) (fun v H2 => v = .non ∧ Q (.ref x) H2) (E σ)
theorem pe_makeS {E : L2.St → XK} (M : Mk X.K C f) (F : FnOk X.prog X.w X.K X.mg X.base CX k f fd ps sp) (hr : Room (k + 1) X.A) (hg : Gl X x) (hm : X.mg x = some (.ref C)) (hb : Binds X.K fd ps []) (hx : ∀ σ, PassesAt CX X σ (E σ))
    (ha : PA X (e :: es) t) (hdb : (x == ("__debug__" : Str)) = false := by decide) (he : starEach (e :: es) X.env = (false, eval e X.env) :: starEach es X.env := by rfl) (hpl : (backTo pos (starEach es X.env)).any (·.1) = false := by rfl) :
    PE X (.Call (.Name x p) (e :: es) [] pos) (tMakeS C sp E t) := by
  refine ⟨fun pins s σ H Q I h => ?_⟩
  refine wpAny_Call_Name_kw (ld_glob I hg hm ?_ hdb)
  refine PySem.W.callWith_K (h₀ := X.base) I.ok.mod.kin M.kp (thn (ha.run pos pins s σ H _ I h) fun us s1 ⟨vs, H1, I1, r, q⟩ => ⟨I1.kIn, ?_⟩) he hpl
  show wpAny _ _ (call (.ref C) us) _ _ _
  have z := q (s1.heap.objs.size + 1) s1.heap.objs.size (I1.hok.fresh (Nat.le_succ _)) (I1.hok.fresh (Nat.le_refl _)) (Nat.ne_of_lt (Nat.lt_succ_self _))
  have I2 := Inv.made (C := C) I1
  have r2 : Vals (V.ref (s1.heap.objs.size + 1) :: vs) (Value.ref (s1.heap.objs.size + 1) :: us) := .cons rfl r
  have hl : (Value.ref (s1.heap.objs.size + 1) :: us).length = ps.length := by
    rw [← r2.length]
    exact F.len _ _ _ _ z
  have bd := hb _ (Value.ref (s1.heap.objs.size + 1) :: us) I2.kIn (by rw [List.append_nil]; exact hl)
  rw [List.append_nil] at bd
  refine wpAny_call (make_map (f := f) I1.kIn M.makes M.init (beq_iff_eq.mp M.fn) (codeAny_mono (F.run _ X.stack _ _ ⟨Value.ref (s1.heap.objs.size + 1) :: us, []⟩ (Value.ref (s1.heap.objs.size + 1) :: us) _ _ (E σ) (hr.make C us [])
    (I2.env0.make C us []) bd r2 z) fun r s' hq => ?_))
  cases r with
  | error er => exact hx σ pins _ _ er s' I2 hq
  | ok fl =>
    cases fl with
    | ret u =>
      obtain ⟨v, H', I3, rv, ev, q3⟩ := I2.after hq
      subst ev
      exact ⟨rv, ⟨V.ref (s1.heap.objs.size + 1), H', I3, rfl, q3⟩⟩
    | next => exact hq.elim
    | brk => exact hq.elim
    | cont => exact hq.elim
/-- o.m(e, ..), m may refuse -/
def tMethS (C : Addr) (m : Str) (sp : Sp) (E : L2.St → XK) (ta : TE) (t : TA) : TE := fun σ H Q => ta σ H fun x H1 => ∃ (p dx : Addr) (fs : List (Str × V)), x = .ref p ∧ H1 p = some (.ins C dx fs) ∧ fs.lookup m = none ∧
  t σ H1 fun vs H2 => sp (x :: vs) H2 Q (E σ)
theorem pe_methS {E : L2.St → XK} {pl : Sem Bool} (he : PE X o ta) (c : Cls X.K C) (hm : Meth X.K C m f) (F : FnOk X.prog X.w X.K X.mg X.base CX k f fd ps sp) (hr : Room k X.A) (hb : Binds X.K fd ps []) (hx : ∀ σ, PassesAt CX X σ (E σ)) (ha : PA X (e :: es) t)
    (hst : starEach (e :: es) X.env = (false, eval e X.env) :: starEach es X.env := by rfl) (hpl : (backTo pos (starEach es X.env)).any (·.1) = false := by rfl)
    (ht : eval (.Call (.Attribute o m apos) (e :: es) [] pos) X.env = (do
      let ov ← eval o X.env
      standAt apos.atName
      let (g, first) ← holding [ov] (getMethod ov m pl)
      callWith pos g first (backTo pos (starEach (e :: es) X.env)) (backToKw pos (keywordEach [] X.env))) := by rfl) :
    PE X (.Call (.Attribute o m apos) (e :: es) [] pos) (tMethS C m sp E ta t) := by
  refine ⟨fun pins s σ H Q I h => ?_⟩
  refine PySem.W.methodCall_KW (pl := pl) (thn (he.run pins s σ H _ I h) fun u s1 ⟨y, H1, I1, ry, pp, dx, fs, ey, hp, l, q⟩ => ?_) ht
  subst ey
  obtain rfl : u = Value.ref pp := ry
  refine getmeth_ok I1 hp c hm l ?_
  refine PySem.W.callWith_K (first := [.ref pp]) (h₀ := X.base) I.ok.mod.kin hm.kp (thn (ha.run pos pins s1 σ H1 _ I1 q) fun us s2 ⟨vs, H2, I2, r, q2⟩ => ⟨I2.kIn, ?_⟩) hst hpl
  exact run_at (us := .ref pp :: us) (vs := .ref pp :: vs) rfl hr F hb (hx σ) I2 (.cons rfl r) q2
/-! ### == and the like, the left one an object of the class -/
/-- what an object's type is seen to be -/
inductive Tys (K : PySem.W.Frag) (H : Hp) : V → Value → Prop
  | non : Tys K H .non (.type "NoneType")
  | bl (b : Bool) : Tys K H (.bl b) (.type "bool")
  | int (i : Int) : Tys K H (.int i) (.type "int")
  | str (z : Str) : Tys K H (.str z) (.type "str")
  | lst {q : Addr} {xs : List V} (h : H q = some (.lst xs)) : Tys K H (.ref q) (.type "list")
  | tup {q : Addr} {xs : List V} (h : H q = some (.tup xs)) : Tys K H (.ref q) (.type "tuple")
  | dct {q : Addr} {kvs : List (Key × V)} (h : H q = some (.dK kvs)) : Tys K H (.ref q) (.type "dict")
  | ins {q D dx : Addr} {fs : List (Str × V)} (h : H q = some (.ins D dx fs)) : Tys K H (.ref q) (.ref D)
theorem Tys.looks {pins : List (Addr × Obj)} {σ : L2.St} {H : Hp} {s : Shared} {y : V} {u t : Value} (I : Inv X pins σ H s) (r : RelV y u) (h : Tys X.K H y t) : PySem.W.Looks (model X.prog X.w) s.heap (typeOf u) t := by
  cases h with
  | non =>
    obtain rfl : u = Value.none := r
    exact PySem.W.Looks.of_pure rfl
  | bl b =>
    obtain rfl : u = Value.bool b := r
    exact PySem.W.Looks.of_pure rfl
  | int i =>
    obtain ⟨tk, rfl⟩ := (show ∃ t, u = Value.int i t from r)
    exact PySem.W.Looks.of_pure rfl
  | str z =>
    obtain ⟨tk, rfl⟩ := (show ∃ t, u = Value.str z t from r)
    exact PySem.W.Looks.of_pure rfl
  | @lst q xs h =>
    obtain rfl : u = Value.ref q := r
    obtain ⟨_, _, n, _, e⟩ := (show ObjOk X.prog X.w H s.heap q (.lst xs) from I.hok q _ h)
    exact fun A Q E s2 kp z => wpAny_typeOf_ref (kp _ _ e) z
  | @tup q xs h =>
    obtain rfl : u = Value.ref q := r
    obtain ⟨_, _, _, ob, e, ec, _⟩ := (show ObjOk X.prog X.w H s.heap q (.tup xs) from I.hok q _ h)
    exact fun A Q E s2 kp z => wpAny_typeOf_ref (kp _ _ e) (by rw [ec]; exact z)
  | @dct q kvs h =>
    obtain rfl : u = Value.ref q := r
    obtain ⟨_, _, vs, _, ob, es, ep, e, ex, _⟩ := (show ObjOk X.prog X.w H s.heap q (.dK kvs) from I.hok q _ h)
    exact fun A Q E s2 kp z => wpAny_typeOf_ref (kp _ _ e) (by rw [ex.1]; exact z)
  | @ins q D dx fs h =>
    obtain rfl : u = Value.ref q := r
    obtain ⟨od, J⟩ := inst_at I h
    exact J.type
/-- o == y, o < y, .. by the class's own method -/
def rCmpO (K : PySem.W.Frag) (C : Addr) (sp : Sp) : R2 := fun x y H Q => ∃ (p dx : Addr) (fs : List (Str × V)) (t : Value), x = .ref p ∧ H p = some (.ins C dx fs) ∧ Tys K H y t ∧ PySem.W.notFirst K C t = true ∧ sp [.ref p, y] H Q E0
theorem rc_own {op : CmpOp} (S : Spc X.K C (cmpInfo op).2.1 f) (F : FnOk X.prog X.w X.K X.mg X.base CX k f fd ps sp) (hr : Room k X.A) (hb : Binds X.K fd ps []) (hx : ∀ σ, PassesAt CX X σ E0)
    {pins : List (Addr × Obj)} {σ : L2.St} {H : Hp} {s : Shared} {y : V} {v u : Value} {Q : VK} (I : Inv X pins σ H s) {z : V} (rz : RelV z v) (ry : RelV y u) (h : rCmpO X.K C sp z y H Q) :
    wpAny (model X.prog X.w) X.A (richCompare op v u) (EP X pins σ Q) X.xe s := by
  obtain ⟨p, dx, fs, t, rfl, hp, ty, nf, q⟩ := h
  obtain rfl : v = Value.ref p := rz
  obtain ⟨od, J⟩ := inst_at I hp
  obtain ⟨m, fr⟩ := I.fr
  refine PySem.W.cmp_K hr.units0 fr I.ok.mod.kin J (ty.looks I ry) nf S.at_ S.fn (thn (run_at (A := X.A) (vs := [.ref p, y]) rfl hr F hb (hx σ) I (.cons rfl (.cons ry .nil)) q) fun b s' w => ?_)
  obtain ⟨a', H', I', ra, q'⟩ := w
  have back : EP X pins σ Q b s' := ⟨a', H', I', ra, q'⟩
  cases a' with
  | non => cases ra; exact back
  | bl c => cases ra; exact back
  | int i => obtain ⟨tk, rfl⟩ := ra; exact back
  | str z => obtain ⟨tk, rfl⟩ := ra; exact back
  | byt z => obtain ⟨tk, rfl⟩ := ra; exact back
  | flt z => obtain ⟨tk, rfl⟩ := ra; exact back
  | ref z => cases ra; exact back
  | ty z => cases ra; exact back
theorem op_eqO (S : Spc X.K C "__eq__" f) (F : FnOk X.prog X.w X.K X.mg X.base CX k f fd ps sp) (hr : Room k X.A) (hb : Binds X.K fd ps []) (hx : ∀ σ, PassesAt CX X σ E0) : OpR X (compareOp .Eq) (rCmpO X.K C sp) :=
  fun pins s σ H x y v u Q I rx ry h => rc_own (op := .Eq) S F hr hb hx I rx ry h
theorem op_ltO (S : Spc X.K C "__lt__" f) (F : FnOk X.prog X.w X.K X.mg X.base CX k f fd ps sp) (hr : Room k X.A) (hb : Binds X.K fd ps []) (hx : ∀ σ, PassesAt CX X σ E0) : OpR X (compareOp .Lt) (rCmpO X.K C sp) :=
  fun pins s σ H x y v u Q I rx ry h => rc_own (op := .Lt) S F hr hb hx I rx ry h
theorem op_gtO (S : Spc X.K C "__gt__" f) (F : FnOk X.prog X.w X.K X.mg X.base CX k f fd ps sp) (hr : Room k X.A) (hb : Binds X.K fd ps []) (hx : ∀ σ, PassesAt CX X σ E0) : OpR X (compareOp .Gt) (rCmpO X.K C sp) :=
  fun pins s σ H x y v u Q I rx ry h => rc_own (op := .Gt) S F hr hb hx I rx ry h
/-- y in o, by the class's own __contains__, which answers True or False -/
def rInO (C : Addr) (sp : Sp) : R2 := fun x y H Q => ∃ (p dx : Addr) (fs : List (Str × V)), y = .ref p ∧ H p = some (.ins C dx fs) ∧ sp [.ref p, x] H (fun v H' => ∃ c, v = .bl c ∧ Q (.bl c) H') E0
theorem op_inO (S : Spc X.K C "__contains__" f) (F : FnOk X.prog X.w X.K X.mg X.base CX k f fd ps sp) (hr : Room k X.A) (hb : Binds X.K fd ps []) (hx : ∀ σ, PassesAt CX X σ E0) : OpR X (compareOp .In) (rInO C sp) := by
  intro pins s σ H x y v u Q I rx ry h
  obtain ⟨p, dx, fs, rfl, hp, q⟩ := h
  obtain rfl : u = Value.ref p := ry
  obtain ⟨od, J⟩ := inst_at I hp
  obtain ⟨m, fr⟩ := I.fr
  refine PySem.W.in_K fr I.ok.mod.kin J S.at_ S.fn (thn (run_at (A := X.A) (vs := [.ref p, x]) rfl hr F hb (hx σ) I (.cons rfl (.cons rx .nil)) q) fun b s' w => ?_)
  obtain ⟨a', H', I', ra, c, rfl, q'⟩ := w
  obtain rfl : b = Value.bool c := ra
  exact wpAny_truthy_bool ⟨.bl c, H', I', rfl, q'⟩
end
end Tc

/-! # Own2 -/
namespace Tc
open PySem PySem.SeqAt
open AutoSeq1 (wpAny_loadPart')
open MeetsSeq MeetsSeq2 MeetsSeq3 SeqRoads2
open GQ (FinOf ListI)
section
variable {prog : Program} {w : World} {A : Around} {R : Result → Shared → Prop}
theorem ne_loopG (l b : Addr) (N : Nat) (I : Nat → Shared → Prop) (hl : ListI prog w A (fun e s' => R (.error e) s') l b N I)
    (fin : ∀ s, I N s → R (.ok (.ret (.bool false))) s) (k : Nat) :
    ∀ i : Nat, N - i = k → i ≤ N → ∀ s, I i s →
      wpAny (model prog w) A.in1 (Builtin.«list.__eq__.loop» ⟨[.ref l, .ref b, rawInt i, rawInt 3], []⟩) (FinOf prog w A R) (fun e s' => R (.error e) s') s := by
  induction k with
  | zero =>
    intro i hk hi s h
    obtain ⟨items, items2, n, n2, hl1, hb1, hs1, hs2, _⟩ := hl _ _ h
    have hi' : i = N := by omega
    have hR : R (.ok (.ret (.bool false))) s := fin s (hi' ▸ h)
    obtain ⟨hp, g, d, tk, os⟩ := s
    wp_walk using wpAny_loadPart' hl1, wpAny_loadPart' hb1
    have hi1 : items[((i : Nat) : Int).toNat]? = none := by simp; omega
    have hi2 : items2[((i : Nat) : Int).toNat]? = none := by simp; omega
    rw [hi1, hi2]
    wp_walk using wpAny_loadPart' hl1, wpAny_loadPart' hb1
    show R (.ok (.ret (.bool (items.size != items2.size)))) _
    rw [hs1, hs2]
    simpa using hR
  | succ k ih =>
    intro i hk hi s h
    obtain ⟨items, items2, n, n2, hl1, hb1, hs1, hs2, turn⟩ := hl _ _ h
    have hlt : i < items.size := by omega
    have hlt2 : i < items2.size := by omega
    have ht := turn hlt hlt2
    obtain ⟨hp, g, d, tk, os⟩ := s
    wp_walk using wpAny_loadPart' hl1, wpAny_loadPart' hb1
    have hi1 : items[((i : Nat) : Int).toNat]? = some items[i] := by simp [hlt]
    have hi2 : items2[((i : Nat) : Int).toNat]? = some items2[i] := by simp [hlt2]
    have hc : ((i : Int) + 1) = ((i + 1 : Nat) : Int) := by omega
    rw [hi1, hi2]
    refine wpAny_bind (wpAny_mono ht (fun r s2 h2 => ?_) fun _ _ x => x)
    obtain ⟨hr, h2⟩ := h2
    subst hr
    have hrec := ih (i + 1) (by omega) (by omega) s2 h2
    obtain ⟨hp2, g2, d2, tk2, os2⟩ := s2
    wp_walk
    rw [hc]
    exact ⟨plainId_quiet plain_eq_loop _, codeAny_builtin entry_eq_loop (by
      rw [Around.under_plainId plain_eq_loop _]
      exact hrec)⟩
theorem list_neG (l b : Addr) (N : Nat) (I : Nat → Shared → Prop) (hl : ListI prog w A (fun e s' => R (.error e) s') l b N I)
    (fin : ∀ s, I N s → R (.ok (.ret (.bool false))) s) {s : Shared} (h : I 0 s) :
    wpAny (model prog w) A.in1 (Builtin.«list.__ne__» ⟨[.ref l, .ref b], []⟩) (FinOf prog w A R) (fun e s' => R (.error e) s') s := by
  obtain ⟨items, items2, n, n2, hl1, hb1, hs1, hs2, _⟩ := hl _ _ h
  have hrec := ne_loopG (A := A) (R := R) l b N I hl fin _ 0 rfl (Nat.zero_le _) s h
  obtain ⟨hp, g, d, tk, os⟩ := s
  have f3 := AutoSeq1.sub_list_list
  have hne : ¬ (items.size != items2.size) = true := by simp [hs1, hs2]
  wp_walk using wpAny_loadPart' hl1, wpAny_loadPart' hb1
  exact ⟨plainId_quiet plain_eq_loop _, codeAny_builtin entry_eq_loop (by
    rw [Around.under_plainId plain_eq_loop _]
    exact hrec)⟩
end
section
variable {prog : Program} {w : World} {A : Around} {E : Value → Shared → Prop} {s : Shared}
theorem rc_ne_listG {l b : Addr} {N : Nat} {Q : Value → Shared → Prop} (hu : A.units < cLine) (I : Nat → Shared → Prop) (hl : ListI prog w A E l b N I)
    (fin : ∀ s, I N s → Q (.bool false) s) (h : I 0 s) : wpAny (model prog w) A (richCompare .NotEq (.ref l) (.ref b)) Q E s := by
  obtain ⟨items, items2, n, n2, hl1, hb1, _, _, _⟩ := hl _ _ h
  refine wpAny_richCompare_same_room (op := .NotEq) ⟨_, hl1, rfl⟩ ⟨_, hb1, rfl⟩ F.slot_list_ne (GQ.call_here F.slot_list_ne ⟨_, hl1, rfl⟩ F.entry_list_ne (F.args_list_ne_2 _ _) ?_) hu
  exact list_neG (R := wants (fun v s' => v ≠ .notImplemented ∧ Q v s') E) l b N I hl (fun s' q => ⟨(fun x => nomatch x), fin s' q⟩) h
end
open PySem.Spec PyProof.Rows L2
/-- p != q: two lists, equal item by item as D sees it -/
def rNeOwn (D : Eqv) : R2 := fun x y H Q => ∃ (a b : Addr) (xs ys : List V), x = .ref a ∧ y = .ref b ∧ H a = some (.lst xs) ∧ H b = some (.lst ys) ∧ Prs D xs ys H ∧ ∀ H', Ext H H' → Q (.bl false) H'
theorem op_neOwn {X : Cx} {n : Nat} {D : Eqv} (hD : Mon D) (h : EqG X n D) (hr : Room (n + 1) X.A) : OpR X (compareOp .NotEq) (rNeOwn D) := by
  intro pins s σ H x y v u Q I rx ry ⟨a, b, xs, ys, ex, ey, ha, hb, p, q⟩
  subst ex ey
  cases rx
  cases ry
  have sb : Sub X (n + 1) X.A := ⟨hr, rfl⟩
  refine rc_ne_listG (N := xs.length) hr.units0 (fun _ s' => LoopI X pins σ H s') (fun i s' q => ?_) (fun s' q' => ?_) ⟨H, I, Ext.rfl'⟩
  · obtain ⟨H1, I1, e1⟩ := id q
    obtain ⟨z, its, k, r, e⟩ := I1.hok a _ (e1 _ _ ha)
    obtain ⟨z2, its2, k2, r2, e2⟩ := I1.hok b _ (e1 _ _ hb)
    refine ⟨its.toArray, its2.toArray, k, k2, e, e2, by rw [List.size_toArray, ← r.length], by rw [List.size_toArray, ← r2.length, ← p.1], fun h1 h2 => ?_⟩
    exact turnG hD h sb p r r2 i h1 h2 s' q
  · obtain ⟨H', I', e'⟩ := q'
    exact ⟨.bl false, H', I', rfl, q H' e'⟩
end Tc

/-! # K5Text -/
namespace Tc
open PySem PySem.Spec PyProof.Rows L2
def top (i : Nat) : Stmt := PySem.Challenge.pw_threecounts_k05_texts_told.main.body.getD i (.Pass ⟨0, 0, 0, 0⟩)
abbrev s_is_integer : Stmt := top 11
theorem sc_is_integer : FnScope ["value", "low", "high"] ["value", "low", "high"] (defScope s_is_integer) := ⟨rfl, rfl, rfl, by decide +kernel, rfl, by decide +kernel, by decide +kernel⟩
abbrev s_is_whole : Stmt := top 12
theorem sc_is_whole : FnScope ["value"] ["value"] (defScope s_is_whole) := ⟨rfl, rfl, rfl, by decide +kernel, rfl, by decide +kernel, by decide +kernel⟩
abbrev s_is_char : Stmt := top 13
theorem sc_is_char : FnScope ["value"] ["value"] (defScope s_is_char) := ⟨rfl, rfl, rfl, by decide +kernel, rfl, by decide +kernel, by decide +kernel⟩
abbrev s_is_list : Stmt := top 14
theorem sc_is_list : FnScope ["value"] ["value"] (defScope s_is_list) := ⟨rfl, rfl, rfl, by decide +kernel, rfl, by decide +kernel, by decide +kernel⟩
abbrev s_is_chars : Stmt := top 15
theorem sc_is_chars : FnScope ["value", "item"] ["value"] (defScope s_is_chars) := ⟨rfl, rfl, rfl, by decide +kernel, rfl, by decide +kernel, by decide +kernel⟩
abbrev s_is_kind : Stmt := top 16
theorem sc_is_kind : FnScope ["value"] ["value"] (defScope s_is_kind) := ⟨rfl, rfl, rfl, by decide +kernel, rfl, by decide +kernel, by decide +kernel⟩
abbrev s_check_char : Stmt := top 19
theorem sc_check_char : FnScope ["char"] ["char"] (defScope s_check_char) := ⟨rfl, rfl, rfl, by decide +kernel, rfl, by decide +kernel, by decide +kernel⟩
abbrev s_check_chars : Stmt := top 20
theorem sc_check_chars : FnScope ["chars", "item"] ["chars"] (defScope s_check_chars) := ⟨rfl, rfl, rfl, by decide +kernel, rfl, by decide +kernel, by decide +kernel⟩
abbrev s_check_kind : Stmt := top 21
theorem sc_check_kind : FnScope ["kind"] ["kind"] (defScope s_check_kind) := ⟨rfl, rfl, rfl, by decide +kernel, rfl, by decide +kernel, by decide +kernel⟩
abbrev s_char_width : Stmt := top 22
theorem sc_char_width : FnScope ["char", "kind"] ["char", "kind"] (defScope s_char_width) := ⟨rfl, rfl, rfl, by decide +kernel, rfl, by decide +kernel, by decide +kernel⟩
abbrev s_byte_width : Stmt := top 23
theorem sc_byte_width : FnScope ["char"] ["char"] (defScope s_byte_width) := ⟨rfl, rfl, rfl, by decide +kernel, rfl, by decide +kernel, by decide +kernel⟩
abbrev s_unit_width : Stmt := top 24
theorem sc_unit_width : FnScope ["char"] ["char"] (defScope s_unit_width) := ⟨rfl, rfl, rfl, by decide +kernel, rfl, by decide +kernel, by decide +kernel⟩
abbrev s_total_width : Stmt := top 25
theorem sc_total_width : FnScope ["chars", "kind", "char"] ["chars", "kind"] (defScope s_total_width) := ⟨rfl, rfl, rfl, by decide +kernel, rfl, by decide +kernel, by decide +kernel⟩
abbrev s_points_of : Stmt := top 27
theorem sc_points_of : FnScope ["other"] ["other"] (defScope s_points_of) := ⟨rfl, rfl, rfl, by decide +kernel, rfl, by decide +kernel, by decide +kernel⟩
abbrev s_stands_in : Stmt := top 28
theorem sc_stands_in : FnScope ["part", "whole", "size", "start"] ["part", "whole"] (defScope s_stands_in) := ⟨rfl, rfl, rfl, by decide +kernel, rfl, by decide +kernel, by decide +kernel⟩
abbrev s_l_cell : Stmt := top 30
theorem sc_l_cell : FnScope ["_law_script", "_law_index"] ["_law_script", "_law_index"] (defScope s_l_cell) := ⟨rfl, rfl, rfl, by decide +kernel, rfl, by decide +kernel, by decide +kernel⟩
abbrev s_l_bag : Stmt := top 31
theorem sc_l_bag : FnScope ["_law_cell_here"] ["_law_cell_here"] (defScope s_l_bag) := ⟨rfl, rfl, rfl, by decide +kernel, rfl, by decide +kernel, by decide +kernel⟩
abbrev s_l_take : Stmt := top 32
theorem sc_l_take : FnScope ["_law_bag_here", "_law_many", "_law_digit", "_law_mixed"] ["_law_bag_here", "_law_many"] (defScope s_l_take) := ⟨rfl, rfl, rfl, by decide +kernel, rfl, by decide +kernel, by decide +kernel⟩
abbrev s_l_char : Stmt := top 33
theorem sc_l_char : FnScope ["_law_bag_here", "_law_edges", "_law_low", "_law_high"] ["_law_bag_here"] (defScope s_l_char) := ⟨rfl, rfl, rfl, by decide +kernel, rfl, by decide +kernel, by decide +kernel⟩
abbrev s_l_chars : Stmt := top 34
theorem sc_l_chars : FnScope ["_law_bag_here", "_law_most", "_law_index"] ["_law_bag_here", "_law_most"] (defScope s_l_chars) := ⟨rfl, rfl, rfl, by decide +kernel, rfl, by decide +kernel, by decide +kernel⟩
abbrev s_l_width : Stmt := top 35
theorem sc_l_width : FnScope ["_law_char_here", "_law_kind"] ["_law_char_here", "_law_kind"] (defScope s_l_width) := ⟨rfl, rfl, rfl, by decide +kernel, rfl, by decide +kernel, by decide +kernel⟩
abbrev s_l_numbers : Stmt := top 36
theorem sc_l_numbers : FnScope ["_law_row", "_law_kind", "_law_found", "_law_char_here"] ["_law_row", "_law_kind"] (defScope s_l_numbers) := ⟨rfl, rfl, rfl, by decide +kernel, rfl, by decide +kernel, by decide +kernel⟩
abbrev s_l_caught : Stmt := top 37
theorem sc_l_caught : FnScope ["_law_door", "_law_text", "_law_one", "_law_other", "e"] ["_law_door", "_law_text", "_law_one", "_law_other"] (defScope s_l_caught) := ⟨rfl, rfl, rfl, by decide +kernel, rfl, by decide +kernel, by decide +kernel⟩
abbrev s_l_told_right : Stmt := top 38
theorem sc_l_told_right : FnScope ["_law_text", "_law_chars_here", "_law_counts", "_law_kind", "_law_turn", "_law_found", "_law_at"] ["_law_text", "_law_chars_here"] (defScope s_l_told_right) := ⟨rfl, rfl, rfl, by decide +kernel, rfl, by decide +kernel, by decide +kernel⟩
abbrev s_l_odd_right : Stmt := top 39
theorem sc_l_odd_right : FnScope ["_law_bag_here", "_law_text", "_law_chars_here", "_law_many", "_law_odd"] ["_law_bag_here", "_law_text", "_law_chars_here"] (defScope s_l_odd_right) := ⟨rfl, rfl, rfl, by decide +kernel, rfl, by decide +kernel, by decide +kernel⟩
abbrev s_l_refused_right : Stmt := top 40
theorem sc_l_refused_right : FnScope ["_law_bag_here", "_law_chars_here", "_law_at", "_law_odd", "_law_given", "_law_found"] ["_law_bag_here", "_law_chars_here"] (defScope s_l_refused_right) := ⟨rfl, rfl, rfl, by decide +kernel, rfl, by decide +kernel, by decide +kernel⟩
abbrev s_law : Stmt := top 41
theorem sc_law : FnScope ["_law_script", "_law_index", "_law_bag_here", "_law_chars_here", "_law_passed", "_law_texts", "_law_text", "_law_turn", "_law_start", "_law_end"] ["_law_script"] (defScope s_law) := ⟨rfl, rfl, rfl, by decide +kernel, rfl, by decide +kernel, by decide +kernel⟩
abbrev s_InvalidChar : Stmt := inClass (top 2) 0
theorem sc_InvalidChar : FnScope ["self", "value"] ["self", "value"] (defScope s_InvalidChar) := ⟨rfl, rfl, rfl, by decide +kernel, rfl, by decide +kernel, by decide +kernel⟩
abbrev s_InvalidChars : Stmt := inClass (top 3) 0
theorem sc_InvalidChars : FnScope ["self", "value"] ["self", "value"] (defScope s_InvalidChars) := ⟨rfl, rfl, rfl, by decide +kernel, rfl, by decide +kernel, by decide +kernel⟩
abbrev s_InvalidKind : Stmt := inClass (top 4) 0
theorem sc_InvalidKind : FnScope ["self", "value"] ["self", "value"] (defScope s_InvalidKind) := ⟨rfl, rfl, rfl, by decide +kernel, rfl, by decide +kernel, by decide +kernel⟩
abbrev s_BadPlace : Stmt := inClass (top 5) 0
theorem sc_BadPlace : FnScope ["self", "number"] ["self", "number"] (defScope s_BadPlace) := ⟨rfl, rfl, rfl, by decide +kernel, rfl, by decide +kernel, by decide +kernel⟩
abbrev s_Text_init : Stmt := inClass (top 26) 0
theorem sc_Text_init : FnScope ["self", "chars"] ["self", "chars"] (defScope s_Text_init) := ⟨rfl, rfl, rfl, by decide +kernel, rfl, by decide +kernel, by decide +kernel⟩
abbrev s_Text_repr : Stmt := inClass (top 26) 1
theorem sc_Text_repr : FnScope ["self"] ["self"] (defScope s_Text_repr) := ⟨rfl, rfl, rfl, by decide +kernel, rfl, by decide +kernel, by decide +kernel⟩
abbrev s_Text_chars : Stmt := inClass (top 26) 2
theorem sc_Text_chars : FnScope ["self"] ["self"] (defScope s_Text_chars) := ⟨rfl, rfl, rfl, by decide +kernel, rfl, by decide +kernel, by decide +kernel⟩
abbrev s_Text_count : Stmt := inClass (top 26) 3
theorem sc_Text_count : FnScope ["self", "kind"] ["self", "kind"] (defScope s_Text_count) := ⟨rfl, rfl, rfl, by decide +kernel, rfl, by decide +kernel, by decide +kernel⟩
abbrev s_Text_in_bytes : Stmt := inClass (top 26) 4
theorem sc_Text_in_bytes : FnScope ["self"] ["self"] (defScope s_Text_in_bytes) := ⟨rfl, rfl, rfl, by decide +kernel, rfl, by decide +kernel, by decide +kernel⟩
abbrev s_Text_in_units : Stmt := inClass (top 26) 5
theorem sc_Text_in_units : FnScope ["self"] ["self"] (defScope s_Text_in_units) := ⟨rfl, rfl, rfl, by decide +kernel, rfl, by decide +kernel, by decide +kernel⟩
abbrev s_Text_in_chars : Stmt := inClass (top 26) 6
theorem sc_Text_in_chars : FnScope ["self"] ["self"] (defScope s_Text_in_chars) := ⟨rfl, rfl, rfl, by decide +kernel, rfl, by decide +kernel, by decide +kernel⟩
abbrev s_Text_len : Stmt := inClass (top 26) 7
theorem sc_Text_len : FnScope ["self"] ["self"] (defScope s_Text_len) := ⟨rfl, rfl, rfl, by decide +kernel, rfl, by decide +kernel, by decide +kernel⟩
abbrev s_Text_getitem : Stmt := inClass (top 26) 8
theorem sc_Text_getitem : FnScope ["self", "index"] ["self", "index"] (defScope s_Text_getitem) := ⟨rfl, rfl, rfl, by decide +kernel, rfl, by decide +kernel, by decide +kernel⟩
abbrev s_Text_iter : Stmt := inClass (top 26) 9
theorem sc_Text_iter : FnScope ["self"] ["self"] (defScope s_Text_iter) := ⟨rfl, rfl, rfl, by decide +kernel, rfl, by decide +kernel, by decide +kernel⟩
abbrev s_Text_part : Stmt := inClass (top 26) 10
theorem sc_Text_part : FnScope ["self", "start", "end"] ["self", "start", "end"] (defScope s_Text_part) := ⟨rfl, rfl, rfl, by decide +kernel, rfl, by decide +kernel, by decide +kernel⟩
abbrev s_Text_contains : Stmt := inClass (top 26) 11
theorem sc_Text_contains : FnScope ["self", "value"] ["self", "value"] (defScope s_Text_contains) := ⟨rfl, rfl, rfl, by decide +kernel, rfl, by decide +kernel, by decide +kernel⟩
abbrev s_Text_add : Stmt := inClass (top 26) 12
theorem sc_Text_add : FnScope ["self", "other"] ["self", "other"] (defScope s_Text_add) := ⟨rfl, rfl, rfl, by decide +kernel, rfl, by decide +kernel, by decide +kernel⟩
abbrev s_Text_radd : Stmt := inClass (top 26) 13
theorem sc_Text_radd : FnScope ["self", "other"] ["self", "other"] (defScope s_Text_radd) := ⟨rfl, rfl, rfl, by decide +kernel, rfl, by decide +kernel, by decide +kernel⟩
abbrev s_Text_eq : Stmt := inClass (top 26) 14
theorem sc_Text_eq : FnScope ["self", "other"] ["self", "other"] (defScope s_Text_eq) := ⟨rfl, rfl, rfl, by decide +kernel, rfl, by decide +kernel, by decide +kernel⟩
abbrev s_Text_lt : Stmt := inClass (top 26) 15
theorem sc_Text_lt : FnScope ["self", "other"] ["self", "other"] (defScope s_Text_lt) := ⟨rfl, rfl, rfl, by decide +kernel, rfl, by decide +kernel, by decide +kernel⟩
abbrev s_Text_gt : Stmt := inClass (top 26) 16
theorem sc_Text_gt : FnScope ["self", "other"] ["self", "other"] (defScope s_Text_gt) := ⟨rfl, rfl, rfl, by decide +kernel, rfl, by decide +kernel, by decide +kernel⟩
/-- where the text's things stand -/
structure Ads where
  a_is_integer : Addr
  a_is_whole : Addr
  a_is_char : Addr
  a_is_list : Addr
  a_is_chars : Addr
  a_is_kind : Addr
  a_check_char : Addr
  a_check_chars : Addr
  a_check_kind : Addr
  a_char_width : Addr
  a_byte_width : Addr
  a_unit_width : Addr
  a_total_width : Addr
  a_points_of : Addr
  a_stands_in : Addr
  a_l_cell : Addr
  a_l_bag : Addr
  a_l_take : Addr
  a_l_char : Addr
  a_l_chars : Addr
  a_l_width : Addr
  a_l_numbers : Addr
  a_l_caught : Addr
  a_l_told_right : Addr
  a_l_odd_right : Addr
  a_l_refused_right : Addr
  a_law : Addr
  d_is_integer : FuncData
  d_is_whole : FuncData
  d_is_char : FuncData
  d_is_list : FuncData
  d_is_chars : FuncData
  d_is_kind : FuncData
  d_check_char : FuncData
  d_check_chars : FuncData
  d_check_kind : FuncData
  d_char_width : FuncData
  d_byte_width : FuncData
  d_unit_width : FuncData
  d_total_width : FuncData
  d_points_of : FuncData
  d_stands_in : FuncData
  d_l_cell : FuncData
  d_l_bag : FuncData
  d_l_take : FuncData
  d_l_char : FuncData
  d_l_chars : FuncData
  d_l_width : FuncData
  d_l_numbers : FuncData
  d_l_caught : FuncData
  d_l_told_right : FuncData
  d_l_odd_right : FuncData
  d_l_refused_right : FuncData
  d_law : FuncData
  C_InvalidChar : Addr
  n_InvalidChar : Addr
  d_InvalidChar : FuncData
  C_InvalidChars : Addr
  n_InvalidChars : Addr
  d_InvalidChars : FuncData
  C_InvalidKind : Addr
  n_InvalidKind : Addr
  d_InvalidKind : FuncData
  C_BadPlace : Addr
  n_BadPlace : Addr
  d_BadPlace : FuncData
  t_KINDS : Addr
  C_Text : Addr
  a_Text_init : Addr
  d_Text_init : FuncData
  a_Text_repr : Addr
  d_Text_repr : FuncData
  a_Text_chars : Addr
  d_Text_chars : FuncData
  a_Text_count : Addr
  d_Text_count : FuncData
  a_Text_in_bytes : Addr
  d_Text_in_bytes : FuncData
  p_Text_in_bytes : Addr
  a_Text_in_units : Addr
  d_Text_in_units : FuncData
  p_Text_in_units : Addr
  a_Text_in_chars : Addr
  d_Text_in_chars : FuncData
  p_Text_in_chars : Addr
  a_Text_len : Addr
  d_Text_len : FuncData
  a_Text_getitem : Addr
  d_Text_getitem : FuncData
  a_Text_part : Addr
  d_Text_part : FuncData
  a_Text_eq : Addr
  d_Text_eq : FuncData
/-- what the top has left -/
structure Txt (K : PySem.W.Frag) (mg : Str → Option Value) (A : Ads) : Prop where
  g_is_integer : mg "is_integer" = some (.ref A.a_is_integer)
  F_is_integer : Fun K "is_integer" "is_integer" s_is_integer A.a_is_integer A.d_is_integer
  b_is_integer : Binds K A.d_is_integer ["value", "low", "high"] []
  g_is_whole : mg "is_whole" = some (.ref A.a_is_whole)
  F_is_whole : Fun K "is_whole" "is_whole" s_is_whole A.a_is_whole A.d_is_whole
  b_is_whole : Binds K A.d_is_whole ["value"] []
  g_is_char : mg "is_char" = some (.ref A.a_is_char)
  F_is_char : Fun K "is_char" "is_char" s_is_char A.a_is_char A.d_is_char
  b_is_char : Binds K A.d_is_char ["value"] []
  g_is_list : mg "is_list" = some (.ref A.a_is_list)
  F_is_list : Fun K "is_list" "is_list" s_is_list A.a_is_list A.d_is_list
  b_is_list : Binds K A.d_is_list ["value"] []
  g_is_chars : mg "is_chars" = some (.ref A.a_is_chars)
  F_is_chars : Fun K "is_chars" "is_chars" s_is_chars A.a_is_chars A.d_is_chars
  b_is_chars : Binds K A.d_is_chars ["value"] []
  g_is_kind : mg "is_kind" = some (.ref A.a_is_kind)
  F_is_kind : Fun K "is_kind" "is_kind" s_is_kind A.a_is_kind A.d_is_kind
  b_is_kind : Binds K A.d_is_kind ["value"] []
  g_check_char : mg "check_char" = some (.ref A.a_check_char)
  F_check_char : Fun K "check_char" "check_char" s_check_char A.a_check_char A.d_check_char
  b_check_char : Binds K A.d_check_char ["char"] []
  g_check_chars : mg "check_chars" = some (.ref A.a_check_chars)
  F_check_chars : Fun K "check_chars" "check_chars" s_check_chars A.a_check_chars A.d_check_chars
  b_check_chars : Binds K A.d_check_chars ["chars"] []
  g_check_kind : mg "check_kind" = some (.ref A.a_check_kind)
  F_check_kind : Fun K "check_kind" "check_kind" s_check_kind A.a_check_kind A.d_check_kind
  b_check_kind : Binds K A.d_check_kind ["kind"] []
  g_char_width : mg "char_width" = some (.ref A.a_char_width)
  F_char_width : Fun K "char_width" "char_width" s_char_width A.a_char_width A.d_char_width
  b_char_width : Binds K A.d_char_width ["char", "kind"] []
  g_byte_width : mg "byte_width" = some (.ref A.a_byte_width)
  F_byte_width : Fun K "byte_width" "byte_width" s_byte_width A.a_byte_width A.d_byte_width
  b_byte_width : Binds K A.d_byte_width ["char"] []
  g_unit_width : mg "unit_width" = some (.ref A.a_unit_width)
  F_unit_width : Fun K "unit_width" "unit_width" s_unit_width A.a_unit_width A.d_unit_width
  b_unit_width : Binds K A.d_unit_width ["char"] []
  g_total_width : mg "total_width" = some (.ref A.a_total_width)
  F_total_width : Fun K "total_width" "total_width" s_total_width A.a_total_width A.d_total_width
  b_total_width : Binds K A.d_total_width ["chars", "kind"] []
  g_points_of : mg "points_of" = some (.ref A.a_points_of)
  F_points_of : Fun K "points_of" "points_of" s_points_of A.a_points_of A.d_points_of
  b_points_of : Binds K A.d_points_of ["other"] []
  g_stands_in : mg "stands_in" = some (.ref A.a_stands_in)
  F_stands_in : Fun K "stands_in" "stands_in" s_stands_in A.a_stands_in A.d_stands_in
  b_stands_in : Binds K A.d_stands_in ["part", "whole"] []
  g_l_cell : mg "_law_cell" = some (.ref A.a_l_cell)
  F_l_cell : Fun K "_law_cell" "_law_cell" s_l_cell A.a_l_cell A.d_l_cell
  b_l_cell : Binds K A.d_l_cell ["_law_script", "_law_index"] []
  g_l_bag : mg "_law_bag" = some (.ref A.a_l_bag)
  F_l_bag : Fun K "_law_bag" "_law_bag" s_l_bag A.a_l_bag A.d_l_bag
  b_l_bag : Binds K A.d_l_bag ["_law_cell_here"] []
  g_l_take : mg "_law_take" = some (.ref A.a_l_take)
  F_l_take : Fun K "_law_take" "_law_take" s_l_take A.a_l_take A.d_l_take
  b_l_take : Binds K A.d_l_take ["_law_bag_here", "_law_many"] []
  g_l_char : mg "_law_char" = some (.ref A.a_l_char)
  F_l_char : Fun K "_law_char" "_law_char" s_l_char A.a_l_char A.d_l_char
  b_l_char : Binds K A.d_l_char ["_law_bag_here"] []
  g_l_chars : mg "_law_chars" = some (.ref A.a_l_chars)
  F_l_chars : Fun K "_law_chars" "_law_chars" s_l_chars A.a_l_chars A.d_l_chars
  b_l_chars : Binds K A.d_l_chars ["_law_bag_here", "_law_most"] []
  g_l_width : mg "_law_width" = some (.ref A.a_l_width)
  F_l_width : Fun K "_law_width" "_law_width" s_l_width A.a_l_width A.d_l_width
  b_l_width : Binds K A.d_l_width ["_law_char_here", "_law_kind"] []
  g_l_numbers : mg "_law_numbers" = some (.ref A.a_l_numbers)
  F_l_numbers : Fun K "_law_numbers" "_law_numbers" s_l_numbers A.a_l_numbers A.d_l_numbers
  b_l_numbers : Binds K A.d_l_numbers ["_law_row", "_law_kind"] []
  g_l_caught : mg "_law_caught" = some (.ref A.a_l_caught)
  F_l_caught : Fun K "_law_caught" "_law_caught" s_l_caught A.a_l_caught A.d_l_caught
  b_l_caught : Binds K A.d_l_caught ["_law_door", "_law_text", "_law_one", "_law_other"] []
  g_l_told_right : mg "_law_told_right" = some (.ref A.a_l_told_right)
  F_l_told_right : Fun K "_law_told_right" "_law_told_right" s_l_told_right A.a_l_told_right A.d_l_told_right
  b_l_told_right : Binds K A.d_l_told_right ["_law_text", "_law_chars_here"] []
  g_l_odd_right : mg "_law_odd_right" = some (.ref A.a_l_odd_right)
  F_l_odd_right : Fun K "_law_odd_right" "_law_odd_right" s_l_odd_right A.a_l_odd_right A.d_l_odd_right
  b_l_odd_right : Binds K A.d_l_odd_right ["_law_bag_here", "_law_text", "_law_chars_here"] []
  g_l_refused_right : mg "_law_refused_right" = some (.ref A.a_l_refused_right)
  F_l_refused_right : Fun K "_law_refused_right" "_law_refused_right" s_l_refused_right A.a_l_refused_right A.d_l_refused_right
  b_l_refused_right : Binds K A.d_l_refused_right ["_law_bag_here", "_law_chars_here"] []
  g_law : mg "law" = some (.ref A.a_law)
  F_law : Fun K "law" "law" s_law A.a_law A.d_law
  g_InvalidChar : mg "InvalidChar" = some (.ref A.C_InvalidChar)
  x_InvalidChar : OexC K A.C_InvalidChar
  f_InvalidChar : XfC K A.C_InvalidChar
  i_InvalidChar : PySem.W.findIn K (.ref A.C_InvalidChar) "__init__" = some (some (.ref A.n_InvalidChar))
  t_InvalidChar : PySem.W.typeIn K (.ref A.n_InvalidChar) = some (.type "function")
  F_InvalidChar : Fun K "__init__" "InvalidChar.__init__" s_InvalidChar A.n_InvalidChar A.d_InvalidChar
  b_InvalidChar : Binds K A.d_InvalidChar ["self", "value"] []
  v_InvalidChar : PySem.W.findIn K (.ref A.C_InvalidChar) "value" = some none
  g_InvalidChars : mg "InvalidChars" = some (.ref A.C_InvalidChars)
  x_InvalidChars : OexC K A.C_InvalidChars
  f_InvalidChars : XfC K A.C_InvalidChars
  i_InvalidChars : PySem.W.findIn K (.ref A.C_InvalidChars) "__init__" = some (some (.ref A.n_InvalidChars))
  t_InvalidChars : PySem.W.typeIn K (.ref A.n_InvalidChars) = some (.type "function")
  F_InvalidChars : Fun K "__init__" "InvalidChars.__init__" s_InvalidChars A.n_InvalidChars A.d_InvalidChars
  b_InvalidChars : Binds K A.d_InvalidChars ["self", "value"] []
  v_InvalidChars : PySem.W.findIn K (.ref A.C_InvalidChars) "value" = some none
  g_InvalidKind : mg "InvalidKind" = some (.ref A.C_InvalidKind)
  x_InvalidKind : OexC K A.C_InvalidKind
  f_InvalidKind : XfC K A.C_InvalidKind
  i_InvalidKind : PySem.W.findIn K (.ref A.C_InvalidKind) "__init__" = some (some (.ref A.n_InvalidKind))
  t_InvalidKind : PySem.W.typeIn K (.ref A.n_InvalidKind) = some (.type "function")
  F_InvalidKind : Fun K "__init__" "InvalidKind.__init__" s_InvalidKind A.n_InvalidKind A.d_InvalidKind
  b_InvalidKind : Binds K A.d_InvalidKind ["self", "value"] []
  v_InvalidKind : PySem.W.findIn K (.ref A.C_InvalidKind) "value" = some none
  g_BadPlace : mg "BadPlace" = some (.ref A.C_BadPlace)
  x_BadPlace : OexC K A.C_BadPlace
  f_BadPlace : XfC K A.C_BadPlace
  i_BadPlace : PySem.W.findIn K (.ref A.C_BadPlace) "__init__" = some (some (.ref A.n_BadPlace))
  t_BadPlace : PySem.W.typeIn K (.ref A.n_BadPlace) = some (.type "function")
  F_BadPlace : Fun K "__init__" "BadPlace.__init__" s_BadPlace A.n_BadPlace A.d_BadPlace
  b_BadPlace : Binds K A.d_BadPlace ["self", "number"] []
  v_BadPlace : PySem.W.findIn K (.ref A.C_BadPlace) "number" = some none
  e_InvalidChar_InvalidChar : PySem.W.exmOne K (.ref A.C_InvalidChar) (.ref A.C_InvalidChar) = some true
  e_InvalidChar_InvalidChars : PySem.W.exmOne K (.ref A.C_InvalidChar) (.ref A.C_InvalidChars) = some false
  e_InvalidChar_InvalidKind : PySem.W.exmOne K (.ref A.C_InvalidChar) (.ref A.C_InvalidKind) = some false
  e_InvalidChar_BadPlace : PySem.W.exmOne K (.ref A.C_InvalidChar) (.ref A.C_BadPlace) = some false
  e_InvalidChars_InvalidChar : PySem.W.exmOne K (.ref A.C_InvalidChars) (.ref A.C_InvalidChar) = some false
  e_InvalidChars_InvalidChars : PySem.W.exmOne K (.ref A.C_InvalidChars) (.ref A.C_InvalidChars) = some true
  e_InvalidChars_InvalidKind : PySem.W.exmOne K (.ref A.C_InvalidChars) (.ref A.C_InvalidKind) = some false
  e_InvalidChars_BadPlace : PySem.W.exmOne K (.ref A.C_InvalidChars) (.ref A.C_BadPlace) = some false
  e_InvalidKind_InvalidChar : PySem.W.exmOne K (.ref A.C_InvalidKind) (.ref A.C_InvalidChar) = some false
  e_InvalidKind_InvalidChars : PySem.W.exmOne K (.ref A.C_InvalidKind) (.ref A.C_InvalidChars) = some false
  e_InvalidKind_InvalidKind : PySem.W.exmOne K (.ref A.C_InvalidKind) (.ref A.C_InvalidKind) = some true
  e_InvalidKind_BadPlace : PySem.W.exmOne K (.ref A.C_InvalidKind) (.ref A.C_BadPlace) = some false
  e_BadPlace_InvalidChar : PySem.W.exmOne K (.ref A.C_BadPlace) (.ref A.C_InvalidChar) = some false
  e_BadPlace_InvalidChars : PySem.W.exmOne K (.ref A.C_BadPlace) (.ref A.C_InvalidChars) = some false
  e_BadPlace_InvalidKind : PySem.W.exmOne K (.ref A.C_BadPlace) (.ref A.C_InvalidKind) = some false
  e_BadPlace_BadPlace : PySem.W.exmOne K (.ref A.C_BadPlace) (.ref A.C_BadPlace) = some true
  c_LAST_CHAR : ∃ t, mg "LAST_CHAR" = some (.int 1114111 t)
  c_FIRST_SURROGATE : ∃ t, mg "FIRST_SURROGATE" = some (.int 55296 t)
  c_LAST_SURROGATE : ∃ t, mg "LAST_SURROGATE" = some (.int 57343 t)
  c_FIRST_WIDE : ∃ t, mg "FIRST_WIDE" = some (.int 65536 t)
  g_KINDS : mg "KINDS" = some (.ref A.t_KINDS)
  s_KINDS : ∀ H : Hp, SqT K H A.t_KINDS [.str "bytes", .str "units", .str "chars"]
  z_all : mg "all" = none
  z_any : mg "any" = none
  z_bool : mg "bool" = none
  z_int : mg "int" = none
  z_isinstance : mg "isinstance" = none
  z_len : mg "len" = none
  z_list : mg "list" = none
  z_max : mg "max" = none
  z_min : mg "min" = none
  z_range : mg "range" = none
  z_repr : mg "repr" = none
  z_str : mg "str" = none
  z_sum : mg "sum" = none
  z_tuple : mg "tuple" = none
  g_Text : mg "Text" = some (.ref A.C_Text)
  cl : Cls K A.C_Text
  k_Text : Mk K A.C_Text A.a_Text_init
  n_points : NoAttr K A.C_Text "points"
  F_Text_init : Fun K "__init__" "Text.__init__" s_Text_init A.a_Text_init A.d_Text_init
  b_Text_init : Binds K A.d_Text_init ["self", "chars"] []
  F_Text_repr : Fun K "__repr__" "Text.__repr__" s_Text_repr A.a_Text_repr A.d_Text_repr
  b_Text_repr : Binds K A.d_Text_repr ["self"] []
  o_repr : Spc K A.C_Text "__repr__" A.a_Text_repr
  F_Text_chars : Fun K "chars" "Text.chars" s_Text_chars A.a_Text_chars A.d_Text_chars
  b_Text_chars : Binds K A.d_Text_chars ["self"] []
  m_chars : Meth K A.C_Text "chars" A.a_Text_chars
  F_Text_count : Fun K "count" "Text.count" s_Text_count A.a_Text_count A.d_Text_count
  b_Text_count : Binds K A.d_Text_count ["self", "kind"] []
  m_count : Meth K A.C_Text "count" A.a_Text_count
  F_Text_in_bytes : Fun K "in_bytes" "Text.in_bytes" s_Text_in_bytes A.a_Text_in_bytes A.d_Text_in_bytes
  b_Text_in_bytes : Binds K A.d_Text_in_bytes ["self"] []
  p_in_bytes : PropOf K A.C_Text "in_bytes" A.p_Text_in_bytes A.a_Text_in_bytes
  F_Text_in_units : Fun K "in_units" "Text.in_units" s_Text_in_units A.a_Text_in_units A.d_Text_in_units
  b_Text_in_units : Binds K A.d_Text_in_units ["self"] []
  p_in_units : PropOf K A.C_Text "in_units" A.p_Text_in_units A.a_Text_in_units
  F_Text_in_chars : Fun K "in_chars" "Text.in_chars" s_Text_in_chars A.a_Text_in_chars A.d_Text_in_chars
  b_Text_in_chars : Binds K A.d_Text_in_chars ["self"] []
  p_in_chars : PropOf K A.C_Text "in_chars" A.p_Text_in_chars A.a_Text_in_chars
  F_Text_len : Fun K "__len__" "Text.__len__" s_Text_len A.a_Text_len A.d_Text_len
  b_Text_len : Binds K A.d_Text_len ["self"] []
  o_len : Spc K A.C_Text "__len__" A.a_Text_len
  F_Text_getitem : Fun K "__getitem__" "Text.__getitem__" s_Text_getitem A.a_Text_getitem A.d_Text_getitem
  b_Text_getitem : Binds K A.d_Text_getitem ["self", "index"] []
  o_getitem : Spc K A.C_Text "__getitem__" A.a_Text_getitem
  fn_getitem : PySem.W.fnIn K A.a_Text_getitem = true
  F_Text_part : Fun K "part" "Text.part" s_Text_part A.a_Text_part A.d_Text_part
  b_Text_part : Binds K A.d_Text_part ["self", "start", "end"] []
  m_part : Meth K A.C_Text "part" A.a_Text_part
  F_Text_eq : Fun K "__eq__" "Text.__eq__" s_Text_eq A.a_Text_eq A.d_Text_eq
  b_Text_eq : Binds K A.d_Text_eq ["self", "other"] []
  o_eq : Spc K A.C_Text "__eq__" A.a_Text_eq
  ty_Text : ∀ (H : Hp) (a dx : Addr) (fs : List (Str × V)), H a = some (.ins A.C_Text dx fs) → TyOf K H (.ref a) (.ref A.C_Text)
  s_Text_NoneType : PySem.W.notFirst K A.C_Text (.type "NoneType") = true
  o_Text_NoneType : PySem.W.kitOne K (.type "NoneType") (.ref A.C_Text) = some false
  s_Text_bool : PySem.W.notFirst K A.C_Text (.type "bool") = true
  o_Text_bool : PySem.W.kitOne K (.type "bool") (.ref A.C_Text) = some false
  s_Text_int : PySem.W.notFirst K A.C_Text (.type "int") = true
  o_Text_int : PySem.W.kitOne K (.type "int") (.ref A.C_Text) = some false
  s_Text_str : PySem.W.notFirst K A.C_Text (.type "str") = true
  o_Text_str : PySem.W.kitOne K (.type "str") (.ref A.C_Text) = some false
  s_Text_list : PySem.W.notFirst K A.C_Text (.type "list") = true
  o_Text_list : PySem.W.kitOne K (.type "list") (.ref A.C_Text) = some false
  s_Text_tuple : PySem.W.notFirst K A.C_Text (.type "tuple") = true
  o_Text_tuple : PySem.W.kitOne K (.type "tuple") (.ref A.C_Text) = some false
  s_Text_dict : PySem.W.notFirst K A.C_Text (.type "dict") = true
  o_Text_dict : PySem.W.kitOne K (.type "dict") (.ref A.C_Text) = some false
  o_Text_self : PySem.W.kitOne K (.ref A.C_Text) (.ref A.C_Text) = some true
  q_Text_bool : PySem.W.kitOne K (.ref A.C_Text) (.type "bool") = some false
  q_Text_int : PySem.W.kitOne K (.ref A.C_Text) (.type "int") = some false
  q_Text_str : PySem.W.kitOne K (.ref A.C_Text) (.type "str") = some false
  q_Text_list : PySem.W.kitOne K (.ref A.C_Text) (.type "list") = some false
  q_Text_tuple : PySem.W.kitOne K (.ref A.C_Text) (.type "tuple") = some false
end Tc

/-! # K5A -/
namespace Tc
open PySem PySem.Spec PyProof.Rows L2
section
variable {X : Cx}
theorem pe_cst {x : Str} {i : Int} {pos : Pos} (hg : Gl X x) (h : ∃ t, X.mg x = some (.int i t)) (hd : (x == ("__debug__" : Str)) = false := by decide) : PE X (.Name x pos) (tC (.int i)) := by
  obtain ⟨t, h⟩ := h
  exact pe_glob hg h ⟨t, rfl⟩ hd
theorem pe_ref {x : Str} {a : Addr} {pos : Pos} (hg : Gl X x) (h : X.mg x = some (.ref a)) (hd : (x == ("__debug__" : Str)) = false := by decide) : PE X (.Name x pos) (tC (.ref a)) := pe_glob hg h rfl hd
/-- over what is a list or a tuple -/
theorem pi_seq {tg l : Expr} {tl : TE} (hl : PE X l tl) : PI X tg l (fun σ H R => iList X.K tl σ H R ∨ iTup X.K tl σ H R) :=
  ⟨fun pins s σ H R I h => h.elim (fun q => (pi_list hl).run pins s σ H R I q) fun q => (pi_tup hl).run pins s σ H R I q⟩
end
/-! ## values of a known kind; C: the class of the texts -/
inductive Ty (C : Addr) (H : Hp) : V → Value → Prop
  | non : Ty C H .non (.type "NoneType")
  | bl (b : Bool) : Ty C H (.bl b) (.type "bool")
  | int (i : Int) : Ty C H (.int i) (.type "int")
  | str (x : Str) : Ty C H (.str x) (.type "str")
  | lst {a : Addr} {xs : List V} (e : H a = some (.lst xs)) : Ty C H (.ref a) (.type "list")
  | tup {a : Addr} {xs : List V} (e : H a = some (.tup xs)) : Ty C H (.ref a) (.type "tuple")
  | dct {a : Addr} {kvs : List (Key × V)} (e : H a = some (.dK kvs)) : Ty C H (.ref a) (.type "dict")
  | ins {a dx : Addr} {fs : List (Str × V)} (e : H a = some (.ins C dx fs)) : Ty C H (.ref a) (.ref C)
section
variable {K : PySem.W.Frag} {mg : Str → Option Value} {A : Ads} {H H' : Hp} {v : V} {t : Value} {C : Addr}
theorem Ty.x (T : Txt K mg A) (h : Ty A.C_Text H v t) : TyX K H v t := by
  cases h with
  | non => exact .base .non
  | bl b => exact .base (.bl b)
  | int i => exact .base (.int i)
  | str x => exact .base (.str x)
  | lst e => exact .base (.lst e)
  | tup e => exact .base (.tup e)
  | dct e => exact .base (.dK e)
  | ins e => exact .base (T.ty_Text _ _ _ _ e)
theorem Ty.same (h : Ty C H v t) (s : Same H H') : Ty C H' v t := by
  cases h with
  | non => exact .non
  | bl b => exact .bl b
  | int i => exact .int i
  | str x => exact .str x
  | lst e => exact .lst (s _ _ e)
  | tup e => exact .tup (s _ _ e)
  | dct e => exact .dct (s _ _ e)
  | ins e => exact .ins (s _ _ e)
def isBl : V → Bool
  | .bl _ => true
  | _ => false
def isIn : V → Bool
  | .int _ => true
  | .bl _ => true
  | _ => false
def isSt : V → Bool
  | .str _ => true
  | _ => false
def isLs (t : Value) : Bool := t == .type "list"
def isTp (t : Value) : Bool := t == .type "tuple"
theorem kit_bool (T : Txt K mg A) (h : Ty A.C_Text H v t) : PySem.W.kitOne K t (.type "bool") = some (isBl v) := by
  cases h with
  | non => exact kit_ty (r := false) (by decide +kernel)
  | bl b => exact kit_ty (r := true) (by decide +kernel)
  | int i => exact kit_ty (r := false) (by decide +kernel)
  | str x => exact kit_ty (r := false) (by decide +kernel)
  | lst e => exact kit_ty (r := false) (by decide +kernel)
  | tup e => exact kit_ty (r := false) (by decide +kernel)
  | dct e => exact kit_ty (r := false) (by decide +kernel)
  | ins e => exact T.q_Text_bool
theorem kit_int (T : Txt K mg A) (h : Ty A.C_Text H v t) : PySem.W.kitOne K t (.type "int") = some (isIn v) := by
  cases h with
  | non => exact kit_ty (r := false) (by decide +kernel)
  | bl b => exact kit_ty (r := true) (by decide +kernel)
  | int i => exact kit_ty (r := true) (by decide +kernel)
  | str x => exact kit_ty (r := false) (by decide +kernel)
  | lst e => exact kit_ty (r := false) (by decide +kernel)
  | tup e => exact kit_ty (r := false) (by decide +kernel)
  | dct e => exact kit_ty (r := false) (by decide +kernel)
  | ins e => exact T.q_Text_int
theorem kit_str (T : Txt K mg A) (h : Ty A.C_Text H v t) : PySem.W.kitOne K t (.type "str") = some (isSt v) := by
  cases h with
  | non => exact kit_ty (r := false) (by decide +kernel)
  | bl b => exact kit_ty (r := false) (by decide +kernel)
  | int i => exact kit_ty (r := false) (by decide +kernel)
  | str x => exact kit_ty (r := true) (by decide +kernel)
  | lst e => exact kit_ty (r := false) (by decide +kernel)
  | tup e => exact kit_ty (r := false) (by decide +kernel)
  | dct e => exact kit_ty (r := false) (by decide +kernel)
  | ins e => exact T.q_Text_str
/-- a list, a tuple -/
def Lsq (H : Hp) (v : V) : Prop := ∃ (q : Addr) (xs : List V), v = .ref q ∧ (H q = some (.lst xs) ∨ H q = some (.tup xs))
theorem kit_seq (T : Txt K mg A) (h : Ty A.C_Text H v t) : ∃ b, PySem.W.kitAny K t [.type "list", .type "tuple"] = some b ∧ (b = true → Lsq H v) ∧ (b = false → ¬ Lsq H v) := by
  have no : ∀ {t : Value}, PySem.W.kitOne K t (.type "list") = some false → PySem.W.kitOne K t (.type "tuple") = some false → PySem.W.kitAny K t [.type "list", .type "tuple"] = some false := fun h1 h2 =>
    kitAny_cons h1 (fun _ => kitAny_cons h2 (fun _ => kitAny_nil) fun z => Bool.noConfusion z) fun z => Bool.noConfusion z
  have ref : ∀ {q : Addr} {o : HO}, H q = some o → (∀ xs, o ≠ .lst xs) → (∀ xs, o ≠ .tup xs) → ¬ Lsq H (.ref q) := fun {q o} e n1 n2 ⟨p, xs, ep, h⟩ => by
    rw [← V.ref.inj ep, e] at h
    rcases h with h | h
    · exact n1 _ (Option.some.inj h)
    · exact n2 _ (Option.some.inj h)
  cases h with
  | non => exact ⟨false, no (kit_ty (by decide +kernel)) (kit_ty (by decide +kernel)), fun z => Bool.noConfusion z, fun _ ⟨_, _, e, _⟩ => nomatch e⟩
  | bl b => exact ⟨false, no (kit_ty (by decide +kernel)) (kit_ty (by decide +kernel)), fun z => Bool.noConfusion z, fun _ ⟨_, _, e, _⟩ => nomatch e⟩
  | int i => exact ⟨false, no (kit_ty (by decide +kernel)) (kit_ty (by decide +kernel)), fun z => Bool.noConfusion z, fun _ ⟨_, _, e, _⟩ => nomatch e⟩
  | str x => exact ⟨false, no (kit_ty (by decide +kernel)) (kit_ty (by decide +kernel)), fun z => Bool.noConfusion z, fun _ ⟨_, _, e, _⟩ => nomatch e⟩
  | lst e => exact ⟨true, kitAny_cons (b := true) (kit_ty (by decide +kernel)) (fun z => Bool.noConfusion z) fun _ => rfl, fun _ => ⟨_, _, rfl, .inl e⟩, fun z => Bool.noConfusion z⟩
  | tup e => exact ⟨true, kitAny_cons (b := false) (kit_ty (by decide +kernel)) (fun _ => kitAny_cons (b := true) (kit_ty (by decide +kernel)) (fun z => Bool.noConfusion z) fun _ => rfl) fun z => Bool.noConfusion z, fun _ => ⟨_, _, rfl, .inr e⟩, fun z => Bool.noConfusion z⟩
  | dct e => exact ⟨false, no (kit_ty (by decide +kernel)) (kit_ty (by decide +kernel)), fun z => Bool.noConfusion z, fun _ => ref e (fun _ z => nomatch z) fun _ z => nomatch z⟩
  | ins e => exact ⟨false, no T.q_Text_list T.q_Text_tuple, fun z => Bool.noConfusion z, fun _ => ref e (fun _ z => nomatch z) fun _ z => nomatch z⟩
end
/-! ## what the tests tell -/
def inB (v : V) (lo hi : Int) : Bool := match v with
  | .int i => decide (lo ≤ i) && decide (i ≤ hi)
  | _ => false
def chB (v : V) : Bool := match v with
  | .int i => decide (0 ≤ i) && decide (i ≤ 1114111) && !(decide (55296 ≤ i) && decide (i ≤ 57343))
  | _ => false
def kinds : List V := [.str "bytes", .str "units", .str "chars"]
def kdB (v : V) : Bool := match v with
  | .str s => inV (.str s) kinds
  | _ => false
def isIntV : V → Bool
  | .int _ => true
  | _ => false
def spIsWhole (C : Addr) : Sp := fun vs H Q _ => ∃ x : V, vs = [x] ∧ (∃ t, Ty C H x t) ∧ Q (.bl (isIntV x)) H
def spIsInt (C : Addr) : Sp := fun vs H Q _ => ∃ (x : V) (lo hi : Int), vs = [x, .int lo, .int hi] ∧ (∃ t, Ty C H x t) ∧ Q (.bl (inB x lo hi)) H
def spIsChar (C : Addr) : Sp := fun vs H Q _ => ∃ x : V, vs = [x] ∧ (∃ t, Ty C H x t) ∧ Q (.bl (chB x)) H
def spIsKind (C : Addr) : Sp := fun vs H Q _ => ∃ x : V, vs = [x] ∧ (∃ t, Ty C H x t) ∧ Q (.bl (kdB x)) H
def spIsList (C : Addr) : Sp := fun vs H Q _ => ∃ x : V, vs = [x] ∧ (∃ t, Ty C H x t) ∧ ∀ (b : Bool) (H' : Hp), Same H H' → (b = true → Lsq H x) → (b = false → ¬ Lsq H x) → Q (.bl b) H'
/-- what raising leaves: the error's own dict, new, holds the field; all else as it was -/
def Thrown (C : Addr) (f : Str) (x : V) (H : Hp) (E : XK) : Prop := ∀ (d : Addr) (H' : Hp), Same H H' → H' d = some (.xd [(f, x)]) → E (.ref C) (some d) H'
def spCheck (C D : Addr) (p : V → Bool) : Sp := fun vs H Q E => ∃ x : V, vs = [x] ∧ (∃ t, Ty C H x t) ∧ (p x = true → Q .non H) ∧ (p x = false → Thrown D "value" x H E)
def spInit (C : Addr) (f : Str) : Sp := fun vs H Q _ => ∃ (p : Addr) (x : V), vs = [.ref p, x] ∧ H p = some (exo p C none) ∧ ∀ dx, H dx = none → dx ≠ p → Q .non (upd (upd H dx (exd dx [(f, x)])) p (exo p C (some dx)))
theorem same_new {H : Hp} {p : Addr} {o : HO} (h : H p = none) : Same H (upd H p o) := fun b u e => by
  rw [upd_ne (ne_of_none e h)]
  exact e
/-- the reading of «raise C(x)» -/
theorem thrown {C : Addr} {f : Str} {x : V} {H : Hp} {E : XK} (h : Thrown C f x H E) : ∀ a, H a = none → spInit C f [.ref a, x] (upd H a (exo a C none))
    (fun v H2 => v = .non ∧ ∃ (d : Addr) (fs : List (Str × V)), H2 a = some (exo a C (some d)) ∧ H2 d = some (exd d fs) ∧ H d = none ∧ E (.ref C) (some d) (upd (del H2 a) d (.xd fs))) (fun _ _ _ => False) := by
  intro a ha
  refine ⟨a, x, rfl, upd_same, fun dx h1 h2 => ⟨rfl, dx, _, upd_same, ?_, ?_, h dx _ (fun b o e => ?_) upd_same⟩⟩
  · rw [upd_ne h2, upd_same]
  · rw [upd_ne h2] at h1
    exact h1
  · rw [upd_ne h2] at h1
    have n1 : b ≠ dx := fun z => by
      rw [z, h1] at e
      cases e
    have n2 : b ≠ a := fun z => by
      rw [z, ha] at e
      cases e
    rw [upd_ne n1, del_ne n2, upd_ne n2, upd_ne n1, upd_ne n2]
    exact e
theorem Thrown.same {C : Addr} {f : Str} {x : V} {H H' : Hp} {E : XK} (h : Thrown C f x H E) (s : Same H H') : Thrown C f x H' E := fun d H2 s2 e => h d H2 (s.trans s2) e
section
variable {P : Program} {w : World} {K : PySem.W.Frag} {mg : Str → Option Value} {base : Heap} {A : Ads}
theorem ok_is_whole (T : Txt K mg A) : FnOk P w K mg base CX0 1 A.a_is_whole A.d_is_whole ["value"] (spIsWhole A.C_Text) := by
  refine T.F_is_whole.ok sc_is_whole (fun vs H Q E h => ?_) (fun cdv A' outer s H vs Q E hr h => ?_)
  · obtain ⟨x, rfl, _⟩ := h
    rfl
  · obtain ⟨x, rfl, ⟨t, ty⟩, q⟩ := h
    refine ⟨_, (pss_one (ps_ret (pe_and (pe_callB call_isi (by rfl) T.z_isinstance (by decide +kernel) (pa_cons (pv 0) (pa_cons (pe_bltn (by rfl) T.z_int (by decide +kernel) (v := .ty "int") rfl) pa_nil))) (pe_one (pe_not (pe_callB call_isi (by rfl) T.z_isinstance (by decide +kernel) (pa_cons (pv 0) (pa_cons (pe_bltn (by rfl) T.z_bool (by decide +kernel) (v := .ty "bool") rfl) pa_nil)))))))), ?_⟩
    refine ⟨_, rfl, x, .ty "int", t, .type "int", _, rfl, .ty _, ty.x T, kit_int T ty, _, rfl, ?_⟩
    have tyx := ty.x T
    have kb := kit_bool T ty
    cases ty with
    | non => exact q
    | str b => exact q
    | lst z => exact q
    | tup z => exact q
    | dct z => exact q
    | ins z => exact q
    | int i => exact ⟨_, rfl, .int i, .ty "bool", .type "int", .type "bool", _, rfl, .ty _, tyx, kb, _, rfl, q⟩
    | bl b => exact ⟨_, rfl, .bl b, .ty "bool", .type "bool", .type "bool", _, rfl, .ty _, tyx, kb, _, rfl, q⟩
theorem ok_is_integer (T : Txt K mg A) : FnOk P w K mg base CX0 2 A.a_is_integer A.d_is_integer ["value", "low", "high"] (spIsInt A.C_Text) := by
  have G_is_whole : FnOk P w K mg base CX0 1 A.a_is_whole A.d_is_whole ["value"] (spIsWhole A.C_Text) := ok_is_whole T
  refine T.F_is_integer.ok sc_is_integer (fun vs H Q E h => ?_) (fun cdv A' outer s H vs Q E hr h => ?_)
  · obtain ⟨x, lo, hi, rfl, _⟩ := h
    rfl
  · obtain ⟨x, lo, hi, rfl, ⟨t, ty⟩, q⟩ := h
    refine ⟨_, (pss_one (ps_ret (pe_and (pe_call G_is_whole (hr.mono (by decide)) (by rfl) T.g_is_whole T.F_is_whole.kp T.b_is_whole .nil pass0 (pa_cons (pv 0) pa_nil)) (pe_one (pe_chain op_le op_le (pv 1) (pv 0) (pv 2)))))), ?_⟩
    refine ⟨_, rfl, x, rfl, ⟨t, ty⟩, _, rfl, ?_⟩
    cases ty with
    | non => exact q
    | bl b => exact q
    | str z => exact q
    | lst z => exact q
    | tup z => exact q
    | dct z => exact q
    | ins z => exact q
    | int i =>
      refine ⟨_, rfl, _, rfl, _, _, rfl, rfl, _, rfl, ?_⟩
      refine ite2 (fun e1 => ?_) (fun e1 => ?_)
      · refine ⟨_, rfl, _, _, rfl, rfl, ?_⟩
        have z : inB (.int i) lo hi = decide (i ≤ hi) := by
          show (decide (lo ≤ i) && decide (i ≤ hi)) = _
          rw [e1]
          rfl
        rw [z] at q
        exact q
      · have z : inB (.int i) lo hi = false := by
          show (decide (lo ≤ i) && decide (i ≤ hi)) = _
          rw [Bool.eq_false_iff.mpr e1]
          rfl
        rw [z] at q
        exact q
theorem ok_is_char (T : Txt K mg A) : FnOk P w K mg base CX0 3 A.a_is_char A.d_is_char ["value"] (spIsChar A.C_Text) := by
  have G_is_integer : FnOk P w K mg base CX0 2 A.a_is_integer A.d_is_integer ["value", "low", "high"] (spIsInt A.C_Text) := ok_is_integer T
  refine T.F_is_char.ok sc_is_char (fun vs H Q E h => ?_) (fun cdv A' outer s H vs Q E hr h => ?_)
  · obtain ⟨x, rfl, _⟩ := h
    rfl
  · obtain ⟨x, rfl, ⟨t, ty⟩, q⟩ := h
    refine ⟨_, (pss_cons (ps_if (pt_not (pt_val (pe_call G_is_integer (hr.mono (by decide)) (by rfl) T.g_is_integer T.F_is_integer.kp T.b_is_integer .nil pass0 (pa_cons (pv 0) (pa_cons pe_int (pa_cons (pe_cst (by rfl) T.c_LAST_CHAR) pa_nil)))))) (pss_one (ps_ret pe_bl)) pss_nil) (pss_one (ps_ret (pe_not (pe_chain op_le op_le (pe_cst (by rfl) T.c_FIRST_SURROGATE) (pv 0) (pe_cst (by rfl) T.c_LAST_SURROGATE)))))), ?_⟩
    refine ⟨_, rfl, x, 0, 1114111, rfl, ⟨t, ty⟩, _, rfl, ?_⟩
    cases ty with
    | non => exact q
    | bl b => exact q
    | str z => exact q
    | lst z => exact q
    | tup z => exact q
    | dct z => exact q
    | ins z => exact q
    | int i =>
      have two : ∀ b : Bool, (!b) = true → b = false := by decide
      have two' : ∀ b : Bool, ¬ (!b) = true → b = true := by decide
      refine ite2 (fun e => ?_) (fun e => ?_)
      · have e' := two (decide (0 ≤ i) && decide (i ≤ 1114111)) e
        have z : chB (.int i) = false := by
          show (decide (0 ≤ i) && decide (i ≤ 1114111) && !(decide (55296 ≤ i) && decide (i ≤ 57343))) = _
          rw [e']
          rfl
        rw [z] at q
        exact q
      · have e' := two' (decide (0 ≤ i) && decide (i ≤ 1114111)) e
        have z : chB (.int i) = !(decide (55296 ≤ i) && decide (i ≤ 57343)) := by
          show (decide (0 ≤ i) && decide (i ≤ 1114111) && !(decide (55296 ≤ i) && decide (i ≤ 57343))) = _
          rw [e']
          rfl
        rw [z] at q
        refine ⟨_, rfl, _, _, rfl, rfl, _, rfl, ?_⟩
        refine ite2 (fun e1 => ?_) (fun e1 => ?_)
        · refine ⟨_, _, rfl, rfl, _, rfl, ?_⟩
          rw [e1] at q
          exact q
        · refine ⟨_, rfl, ?_⟩
          rw [Bool.eq_false_iff.mpr e1] at q
          exact q
theorem ok_is_kind (T : Txt K mg A) : FnOk P w K mg base CX0 1 A.a_is_kind A.d_is_kind ["value"] (spIsKind A.C_Text) := by
  refine T.F_is_kind.ok sc_is_kind (fun vs H Q E h => ?_) (fun cdv A' outer s H vs Q E hr h => ?_)
  · obtain ⟨x, rfl, _⟩ := h
    rfl
  · obtain ⟨x, rfl, ⟨t, ty⟩, q⟩ := h
    refine ⟨_, (pss_one (ps_ret (pe_and (pe_callB call_isi (by rfl) T.z_isinstance (by decide +kernel) (pa_cons (pv 0) (pa_cons (pe_bltn (by rfl) T.z_str (by decide +kernel) (v := .ty "str") rfl) pa_nil))) (pe_one (pe_cmpR op_in_seq (pv 0) (pe_ref (by rfl) T.g_KINDS) (by rfl)))))), ?_⟩
    refine ⟨_, rfl, x, .ty "str", t, .type "str", _, rfl, .ty _, ty.x T, kit_str T ty, _, rfl, ?_⟩
    cases ty with
    | non => exact q
    | bl b => exact q
    | int i => exact q
    | lst z => exact q
    | tup z => exact q
    | dct z => exact q
    | ins z => exact q
    | str z => exact ⟨_, rfl, A.t_KINDS, kinds, rfl, .inr (T.s_KINDS H), rfl, rfl, q⟩
theorem ok_is_list (T : Txt K mg A) : FnOk P w K mg base CX0 1 A.a_is_list A.d_is_list ["value"] (spIsList A.C_Text) := by
  refine T.F_is_list.ok sc_is_list (fun vs H Q E h => ?_) (fun cdv A' outer s H vs Q E hr h => ?_)
  · obtain ⟨x, rfl, _⟩ := h
    rfl
  · obtain ⟨x, rfl, ⟨t, ty⟩, q⟩ := h
    refine ⟨_, (pss_one (ps_ret (pe_callB call_isiT (by rfl) T.z_isinstance (by decide +kernel) (pa_cons (pv 0) (pa_cons (pe_tup (pa_cons (pe_bltn (by rfl) T.z_list (by decide +kernel) (v := .ty "list") rfl) (pa_cons (pe_bltn (by rfl) T.z_tuple (by decide +kernel) (v := .ty "tuple") rfl) pa_nil))) pa_nil))))), ?_⟩
    refine ⟨_, rfl, (by show 2 ≤ sizeLine; decide), fun tp htp => ?_⟩
    have s1 := same_new (o := .tup [V.ty "list", V.ty "tuple"]) htp
    obtain ⟨b, e, y, n⟩ := kit_seq T ty
    exact ⟨x, tp, _, t, [.type "list", .type "tuple"], b, rfl, upd_same, .cons (.ty _) (.cons (.ty _) .nil), (ty.same s1).x T, e, q b _ s1 y n⟩
theorem ok_InvalidChar (T : Txt K mg A) : FnOk P w K mg base (L2.CX P w) 1 A.n_InvalidChar A.d_InvalidChar ["self", "value"] (spInit A.C_InvalidChar "value") := by
  refine T.F_InvalidChar.okX sc_InvalidChar (fun vs H Q E h => ?_) (fun cdv A' outer s H vs Q E hr h => ?_)
  · obtain ⟨p, x, rfl, _⟩ := h
    rfl
  · obtain ⟨p, x, rfl, hp, q⟩ := h
    exact ⟨_, pss_one (ps_ost (pv 0) (pv 1)), _, rfl, _, rfl, p, A.C_InvalidChar, rfl, T.x_InvalidChar, T.v_InvalidChar, .inl ⟨hp, fun dx h1 h2 => q dx h1 h2⟩⟩
theorem ok_InvalidChars (T : Txt K mg A) : FnOk P w K mg base (L2.CX P w) 1 A.n_InvalidChars A.d_InvalidChars ["self", "value"] (spInit A.C_InvalidChars "value") := by
  refine T.F_InvalidChars.okX sc_InvalidChars (fun vs H Q E h => ?_) (fun cdv A' outer s H vs Q E hr h => ?_)
  · obtain ⟨p, x, rfl, _⟩ := h
    rfl
  · obtain ⟨p, x, rfl, hp, q⟩ := h
    exact ⟨_, pss_one (ps_ost (pv 0) (pv 1)), _, rfl, _, rfl, p, A.C_InvalidChars, rfl, T.x_InvalidChars, T.v_InvalidChars, .inl ⟨hp, fun dx h1 h2 => q dx h1 h2⟩⟩
theorem ok_InvalidKind (T : Txt K mg A) : FnOk P w K mg base (L2.CX P w) 1 A.n_InvalidKind A.d_InvalidKind ["self", "value"] (spInit A.C_InvalidKind "value") := by
  refine T.F_InvalidKind.okX sc_InvalidKind (fun vs H Q E h => ?_) (fun cdv A' outer s H vs Q E hr h => ?_)
  · obtain ⟨p, x, rfl, _⟩ := h
    rfl
  · obtain ⟨p, x, rfl, hp, q⟩ := h
    exact ⟨_, pss_one (ps_ost (pv 0) (pv 1)), _, rfl, _, rfl, p, A.C_InvalidKind, rfl, T.x_InvalidKind, T.v_InvalidKind, .inl ⟨hp, fun dx h1 h2 => q dx h1 h2⟩⟩
theorem ok_BadPlace (T : Txt K mg A) : FnOk P w K mg base (L2.CX P w) 1 A.n_BadPlace A.d_BadPlace ["self", "number"] (spInit A.C_BadPlace "number") := by
  refine T.F_BadPlace.okX sc_BadPlace (fun vs H Q E h => ?_) (fun cdv A' outer s H vs Q E hr h => ?_)
  · obtain ⟨p, x, rfl, _⟩ := h
    rfl
  · obtain ⟨p, x, rfl, hp, q⟩ := h
    exact ⟨_, pss_one (ps_ost (pv 0) (pv 1)), _, rfl, _, rfl, p, A.C_BadPlace, rfl, T.x_BadPlace, T.v_BadPlace, .inl ⟨hp, fun dx h1 h2 => q dx h1 h2⟩⟩
theorem not_f {b : Bool} (e : (!b) = true) : b = false := by
  cases b with
  | false => rfl
  | true => cases e
theorem not_t {b : Bool} (e : ¬ (!b) = true) : b = true := by
  cases b with
  | true => rfl
  | false => exact absurd rfl e
theorem ok_check_char (T : Txt K mg A) : FnOk P w K mg base (L2.CX P w) 4 A.a_check_char A.d_check_char ["char"] (spCheck A.C_Text A.C_InvalidChar chB) := by
  have G_is_char : FnOk P w K mg base CX0 3 A.a_is_char A.d_is_char ["value"] (spIsChar A.C_Text) := ok_is_char T
  have G_InvalidChar : FnOk P w K mg base (L2.CX P w) 1 A.n_InvalidChar A.d_InvalidChar ["self", "value"] (spInit A.C_InvalidChar "value") := ok_InvalidChar T
  refine T.F_check_char.okX sc_check_char (fun vs H Q E h => ?_) (fun cdv A' outer s H vs Q E hr h => ?_)
  · obtain ⟨x, rfl, _⟩ := h
    rfl
  · obtain ⟨x, rfl, ty, q1, q2⟩ := h
    have hr1 : Room (1 + 1) _ := hr.mono (by decide)
    refine ⟨_, (pss_one (ps_if (pt_not (pt_val (pe_call G_is_char (hr.mono (by decide)) (by rfl) T.g_is_char T.F_is_char.kp T.b_is_char .nil pass0 (pa_cons (pv 0) pa_nil)))) (pss_one (ps_raise rfl (takes_of rfl rfl rfl rfl) (pmk_oex T.x_InvalidChar T.i_InvalidChar T.t_InvalidChar G_InvalidChar hr1 T.b_InvalidChar .nil passL (by rfl) T.g_InvalidChar (pa_cons (pv 0) pa_nil)))) pss_nil)), ?_⟩
    refine ⟨_, rfl, x, rfl, ty, _, rfl, ?_⟩
    exact ite2 (fun e => ⟨_, rfl, (by show 1 ≤ 1000; decide), thrown (q2 (not_f e))⟩) fun e => q1 (not_t e)
theorem ok_check_kind (T : Txt K mg A) : FnOk P w K mg base (L2.CX P w) 3 A.a_check_kind A.d_check_kind ["kind"] (spCheck A.C_Text A.C_InvalidKind kdB) := by
  have G_is_kind : FnOk P w K mg base CX0 1 A.a_is_kind A.d_is_kind ["value"] (spIsKind A.C_Text) := ok_is_kind T
  have G_InvalidKind : FnOk P w K mg base (L2.CX P w) 1 A.n_InvalidKind A.d_InvalidKind ["self", "value"] (spInit A.C_InvalidKind "value") := ok_InvalidKind T
  refine T.F_check_kind.okX sc_check_kind (fun vs H Q E h => ?_) (fun cdv A' outer s H vs Q E hr h => ?_)
  · obtain ⟨x, rfl, _⟩ := h
    rfl
  · obtain ⟨x, rfl, ty, q1, q2⟩ := h
    have hr1 : Room (1 + 1) _ := hr.mono (by decide)
    refine ⟨_, (pss_one (ps_if (pt_not (pt_val (pe_call G_is_kind (hr.mono (by decide)) (by rfl) T.g_is_kind T.F_is_kind.kp T.b_is_kind .nil pass0 (pa_cons (pv 0) pa_nil)))) (pss_one (ps_raise rfl (takes_of rfl rfl rfl rfl) (pmk_oex T.x_InvalidKind T.i_InvalidKind T.t_InvalidKind G_InvalidKind hr1 T.b_InvalidKind .nil passL (by rfl) T.g_InvalidKind (pa_cons (pv 0) pa_nil)))) pss_nil)), ?_⟩
    refine ⟨_, rfl, x, rfl, ty, _, rfl, ?_⟩
    exact ite2 (fun e => ⟨_, rfl, (by show 1 ≤ 1000; decide), thrown (q2 (not_f e))⟩) fun e => q1 (not_t e)
/-- a list or a tuple of values of known kinds -/
def Seq (K : PySem.W.Frag) (C : Addr) (H : Hp) (y : V) (xs : List V) : Prop := ∃ q, y = .ref q ∧ (H q = some (.lst xs) ∨ H q = some (.tup xs)) ∧ ∀ x ∈ xs, ∃ t, Ty C H x t
def spCheckChars (A : Ads) (K : PySem.W.Frag) : Sp := fun vs H Q E => ∃ y : V, vs = [y] ∧ (∃ t, Ty A.C_Text H y t) ∧ (¬ Lsq H y → Thrown A.C_InvalidChars "value" y H E) ∧
  (Lsq H y → ∃ xs, Seq K A.C_Text H y xs ∧ ((∀ x ∈ xs, chB x = true) → ∀ H', Same H H' → Q .non H') ∧ ∀ (i : Nat) (x : V), xs[i]? = some x → (∀ (j : Nat) (z : V), j < i → xs[j]? = some z → chB z = true) → chB x = false → Thrown A.C_InvalidChar "value" x H E)
theorem ok_check_chars (T : Txt K mg A) : FnOk P w K mg base (L2.CX P w) 5 A.a_check_chars A.d_check_chars ["chars"] (spCheckChars A K) := by
  have G_is_list : FnOk P w K mg base CX0 1 A.a_is_list A.d_is_list ["value"] (spIsList A.C_Text) := ok_is_list T
  have G_check_char : FnOk P w K mg base (L2.CX P w) 4 A.a_check_char A.d_check_char ["char"] (spCheck A.C_Text A.C_InvalidChar chB) := ok_check_char T
  have G_InvalidChars : FnOk P w K mg base (L2.CX P w) 1 A.n_InvalidChars A.d_InvalidChars ["self", "value"] (spInit A.C_InvalidChars "value") := ok_InvalidChars T
  refine T.F_check_chars.okX sc_check_chars (fun vs H Q E h => ?_) (fun cdv A' outer s H vs Q E hr h => ?_)
  · obtain ⟨y, rfl, _⟩ := h
    rfl
  · obtain ⟨y, rfl, ty, q1, q2⟩ := h
    have hr1 : Room (1 + 1) _ := hr.mono (by decide)
    refine ⟨_, (pss_cons (ps_if (pt_not (pt_val (pe_call G_is_list (hr.mono (by decide)) (by rfl) T.g_is_list T.F_is_list.kp T.b_is_list .nil pass0 (pa_cons (pv 0) pa_nil)))) (pss_one (ps_raise rfl (takes_of rfl rfl rfl rfl) (pmk_oex T.x_InvalidChars T.i_InvalidChars T.t_InvalidChars G_InvalidChars hr1 T.b_InvalidChars .nil passL (by rfl) T.g_InvalidChars (pa_cons (pv 0) pa_nil)))) pss_nil) (pss_one (ps_for (passes_of rfl) rfl (pi_seq (pv 0)) (pg_name (i := 1) sc_check_chars.nd rfl (Or.inl rfl)) (pss_one (ps_expr (pe_call G_check_char (hr.mono (by decide)) (by rfl) T.g_check_char T.F_check_char.kp T.b_check_char .nil (passes_call (takes_of rfl rfl rfl rfl) fun _ _ _ _ h => h) (pa_cons (pv 1) pa_nil))))))), ?_⟩
    refine ⟨_, rfl, y, rfl, ty, fun b H1 s1 yes no => ⟨_, rfl, ?_⟩⟩
    refine ite2 (fun e => ?_) (fun e => ?_)
    · exact ⟨_, rfl, (by show 1 ≤ 1000; decide), thrown ((q1 (no (not_f e))).same s1)⟩
    · obtain ⟨xs, ⟨q, rfl, hq, tys⟩, k1, k2⟩ := q2 (yes (not_t e))
      have turn : ∀ (i : Nat) (x : V) (σ : L2.St) (H' : Hp), xs[i]? = some x → (∃ v, σ = [some (.ref q), v] ∧ Same H H' ∧ ∀ (j : Nat) (z : V), j < i → xs[j]? = some z → chB z = true) →
          ∃ t, Ty A.C_Text H' x t := fun i x σ H' hx ⟨_, _, sm, _⟩ => let ⟨t, h⟩ := tys x (List.mem_of_getElem? hx); ⟨t, h.same sm⟩
      have all : (∀ (j : Nat) (z : V), j < xs.length → xs[j]? = some z → chB z = true) → ∀ x ∈ xs, chB x = true := fun h x m => by
        obtain ⟨j, hj, rfl⟩ := List.mem_iff_getElem.mp m
        exact h j _ hj (List.getElem?_eq_getElem hj)
      have step : ∀ {i : Nat} {x : V}, xs[i]? = some x → (∀ (j : Nat) (z : V), j < i → xs[j]? = some z → chB z = true) → chB x = true → ∀ (j : Nat) (z : V), j < i + 1 → xs[j]? = some z → chB z = true := fun {i x} hx h hc j z hj hz => by
        rcases Nat.lt_succ_iff_lt_or_eq.mp hj with hj | rfl
        · exact h j z hj hz
        · rw [hx] at hz
          cases hz
          exact hc
      rcases hq with hq | hq
      · refine .inl ⟨_, rfl, q, rfl, ⟨_, SqL.of (s1 _ _ hq)⟩, for_list (K := K) (a := q) (xs := xs) (fun i σ H' => ∃ v, σ = [some (.ref q), v] ∧ Same H H' ∧ ∀ (j : Nat) (z : V), j < i → xs[j]? = some z → chB z = true)
          ⟨none, rfl, s1, fun _ _ h => absurd h (Nat.not_lt_zero _)⟩ (fun i σ H' _ ⟨_, _, sm, _⟩ => SqL.of (sm _ _ hq)) ?_ ?_⟩
        · rintro i x σ H' hx hI
          have tx := turn i x σ H' hx hI
          obtain ⟨v, rfl, sm, hj⟩ := hI
          exact ⟨_, rfl, x, rfl, tx, fun hc => ⟨some x, rfl, sm, step hx hj hc⟩, fun hc => (k2 i x hx hj hc).same sm⟩
        · rintro σ H' ⟨v, rfl, sm, hj⟩
          exact k1 (all hj) H' sm
      · refine .inr ⟨_, rfl, q, rfl, ⟨_, SqT.of (s1 _ _ hq)⟩, for_tup (K := K) (a := q) (xs := xs) (fun i σ H' => ∃ v, σ = [some (.ref q), v] ∧ Same H H' ∧ ∀ (j : Nat) (z : V), j < i → xs[j]? = some z → chB z = true)
          ⟨none, rfl, s1, fun _ _ h => absurd h (Nat.not_lt_zero _)⟩ (fun i σ H' _ ⟨_, _, sm, _⟩ => SqT.of (sm _ _ hq)) ?_ ?_⟩
        · rintro i x σ H' hx hI
          have tx := turn i x σ H' hx hI
          obtain ⟨v, rfl, sm, hj⟩ := hI
          exact ⟨_, rfl, x, rfl, tx, fun hc => ⟨some x, rfl, sm, step hx hj hc⟩, fun hc => (k2 i x hx hj hc).same sm⟩
        · rintro σ H' ⟨v, rfl, sm, hj⟩
          exact k1 (all hj) H' sm
end
end Tc

/-! # K5B -/
namespace Tc
open PySem PySem.Spec PyProof.Rows L2
/-! ## the mathematics of characters -/
def bytesN (c : Int) : Nat := if c < 128 then 1 else if c < 2048 then 2 else if c < 65536 then 3 else 4
def unitsN (c : Int) : Nat := if c < 65536 then 1 else 2
def widthOf (c : Int) (k : Str) : Nat := if k = "bytes" then bytesN c else if k = "units" then unitsN c else 1
def intL (l : List Int) : List V := l.map V.int
def total (k : Str) : List Int → Int
  | [] => 0
  | c :: l => (widthOf c k : Nat) + total k l
def widths (k : Str) (l : List Int) : List Int := l.map fun c => ((widthOf c k : Nat) : Int)
theorem widths_sum (k : Str) : ∀ l : List Int, (widths k l).sum = total k l
  | [] => rfl
  | c :: l => by
    show List.sum (_ :: widths k l) = _
    rw [List.sum_cons, widths_sum k l]
    rfl
/-- a comprehension without a condition -/
theorem yes {A B : Prop} (h : A) : if true = true then A else B := by
  rw [if_pos rfl]
  exact h
theorem total_chars (l : List Int) : total "chars" l = l.length := by
  have bc : ¬ ("chars" : Str) = "bytes" := by decide +kernel
  have uc : ¬ ("chars" : Str) = "units" := by decide +kernel
  induction l with
  | nil => rfl
  | cons c l ih =>
    have e : widthOf c "chars" = 1 := by
      unfold widthOf
      rw [if_neg bc, if_neg uc]
    show ((widthOf c "chars" : Nat) : Int) + total "chars" l = _
    rw [e, ih, List.length_cons]
    omega
theorem intL_len (l : List Int) : (intL l).length = l.length := List.length_map _
theorem intL_get {l : List Int} {i : Nat} {x : V} (h : (intL l)[i]? = some x) : ∃ c, l[i]? = some c ∧ x = .int c := by
  rw [intL, List.getElem?_map] at h
  cases e : l[i]? with
  | none =>
    rw [e] at h
    cases h
  | some c =>
    rw [e] at h
    exact ⟨c, rfl, (Option.some.inj h).symm⟩
/-! ## the program's counts -/
def spW (f : Int → Int) : Sp := fun vs H Q _ => ∃ c : Int, vs = [.int c] ∧ Q (.int (f c)) H
def spWk : Sp := fun vs H Q _ => ∃ (c : Int) (k : Str), vs = [.int c, .str k] ∧ Q (.int (widthOf c k)) H
/-- a new list -/
def Gives (H : Hp) (l : List V) (Q : VK) : Prop := ∀ (p : Addr) (H' : Hp), H p = none → Same H H' → H' p = some (.lst l) → Q (.ref p) H'
section
variable {P : Program} {w : World} {K : PySem.W.Frag} {mg : Str → Option Value} {base : Heap} {A : Ads}
theorem ok_byte_width (T : Txt K mg A) : FnOk P w K mg base CX0 1 A.a_byte_width A.d_byte_width ["char"] (spW fun c => bytesN c) := by
  refine T.F_byte_width.ok sc_byte_width (fun vs H Q E h => ?_) (fun cdv A' outer s H vs Q E hr h => ?_)
  · obtain ⟨c, rfl, _⟩ := h
    rfl
  · obtain ⟨c, rfl, q⟩ := h
    have q : Q (.int ((bytesN c : Nat) : Int)) H := q
    refine ⟨_, (pss_cons (ps_if (pt_cmpR op_lt (pv 0) pe_int (nomark _)) (pss_one (ps_ret pe_int)) pss_nil) (pss_cons (ps_if (pt_cmpR op_lt (pv 0) pe_int (nomark _)) (pss_one (ps_ret pe_int)) pss_nil) (pss_cons (ps_if (pt_cmpR op_lt (pv 0) (pe_cst (by rfl) T.c_FIRST_WIDE) (nomark _)) (pss_one (ps_ret pe_int)) pss_nil) (pss_one (ps_ret pe_int))))), ?_⟩
    refine ⟨_, rfl, _, _, rfl, rfl, _, rfl, ?_⟩
    refine ite2 (fun e => ?_) (fun e => ?_)
    · have e1 : c < 128 := of_decide_eq_true e
      have z : bytesN c = 1 := if_pos e1
      rw [z] at q
      exact q
    have e1 : ¬ c < 128 := fun y => e (decide_eq_true y)
    refine ⟨_, rfl, _, _, rfl, rfl, _, rfl, ?_⟩
    refine ite2 (fun e => ?_) (fun e => ?_)
    · have e2 : c < 2048 := of_decide_eq_true e
      have z : bytesN c = 2 := by unfold bytesN; rw [if_neg e1, if_pos e2]
      rw [z] at q
      exact q
    have e2 : ¬ c < 2048 := fun y => e (decide_eq_true y)
    refine ⟨_, rfl, _, _, rfl, rfl, _, rfl, ?_⟩
    refine ite2 (fun e => ?_) (fun e => ?_)
    · have e3 : c < 65536 := of_decide_eq_true e
      have z : bytesN c = 3 := by unfold bytesN; rw [if_neg e1, if_neg e2, if_pos e3]
      rw [z] at q
      exact q
    have e3 : ¬ c < 65536 := fun y => e (decide_eq_true y)
    have z : bytesN c = 4 := by unfold bytesN; rw [if_neg e1, if_neg e2, if_neg e3]
    rw [z] at q
    exact q
theorem ok_unit_width (T : Txt K mg A) : FnOk P w K mg base CX0 1 A.a_unit_width A.d_unit_width ["char"] (spW fun c => unitsN c) := by
  refine T.F_unit_width.ok sc_unit_width (fun vs H Q E h => ?_) (fun cdv A' outer s H vs Q E hr h => ?_)
  · obtain ⟨c, rfl, _⟩ := h
    rfl
  · obtain ⟨c, rfl, q⟩ := h
    have q : Q (.int ((unitsN c : Nat) : Int)) H := q
    refine ⟨_, (pss_cons (ps_if (pt_cmpR op_lt (pv 0) (pe_cst (by rfl) T.c_FIRST_WIDE) (nomark _)) (pss_one (ps_ret pe_int)) pss_nil) (pss_one (ps_ret pe_int))), ?_⟩
    refine ⟨_, rfl, _, _, rfl, rfl, _, rfl, ?_⟩
    refine ite2 (fun e => ?_) (fun e => ?_)
    · have e1 : c < 65536 := of_decide_eq_true e
      have z : unitsN c = 1 := if_pos e1
      rw [z] at q
      exact q
    have e1 : ¬ c < 65536 := fun y => e (decide_eq_true y)
    have z : unitsN c = 2 := if_neg e1
    rw [z] at q
    exact q
theorem dec_str {a b : Str} : decide (V.str a = V.str b) = decide (a = b) := by
  by_cases e : a = b
  · rw [e, decide_eq_true rfl, decide_eq_true rfl]
  · rw [decide_eq_false e, decide_eq_false fun z => e (V.str.inj z)]
theorem ok_char_width (T : Txt K mg A) : FnOk P w K mg base CX0 2 A.a_char_width A.d_char_width ["char", "kind"] spWk := by
  have G_byte_width : FnOk P w K mg base CX0 1 A.a_byte_width A.d_byte_width ["char"] (spW fun c => bytesN c) := ok_byte_width T
  have G_unit_width : FnOk P w K mg base CX0 1 A.a_unit_width A.d_unit_width ["char"] (spW fun c => unitsN c) := ok_unit_width T
  refine T.F_char_width.ok sc_char_width (fun vs H Q E h => ?_) (fun cdv A' outer s H vs Q E hr h => ?_)
  · obtain ⟨c, k, rfl, _⟩ := h
    rfl
  · obtain ⟨c, k, rfl, q⟩ := h
    refine ⟨_, (pss_cons (ps_if (pt_cmpR op_eq (pv 1) pe_str (nomark _)) (pss_one (ps_ret (pe_call G_byte_width (hr.mono (by decide)) (by rfl) T.g_byte_width T.F_byte_width.kp T.b_byte_width .nil pass0 (pa_cons (pv 0) pa_nil)))) pss_nil) (pss_cons (ps_if (pt_cmpR op_eq (pv 1) pe_str (nomark _)) (pss_one (ps_ret (pe_call G_unit_width (hr.mono (by decide)) (by rfl) T.g_unit_width T.F_unit_width.kp T.b_unit_width .nil pass0 (pa_cons (pv 0) pa_nil)))) pss_nil) (pss_one (ps_ret pe_int)))), ?_⟩
    refine ⟨_, rfl, rfl, _, rfl, ?_⟩
    refine ite2 (fun e => ?_) (fun e => ?_)
    · have e1 : k = "bytes" := V.str.inj (of_decide_eq_true e)
      have z : widthOf c k = bytesN c := if_pos e1
      rw [z] at q
      exact ⟨_, rfl, c, rfl, q⟩
    have e1 : ¬ k = "bytes" := fun y => e (decide_eq_true (congrArg V.str y))
    refine ⟨_, rfl, rfl, _, rfl, ?_⟩
    refine ite2 (fun e => ?_) (fun e => ?_)
    · have e2 : k = "units" := V.str.inj (of_decide_eq_true e)
      have z : widthOf c k = unitsN c := by unfold widthOf; rw [if_neg e1, if_pos e2]
      rw [z] at q
      exact ⟨_, rfl, c, rfl, q⟩
    have e2 : ¬ k = "units" := fun y => e (decide_eq_true (congrArg V.str y))
    have z : widthOf c k = 1 := by unfold widthOf; rw [if_neg e1, if_neg e2]
    rw [z] at q
    exact q
def spTotal (K : PySem.W.Frag) : Sp := fun vs H Q _ => ∃ (t : Addr) (k : Str) (cs : List Int), vs = [.ref t, .str k] ∧ SqT K H t (intL cs) ∧ cs.length < 1000000 ∧ ∀ H', Same H H' → Q (.int (total k cs)) H'
theorem ok_total_width (T : Txt K mg A) : FnOk P w K mg base CX0 3 A.a_total_width A.d_total_width ["chars", "kind"] (spTotal K) := by
  have G_char_width : FnOk P w K mg base CX0 2 A.a_char_width A.d_char_width ["char", "kind"] spWk := ok_char_width T
  refine T.F_total_width.ok sc_total_width (fun vs H Q E h => ?_) (fun cdv A' outer s H vs Q E hr h => ?_)
  · obtain ⟨t, k, cs, rfl, _⟩ := h
    rfl
  · obtain ⟨t, k, cs, rfl, ht, sz, q⟩ := h
    refine ⟨_, (pss_one (ps_ret (pe_callB (cr_sum rfl) (by rfl) T.z_sum (by decide +kernel) (pa_cons (pe_lc (own := [("char", 2)]) (g := gName 2) (by rfl) sc_total_width.nd (pi_tup (pv 0)) (blkOk_by (own := [("char", 2)]) (N := ["chars", "kind", "char"]) (sc := defScope s_total_width) (by decide +kernel)) (fun _ _ _ _ _ => pg_name (i := 2) sc_total_width.nd rfl (Or.inl rfl)) (fun _ _ _ _ _ => pts_nil) (fun _ _ _ _ _ => (pe_call G_char_width (hr.mono (by decide)) (by rfl) T.g_char_width T.F_char_width.kp T.b_char_width .nil pass0 (pa_cons (pv 2) (pa_cons (pv 1) pa_nil))))) pa_nil)))), ?_⟩
    refine ⟨_, rfl, t, rfl, ⟨_, ht⟩, fun D hD => ?_⟩
    refine lc_tup (K := K) (a := t) (xs := intL cs) (fun i H' => Same H H' ∧ H' D = some (.lst (intL (widths k (cs.take i))))) ⟨same_new hD, upd_same⟩ (fun i H' _ ⟨sm, _⟩ => SqT.ext ht sm) ?_ ?_
    · rintro i x H' hx ⟨sm, hl⟩
      obtain ⟨c, hc, rfl⟩ := intL_get hx
      refine ⟨rfl, ?_⟩
      refine ⟨_, rfl, _, rfl, c, k, rfl, _, hl, ?_, ?_⟩
      · rw [intL_len, widths, List.length_map, List.length_take]
        have : sizeLine = 16777216 := sizeLine_eq
        omega
      · refine ⟨fun b o e => ?_, ?_⟩
        · rw [upd_ne (fun z => by rw [z, hD] at e; cases e)]
          exact sm _ _ e
        · rw [upd_same]
          have e : cs.take (i + 1) = cs.take i ++ [c] := by rw [List.take_add_one, hc]; rfl
          rw [e]
          simp [intL, widths]
    · rintro H' ⟨sm, hl⟩
      refine ⟨D, widths k cs, rfl, SqL.of ?_, ?_⟩
      · rw [hl, intL_len, List.take_length]
        rfl
      · rw [widths_sum]
        exact q H' sm
end
end Tc

/-! # K5C -/
namespace Tc
open PySem PySem.Spec PyProof.Rows L2
/-! ## a text: its characters in a tuple -/
def TextAt (C : Addr) (H : Hp) (p : Addr) (cs : List Int) : Prop := ∃ (dx t : Addr), H p = some (.ins C dx [("points", .ref t)]) ∧ H t = some (.tup (intL cs)) ∧ cs.length < 1000000
theorem TextAt.same {C : Addr} {H H' : Hp} {p : Addr} {cs : List Int} (h : TextAt C H p cs) (s : Same H H') : TextAt C H' p cs := let ⟨dx, t, a, b, z⟩ := h; ⟨dx, t, s _ _ a, s _ _ b, z⟩
theorem TextAt.ty {C : Addr} {H : Hp} {p : Addr} {cs : List Int} (h : TextAt C H p cs) : Ty C H (.ref p) (.ref C) := let ⟨_, _, a, _, _⟩ := h; .ins a
theorem TextAt.noSeq {C : Addr} {H : Hp} {p : Addr} {cs : List Int} (h : TextAt C H p cs) : ¬ Lsq H (.ref p) := fun ⟨q, xs, e, y⟩ => by
  obtain ⟨dx, t, a, _, _⟩ := h
  rw [← V.ref.inj e, a] at y
  rcases y with y | y <;> cases y
theorem fp (v : V) : List.lookup ("points" : Str) [(("points" : Str), v)] = some v := by simp [List.lookup]
theorem fpn (m : Str) (v : V) (h : ¬ m = "points") : List.lookup m [(("points" : Str), v)] = none := by
  have e : (m == ("points" : Str)) = false := by simpa using h
  simp [List.lookup, e]
def Good (cs : List Int) : Prop := ∀ c ∈ cs, chB (.int c) = true
def spText (A : Ads) (K : PySem.W.Frag) : Sp := fun vs H Q E => ∃ (p dx : Addr) (y : V), vs = [.ref p, y] ∧ H p = some (.ins A.C_Text dx []) ∧ (∃ t, Ty A.C_Text H y t) ∧ (¬ Lsq H y → Thrown A.C_InvalidChars "value" y H E) ∧
  (Lsq H y → ∃ xs, Seq K A.C_Text H y xs ∧ ((∀ x ∈ xs, chB x = true) → ∀ (t : Addr) (H' : Hp), Same H H' → H' t = some (.tup xs) → Q .non (upd H' p (.ins A.C_Text dx [("points", .ref t)]))) ∧
    ∀ (i : Nat) (x : V), xs[i]? = some x → (∀ (j : Nat) (z : V), j < i → xs[j]? = some z → chB z = true) → chB x = false → Thrown A.C_InvalidChar "value" x H E)
def spChars (C : Addr) : Sp := fun vs H Q _ => ∃ (p : Addr) (cs : List Int), vs = [.ref p] ∧ TextAt C H p cs ∧ Gives H (intL cs) Q
def spCount (C D : Addr) : Sp := fun vs H Q E => ∃ (p : Addr) (cs : List Int) (y : V), vs = [.ref p, y] ∧ TextAt C H p cs ∧ (∃ t, Ty C H y t) ∧ (kdB y = false → Thrown D "value" y H E) ∧ (kdB y = true → ∀ k, y = .str k → ∀ H', Same H H' → Q (.int (total k cs)) H')
def spIn (C : Addr) (k : Str) : Sp := fun vs H Q _ => ∃ (p : Addr) (cs : List Int), vs = [.ref p] ∧ TextAt C H p cs ∧ ∀ H', Same H H' → Q (.int (total k cs)) H'
def spLen (C : Addr) : Sp := fun vs H Q _ => ∃ (p : Addr) (cs : List Int), vs = [.ref p] ∧ TextAt C H p cs ∧ Q (.int cs.length) H
def spItem (C D : Addr) : Sp := fun vs H Q E => ∃ (p : Addr) (cs : List Int) (y : V), vs = [.ref p, y] ∧ TextAt C H p cs ∧ (∃ t, Ty C H y t) ∧ (inB y 0 (cs.length - 1) = false → Thrown D "number" y H E) ∧
  (inB y 0 (cs.length - 1) = true → ∀ (n : Nat) (c : Int), y = .int n → cs[n]? = some c → Q (.int c) H)
def cutI (cs : List Int) (i j : Nat) : List Int := (cs.drop i).take (j - i)
def spPart (C D : Addr) : Sp := fun vs H Q E => ∃ (p : Addr) (cs : List Int) (x y : V), vs = [.ref p, x, y] ∧ TextAt C H p cs ∧ Good cs ∧ (∃ t, Ty C H x t) ∧ (∃ t, Ty C H y t) ∧ (inB x 0 cs.length = false → Thrown D "number" x H E) ∧
  (∀ i : Nat, x = .int i → i ≤ cs.length → (inB y i cs.length = false → Thrown D "number" y H E) ∧ (inB y i cs.length = true → ∀ j : Nat, y = .int j → i ≤ j → j ≤ cs.length → ∀ (q : Addr) (H' : Hp), H q = none → Same H H' → TextAt C H' q (cutI cs i j) → Q (.ref q) H'))
def spTEq (C : Addr) : Sp := fun vs H Q _ => ∃ (p q : Addr) (cs ds : List Int), vs = [.ref p, .ref q] ∧ TextAt C H p cs ∧ TextAt C H q ds ∧ Q (.bl (decide (cs = ds))) H
/-- two equal texts -/
def EqT (C : Addr) (a b : Addr) (H : Hp) : Prop := ∃ cs, TextAt C H a cs ∧ TextAt C H b cs
theorem inB_yes {y : V} {lo hi : Int} (h : inB y lo hi = true) : ∃ i, y = .int i ∧ lo ≤ i ∧ i ≤ hi := by
  cases y with
  | int i =>
    have h' : (decide (lo ≤ i) && decide (i ≤ hi)) = true := h
    simp only [Bool.and_eq_true, decide_eq_true_eq] at h'
    exact ⟨i, rfl, h'.1, h'.2⟩
  | _ => cases h
theorem cut_ints (cs : List Int) {i j : Nat} (hi : i ≤ cs.length) (hj : j ≤ cs.length) : cutV (intL cs) (some (i : Int)) (some (j : Int)) = intL (cutI cs i j) := by
  unfold cutV cutI
  rw [HT.sIx_nat, HT.sIx_nat, intL_len, Nat.min_eq_left hi, Nat.min_eq_left hj]
  simp [intL, List.map_drop, List.map_take]
theorem cut_all (cs : List Int) {i j : Nat} (hi : i ≤ cs.length) (hj : j ≤ cs.length) (h : HT.sIx (intL cs).length 0 (some (i : Int)) = 0 ∧ HT.sIx (intL cs).length (intL cs).length (some (j : Int)) = (intL cs).length) : cutI cs i j = cs := by
  rw [HT.sIx_nat, HT.sIx_nat, intL_len, Nat.min_eq_left hi, Nat.min_eq_left hj] at h
  obtain ⟨rfl, rfl⟩ := h
  unfold cutI
  rw [List.drop_zero, Nat.sub_zero, List.take_length]
theorem eqv_ints : ∀ cs ds : List Int, PyData.eqvAll (cs.map PyData.int) (ds.map PyData.int) = decide (cs = ds)
  | [], [] => by simp [PyData.eqvAll]
  | [], _ :: _ => by simp [PyData.eqvAll]
  | _ :: _, [] => by simp [PyData.eqvAll]
  | c :: cs, d :: ds => by
    rw [List.map_cons, List.map_cons, PyData.eqvAll, eqv_ints cs ds]
    by_cases e : c = d
    · subst e
      simp [PyData.eqv]
    · simp [PyData.eqv, e]
theorem shaped_ints (l : List Int) : SeqAt.shaped (.tuple (l.map PyData.int)) = true := by
  have h1 : ∀ l : List Int, PyData.canLayAll0 (l.map PyData.int) = true := fun l => by
    induction l with
    | nil => simp [PyData.canLayAll0]
    | cons c l ih => simp [PyData.canLayAll0, PyData.canLay0, ih]
  have h2 : ∀ l : List Int, PyData.depthAll (l.map PyData.int) = 0 := fun l => by
    induction l with
    | nil => simp [PyData.depthAll]
    | cons c l ih => simp [PyData.depthAll, PyData.depth, ih]
  simp [SeqAt.shaped, PyData.canLay0, PyData.depth, h1, h2]
theorem dp_ints {K : PySem.W.Frag} {H : Hp} : ∀ l : List Int, DpAll K H (intL l) (l.map PyData.int)
  | [] => .nil
  | c :: l => .cons (.int c) (dp_ints l)
section
variable {P : Program} {w : World} {K : PySem.W.Frag} {mg : Str → Option Value} {base : Heap} {A : Ads}
theorem ok_Text_init (T : Txt K mg A) : FnOk P w K mg base (L2.CX P w) 6 A.a_Text_init A.d_Text_init ["self", "chars"] (spText A K) := by
  have G_check_chars : FnOk P w K mg base (L2.CX P w) 5 A.a_check_chars A.d_check_chars ["chars"] (spCheckChars A K) := ok_check_chars T
  refine T.F_Text_init.okX sc_Text_init (fun vs H Q E h => ?_) (fun cdv A' outer s H vs Q E hr h => ?_)
  · obtain ⟨p, dx, y, rfl, _⟩ := h
    rfl
  · obtain ⟨p, dx, y, rfl, hp, ty, q1, q2⟩ := h
    refine ⟨_, (pss_cons (ps_expr (pe_call G_check_chars (hr.mono (by decide)) (by rfl) T.g_check_chars T.F_check_chars.kp T.b_check_chars .nil (passes_call (takes_of rfl rfl rfl rfl) fun _ _ _ _ h => h) (pa_cons (pv 1) pa_nil))) (pss_one (ps_fld (pv 0) (pe_callTy call_tuple_of (by rfl) T.z_tuple (by decide +kernel) (pa_cons (pv 1) pa_nil)) rfl))), ?_⟩
    refine ⟨_, rfl, y, rfl, ty, q1, fun ls => ?_⟩
    obtain ⟨xs, sq, k1, k2⟩ := q2 ls
    refine ⟨xs, sq, fun good H1 s1 => ?_, k2⟩
    obtain ⟨q, rfl, hq, _⟩ := sq
    refine ⟨_, rfl, q, xs, rfl, ?_⟩
    rcases hq with hq | hq
    · refine .inl ⟨SqL.of (s1 _ _ hq), fun t ht => ?_⟩
      have s2 := same_new (o := .tup xs) ht
      exact ⟨_, rfl, p, A.C_Text, dx, [], rfl, s2 _ _ (s1 _ _ hp), T.cl, T.n_points, by decide, k1 good t _ (s1.trans s2) upd_same⟩
    · refine .inr ⟨SqT.of (s1 _ _ hq), ?_⟩
      exact ⟨_, rfl, p, A.C_Text, dx, [], rfl, s1 _ _ hp, T.cl, T.n_points, by decide, k1 good q _ s1 (s1 _ _ hq)⟩
/-- Text(y), y a list or a tuple of characters -/
theorem made {H1 : Hp} {y : V} {cs : List Int} {Q : VK} {E : XK} (sq : ∃ q, y = .ref q ∧ (H1 q = some (.lst (intL cs)) ∨ H1 q = some (.tup (intL cs)))) (sz : cs.length < 1000000) (good : Good cs)
    (q : ∀ (x : Addr) (H2 : Hp), H1 x = none → Same H1 H2 → TextAt A.C_Text H2 x cs → Q (.ref x) H2) : ∀ x dx, H1 x = none → H1 dx = none → dx ≠ x →
    spText A K [.ref x, y] (upd (upd H1 dx (.own x)) x (.ins A.C_Text dx [])) (fun v H2 => v = .non ∧ Q (.ref x) H2) E := by
  intro x dx hx hdx ne
  obtain ⟨r, rfl, hr⟩ := sq
  have s1 : Same H1 (upd (upd H1 dx (.own x)) x (.ins A.C_Text dx [])) := (same_new hdx).trans (same_new (by rw [upd_ne (Ne.symm ne)]; exact hx))
  have tys : ∀ z ∈ intL cs, ∃ t, Ty A.C_Text (upd (upd H1 dx (.own x)) x (.ins A.C_Text dx [])) z t := fun z m => by
    obtain ⟨c, _, rfl⟩ := List.mem_map.mp m
    exact ⟨_, .int c⟩
  have ok : ∀ z ∈ intL cs, chB z = true := fun z m => by
    obtain ⟨c, mc, rfl⟩ := List.mem_map.mp m
    exact good c mc
  have seq : Seq K A.C_Text (upd (upd H1 dx (.own x)) x (.ins A.C_Text dx [])) (.ref r) (intL cs) := ⟨r, rfl, hr.imp (s1 _ _) (s1 _ _), tys⟩
  refine ⟨x, dx, .ref r, rfl, upd_same, hr.elim (fun h => ⟨_, .lst (s1 _ _ h)⟩) (fun h => ⟨_, .tup (s1 _ _ h)⟩), fun n => absurd ⟨r, _, rfl, hr.imp (s1 _ _) (s1 _ _)⟩ n, fun _ => ⟨intL cs, seq, fun _ t H' s2 ht => ⟨rfl, ?_⟩, fun i z hz _ e => ?_⟩⟩
  · have sx : Same H1 (upd H' x (.ins A.C_Text dx [("points", .ref t)])) := fun b o e => by
      rw [upd_ne (fun z => by rw [z, hx] at e; cases e)]
      exact s2 _ _ (s1 _ _ e)
    have nt : t ≠ x := fun z => by
      rw [z, s2 _ _ upd_same] at ht
      cases ht
    exact q x _ hx sx ⟨dx, t, upd_same, by rw [upd_ne nt]; exact ht, sz⟩
  · rw [ok z (List.mem_of_getElem? hz)] at e
    cases e
/-- Text(y), y no list and no tuple -/
theorem made_no {H1 : Hp} {y : V} {Q : VK} {E : XK} (ty : ∃ t, Ty A.C_Text H1 y t) (n : ¬ Lsq H1 y) (th : Thrown A.C_InvalidChars "value" y H1 E) : ∀ x dx, H1 x = none → H1 dx = none → dx ≠ x →
    spText A K [.ref x, y] (upd (upd H1 dx (.own x)) x (.ins A.C_Text dx [])) Q E := by
  intro x dx hx hdx ne
  have s1 : Same H1 (upd (upd H1 dx (.own x)) x (.ins A.C_Text dx [])) := (same_new hdx).trans (same_new (by rw [upd_ne (Ne.symm ne)]; exact hx))
  have no : ¬ Lsq (upd (upd H1 dx (.own x)) x (.ins A.C_Text dx [])) y := fun ⟨q, xs, e, h⟩ => by
    obtain ⟨t, ty⟩ := ty
    subst e
    cases ty with
    | lst e => exact n ⟨q, _, rfl, .inl e⟩
    | tup e => exact n ⟨q, _, rfl, .inr e⟩
    | dct e =>
      rw [s1 _ _ e] at h
      rcases h with h | h <;> cases h
    | ins e =>
      rw [s1 _ _ e] at h
      rcases h with h | h <;> cases h
  exact ⟨x, dx, y, rfl, upd_same, let ⟨t, ty⟩ := ty; ⟨t, ty.same s1⟩, fun _ => th.same s1, fun y => absurd y no⟩
/-- Text(y), y with an item that is no character -/
theorem made_bad {H1 : Hp} {y : V} {xs : List V} {i : Nat} {b : V} {Q : VK} {E : XK} (sq : Seq K A.C_Text H1 y xs) (hb : xs[i]? = some b) (hj : ∀ (j : Nat) (z : V), j < i → xs[j]? = some z → chB z = true) (e : chB b = false) (th : Thrown A.C_InvalidChar "value" b H1 E) :
    ∀ x dx, H1 x = none → H1 dx = none → dx ≠ x → spText A K [.ref x, y] (upd (upd H1 dx (.own x)) x (.ins A.C_Text dx [])) Q E := by
  intro x dx hx hdx ne
  have s1 : Same H1 (upd (upd H1 dx (.own x)) x (.ins A.C_Text dx [])) := (same_new hdx).trans (same_new (by rw [upd_ne (Ne.symm ne)]; exact hx))
  obtain ⟨r, rfl, hr, tys⟩ := sq
  have seq : Seq K A.C_Text (upd (upd H1 dx (.own x)) x (.ins A.C_Text dx [])) (.ref r) xs := ⟨r, rfl, hr.imp (s1 _ _) (s1 _ _), fun z m => let ⟨t, h⟩ := tys z m; ⟨t, h.same s1⟩⟩
  refine ⟨x, dx, .ref r, rfl, upd_same, hr.elim (fun h => ⟨_, .lst (s1 _ _ h)⟩) (fun h => ⟨_, .tup (s1 _ _ h)⟩), fun n => absurd ⟨r, _, rfl, hr.imp (s1 _ _) (s1 _ _)⟩ n, fun _ => ⟨xs, seq, fun all => ?_, fun k z hz hk ez => ?_⟩⟩
  · rw [all b (List.mem_of_getElem? hb)] at e
    cases e
  · have : k = i := by
      rcases Nat.lt_trichotomy k i with h | h | h
      · rw [hj k z h hz] at ez
        cases ez
      · exact h
      · rw [hk i b h hb] at e
        cases e
    subst this
    rw [hb] at hz
    cases hz
    exact th.same s1
theorem ok_Text_chars (T : Txt K mg A) : FnOk P w K mg base CX0 1 A.a_Text_chars A.d_Text_chars ["self"] (spChars A.C_Text) := by
  refine T.F_Text_chars.ok sc_Text_chars (fun vs H Q E h => ?_) (fun cdv A' outer s H vs Q E hr h => ?_)
  · obtain ⟨p, cs, rfl, _⟩ := h
    rfl
  · obtain ⟨p, cs, rfl, ⟨dx, t, hp, ht, sz⟩, q⟩ := h
    refine ⟨_, (pss_one (ps_ret (pe_callTy call_list_of (by rfl) T.z_list (by decide +kernel) (pa_cons (pe_fld (pv 0) rfl) pa_nil)))), ?_⟩
    exact ⟨_, rfl, p, A.C_Text, dx, _, _, rfl, hp, T.cl, T.n_points, fp _, t, intL cs, rfl, .inr (SqT.of ht), fun l hl => q l _ hl (same_new hl) upd_same⟩
theorem ok_Text_count (T : Txt K mg A) : FnOk P w K mg base (L2.CX P w) 4 A.a_Text_count A.d_Text_count ["self", "kind"] (spCount A.C_Text A.C_InvalidKind) := by
  have G_check_kind : FnOk P w K mg base (L2.CX P w) 3 A.a_check_kind A.d_check_kind ["kind"] (spCheck A.C_Text A.C_InvalidKind kdB) := ok_check_kind T
  have G_total_width : FnOk P w K mg base CX0 3 A.a_total_width A.d_total_width ["chars", "kind"] (spTotal K) := ok_total_width T
  refine T.F_Text_count.okX sc_Text_count (fun vs H Q E h => ?_) (fun cdv A' outer s H vs Q E hr h => ?_)
  · obtain ⟨p, cs, y, rfl, _⟩ := h
    rfl
  · obtain ⟨p, cs, y, rfl, ⟨dx, t, hp, ht, sz⟩, ty, q1, q2⟩ := h
    refine ⟨_, (pss_cons (ps_expr (pe_call G_check_kind (hr.mono (by decide)) (by rfl) T.g_check_kind T.F_check_kind.kp T.b_check_kind .nil (passes_call (takes_of rfl rfl rfl rfl) fun _ _ _ _ h => h) (pa_cons (pv 1) pa_nil))) (pss_one (ps_ret (pe_call G_total_width (hr.mono (by decide)) (by rfl) T.g_total_width T.F_total_width.kp T.b_total_width .nil pass0 (pa_cons (pe_fld (pv 0) rfl) (pa_cons (pv 1) pa_nil)))))), ?_⟩
    refine ⟨_, rfl, y, rfl, ty, fun e => ?_, q1⟩
    obtain ⟨k, rfl⟩ : ∃ k, y = .str k := by
      cases y with
      | str k => exact ⟨k, rfl⟩
      | _ => cases e
    exact ⟨_, rfl, p, A.C_Text, dx, _, _, rfl, hp, T.cl, T.n_points, fp _, _, rfl, t, k, cs, rfl, SqT.of ht, sz, q2 e k rfl⟩
theorem ok_Text_in_bytes (T : Txt K mg A) : FnOk P w K mg base CX0 4 A.a_Text_in_bytes A.d_Text_in_bytes ["self"] (spIn A.C_Text "bytes") := by
  have G_total_width : FnOk P w K mg base CX0 3 A.a_total_width A.d_total_width ["chars", "kind"] (spTotal K) := ok_total_width T
  refine T.F_Text_in_bytes.ok sc_Text_in_bytes (fun vs H Q E h => ?_) (fun cdv A' outer s H vs Q E hr h => ?_)
  · obtain ⟨p, cs, rfl, _⟩ := h
    rfl
  · obtain ⟨p, cs, rfl, ⟨dx, t, hp, ht, sz⟩, q⟩ := h
    refine ⟨_, (pss_one (ps_ret (pe_call G_total_width (hr.mono (by decide)) (by rfl) T.g_total_width T.F_total_width.kp T.b_total_width .nil pass0 (pa_cons (pe_fld (pv 0) rfl) (pa_cons pe_str pa_nil))))), ?_⟩
    exact ⟨_, rfl, p, A.C_Text, dx, _, _, rfl, hp, T.cl, T.n_points, fp _, t, _, cs, rfl, SqT.of ht, sz, q⟩
theorem ok_Text_in_units (T : Txt K mg A) : FnOk P w K mg base CX0 4 A.a_Text_in_units A.d_Text_in_units ["self"] (spIn A.C_Text "units") := by
  have G_total_width : FnOk P w K mg base CX0 3 A.a_total_width A.d_total_width ["chars", "kind"] (spTotal K) := ok_total_width T
  refine T.F_Text_in_units.ok sc_Text_in_units (fun vs H Q E h => ?_) (fun cdv A' outer s H vs Q E hr h => ?_)
  · obtain ⟨p, cs, rfl, _⟩ := h
    rfl
  · obtain ⟨p, cs, rfl, ⟨dx, t, hp, ht, sz⟩, q⟩ := h
    refine ⟨_, (pss_one (ps_ret (pe_call G_total_width (hr.mono (by decide)) (by rfl) T.g_total_width T.F_total_width.kp T.b_total_width .nil pass0 (pa_cons (pe_fld (pv 0) rfl) (pa_cons pe_str pa_nil))))), ?_⟩
    exact ⟨_, rfl, p, A.C_Text, dx, _, _, rfl, hp, T.cl, T.n_points, fp _, t, _, cs, rfl, SqT.of ht, sz, q⟩
theorem ok_Text_in_chars (T : Txt K mg A) : FnOk P w K mg base CX0 1 A.a_Text_in_chars A.d_Text_in_chars ["self"] (spLen A.C_Text) := by
  refine T.F_Text_in_chars.ok sc_Text_in_chars (fun vs H Q E h => ?_) (fun cdv A' outer s H vs Q E hr h => ?_)
  · obtain ⟨p, cs, rfl, _⟩ := h
    rfl
  · obtain ⟨p, cs, rfl, ⟨dx, t, hp, ht, sz⟩, q⟩ := h
    refine ⟨_, (pss_one (ps_ret (pe_callB call_len (by rfl) T.z_len (by decide +kernel) (pa_cons (pe_fld (pv 0) rfl) pa_nil)))), ?_⟩
    refine ⟨_, rfl, p, A.C_Text, dx, _, _, rfl, hp, T.cl, T.n_points, fp _, .ref t, _, rfl, .inr ⟨_, SqT.of ht, rfl⟩, ?_⟩
    rw [intL_len]
    exact q
theorem ok_Text_len (T : Txt K mg A) : FnOk P w K mg base CX0 1 A.a_Text_len A.d_Text_len ["self"] (spLen A.C_Text) := by
  refine T.F_Text_len.ok sc_Text_len (fun vs H Q E h => ?_) (fun cdv A' outer s H vs Q E hr h => ?_)
  · obtain ⟨p, cs, rfl, _⟩ := h
    rfl
  · obtain ⟨p, cs, rfl, ⟨dx, t, hp, ht, sz⟩, q⟩ := h
    refine ⟨_, (pss_one (ps_ret (pe_callB call_len (by rfl) T.z_len (by decide +kernel) (pa_cons (pe_fld (pv 0) rfl) pa_nil)))), ?_⟩
    refine ⟨_, rfl, p, A.C_Text, dx, _, _, rfl, hp, T.cl, T.n_points, fp _, .ref t, _, rfl, .inr ⟨_, SqT.of ht, rfl⟩, ?_⟩
    rw [intL_len]
    exact q
end
end Tc

/-! # K5D -/
namespace Tc
open PySem PySem.Spec PyProof.Rows L2
theorem fdiv_pos {a b : Int} (hb : 0 ≤ b) : a.fdiv b = a / b := Int.fdiv_eq_ediv_of_nonneg a hb
theorem fmod_pos {a b : Int} (hb : 0 ≤ b) : a.fmod b = a % b := Int.fmod_eq_emod_of_nonneg a hb
section
variable {P : Program} {w : World} {K : PySem.W.Frag} {mg : Str → Option Value} {base : Heap} {A : Ads}
theorem at_nat {l : List Int} {n : Nat} {c : Int} (h : l[n]? = some c) : atI (intL l) (n : Int) = some (.int c) := atI_nat (by rw [intL, List.getElem?_map, h]; rfl)
theorem ok_Text_getitem (T : Txt K mg A) : FnOk P w K mg base (L2.CX P w) 3 A.a_Text_getitem A.d_Text_getitem ["self", "index"] (spItem A.C_Text A.C_BadPlace) := by
  have G_is_integer : FnOk P w K mg base CX0 2 A.a_is_integer A.d_is_integer ["value", "low", "high"] (spIsInt A.C_Text) := ok_is_integer T
  have G_BadPlace : FnOk P w K mg base (L2.CX P w) 1 A.n_BadPlace A.d_BadPlace ["self", "number"] (spInit A.C_BadPlace "number") := ok_BadPlace T
  refine T.F_Text_getitem.okX sc_Text_getitem (fun vs H Q E h => ?_) (fun cdv A' outer s H vs Q E hr h => ?_)
  · obtain ⟨p, cs, y, rfl, _⟩ := h
    rfl
  · obtain ⟨p, cs, y, rfl, ⟨dx, t, hp, ht, sz⟩, ty, q1, q2⟩ := h
    have hr1 : Room (1 + 1) _ := hr.mono (by decide)
    refine ⟨_, (pss_cons (ps_if (pt_not (pt_val (pe_call G_is_integer (hr.mono (by decide)) (by rfl) T.g_is_integer T.F_is_integer.kp T.b_is_integer .nil pass0 (pa_cons (pv 1) (pa_cons pe_int (pa_cons (pe_op op_sub (pe_callB call_len (by rfl) T.z_len (by decide +kernel) (pa_cons (pe_fld (pv 0) rfl) pa_nil)) pe_int) pa_nil)))))) (pss_one (ps_raise rfl (takes_of rfl rfl rfl rfl) (pmk_oex T.x_BadPlace T.i_BadPlace T.t_BadPlace G_BadPlace hr1 T.b_BadPlace .nil passL (by rfl) T.g_BadPlace (pa_cons (pv 1) pa_nil)))) pss_nil) (pss_one (ps_ret (pe_ix ix_tup (pe_fld (pv 0) rfl) (pv 1) (fun _ _ => rfl))))), ?_⟩
    refine ⟨_, rfl, _, rfl, p, A.C_Text, dx, _, _, rfl, hp, T.cl, T.n_points, fp _, .ref t, _, rfl, .inr ⟨_, SqT.of ht, rfl⟩, _, _, rfl, rfl, y, 0, _, rfl, ty, _, rfl, ?_⟩
    rw [intL_len]
    refine ite2 (fun e => ?_) (fun e => ?_)
    · exact ⟨_, rfl, (by show 1 ≤ 1000; decide), thrown (q1 (not_f e))⟩
    · have yes := not_t e
      obtain ⟨i, rfl, i0, i1⟩ := inB_yes yes
      obtain ⟨n, rfl⟩ : ∃ n : Nat, i = n := ⟨i.toNat, by omega⟩
      have hn : n < cs.length := by omega
      have hc : cs[n]? = some cs[n] := List.getElem?_eq_getElem hn
      exact ⟨_, rfl, p, A.C_Text, dx, _, _, rfl, hp, T.cl, T.n_points, fp _, _, rfl, t, _, _, _, rfl, rfl, SqT.of ht, at_nat hc, q2 yes n _ rfl hc⟩
theorem ok_Text_part (T : Txt K mg A) : FnOk P w K mg base (L2.CX P w) 8 A.a_Text_part A.d_Text_part ["self", "start", "end"] (spPart A.C_Text A.C_BadPlace) := by
  have G_is_integer : FnOk P w K mg base CX0 2 A.a_is_integer A.d_is_integer ["value", "low", "high"] (spIsInt A.C_Text) := ok_is_integer T
  have G_BadPlace : FnOk P w K mg base (L2.CX P w) 1 A.n_BadPlace A.d_BadPlace ["self", "number"] (spInit A.C_BadPlace "number") := ok_BadPlace T
  have G_Text_init : FnOk P w K mg base (L2.CX P w) 6 A.a_Text_init A.d_Text_init ["self", "chars"] (spText A K) := ok_Text_init T
  refine T.F_Text_part.okX sc_Text_part (fun vs H Q E h => ?_) (fun cdv A' outer s H vs Q E hr h => ?_)
  · obtain ⟨p, cs, x, y, rfl, _⟩ := h
    rfl
  · obtain ⟨p, cs, x, y, rfl, ⟨dx, t, hp, ht, sz⟩, good, tx, ty, q1, q2⟩ := h
    have hr1 : Room (1 + 1) _ := hr.mono (by decide)
    refine ⟨_, (pss_cons (ps_if (pt_not (pt_val (pe_call G_is_integer (hr.mono (by decide)) (by rfl) T.g_is_integer T.F_is_integer.kp T.b_is_integer .nil pass0 (pa_cons (pv 1) (pa_cons pe_int (pa_cons (pe_callB call_len (by rfl) T.z_len (by decide +kernel) (pa_cons (pe_fld (pv 0) rfl) pa_nil)) pa_nil)))))) (pss_one (ps_raise rfl (takes_of rfl rfl rfl rfl) (pmk_oex T.x_BadPlace T.i_BadPlace T.t_BadPlace G_BadPlace hr1 T.b_BadPlace .nil passL (by rfl) T.g_BadPlace (pa_cons (pv 1) pa_nil)))) pss_nil) (pss_cons (ps_if (pt_not (pt_val (pe_call G_is_integer (hr.mono (by decide)) (by rfl) T.g_is_integer T.F_is_integer.kp T.b_is_integer .nil pass0 (pa_cons (pv 2) (pa_cons (pv 1) (pa_cons (pe_callB call_len (by rfl) T.z_len (by decide +kernel) (pa_cons (pe_fld (pv 0) rfl) pa_nil)) pa_nil)))))) (pss_one (ps_raise rfl (takes_of rfl rfl rfl rfl) (pmk_oex T.x_BadPlace T.i_BadPlace T.t_BadPlace G_BadPlace hr1 T.b_BadPlace .nil passL (by rfl) T.g_BadPlace (pa_cons (pv 2) pa_nil)))) pss_nil) (pss_one (ps_ret (pe_make T.k_Text G_Text_init (hr.mono (by decide)) (by rfl) T.g_Text T.b_Text_init .nil (passes_call (takes_of rfl rfl rfl rfl) fun _ _ _ _ h => h) (pa_cons (pe_slice sl_tupA (pe_fld (pv 0) rfl) (po_some (pv 1)) (po_some (pv 2))) pa_nil)))))), ?_⟩
    refine ⟨_, rfl, _, rfl, p, A.C_Text, dx, _, _, rfl, hp, T.cl, T.n_points, fp _, .ref t, _, rfl, .inr ⟨_, SqT.of ht, rfl⟩, x, 0, _, rfl, tx, _, rfl, ?_⟩
    rw [intL_len]
    refine ite2 (fun e => ?_) (fun e => ?_)
    · exact ⟨_, rfl, (by show 1 ≤ 1000; decide), thrown (q1 (not_f e))⟩
    obtain ⟨i, rfl, i0, i1⟩ := inB_yes (not_t e)
    obtain ⟨i, rfl⟩ : ∃ n : Nat, i = n := ⟨i.toNat, by omega⟩
    have hi : i ≤ cs.length := by omega
    obtain ⟨q3, q4⟩ := q2 i rfl hi
    refine ⟨_, rfl, _, rfl, _, rfl, p, A.C_Text, dx, _, _, rfl, hp, T.cl, T.n_points, fp _, .ref t, _, rfl, .inr ⟨_, SqT.of ht, rfl⟩, y, _, _, rfl, ty, _, rfl, ?_⟩
    rw [intL_len]
    refine ite2 (fun e => ?_) (fun e => ?_)
    · exact ⟨_, rfl, (by show 1 ≤ 1000; decide), thrown (q3 (not_f e))⟩
    have yes := not_t e
    obtain ⟨j, rfl, j0, j1⟩ := inB_yes yes
    obtain ⟨j, rfl⟩ : ∃ n : Nat, j = n := ⟨j.toNat, by omega⟩
    have hj : j ≤ cs.length := by omega
    have hij : i ≤ j := by omega
    have gcut : Good (cutI cs i j) := fun c m => good c (List.mem_of_mem_drop (List.mem_of_mem_take m))
    have csz : (cutI cs i j).length < 1000000 := by
      unfold cutI
      rw [List.length_take, List.length_drop]
      omega
    refine ⟨_, rfl, p, A.C_Text, dx, _, _, rfl, hp, T.cl, T.n_points, fp _, _, rfl, _, rfl, _, rfl, _, rfl, t, _, rfl, SqT.of ht, fun whole => ?_, fun _ l hl => ?_⟩
    · have e : cutI cs i j = cs := cut_all cs hi hj whole
      refine made (A := A) (K := K) (cs := cutI cs i j) ⟨t, rfl, .inr ?_⟩ csz gcut fun z H2 hz s2 tz => q4 yes j rfl hij hj z H2 hz s2 tz
      rw [e]
      exact ht
    · have s1 := same_new (o := .tup (cutV (intL cs) (some (i : Int)) (some (j : Int)))) hl
      refine made (A := A) (K := K) (cs := cutI cs i j) ⟨l, rfl, .inr ?_⟩ csz gcut fun z H2 hz s2 tz => q4 yes j rfl hij hj z H2 (s1.free hz) (s1.trans s2) tz
      rw [upd_same, cut_ints cs hi hj]
theorem ok_Text_eq (T : Txt K mg A) : FnOk P w K mg base CX0 1 A.a_Text_eq A.d_Text_eq ["self", "other"] (spTEq A.C_Text) := by
  refine T.F_Text_eq.ok sc_Text_eq (fun vs H Q E h => ?_) (fun cdv A' outer s H vs Q E hr h => ?_)
  · obtain ⟨p, q, cs, ds, rfl, _⟩ := h
    rfl
  · obtain ⟨p, r, cs, ds, rfl, tp, ⟨dy, t', hq, ht', sz'⟩, q⟩ := h
    obtain ⟨dx, t, hp, ht, sz⟩ := tp
    have ty : Ty A.C_Text H (.ref r) (.ref A.C_Text) := .ins hq
    refine ⟨_, (pss_one (ps_ret (pe_and (pe_callB call_isi (by rfl) T.z_isinstance (by decide +kernel) (pa_cons (pv 1) (pa_cons (pe_ref (by rfl) T.g_Text) pa_nil))) (pe_one (pe_cmpR (op_eqD hr.units) (pe_fld (pv 0) rfl) (pe_fld (pv 1) rfl) (nomark _)))))), ?_⟩
    refine ⟨_, rfl, .ref r, .ref A.C_Text, .ref A.C_Text, .ref A.C_Text, true, rfl, .own _, ty.x T, T.o_Text_self, _, rfl, ?_⟩
    refine ⟨_, rfl, p, A.C_Text, dx, _, _, rfl, hp, T.cl, T.n_points, fp _, _, rfl, r, A.C_Text, dy, _, _, rfl, hq, T.cl, T.n_points, fp _, ?_⟩
    refine ⟨.tuple (cs.map .int), .tuple (ds.map .int), .tup (SqT.of ht) (dp_ints cs), .tup (SqT.of ht') (dp_ints ds), shaped_ints cs, shaped_ints ds, ?_⟩
    rw [PyData.eqv, eqv_ints]
    exact q
end
/-! ## the law's draws -/
/-- at p the law's box of draws: what is left, a seed, how often it was asked (at most n times) -/
def BagAt (H : Hp) (p : Addr) (n : Int) : Prop := ∃ b0 b1 b2 : Int, H p = some (.lst [.int b0, .int b1, .int b2]) ∧ 0 ≤ b0 ∧ 0 ≤ b1 ∧ b1 < 2147483629 ∧ 0 ≤ b2 ∧ b2 ≤ n
/-- all but what stands at p is as it was -/
def But (p : Addr) (H H' : Hp) : Prop := ∀ b o, b ≠ p → H b = some o → H' b = some o
theorem But.refl (p : Addr) (H : Hp) : But p H H := fun _ _ _ h => h
theorem But.trans {p : Addr} {H H1 H2 : Hp} (a : But p H H1) (b : But p H1 H2) : But p H H2 := fun c o n h => b c o n (a c o n h)
theorem But.of {p : Addr} {H H' : Hp} (a : Same H H') : But p H H' := fun c o _ h => a c o h
theorem but_upd {p : Addr} {H : Hp} {o : HO} : But p H (upd H p o) := fun b u n e => by
  rw [upd_ne n]
  exact e
theorem BagAt.same {H H' : Hp} {p : Addr} {n : Int} (h : BagAt H p n) (s : Same H H') : BagAt H' p n := by
  obtain ⟨b0, b1, b2, e, r⟩ := h
  exact ⟨b0, b1, b2, s _ _ e, r⟩
theorem BagAt.le {H : Hp} {p : Addr} {n m : Int} (h : BagAt H p n) (l : n ≤ m) : BagAt H p m := by
  obtain ⟨b0, b1, b2, e, r1, r2, r3, r4, r5⟩ := h
  exact ⟨b0, b1, b2, e, r1, r2, r3, r4, Int.le_trans r5 l⟩
theorem BagAt.there {H : Hp} {p : Addr} {n : Int} (h : BagAt H p n) : ∃ xs, H p = some (.lst xs) := by
  obtain ⟨b0, b1, b2, e, _⟩ := h
  exact ⟨_, e⟩
theorem at_int {l : List Int} {r : Int} (h0 : 0 ≤ r) (h1 : r < l.length) : ∃ z, z ∈ l ∧ atI (intL l) r = some (.int z) := by
  obtain ⟨n, rfl⟩ : ∃ n : Nat, r = n := ⟨r.toNat, by omega⟩
  have hn : n < l.length := by omega
  refine ⟨l[n], List.getElem_mem hn, atI_nat ?_⟩
  unfold intL
  rw [List.getElem?_map, List.getElem?_eq_getElem hn]
  rfl
def spCell (K : PySem.W.Frag) : Sp := fun vs H Q _ => ∃ (a : Addr) (ns : List Int) (i : Int), vs = [.ref a, .int i] ∧ SqL K H a (intL ns) ∧ 0 ≤ i ∧ ∀ z : Int, Q (.int z) H
def spBag : Sp := fun vs H Q _ => ∃ c : Int, vs = [.int c] ∧ ∀ (p : Addr) (H' : Hp), H p = none → Same H H' → BagAt H' p 0 → Q (.ref p) H'
def spTake : Sp := fun vs H Q _ => ∃ (p : Addr) (m n : Int), vs = [.ref p, .int m] ∧ 0 < m ∧ m < 1073741824 ∧ BagAt H p n ∧ n ≤ 1000000 ∧
  ∀ (r : Int) (H' : Hp), 0 ≤ r → r < m → BagAt H' p (n + 1) → But p H H' → Q (.int r) H'
def spChar : Sp := fun vs H Q _ => ∃ (p : Addr) (n : Int), vs = [.ref p] ∧ BagAt H p n ∧ n ≤ 900000 ∧ ∀ (c : Int) (H' : Hp), chB (.int c) = true → BagAt H' p (n + 3) → But p H H' → Q (.int c) H'
section
variable {P : Program} {w : World} {K : PySem.W.Frag} {mg : Str → Option Value} {base : Heap} {A : Ads}
theorem ok_cell (T : Txt K mg A) : FnOk P w K mg base CX0 1 A.a_l_cell A.d_l_cell ["_law_script", "_law_index"] (spCell K) := by
  refine T.F_l_cell.ok sc_l_cell (fun vs H Q E h => ?_) (fun cdv A' outer s H vs Q E hr h => ?_)
  · obtain ⟨a, ns, i, rfl, _⟩ := h
    rfl
  · obtain ⟨a, ns, i, rfl, hS, i0, q⟩ := h
    refine ⟨_, (pss_cons (ps_if (pt_cmpR op_lt (pv 1) (pe_callB call_len (by rfl) T.z_len (by decide +kernel) (pa_cons (pv 0) pa_nil)) (nomark _)) (pss_one (ps_ret (pe_ix ix_list (pv 0) (pv 1) (fun _ _ => rfl)))) pss_nil) (pss_one (ps_ret (pe_op op_add (pe_op op_mul pe_int (pv 1)) pe_int)))), ?_⟩
    refine ⟨_, rfl, _, rfl, .ref a, _, rfl, .inl ⟨_, hS, rfl⟩, _, _, rfl, rfl, _, rfl, ?_⟩
    refine ite2 (fun e => ?_) (fun e => ?_)
    · have e1 : i < ((intL ns).length : Nat) := of_decide_eq_true e
      rw [intL, List.length_map] at e1
      obtain ⟨z, _, hz⟩ := at_int i0 e1
      exact ⟨_, rfl, _, rfl, a, _, _, _, rfl, rfl, hS, hz, q z⟩
    · exact ⟨_, rfl, _, _, rfl, rfl, .inl ⟨by decide, by decide⟩, _, _, rfl, rfl, q _⟩
theorem ok_bag (T : Txt K mg A) : FnOk P w K mg base CX0 1 A.a_l_bag A.d_l_bag ["_law_cell_here"] spBag := by
  refine T.F_l_bag.ok sc_l_bag (fun vs H Q E h => ?_) (fun cdv A' outer s H vs Q E hr h => ?_)
  · obtain ⟨c, rfl, _⟩ := h
    rfl
  · obtain ⟨c, rfl, q⟩ := h
    refine ⟨_, (pss_one (ps_ret (pe_lst (pa_cons (pe_callB (call_max2 rfl) (by rfl) T.z_max (by decide +kernel) (pa_cons pe_int (pa_cons (pe_op op_sub (pv 0) (pe_op op_pow pe_int pe_int)) pa_nil))) (pa_cons (pe_op op_modN (pv 0) pe_int) (pa_cons pe_int pa_nil)))))), ?_⟩
    refine ⟨_, rfl, _, _, rfl, rfl, ⟨by decide, by decide, by decide⟩, _, _, rfl, rfl, _, _, rfl, ?_⟩
    refine ⟨_, rfl, _, _, rfl, rfl, (show (2147483629 : Int) ≠ 0 by decide), (by show 3 ≤ sizeLine; decide), fun p hp => ?_⟩
    refine q p _ hp (same_new hp) ⟨_, _, _, upd_same, ?_, ?_, ?_, Int.le_refl _, Int.le_refl _⟩
    · split <;> omega
    · rw [fmod_pos (by decide)]
      exact Int.emod_nonneg _ (by decide)
    · rw [fmod_pos (by decide)]
      exact Int.emod_lt_of_pos _ (by decide)
theorem ok_take (T : Txt K mg A) : FnOk P w K mg base CX0 1 A.a_l_take A.d_l_take ["_law_bag_here", "_law_many"] spTake := by
  refine T.F_l_take.ok sc_l_take (fun vs H Q E h => ?_) (fun cdv A' outer s H vs Q E hr h => ?_)
  · obtain ⟨p, m, n, rfl, _⟩ := h
    rfl
  · obtain ⟨p, m, n, rfl, m0, m1, ⟨b0, b1, b2, hp, z0, z1, z2, z3, z4⟩, n1, q⟩ := h
    have a0 : ∀ x y z : V, atI [x, y, z] 0 = some x := fun _ _ _ => rfl
    have a1 : ∀ x y z : V, atI [x, y, z] 1 = some y := fun _ _ _ => rfl
    have a2 : ∀ x y z : V, atI [x, y, z] 2 = some z := fun _ _ _ => rfl
    refine ⟨_, (pss_cons (ps_if (pt_cmpR op_gt (pe_ix ix_list (pv 0) pe_int (fun _ _ => rfl)) pe_int (nomark _)) (pss_cons (ps_set (i := 2) sc_l_take.nd rfl (Or.inl rfl) (pe_op op_modN (pe_ix ix_list (pv 0) pe_int (fun _ _ => rfl)) (pv 1))) (pss_cons (ps_asg (pe_op op_fdivN (pe_ix ix_list (pv 0) pe_int (fun _ _ => rfl)) (pv 1)) (pg_sub (pv 0) pe_int set_list)) (pss_one (ps_ret (pv 2))))) pss_nil) (pss_cons (ps_asg (pe_op op_add (pe_ix ix_list (pv 0) pe_int (fun _ _ => rfl)) pe_int) (pg_sub (pv 0) pe_int set_list)) (pss_cons (ps_set (i := 3) sc_l_take.nd rfl (Or.inl rfl) (pe_op op_modN (pe_op op_pow (pe_op op_add (pe_op op_add (pe_ix ix_list (pv 0) pe_int (fun _ _ => rfl)) (pe_op op_mul pe_int (pe_ix ix_list (pv 0) pe_int (fun _ _ => rfl)))) pe_int) pe_int) pe_int)) (pss_cons (ps_set (i := 3) sc_l_take.nd rfl (Or.inl rfl) (pe_op op_modN (pe_op op_pow (pe_op op_add (pv 3) (pe_op op_mul pe_int (pe_ix ix_list (pv 0) pe_int (fun _ _ => rfl)))) pe_int) pe_int)) (pss_one (ps_ret (pe_op op_modN (pe_op op_fdivN (pv 3) pe_int) (pv 1)))))))), ?_⟩
    refine ⟨_, rfl, p, _, _, _, rfl, rfl, SqL.of hp, a0 _ _ _, _, _, rfl, rfl, _, rfl, ?_⟩
    refine ite2 (fun e => ?_) (fun e => ?_)
    · refine ⟨_, rfl, p, _, _, _, rfl, rfl, SqL.of hp, a0 _ _ _, _, rfl, _, _, rfl, rfl, (show m ≠ 0 by omega), ?_⟩
      refine ⟨_, rfl, p, _, _, _, rfl, rfl, SqL.of hp, a0 _ _ _, _, rfl, _, _, rfl, rfl, ⟨by omega, by omega⟩, _, rfl, p, _, _, 0, rfl, rfl, hp, rfl, ?_⟩
      refine ⟨_, rfl, ?_⟩
      have f1 : b0.fmod m = b0 % m := fmod_pos (by omega)
      have f2 : b0.fdiv m = b0 / m := fdiv_pos (by omega)
      show Q (.int (b0.fmod m)) (upd H p (.lst [.int (b0.fdiv m), .int b1, .int b2]))
      rw [f1, f2]
      refine q _ _ (Int.emod_nonneg _ (by omega)) (Int.emod_lt_of_pos _ m0) ⟨_, _, _, upd_same, Int.ediv_nonneg z0 (by omega), z1, z2, z3, by omega⟩ but_upd
    · refine ⟨_, rfl, p, _, _, _, rfl, rfl, SqL.of hp, a2 _ _ _, _, _, rfl, rfl, _, rfl, p, _, _, 2, rfl, rfl, hp, rfl, ?_⟩
      have hp2 : (upd H p (.lst [.int b0, .int b1, .int (b2 + 1)])) p = some (.lst [.int b0, .int b1, .int (b2 + 1)]) := upd_same
      refine ⟨_, rfl, p, _, _, _, rfl, rfl, SqL.of hp2, a1 _ _ _, _, rfl, p, _, _, _, rfl, rfl, SqL.of hp2, a2 _ _ _, _, _, rfl, rfl, .inl ⟨by decide, by decide⟩, _, _, rfl, rfl, _, _, rfl, rfl, _, _, rfl, rfl, ⟨by decide, by decide, ?_⟩, _, _, rfl, rfl, (show (2147483647 : Int) ≠ 0 by decide), ?_⟩
      · omega
      have g1 := Int.emod_nonneg ((b1 + 15491267 * (b2 + 1) + 607) ^ (5 : Int).toNat) (show (2147483647 : Int) ≠ 0 by decide)
      have g2 := Int.emod_lt_of_pos ((b1 + 15491267 * (b2 + 1) + 607) ^ (5 : Int).toNat) (show (0 : Int) < 2147483647 by decide)
      have f3 : ((b1 + 15491267 * (b2 + 1) + 607) ^ (5 : Int).toNat).fmod 2147483647 = ((b1 + 15491267 * (b2 + 1) + 607) ^ (5 : Int).toNat) % 2147483647 := fmod_pos (by decide)
      rw [← f3] at g1 g2
      generalize hx : ((b1 + 15491267 * (b2 + 1) + 607) ^ (5 : Int).toNat).fmod 2147483647 = x at g1 g2
      refine ⟨_, rfl, _, rfl, p, _, _, _, rfl, rfl, SqL.of hp2, a2 _ _ _, _, _, rfl, rfl, .inl ⟨by decide, by decide⟩, _, _, rfl, rfl, _, _, rfl, rfl, ⟨by decide, by decide, ?_⟩, _, _, rfl, rfl, (show (2147483587 : Int) ≠ 0 by decide), ?_⟩
      · have hx' : x = ((b1 + 15491267 * (b2 + 1) + 607) ^ (5 : Int).toNat).fmod 2147483647 := hx.symm
        first | (rw [hx]; omega) | omega
      refine ⟨_, rfl, _, _, rfl, rfl, ⟨by decide, by decide⟩, _, rfl, _, _, rfl, rfl, (show m ≠ 0 by omega), ?_⟩
      have f4 : ∀ y : Int, y.fmod m = y % m := fun y => fmod_pos (by omega)
      refine q _ _ (by rw [f4]; exact Int.emod_nonneg _ (by omega)) (by rw [f4]; exact Int.emod_lt_of_pos _ m0) ⟨_, _, _, upd_same, z0, z1, z2, by omega, by omega⟩ but_upd
theorem law_place (c : Int) : atI [V.int 4, V.int 3, V.int 2, V.int 1] ((if decide (c < 65536) = true then (1 : Int) else 0) + (if decide (c < 2048) = true then (1 : Int) else 0) + (if decide (c < 128) = true then (1 : Int) else 0)) = some (V.int (bytesN c)) := by
  unfold bytesN
  by_cases h1 : c < 128
  · rw [if_pos (decide_eq_true (show c < 65536 by omega)), if_pos (decide_eq_true (show c < 2048 by omega)), if_pos (decide_eq_true h1), if_pos h1]
    rfl
  · rw [if_neg (show ¬ decide (c < 128) = true by simpa using h1), if_neg h1]
    by_cases h2 : c < 2048
    · rw [if_pos (decide_eq_true (show c < 65536 by omega)), if_pos (decide_eq_true h2), if_pos h2]
      rfl
    · rw [if_neg (show ¬ decide (c < 2048) = true by simpa using h2), if_neg h2]
      by_cases h3 : c < 65536
      · rw [if_pos (decide_eq_true h3), if_pos h3]
        rfl
      · rw [if_neg (show ¬ decide (c < 65536) = true by simpa using h3), if_neg h3]
        rfl
theorem edges_ok : ∀ z ∈ [(0 : Int), 10, 13, 97, 127, 128, 2047, 2048, 55295, 57344, 65535, 65536, 1114111], chB (.int z) = true := by decide
theorem chB_of {z : Int} (h0 : 0 ≤ z) (h1 : z ≤ 1114111) (h2 : z < 55296 ∨ 57343 < z) : chB (.int z) = true := by
  show (decide (0 ≤ z) && decide (z ≤ 1114111) && !(decide (55296 ≤ z) && decide (z ≤ 57343))) = true
  rw [decide_eq_true h0, decide_eq_true h1]
  rcases h2 with h2 | h2
  · rw [decide_eq_false (show ¬ 55296 ≤ z by omega)]
    rfl
  · rw [decide_eq_false (show ¬ z ≤ 57343 by omega), Bool.and_false]
    rfl
theorem ok_char (T : Txt K mg A) : FnOk P w K mg base CX0 2 A.a_l_char A.d_l_char ["_law_bag_here"] spChar := by
  have G_l_take : FnOk P w K mg base CX0 1 A.a_l_take A.d_l_take ["_law_bag_here", "_law_many"] spTake := ok_take T
  refine T.F_l_char.ok sc_l_char (fun vs H Q E h => ?_) (fun cdv A' outer s H vs Q E hr h => ?_)
  · obtain ⟨p, n, rfl, _⟩ := h
    rfl
  · obtain ⟨p, n, rfl, hb, n1, q⟩ := h
    refine ⟨_, (pss_cons (ps_set (i := 1) sc_l_char.nd rfl (Or.inl rfl) (pe_lst (pa_cons pe_int (pa_cons pe_int (pa_cons pe_int (pa_cons pe_int (pa_cons pe_int (pa_cons pe_int (pa_cons pe_int (pa_cons pe_int (pa_cons pe_int (pa_cons pe_int (pa_cons pe_int (pa_cons pe_int (pa_cons pe_int pa_nil))))))))))))))) (pss_cons (ps_if (pt_cmpR op_eq (pe_call G_l_take (hr.mono (by decide)) (by rfl) T.g_l_take T.F_l_take.kp T.b_l_take .nil pass0 (pa_cons (pv 0) (pa_cons pe_int pa_nil))) pe_int (nomark _)) (pss_one (ps_ret (pe_ix ix_list (pv 1) (pe_call G_l_take (hr.mono (by decide)) (by rfl) T.g_l_take T.F_l_take.kp T.b_l_take .nil pass0 (pa_cons (pv 0) (pa_cons pe_int pa_nil))) (fun _ _ => rfl)))) pss_nil) (pss_cons (ps_asg (pe_ix ix_list (pe_lst (pa_cons (pe_tup (pa_cons pe_int (pa_cons pe_int pa_nil))) (pa_cons (pe_tup (pa_cons pe_int (pa_cons pe_int pa_nil))) (pa_cons (pe_tup (pa_cons pe_int (pa_cons pe_int pa_nil))) (pa_cons (pe_tup (pa_cons pe_int (pa_cons pe_int pa_nil))) (pa_cons (pe_tup (pa_cons pe_int (pa_cons pe_int pa_nil))) pa_nil)))))) (pe_call G_l_take (hr.mono (by decide)) (by rfl) T.g_l_take T.F_l_take.kp T.b_l_take .nil pass0 (pa_cons (pv 0) (pa_cons pe_int pa_nil))) (fun _ _ => rfl)) (pg_tup (by rfl) (pgs_cons (pg_name (i := 2) sc_l_char.nd rfl (Or.inl rfl)) (pgs_cons (pg_name (i := 3) sc_l_char.nd rfl (Or.inl rfl)) pgs_nil)))) (pss_one (ps_ret (pe_op op_add (pv 2) (pe_call G_l_take (hr.mono (by decide)) (by rfl) T.g_l_take T.F_l_take.kp T.b_l_take .nil pass0 (pa_cons (pv 0) (pa_cons (pe_op op_add (pe_op op_sub (pv 3) (pv 2)) pe_int) pa_nil))))))))), ?_⟩
    refine ⟨(by show 13 ≤ sizeLine; decide), fun e he => ?_⟩
    have s1 := same_new (o := .lst (intL [0, 10, 13, 97, 127, 128, 2047, 2048, 55295, 57344, 65535, 65536, 1114111])) he
    have nep : e ≠ p := fun z => by
      obtain ⟨xs, hx⟩ := hb.there
      rw [z, hx] at he
      cases he
    refine ⟨_, rfl, p, 2, n, rfl, by decide, by decide, hb.same s1, by omega, fun r1 H1 _ _ hb1 bt1 => ?_⟩
    have he1 : H1 e = some (.lst (intL [0, 10, 13, 97, 127, 128, 2047, 2048, 55295, 57344, 65535, 65536, 1114111])) := bt1 _ _ nep upd_same
    refine ⟨rfl, _, rfl, ?_⟩
    refine ite2 (fun _ => ?_) (fun _ => ?_)
    · refine ⟨_, rfl, _, rfl, p, 13, n + 1, rfl, by decide, by decide, hb1, by omega, fun r2 H2 h20 h21 hb2 bt2 => ?_⟩
      obtain ⟨z, mz, hz⟩ := at_int (l := [0, 10, 13, 97, 127, 128, 2047, 2048, 55295, 57344, 65535, 65536, 1114111]) h20 h21
      exact ⟨e, _, _, _, rfl, rfl, SqL.of (bt2 _ _ nep he1), hz, q z H2 (edges_ok z mz) (hb2.le (by omega)) (((But.of s1).trans bt1).trans bt2)⟩
    · refine ⟨(by show 2 ≤ sizeLine; decide), fun t1 k1 => ⟨(by show 2 ≤ sizeLine; decide), fun t2 k2 => ⟨(by show 2 ≤ sizeLine; decide), fun t3 k3 => ⟨(by show 2 ≤ sizeLine; decide), fun t4 k4 => ⟨(by show 2 ≤ sizeLine; decide), fun t5 k5 => ⟨(by show 5 ≤ sizeLine; decide), fun l kl => ?_⟩⟩⟩⟩⟩⟩
      have c1 := same_new (o := .tup [V.int 0, V.int 127]) k1
      have c2 := same_new (o := .tup [V.int 128, V.int 2047]) k2
      have c3 := same_new (o := .tup [V.int 2048, V.int 55295]) k3
      have c4 := same_new (o := .tup [V.int 57344, V.int 65535]) k4
      have c5 := same_new (o := .tup [V.int 65536, V.int 1114111]) k5
      have c6 := same_new (o := .lst [V.ref t1, V.ref t2, V.ref t3, V.ref t4, V.ref t5]) kl
      have all := c1.trans (c2.trans (c3.trans (c4.trans (c5.trans c6))))
      have hb3 := hb1.same all
      obtain ⟨xs, hx⟩ := hb1.there
      have ne : ∀ {t : Addr} {H' : Hp}, Same H1 H' → H' t = none → t ≠ p := fun {t H'} sm k z => by
        rw [z, sm _ _ hx] at k
        cases k
      have n1' := ne (Same.refl _) k1
      have n2' := ne c1 k2
      have n3' := ne (c1.trans c2) k3
      have n4' := ne (c1.trans (c2.trans c3)) k4
      have n5' := ne (c1.trans (c2.trans (c3.trans c4))) k5
      have n6' := ne (c1.trans (c2.trans (c3.trans (c4.trans c5)))) kl
      have g1 := (c2.trans (c3.trans (c4.trans (c5.trans c6)))) _ _ (upd_same (H := H1) (a := t1) (o := .tup [V.int 0, V.int 127]))
      refine ⟨_, rfl, p, 5, n + 1, rfl, by decide, by decide, hb3, by omega, fun r2 H2 h20 h21 hb2 bt2 => ?_⟩
      have hl := bt2 _ _ n6' upd_same
      obtain ⟨t, lo, hi, ha, ht, w1, w2, w3⟩ : ∃ (t : Addr) (lo hi : Int), atI [V.ref t1, V.ref t2, V.ref t3, V.ref t4, V.ref t5] r2 = some (.ref t) ∧ H2 t = some (.tup [.int lo, .int hi]) ∧ lo ≤ hi ∧ hi - lo < 1073741000 ∧ ∀ z, lo ≤ z → z ≤ hi → chB (.int z) = true := by
        have cs : r2 = 0 ∨ r2 = 1 ∨ r2 = 2 ∨ r2 = 3 ∨ r2 = 4 := by omega
        rcases cs with rfl | rfl | rfl | rfl | rfl
        · exact ⟨t1, 0, 127, rfl, bt2 _ _ n1' g1, by decide, by decide, fun z x y => chB_of (by omega) (by omega) (by omega)⟩
        · exact ⟨t2, 128, 2047, rfl, bt2 _ _ n2' ((c3.trans (c4.trans (c5.trans c6))) _ _ upd_same), by decide, by decide, fun z x y => chB_of (by omega) (by omega) (by omega)⟩
        · exact ⟨t3, 2048, 55295, rfl, bt2 _ _ n3' ((c4.trans (c5.trans c6)) _ _ upd_same), by decide, by decide, fun z x y => chB_of (by omega) (by omega) (by omega)⟩
        · exact ⟨t4, 57344, 65535, rfl, bt2 _ _ n4' ((c5.trans c6) _ _ upd_same), by decide, by decide, fun z x y => chB_of (by omega) (by omega) (by omega)⟩
        · exact ⟨t5, 65536, 1114111, rfl, bt2 _ _ n5' (c6 _ _ upd_same), by decide, by decide, fun z x y => chB_of (by omega) (by omega) (by omega)⟩
      refine ⟨l, _, _, _, rfl, rfl, SqL.of hl, ha, t, _, rfl, SqT.of ht, rfl, _, _, rfl, _, _, rfl, rfl, ?_⟩
      refine ⟨_, rfl, _, rfl, _, rfl, _, rfl, _, _, rfl, rfl, _, _, rfl, rfl, p, hi - lo + 1, n + 1 + 1, rfl, by omega, by omega, hb2, by omega, fun r3 H3 h30 h31 hb4 bt3 => ?_⟩
      refine ⟨_, _, rfl, rfl, q _ H3 (w3 _ (by omega) (by omega)) (hb4.le (by omega)) ((((But.of s1).trans bt1).trans (But.of all)).trans (bt2.trans bt3))⟩
end
end Tc

/-! # K5E -/
namespace Tc
open PySem PySem.Spec PyProof.Rows L2
def Kd (k : Str) : Prop := k = "bytes" ∨ k = "units" ∨ k = "chars"
theorem total_append (k : Str) : ∀ (l : List Int) (c : Int), total k (l ++ [c]) = total k l + (widthOf c k : Nat)
  | [], c => by
    show ((widthOf c k : Nat) : Int) + 0 = 0 + _
    omega
  | d :: l, c => by
    show ((widthOf d k : Nat) : Int) + total k (l ++ [c]) = ((widthOf d k : Nat) : Int) + total k l + _
    rw [total_append k l c]
    omega
theorem width_le (c : Int) (k : Str) : widthOf c k ≤ 4 := by
  unfold widthOf unitsN bytesN
  repeat' split
  all_goals omega
theorem total_bound (k : Str) : ∀ l : List Int, 0 ≤ total k l ∧ total k l ≤ 4 * l.length
  | [] => ⟨Int.le_refl _, by simp [total]⟩
  | c :: l => by
    have := total_bound k l
    have := width_le c k
    show 0 ≤ ((widthOf c k : Nat) : Int) + total k l ∧ ((widthOf c k : Nat) : Int) + total k l ≤ _
    rw [List.length_cons]
    omega
def spChars2 : Sp := fun vs H Q _ => ∃ (p : Addr) (m n : Int), vs = [.ref p, .int m] ∧ 0 ≤ m ∧ m ≤ 1000 ∧ BagAt H p n ∧ n ≤ 500000 ∧
  ∀ (l : Addr) (H' : Hp) (cs : List Int), H l = none → But p H H' → BagAt H' p (n + 3 * m + 1) → H' l = some (.lst (intL cs)) → Good cs → (cs.length : Int) ≤ m → Q (.ref l) H'
def spLWidth : Sp := fun vs H Q _ => ∃ (c : Int) (k : Str), vs = [.int c, .str k] ∧ Kd k ∧ ∀ H', Same H H' → Q (.int (widthOf c k)) H'
def spNumbers (K : PySem.W.Frag) : Sp := fun vs H Q _ => ∃ (a : Addr) (k : Str) (cs : List Int), vs = [.ref a, .str k] ∧ SqL K H a (intL cs) ∧ Kd k ∧ cs.length < 1000000 ∧
  ∀ (l : Addr) (H' : Hp) (pre : List Int), H l = none → Same H H' → H' l = some (.lst (intL (pre ++ [total k cs]))) → Q (.ref l) H'
section
variable {P : Program} {w : World} {K : PySem.W.Frag} {mg : Str → Option Value} {base : Heap} {A : Ads}
theorem ok_lchars (T : Txt K mg A) : FnOk P w K mg base CX0 3 A.a_l_chars A.d_l_chars ["_law_bag_here", "_law_most"] spChars2 := by
  have G_l_take : FnOk P w K mg base CX0 1 A.a_l_take A.d_l_take ["_law_bag_here", "_law_many"] spTake := ok_take T
  have G_l_char : FnOk P w K mg base CX0 2 A.a_l_char A.d_l_char ["_law_bag_here"] spChar := ok_char T
  refine T.F_l_chars.ok sc_l_chars (fun vs H Q E h => ?_) (fun cdv A' outer s H vs Q E hr h => ?_)
  · obtain ⟨p, m, n, rfl, _⟩ := h
    rfl
  · obtain ⟨p, m, n, rfl, m0, m1, hb, hn, q⟩ := h
    refine ⟨_, (pss_one (ps_ret (pe_lc (own := [("_law_index", 2)]) (g := gName 2) (by rfl) sc_l_chars.nd (pi_range1 (by rfl) T.z_range (pa_cons (pe_call G_l_take (hr.mono (by decide)) (by rfl) T.g_l_take T.F_l_take.kp T.b_l_take .nil pass0 (pa_cons (pv 0) (pa_cons (pe_op op_add (pv 1) pe_int) pa_nil))) pa_nil)) (blkOk_by (own := [("_law_index", 2)]) (N := ["_law_bag_here", "_law_most", "_law_index"]) (sc := defScope s_l_chars) (by decide +kernel)) (fun _ _ _ _ _ => pg_name (i := 2) sc_l_chars.nd rfl (Or.inl rfl)) (fun _ _ _ _ _ => pts_nil) (fun _ _ _ _ _ => (pe_call G_l_char (hr.mono (by decide)) (by rfl) T.g_l_char T.F_l_char.kp T.b_l_char .nil pass0 (pa_cons (pv 0) pa_nil)))))), ?_⟩
    refine ⟨_, rfl, _, rfl, _, _, rfl, rfl, p, m + 1, n, rfl, by omega, by omega, hb, by omega, fun r H1 r0 r1 hb1 bt1 => ?_⟩
    obtain ⟨r, rfl⟩ : ∃ z : Nat, r = z := ⟨r.toNat, by omega⟩
    have er : ((r : Int)).toNat = r := by omega
    obtain ⟨xs, hpx⟩ := hb1.there
    refine ⟨_, rfl, by omega, by omega, fun D hD => ?_⟩
    rw [er]
    have nD : D ≠ p := fun z => by
      rw [z, hpx] at hD
      cases hD
    have free : H D = none := by
      cases e : H D with
      | none => rfl
      | some o =>
        rw [bt1 _ _ nD e] at hD
        cases hD
    refine lc_range (lo := 0) (n := r) (fun i H' => But p H H' ∧ BagAt H' p (n + 1 + 3 * (i : Nat)) ∧ ∃ cs, H' D = some (.lst (intL cs)) ∧ Good cs ∧ cs.length = i)
      ⟨bt1.trans (But.of (same_new hD)), (hb1.same (same_new hD)).le (by omega), [], upd_same, (fun _ m => by cases m), rfl⟩ ?_ ?_
    · rintro i H2 hi ⟨bt2, hb2, cs, hl, gd, el⟩
      refine ⟨rfl, ?_⟩
      refine ⟨_, rfl, p, _, rfl, hb2, by omega, fun c H3 gc hb3 bt3 => ?_⟩
      refine ⟨_, bt3 _ _ nD hl, ?_, ?_⟩
      · rw [intL_len]
        have : sizeLine = 16777216 := sizeLine_eq
        omega
      · refine ⟨fun b o nb e => ?_, ?_, cs ++ [c], ?_, ?_, by rw [List.length_append, el]; rfl⟩
        · rw [upd_ne (fun z => by rw [z, free] at e; cases e)]
          exact bt3 _ _ nb (bt2 _ _ nb e)
        · obtain ⟨b0, b1, b2, e, r1, r2, r3, r4, r5⟩ := hb3
          exact ⟨b0, b1, b2, by rw [upd_ne (Ne.symm nD)]; exact e, r1, r2, r3, r4, by omega⟩
        · rw [upd_same]
          simp [intL]
        · intro z m
          rcases List.mem_append.mp m with m | m
          · exact gd z m
          · rw [List.mem_singleton.mp m]
            exact gc
    · rintro H2 ⟨bt2, hb2, cs, hl, gd, el⟩
      exact q D H2 cs free bt2 (hb2.le (by omega)) hl gd (by omega)
theorem ok_lwidth (T : Txt K mg A) : FnOk P w K mg base CX0 1 A.a_l_width A.d_l_width ["_law_char_here", "_law_kind"] spLWidth := by
  refine T.F_l_width.ok sc_l_width (fun vs H Q E h => ?_) (fun cdv A' outer s H vs Q E hr h => ?_)
  · obtain ⟨c, k, rfl, _⟩ := h
    rfl
  · obtain ⟨c, k, rfl, hk, q⟩ := h
    refine ⟨_, (pss_cons (ps_if (pt_cmpR op_eq (pv 1) pe_str (nomark _)) (pss_one (ps_ret pe_int)) pss_nil) (pss_cons (ps_if (pt_cmpR op_eq (pv 1) pe_str (nomark _)) (pss_one (ps_ret (pe_ifExp (pt_cmpR op_lt (pv 0) pe_int (nomark _)) pe_int pe_int))) pss_nil) (pss_one (ps_ret (pe_ix ix_list (pe_lst (pa_cons pe_int (pa_cons pe_int (pa_cons pe_int (pa_cons pe_int pa_nil))))) (pe_op op_add (pe_op op_add (pe_callTy call_int1 (by rfl) T.z_int (by decide +kernel) (pa_cons (pe_cmpR op_lt (pv 0) pe_int (nomark _)) pa_nil)) (pe_callTy call_int1 (by rfl) T.z_int (by decide +kernel) (pa_cons (pe_cmpR op_lt (pv 0) pe_int (nomark _)) pa_nil))) (pe_callTy call_int1 (by rfl) T.z_int (by decide +kernel) (pa_cons (pe_cmpR op_lt (pv 0) pe_int (nomark _)) pa_nil))) (fun _ _ => rfl)))))), ?_⟩
    refine ⟨_, rfl, rfl, _, rfl, ?_⟩
    refine ite2 (fun e => ?_) (fun e1 => ?_)
    · have ek : k = "chars" := V.str.inj (of_decide_eq_true e)
      have z : widthOf c k = 1 := by
        rw [ek]
        unfold widthOf
        rw [if_neg (by decide +kernel), if_neg (by decide +kernel)]
      have q := q H (Same.refl H)
      rw [z] at q
      exact q
    refine ⟨_, rfl, rfl, _, rfl, ?_⟩
    refine ite2 (fun e => ?_) (fun e2 => ?_)
    · have ek : k = "units" := V.str.inj (of_decide_eq_true e)
      have z : widthOf c k = unitsN c := by
        rw [ek]
        unfold widthOf
        rw [if_neg (by decide +kernel), if_pos rfl]
      have q := q H (Same.refl H)
      rw [z] at q
      refine ⟨_, rfl, _, _, rfl, rfl, _, rfl, ?_⟩
      refine ite2 (fun e3 => ?_) (fun e3 => ?_)
      · have y : unitsN c = 1 := if_pos (of_decide_eq_true e3)
        rw [y] at q
        exact q
      · have y : unitsN c = 2 := if_neg fun y => e3 (decide_eq_true y)
        rw [y] at q
        exact q
    have ek : k = "bytes" := by
      rcases hk with h | h | h
      · exact h
      · exact absurd (decide_eq_true (congrArg V.str h)) e2
      · exact absurd (decide_eq_true (congrArg V.str h)) e1
    have z : widthOf c k = bytesN c := by
      rw [ek]
      exact if_pos rfl
    rw [z] at q
    refine ⟨(by show 4 ≤ sizeLine; decide), fun l hl => ?_⟩
    refine ⟨_, rfl, _, _, rfl, rfl, .inr ⟨_, rfl, _, rfl, _, _, rfl, rfl, .inr ⟨_, rfl, _, _, rfl, rfl, _, rfl, _, _, rfl, rfl, .inr ⟨_, rfl, _, _, rfl, rfl, ?_⟩⟩⟩⟩
    exact ⟨l, _, _, _, rfl, rfl, SqL.of upd_same, law_place c, q _ (same_new hl)⟩
theorem ok_lnumbers (T : Txt K mg A) : FnOk P w K mg base CX0 2 A.a_l_numbers A.d_l_numbers ["_law_row", "_law_kind"] (spNumbers K) := by
  have G_l_width : FnOk P w K mg base CX0 1 A.a_l_width A.d_l_width ["_law_char_here", "_law_kind"] spLWidth := ok_lwidth T
  refine T.F_l_numbers.ok sc_l_numbers (fun vs H Q E h => ?_) (fun cdv A' outer s H vs Q E hr h => ?_)
  · obtain ⟨a, k, cs, rfl, _⟩ := h
    rfl
  · obtain ⟨a, k, cs, rfl, ha, hk, sz, q⟩ := h
    refine ⟨_, (pss_cons (ps_set (i := 2) sc_l_numbers.nd rfl (Or.inl rfl) (pe_lst (pa_cons pe_int pa_nil))) (pss_cons (ps_for PassesOwn.never rfl (pi_list (pv 0)) (pg_name (i := 3) sc_l_numbers.nd rfl (Or.inl rfl)) (pss_one (ps_expr (pe_bm PySem.F.plainAttrs_list PySem.F.slot_list_append PySem.F.type_list_append mt_append (pv 2) (pa_cons (pe_op op_add (pe_ix ix_list (pv 2) (pe_un un_neg pe_int) (fun _ _ => rfl)) (pe_call G_l_width (hr.mono (by decide)) (by rfl) T.g_l_width T.F_l_width.kp T.b_l_width .nil pass0 (pa_cons (pv 3) (pa_cons (pv 1) pa_nil)))) pa_nil))))) (pss_one (ps_ret (pv 2))))), ?_⟩
    refine ⟨(by show 1 ≤ sizeLine; decide), fun l hl => ?_⟩
    have s1 := same_new (o := .lst [V.int 0]) hl
    refine ⟨_, rfl, a, rfl, ⟨_, SqL.ext ha s1⟩, for_list (K := K) (a := a) (xs := intL cs)
      (fun i σ H' => ∃ (v : Option V) (pre : List Int), σ = [some (.ref a), some (.str k), some (.ref l), v] ∧ Same H H' ∧ pre.length = i ∧ H' l = some (.lst (intL (pre ++ [total k (cs.take i)]))))
      ⟨none, [], rfl, s1, rfl, upd_same⟩ (fun i σ H' _ ⟨_, _, _, sm, _⟩ => SqL.ext ha sm) ?_ ?_⟩
    · rintro i x σ H' hx ⟨v, pre, rfl, sm, el, hl1⟩
      obtain ⟨c, hc, rfl⟩ := intL_get hx
      refine ⟨_, rfl, ?_⟩
      refine ⟨.inl ⟨rfl, _, SqL.of hl1⟩, _, rfl, _, rfl, l, _, _, _, rfl, rfl, SqL.of hl1, (by rw [show intL (pre ++ [total k (List.take i cs)]) = intL pre ++ [V.int (total k (List.take i cs))] by simp [intL]]; exact atI_last _ _), _, rfl, _, rfl, c, k, rfl, hk, fun H2 s2 => ?_⟩
      refine ⟨_, _, rfl, rfl, l, _, _, rfl, rfl, s2 _ _ hl1, ?_, ?_⟩
      · rw [intL_len, List.length_append, el]
        have : sizeLine = 16777216 := sizeLine_eq
        have : i < cs.length := by
          have := (List.getElem?_eq_some_iff.mp hc).1
          exact this
        show i + 1 < sizeLine
        omega
      · refine ⟨some (.int c), pre ++ [total k (cs.take i)], rfl, fun b o e => ?_, by rw [List.length_append, el]; rfl, ?_⟩
        · rw [upd_ne (fun z => by rw [z, hl] at e; cases e)]
          exact s2 _ _ (sm _ _ e)
        · rw [upd_same]
          have e : cs.take (i + 1) = cs.take i ++ [c] := by rw [List.take_add_one, hc]; rfl
          rw [e, total_append]
          simp [intL]
    · rintro σ H' ⟨v, pre, rfl, sm, el, hl1⟩
      rw [intL_len, List.take_length] at hl1
      exact ⟨_, rfl, q l H' pre hl sm hl1⟩
end
end Tc

/-! # K5F -/
namespace Tc
open PySem PySem.Spec PyProof.Rows L2
/-! ## what a door tells of its refusal -/
def spCaught (A : Ads) (K : PySem.W.Frag) : Sp := fun vs H Q _ => ∃ (n : Int) (tx x y : V), vs = [.int n, tx, x, y] ∧ (∃ t, Ty A.C_Text H x t) ∧ (∃ t, Ty A.C_Text H y t) ∧
  ((∃ (p : Addr) (cs : List Int), tx = .ref p ∧ TextAt A.C_Text H p cs ∧ Good cs ∧
      ((n = 0 ∧ inB x 0 (cs.length - 1) = false ∧ Gives H [.str "place", x] Q) ∨
       (n = 1 ∧ inB x 0 cs.length = false ∧ Gives H [.str "place", x] Q) ∨
       (n = 1 ∧ ∃ i : Nat, x = .int i ∧ i ≤ cs.length ∧ inB y i cs.length = false ∧ Gives H [.str "place", y] Q) ∨
       (n = 2 ∧ kdB x = false ∧ Gives H [.str "kind", x] Q))) ∨
   (n = 3 ∧ ((¬ Lsq H x ∧ Gives H [.str "chars", x] Q) ∨
      ∃ (xs : List V) (i : Nat) (b : V), Seq K A.C_Text H x xs ∧ xs[i]? = some b ∧ (∀ (j : Nat) (z : V), j < i → xs[j]? = some z → chB z = true) ∧ chB b = false ∧ Gives H [.str "char", b] Q)))
theorem fld (v : V) : List.lookup ("value" : Str) [(("value" : Str), v)] = some v := by simp [List.lookup]
theorem fldN (v : V) : List.lookup ("number" : Str) [(("number" : Str), v)] = some v := by simp [List.lookup]
theorem inB_in {i : Int} {lo hi : Int} (h1 : lo ≤ i) (h2 : i ≤ hi) : inB (.int i) lo hi = true := by
  show (decide (lo ≤ i) && decide (i ≤ hi)) = true
  rw [decide_eq_true h1, decide_eq_true h2]
  rfl
section
variable {P : Program} {w : World} {K : PySem.W.Frag} {mg : Str → Option Value} {base : Heap} {A : Ads}
def cls (A : Ads) : List (Value × Nat × Suite) :=
  [(.ref A.C_BadPlace, 4, fun a cl d => tRet (tLst (tCons (tC (.str "place")) (tCons (tXf a cl d A.C_BadPlace "number" (tVar 4)) tNil)))),
   (.ref A.C_InvalidKind, 4, fun a cl d => tRet (tLst (tCons (tC (.str "kind")) (tCons (tXf a cl d A.C_InvalidKind "value" (tVar 4)) tNil)))),
   (.ref A.C_InvalidChars, 4, fun a cl d => tRet (tLst (tCons (tC (.str "chars")) (tCons (tXf a cl d A.C_InvalidChars "value" (tVar 4)) tNil)))),
   (.ref A.C_InvalidChar, 4, fun a cl d => tRet (tLst (tCons (tC (.str "char")) (tCons (tXf a cl d A.C_InvalidChar "value" (tVar 4)) tNil))))]
section
variable {D : Ends} {Q : VK} {s0 s1 s2 s3 : Option V} {H : Hp} {x : V}
theorem th_place (T : Txt K mg A) (eD : D.rt = Q) (q : Gives H [.str "place", x] Q) : Thrown A.C_BadPlace "number" x H (WE (wCl K (fun _ _ _ _ => False) D (cls A)) [s0, s1, s2, s3, none]) := by
  intro d H' sm hd
  refine ⟨true, T.e_BadPlace_BadPlace, fun _ a ha => ?_, fun z => Bool.noConfusion z⟩
  refine ⟨_, rfl, rfl, rfl, d, _, x, rfl, hd, fldN x, (by show 2 ≤ sizeLine; decide), fun p hp => ?_⟩
  show D.rt _ _
  rw [eD]
  exact q p _ (sm.free hp) (sm.trans (same_new hp)) upd_same
theorem th_kind (T : Txt K mg A) (eD : D.rt = Q) (q : Gives H [.str "kind", x] Q) : Thrown A.C_InvalidKind "value" x H (WE (wCl K (fun _ _ _ _ => False) D (cls A)) [s0, s1, s2, s3, none]) := by
  intro d H' sm hd
  refine ⟨false, T.e_InvalidKind_BadPlace, fun z => Bool.noConfusion z, fun _ => ⟨true, T.e_InvalidKind_InvalidKind, fun _ a ha => ?_, fun z => Bool.noConfusion z⟩⟩
  refine ⟨_, rfl, rfl, rfl, d, _, x, rfl, hd, fld x, (by show 2 ≤ sizeLine; decide), fun p hp => ?_⟩
  show D.rt _ _
  rw [eD]
  exact q p _ (sm.free hp) (sm.trans (same_new hp)) upd_same
theorem th_chars (T : Txt K mg A) (eD : D.rt = Q) (q : Gives H [.str "chars", x] Q) : Thrown A.C_InvalidChars "value" x H (WE (wCl K (fun _ _ _ _ => False) D (cls A)) [s0, s1, s2, s3, none]) := by
  intro d H' sm hd
  refine ⟨false, T.e_InvalidChars_BadPlace, fun z => Bool.noConfusion z, fun _ => ⟨false, T.e_InvalidChars_InvalidKind, fun z => Bool.noConfusion z, fun _ => ⟨true, T.e_InvalidChars_InvalidChars, fun _ a ha => ?_, fun z => Bool.noConfusion z⟩⟩⟩
  refine ⟨_, rfl, rfl, rfl, d, _, x, rfl, hd, fld x, (by show 2 ≤ sizeLine; decide), fun p hp => ?_⟩
  show D.rt _ _
  rw [eD]
  exact q p _ (sm.free hp) (sm.trans (same_new hp)) upd_same
theorem th_char (T : Txt K mg A) (eD : D.rt = Q) (q : Gives H [.str "char", x] Q) : Thrown A.C_InvalidChar "value" x H (WE (wCl K (fun _ _ _ _ => False) D (cls A)) [s0, s1, s2, s3, none]) := by
  intro d H' sm hd
  refine ⟨false, T.e_InvalidChar_BadPlace, fun z => Bool.noConfusion z, fun _ => ⟨false, T.e_InvalidChar_InvalidKind, fun z => Bool.noConfusion z, fun _ => ⟨false, T.e_InvalidChar_InvalidChars, fun z => Bool.noConfusion z, fun _ => ⟨true, T.e_InvalidChar_InvalidChar, fun _ a ha => ?_, fun z => Bool.noConfusion z⟩⟩⟩⟩
  refine ⟨_, rfl, rfl, rfl, d, _, x, rfl, hd, fld x, (by show 2 ≤ sizeLine; decide), fun p hp => ?_⟩
  show D.rt _ _
  rw [eD]
  exact q p _ (sm.free hp) (sm.trans (same_new hp)) upd_same
end
theorem ok_caught (T : Txt K mg A) : FnOk P w K mg base CX0 9 A.a_l_caught A.d_l_caught ["_law_door", "_law_text", "_law_one", "_law_other"] (spCaught A K) := by
  have G_item : FnOk P w K mg base (L2.CX P w) 3 A.a_Text_getitem A.d_Text_getitem ["self", "index"] (spItem A.C_Text A.C_BadPlace) := ok_Text_getitem T
  have G_part : FnOk P w K mg base (L2.CX P w) 8 A.a_Text_part A.d_Text_part ["self", "start", "end"] (spPart A.C_Text A.C_BadPlace) := ok_Text_part T
  have G_count : FnOk P w K mg base (L2.CX P w) 4 A.a_Text_count A.d_Text_count ["self", "kind"] (spCount A.C_Text A.C_InvalidKind) := ok_Text_count T
  have G_init : FnOk P w K mg base (L2.CX P w) 6 A.a_Text_init A.d_Text_init ["self", "chars"] (spText A K) := ok_Text_init T
  refine T.F_l_caught.ok sc_l_caught (fun vs H Q E h => ?_) (fun cdv A' outer s H vs Q E hr h => ?_)
  · obtain ⟨n, tx, x, y, rfl, _⟩ := h
    rfl
  · obtain ⟨n, tx, x, y, rfl, hx, hy, hq⟩ := h
    refine ⟨_, pss_one (ps_try_names (l := cls A) (tb := fun W =>
      tSeq (tIfS (tTest (tOp rEq (tVar 0) (tC (.int 0)))) (tRet (tLst (tCons (tC (.str "told")) (tCons (tIxO A.C_Text (spItem A.C_Text A.C_BadPlace) (WE W) (tVar 1) (tVar 2)) tNil)))) tNext)
       (tSeq (tIfS (tTest (tOp rEq (tVar 0) (tC (.int 1)))) (tRet (tLst (tCons (tC (.str "told")) (tCons (tMethS A.C_Text "part" (spPart A.C_Text A.C_BadPlace) (WE W) (tVar 1) (tCons (tVar 2) (tCons (tVar 3) tNil))) tNil)))) tNext)
         (tRet (tLst (tCons (tC (.str "told")) (tCons (tIf (tTest (tOp rEq (tVar 0) (tC (.int 2)))) (tMethS A.C_Text "count" (spCount A.C_Text A.C_InvalidKind) (WE W) (tVar 1) (tCons (tVar 2) tNil)) (tMakeS A.C_Text (spText A K) (WE W) (tCons (tVar 2) tNil))) tNil)))))) rfl rfl takes0
      (fun W pn xe tk _ => pss_cons (ps_if (pt_cmpR op_eq (pv 0) pe_int (nomark _)) (pss_one (ps_ret (pe_lst (pa_cons pe_str (pa_cons (by exact (pe_ixO T.o_getitem T.fn_getitem G_item (hr.mono (by decide)) T.b_Text_getitem (fun σ => passAt tk σ) (pv 1) (pv 2))) pa_nil))))) pss_nil)
        (pss_cons (ps_if (pt_cmpR op_eq (pv 0) pe_int (nomark _)) (pss_one (ps_ret (pe_lst (pa_cons pe_str (pa_cons (by exact (pe_methS (pv 1) T.cl T.m_part G_part hr T.b_Text_part (fun σ => passAt tk σ) (by exact (pa_cons (pv 2) (pa_cons (pv 3) pa_nil))))) pa_nil))))) pss_nil)
          (pss_one (ps_ret (pe_lst (pa_cons pe_str (pa_cons (pe_ifExp (pt_cmpR op_eq (pv 0) pe_int (nomark _))
            (by exact (pe_methS (pv 1) T.cl T.m_count G_count (hr.mono (by decide)) T.b_Text_count (fun σ => passAt tk σ) (by exact (pa_cons (pv 2) pa_nil))))
            (by exact (pe_makeS T.k_Text G_init (hr.mono (by decide)) rfl T.g_Text T.b_Text_init (fun σ => passAt tk σ) (by exact (pa_cons (pv 2) pa_nil))))) pa_nil)))))))
      (ClOk.co sc_l_caught.nd rfl rfl ⟨rfl, by decide, .inl T.g_BadPlace⟩
        (fun a ob cl d pn hz hf => pss_one (ps_ret (pe_lst (pa_cons pe_str (pa_cons (by exact (pe_xf T.f_BadPlace T.v_BadPlace hz hf (pv 4))) pa_nil)))))
      (ClOk.co sc_l_caught.nd rfl rfl ⟨rfl, by decide, .inl T.g_InvalidKind⟩
        (fun a ob cl d pn hz hf => pss_one (ps_ret (pe_lst (pa_cons pe_str (pa_cons (by exact (pe_xf T.f_InvalidKind T.v_InvalidKind hz hf (pv 4))) pa_nil)))))
      (ClOk.co sc_l_caught.nd rfl rfl ⟨rfl, by decide, .inl T.g_InvalidChars⟩
        (fun a ob cl d pn hz hf => pss_one (ps_ret (pe_lst (pa_cons pe_str (pa_cons (by exact (pe_xf T.f_InvalidChars T.v_InvalidChars hz hf (pv 4))) pa_nil)))))
      (ClOk.co sc_l_caught.nd rfl rfl ⟨rfl, by decide, .inl T.g_InvalidChar⟩
        (fun a ob cl d pn hz hf => pss_one (ps_ret (pe_lst (pa_cons pe_str (pa_cons (by exact (pe_xf T.f_InvalidChar T.v_InvalidChar hz hf (pv 4))) pa_nil)))))
      ClOk.no))))), ?_⟩
    have tt : ∀ {i j : Int}, decide (V.int i = V.int j) = true → i = j := fun e => V.int.inj (of_decide_eq_true e)
    refine ⟨_, rfl, rfl, _, rfl, ?_⟩
    refine ite2 (fun e => ?_) (fun e0 => ?_)
    · have en : n = 0 := tt e
      rcases hq with ⟨p, cs, rfl, ht, gd, ⟨_, hb, q⟩ | ⟨z, _⟩ | ⟨z, _⟩ | ⟨z, _⟩⟩ | ⟨z, _⟩
      · have ht0 := ht
        obtain ⟨dx, t, hp, _, _⟩ := ht0
        exact ⟨_, rfl, _, rfl, p, dx, _, rfl, hp, p, cs, x, rfl, ht, hx, fun _ => th_place T rfl q, fun yes => by rw [hb] at yes; cases yes⟩
      all_goals omega
    have n0 : ¬ n = 0 := fun z => e0 (decide_eq_true (congrArg V.int z))
    refine ⟨_, rfl, rfl, _, rfl, ?_⟩
    refine ite2 (fun e => ?_) (fun e1 => ?_)
    · have en : n = 1 := tt e
      rcases hq with ⟨p, cs, rfl, ht, gd, ⟨z, _⟩ | ⟨_, hb, q⟩ | ⟨_, i, rfl, hi, hb, q⟩ | ⟨z, _⟩⟩ | ⟨z, _⟩
      · omega
      · have ht0 := ht
        obtain ⟨dx, t, hp, _, _⟩ := ht0
        refine ⟨_, rfl, p, dx, _, rfl, hp, fpn _ _ (by decide +kernel), _, rfl, _, rfl, p, cs, x, y, rfl, ht, gd, hx, hy, fun _ => th_place T rfl q, fun i ei hi => ?_⟩
        subst ei
        rw [inB_in (by omega) (by omega)] at hb
        cases hb
      · have ht0 := ht
        obtain ⟨dx, t, hp, _, _⟩ := ht0
        refine ⟨_, rfl, p, dx, _, rfl, hp, fpn _ _ (by decide +kernel), _, rfl, _, rfl, p, cs, _, y, rfl, ht, gd, hx, hy, fun no => ?_, fun i' ei hi' => ?_⟩
        · rw [inB_in (by omega) (by omega)] at no
          cases no
        · have : i' = i := by
            have := V.int.inj ei
            omega
          subst this
          refine ⟨fun _ => th_place T rfl q, fun yes => ?_⟩
          rw [hb] at yes
          cases yes
      all_goals omega
    have n1 : ¬ n = 1 := fun z => e1 (decide_eq_true (congrArg V.int z))
    refine ⟨_, rfl, rfl, _, rfl, ?_⟩
    refine ite2 (fun e => ?_) (fun e2 => ?_)
    · have en : n = 2 := tt e
      rcases hq with ⟨p, cs, rfl, ht, gd, ⟨z, _⟩ | ⟨z, _⟩ | ⟨z, _⟩ | ⟨_, hb, q⟩⟩ | ⟨z, _⟩
      · omega
      · omega
      · omega
      · have ht0 := ht
        obtain ⟨dx, t, hp, _, _⟩ := ht0
        exact ⟨_, rfl, p, dx, _, rfl, hp, fpn _ _ (by decide +kernel), _, rfl, p, cs, x, rfl, ht, hx, fun _ => th_kind T rfl q, fun yes => by rw [hb] at yes; cases yes⟩
      · omega
    have n2 : ¬ n = 2 := fun z => e2 (decide_eq_true (congrArg V.int z))
    rcases hq with ⟨p, cs, rfl, ht, gd, ⟨z, _⟩ | ⟨z, _⟩ | ⟨z, _⟩ | ⟨z, _⟩⟩ | ⟨_, ⟨no, q⟩ | ⟨xs, i, b, sq, hb, hj, eb, q⟩⟩
    · omega
    · omega
    · omega
    · omega
    · refine ⟨_, rfl, fun x1 dx h1 h2 h3 => ?_⟩
      exact made_no (K := K) hx no (th_chars (D := { nx := fun _ H' => Q .non H', rt := Q }) T rfl q) x1 dx h1 h2 h3
    · refine ⟨_, rfl, fun x1 dx h1 h2 h3 => ?_⟩
      exact made_bad (K := K) sq hb hj eb (th_char (D := { nx := fun _ H' => Q .non H', rt := Q }) T rfl q) x1 dx h1 h2 h3
end
end Tc

/-! # K5G -/
namespace Tc
open PySem PySem.Spec PyProof.Rows L2
/-! ## repr by an own method; a list in an f-string -/
section
variable {X : Cx} {CX : CXT} {k : Nat} {f C : Addr} {fd : FuncData} {ps : List Str} {sp : Sp}
def rReprO (C : Addr) (sp : Sp) : List V → Hp → VK → Prop := fun xs H Q => ∃ (p dx : Addr) (fs : List (Str × V)), xs = [.ref p] ∧ H p = some (.ins C dx fs) ∧ sp [.ref p] H (fun v H' => ∃ z : Str, v = .str z ∧ Q (.str z) H') E0
theorem call_reprO (S : Spc X.K C "__repr__" f) (F : FnG X.prog X.w X.K X.mg X.base CX k f fd ps sp) (hgd : X.A.guards = some []) (hr : Room (k + 1) X.A) (hb : Binds X.K fd ps []) (hx : ∀ σ, PassesAt CX X σ E0) : CallR X (.builtin "repr") (rReprO C sp) := by
  intro pins s σ H xs us Q I r h
  obtain ⟨p, dx, fs, rfl, hp, q⟩ := h
  obtain ⟨u, rfl, ru⟩ := vals1 r
  obtain rfl : u = Value.ref p := ru
  obtain ⟨od, J⟩ := inst_at I hp
  obtain ⟨m, fr⟩ := I.fr
  refine PySem.W.repr_K hr.in1.units0 fr I.ok.mod.kin J S.at_ S.fn (thn (run_atG (A := X.A.in1) (vs := [.ref p]) rfl hgd hr.in1 F hb (hx σ) I (.cons rfl .nil) q) fun v s' z => ?_)
  obtain ⟨y, H', I', ry, n, rfl, q'⟩ := z
  obtain ⟨tk, rfl⟩ := (show ∃ t, v = Value.str n t from ry)
  exact ⟨.str n, H', I', ⟨_, rfl⟩, q'⟩
/-- {e}: a list of data -/
def tFmtQ (K : PySem.W.Frag) (te : TE) : TE := fun σ H Q => te σ H fun x H1 => ∃ (a : Addr) (d : PyData), x = .ref a ∧ Dq K H1 (.ref a) d ∧ d.showable = true ∧ d.depth ≤ 8 ∧ d.shown.length ≤ sizeLine ∧ Q (.str d.shown) H1
theorem pe_fmtQ {e : Expr} {te : TE} {pos : Pos} (hg : X.A.guards = some []) (hu : X.A.units + 64 < cLine) (hS : SysD X.base) (he : PE X e te) : PE X (.FormattedValue e (-1) none pos) (tFmtQ X.K te) := by
  refine ⟨fun pins s σ H Q I h => ?_⟩
  refine wpAny_FormattedValue_plain (thn (he.run pins s σ H _ I h) fun v s1 ⟨x, H1, I1, r1, a, d, ex, hd, sh, dp, sz, q⟩ => ?_)
  subst ex
  obtain ⟨as, rd, ns⟩ := Dq.reads I1 (let ⟨mm, z⟩ := hS; ⟨mm, z.keeps I1.bk⟩) d _ _ hd r1
  obtain rfl : v = Value.ref a := r1
  exact formatField_of_reads rd sh (fun _ => ns) hg (by omega) (fun _ _ e => e) (fun h' u tk kp => ⟨.str _, H1, I1.kept kp, ⟨_, rfl⟩, q⟩) sz
end
/-! ## what is shown of lists of small whole numbers -/
def Small (l : List Int) : Prop := (∀ z ∈ l, 0 ≤ z ∧ z < 2000000) ∧ l.length < 5000
def iData (l : List Int) : List PyData := l.map PyData.int
theorem Good.small {l : List Int} (h : Good l) (n : l.length < 5000) : Small l := by
  refine ⟨fun z m => ?_, n⟩
  have e : (decide (0 ≤ z) && decide (z ≤ 1114111) && !(decide (55296 ≤ z) && decide (z ≤ 57343))) = true := h z m
  simp only [Bool.and_eq_true, decide_eq_true_eq] at e
  omega
theorem canLay_ints : ∀ l : List Int, PyData.canLayAll0 (iData l) = true
  | [] => by simp [iData, PyData.canLayAll0]
  | c :: l => by
    have := canLay_ints l
    simp only [iData, List.map_cons, PyData.canLayAll0, PyData.canLay0, Bool.true_and]
    exact this
theorem depth_ints : ∀ l : List Int, PyData.depthAll (iData l) = 0
  | [] => by simp [iData, PyData.depthAll]
  | c :: l => by
    have := depth_ints l
    simp only [iData, List.map_cons, PyData.depthAll, PyData.depth]
    rw [show PyData.depthAll (List.map PyData.int l) = 0 from this]
    rfl
theorem weight_int {z : Int} (h : 0 ≤ z ∧ z < 2000000) : PyData.weight (.int z) ≤ 21 := by
  simp only [PyData.weight]
  split
  · omega
  · rename_i hz
    have hz' : z.natAbs ≠ 0 := by
      intro y
      apply hz
      have : z = 0 := by omega
      rw [this]
      rfl
    have : z.natAbs.log2 < 21 := (Nat.log2_lt hz').mpr (by omega)
    omega
theorem weight_ints : ∀ l : List Int, (∀ z ∈ l, 0 ≤ z ∧ z < 2000000) → PyData.weightAll (iData l) ≤ 22 * l.length
  | [], _ => by simp [iData, PyData.weightAll]
  | c :: l, h => by
    have h1 := weight_ints l fun z m => h z (List.mem_cons_of_mem _ m)
    have h2 := weight_int (h c List.mem_cons_self)
    simp only [iData, List.map_cons, PyData.weightAll, List.length_cons]
    have h1' : PyData.weightAll (List.map PyData.int l) ≤ 22 * l.length := h1
    omega
theorem showable_ints : ∀ l : List Int, (∀ z ∈ l, 0 ≤ z ∧ z < 2000000) → PyData.showableAll (iData l) = true
  | [], _ => by simp [iData, PyData.showableAll]
  | c :: l, h => by
    have h1 := showable_ints l fun z m => h z (List.mem_cons_of_mem _ m)
    have h2 := h c List.mem_cons_self
    simp only [iData, List.map_cons, PyData.showableAll, PyData.showable, Bool.and_eq_true, decide_eq_true_eq]
    refine ⟨?_, h1⟩
    by_cases z0 : c.natAbs = 0
    · rw [z0]
      decide
    · have : c.natAbs.log2 < 21 := (Nat.log2_lt z0).mpr (by omega)
      omega
def Fit (d : PyData) : Prop := d.showable = true ∧ d.depth ≤ 8 ∧ d.shown.length ≤ 15728653
theorem short_iData {l : List Int} (h : ∀ z ∈ l, 0 ≤ z ∧ z < 2000000) : PyData.intsShortAll 13 (iData l) = true := PyData.intsShortAll_ints l fun n m => by
  have := h n m
  omega
theorem short_int {z : Int} (h : 0 ≤ z ∧ z < 2000000) : PyData.intsShort 13 (.int z) = true := by
  have := short_iData (l := [z]) fun n m => by rw [List.mem_singleton.mp m]; exact h
  simpa [iData, PyData.intsShortAll] using this
theorem layable {d : PyData} (h1 : d.canLay0 = true) (h2 : d.depth ≤ 64) (h3 : d.weight ≤ 2 ^ 20) : d.layable0 = true := by
  unfold PyData.layable0
  rw [h1, decide_eq_true h2, decide_eq_true h3]
  rfl
theorem fit_ints {l : List Int} (h : Small l) : Fit (.list (iData l)) := by
  have w := weight_ints l h.1
  have hn := h.2
  have dl : (PyData.list (iData l)).depth = 1 := by simp only [PyData.depth]; rw [depth_ints]
  have wl : (PyData.list (iData l)).weight = PyData.weightAll (iData l) := by simp only [PyData.weight]
  refine ⟨?_, by omega, PyData.shown_le_of_layable0 (layable ?_ (by omega) (by rw [wl]; omega)) ?_⟩
  · simp only [PyData.showable]
    exact showable_ints l h.1
  · simp only [PyData.canLay0]
    exact canLay_ints l
  · simp only [PyData.intsShort]
    exact short_iData h.1
theorem fit_nest {l : List Int} (h : Small l) {n : Int} (hn : 0 ≤ n ∧ n < 2000000) : Fit (.list [.list (iData l), .int n]) := by
  have w := weight_ints l h.1
  have w2 := weight_int hn
  have hl := h.2
  have sh : PyData.showableAll (iData [n]) = true := showable_ints [n] fun z m => by rw [List.mem_singleton.mp m]; exact hn
  have dl : (PyData.list [PyData.list (iData l), PyData.int n]).depth = 2 := by
    simp only [PyData.depth, PyData.depthAll]
    rw [depth_ints]
    rfl
  have wl : (PyData.list [PyData.list (iData l), PyData.int n]).weight = PyData.weightAll (iData l) + (PyData.weight (.int n)) + 2 := by
    have e1 : ∀ ds : List PyData, (PyData.list ds).weight = PyData.weightAll ds := fun ds => by simp only [PyData.weight]
    rw [e1]
    simp only [PyData.weightAll]
    rw [e1]
    omega
  refine ⟨?_, by omega, PyData.shown_le_of_layable0 (layable ?_ (by omega) (by rw [wl]; omega)) ?_⟩
  · simp only [PyData.showable, PyData.showableAll, Bool.and_eq_true]
    refine ⟨showable_ints l h.1, ?_⟩
    simpa [iData, PyData.showableAll, PyData.showable] using sh
  · simp only [PyData.canLay0, PyData.canLayAll0, Bool.and_true]
    exact canLay_ints l
  · simp only [PyData.intsShort, PyData.intsShortAll, Bool.and_eq_true, Bool.and_true]
    have s2 := short_int hn
    simp only [PyData.intsShort] at s2
    exact ⟨short_iData h.1, s2⟩
theorem Fit.line {d : PyData} (h : Fit d) : d.shown.length ≤ sizeLine := by
  have := h.2.2
  have : sizeLine = 16777216 := sizeLine_eq
  omega
theorem dq_ints {K : PySem.W.Frag} {H : Hp} : ∀ l : List Int, DqA K H (intL l) (iData l)
  | [] => .no
  | c :: l => .co (.it c) (dq_ints l)
def reprOf (cs : List Int) : Str := (("" : Str) ++ ("Text(" : Str) ++ (PyData.list (iData cs)).shown) ++ (")" : Str)
def spRepr (C : Addr) : Sp := fun vs H Q _ => ∃ (p : Addr) (cs : List Int), vs = [.ref p] ∧ TextAt C H p cs ∧ Small cs ∧ ∀ H', Same H H' → Q (.str (reprOf cs)) H'
section
variable {P : Program} {w : World} {K : PySem.W.Frag} {mg : Str → Option Value} {base : Heap} {A : Ads}
theorem ok_Text_repr (T : Txt K mg A) (sysb : SysD base) : FnG P w K mg base CX0 1 A.a_Text_repr A.d_Text_repr ["self"] (spRepr A.C_Text) := by
  refine okG T.F_Text_repr sc_Text_repr (fun vs H Q E h => ?_) (fun cdv A' outer s H vs Q E hgd hr h => ?_)
  · obtain ⟨p, cs, rfl, _⟩ := h
    rfl
  · obtain ⟨p, cs, rfl, ⟨dx, t, hp, ht, sz⟩, sm, q⟩ := h
    have ft := fit_ints sm
    have l0 : ("Text(" : Str).length = 5 := by decide +kernel
    have l1 : (")" : Str).length = 1 := by decide +kernel
    have l2 : ("" : Str).length = 0 := by decide +kernel
    have ls : sizeLine = 16777216 := sizeLine_eq
    have f3 := ft.2.2
    refine ⟨_, pss_one (ps_ret (pe_joined (.cons pe_str (.cons (pe_fmtQ hgd hr.units sysb (pe_callTy call_list_of (by rfl) T.z_list (by decide +kernel) (pa_cons (pe_fld (pv 0) rfl) pa_nil))) (.cons pe_str .nil))))), ?_⟩
    refine ⟨_, rfl, ?_, _, rfl, p, A.C_Text, dx, _, _, rfl, hp, T.cl, T.n_points, fp _, t, intL cs, rfl, .inr (SqT.of ht), fun l hl => ?_⟩
    · show (("" : Str) ++ ("Text(" : Str)).length ≤ sizeLine
      rw [strLen_append, l0, l2]
      omega
    · refine ⟨l, _, rfl, .li (SqL.of upd_same) (dq_ints cs), ft.1, ft.2.1, ft.line, _, rfl, ?_, _, rfl, ?_, q _ (same_new hl)⟩
      · show (("" : Str) ++ ("Text(" : Str) ++ (PyData.list (iData cs)).shown).length ≤ sizeLine
        rw [strLen_append, strLen_append, l0, l2]
        omega
      · show (("" : Str) ++ ("Text(" : Str) ++ (PyData.list (iData cs)).shown ++ (")" : Str)).length ≤ sizeLine
        rw [strLen_append, strLen_append, strLen_append, l0, l1, l2]
        omega
end
end Tc

/-! # K5H -/
namespace Tc
open PySem PySem.Spec PyProof.Rows L2
def kinds3 : List V := [.str "bytes", .str "units", .str "chars"]
def totals (cs : List Int) : List Int := [total "bytes" cs, total "units" cs, total "chars" cs]
theorem kinds_at (cs : List Int) {i : Nat} {x : V} (h : kinds3[i]? = some x) : ∃ k, x = .str k ∧ Kd k ∧ kdB x = true ∧ (totals cs).take (i + 1) = (totals cs).take i ++ [total k cs] ∧ i < 3 := by
  rcases i with _ | _ | _ | i
  · cases h
    exact ⟨_, rfl, .inl rfl, by decide +kernel, rfl, by decide⟩
  · cases h
    exact ⟨_, rfl, .inr (.inl rfl), by decide +kernel, rfl, by decide⟩
  · cases h
    exact ⟨_, rfl, .inr (.inr rfl), by decide +kernel, rfl, by decide⟩
  · simp [kinds3] at h
theorem totals_small {cs : List Int} (h : cs.length < 5000) : Small (totals cs) := by
  have b1 := total_bound "bytes" cs
  have b2 := total_bound "units" cs
  have b3 := total_bound "chars" cs
  refine ⟨fun z m => ?_, by show 3 < 5000; decide⟩
  simp only [totals, List.mem_cons, List.mem_nil_iff, or_false] at m
  rcases m with rfl | rfl | rfl <;> omega
theorem shapedL (l : List Int) : SeqAt.shaped (.list (iData l)) = true := by
  have dl : (PyData.list (iData l)).depth = 1 := by simp only [PyData.depth]; rw [depth_ints]
  unfold SeqAt.shaped
  rw [dl]
  simp only [PyData.canLay0]
  rw [canLay_ints]
  decide
def spTold (C : Addr) : Sp := fun vs H Q _ => ∃ (p a : Addr) (cs : List Int), vs = [.ref p, .ref a] ∧ TextAt C H p cs ∧ H a = some (.lst (intL cs)) ∧ Good cs ∧ cs.length < 5000 ∧ ∀ H', Same H H' → Q (.bl true) H'
section
variable {P : Program} {w : World} {K : PySem.W.Frag} {mg : Str → Option Value} {base : Heap} {A : Ads}
theorem ok_told (T : Txt K mg A) (sysb : SysD base) : FnG P w K mg base CX0 7 A.a_l_told_right A.d_l_told_right ["_law_text", "_law_chars_here"] (spTold A.C_Text) := by
  have G_l_numbers : FnOk P w K mg base CX0 2 A.a_l_numbers A.d_l_numbers ["_law_row", "_law_kind"] (spNumbers K) := ok_lnumbers T
  have G_Text_chars : FnOk P w K mg base CX0 1 A.a_Text_chars A.d_Text_chars ["self"] (spChars A.C_Text) := ok_Text_chars T
  have G_Text_count : FnOk P w K mg base (L2.CX P w) 4 A.a_Text_count A.d_Text_count ["self", "kind"] (spCount A.C_Text A.C_InvalidKind) := ok_Text_count T
  have G_Text_in_bytes : FnOk P w K mg base CX0 4 A.a_Text_in_bytes A.d_Text_in_bytes ["self"] (spIn A.C_Text "bytes") := ok_Text_in_bytes T
  have G_Text_in_units : FnOk P w K mg base CX0 4 A.a_Text_in_units A.d_Text_in_units ["self"] (spIn A.C_Text "units") := ok_Text_in_units T
  have G_Text_in_chars : FnOk P w K mg base CX0 1 A.a_Text_in_chars A.d_Text_in_chars ["self"] (spLen A.C_Text) := ok_Text_in_chars T
  have G_Text_len : FnOk P w K mg base CX0 1 A.a_Text_len A.d_Text_len ["self"] (spLen A.C_Text) := ok_Text_len T
  have G_Text_getitem : FnOk P w K mg base (L2.CX P w) 3 A.a_Text_getitem A.d_Text_getitem ["self", "index"] (spItem A.C_Text A.C_BadPlace) := ok_Text_getitem T
  have G_Text_repr : FnG P w K mg base CX0 1 A.a_Text_repr A.d_Text_repr ["self"] (spRepr A.C_Text) := ok_Text_repr T sysb
  refine okG T.F_l_told_right sc_l_told_right (fun vs H Q E h => ?_) (fun cdv A' outer s H vs Q E hgd hr h => ?_)
  · obtain ⟨p, a, cs, rfl, _⟩ := h
    rfl
  · obtain ⟨p, a, cs, rfl, ht, ha, good, sz, q⟩ := h
    have sl := sizeLine_eq
    refine ⟨_, PSs.nox (pss_cons (ps_setLc (i := 2) (own := [("_law_kind", 3)]) (g := gName 3) (by rfl) sc_l_told_right.nd rfl rfl (sw_true rfl rfl rfl (by decide +kernel)) (pi_tup (pe_tup (pa_cons pe_str (pa_cons pe_str (pa_cons pe_str pa_nil))))) (blkOk_by (own := [("_law_kind", 3)]) (N := ["_law_text", "_law_chars_here", "_law_counts", "_law_kind", "_law_turn", "_law_found", "_law_at"]) (sc := defScope s_l_told_right) (by decide +kernel)) (fun _ _ _ _ _ => pg_name (i := 3) sc_l_told_right.nd rfl (Or.inl rfl)) (fun _ _ _ _ _ => pts_nil) (fun _ _ _ _ _ => (pe_ix (r := rIxL K) ix_list (pe_call G_l_numbers (hr.mono (by decide)) (by rfl) T.g_l_numbers T.F_l_numbers.kp T.b_l_numbers .nil pass0 (pa_cons (pv 1) (pa_cons (pv 3) pa_nil))) (pe_un un_neg pe_int) (fun _ _ => rfl)))) (pss_cons (ps_for PassesOwn.never rfl (pi_range1 (by rfl) T.z_range (pa_cons pe_int pa_nil)) (pg_name (i := 4) sc_l_told_right.nd rfl (Or.inl rfl)) (pss_cons (ps_set (i := 5) sc_l_told_right.nd rfl (Or.inl rfl) (pe_meth0 (pv 0) T.cl T.m_chars G_Text_chars (hr.mono (by decide)) T.b_Text_chars .nil pass0)) (pss_cons (ps_if (pt_cmpR op_ne (pe_callB (call_reprQ hgd hr.units sysb) (by rfl) T.z_repr (by decide +kernel) (pa_cons (pe_lst (pa_cons (pv 5) (pa_cons (pe_callB (call_lenO T.o_len G_Text_len (hr.mono (by decide)) T.b_Text_len (fun _ => pass0S)) (by rfl) T.z_len (by decide +kernel) (pa_cons (pv 0) pa_nil)) pa_nil))) pa_nil)) (pe_callB (call_reprQ hgd hr.units sysb) (by rfl) T.z_repr (by decide +kernel) (pa_cons (pe_lst (pa_cons (pv 1) (pa_cons (pe_callB call_len (by rfl) T.z_len (by decide +kernel) (pa_cons (pv 1) pa_nil)) pa_nil))) pa_nil)) (nomark _)) (pss_one (ps_ret pe_bl)) pss_nil) (pss_cons (ps_if (pt_cmpR op_ne (pe_callB (call_reprQ hgd hr.units sysb) (by rfl) T.z_repr (by decide +kernel) (pa_cons (pe_lst (pa_cons (pe_prop (pv 0) T.cl T.p_in_bytes G_Text_in_bytes (hr.mono (by decide)) T.b_Text_in_bytes .nil pass0 (by rfl)) (pa_cons (pe_prop (pv 0) T.cl T.p_in_units G_Text_in_units (hr.mono (by decide)) T.b_Text_in_units .nil pass0 (by rfl)) (pa_cons (pe_prop (pv 0) T.cl T.p_in_chars G_Text_in_chars (hr.mono (by decide)) T.b_Text_in_chars .nil pass0 (by rfl)) pa_nil)))) pa_nil)) (pe_callB (call_reprQ hgd hr.units sysb) (by rfl) T.z_repr (by decide +kernel) (pa_cons (pv 2) pa_nil)) (nomark _)) (pss_one (ps_ret pe_bl)) pss_nil) (pss_cons (ps_if (pt_cmpR op_ne (pe_callB (call_reprQ hgd hr.units sysb) (by rfl) T.z_repr (by decide +kernel) (pa_cons (pe_lc (own := [("_law_kind", 3)]) (g := gName 3) (by rfl) sc_l_told_right.nd (pi_tup (pe_tup (pa_cons pe_str (pa_cons pe_str (pa_cons pe_str pa_nil))))) (blkOk_by (own := [("_law_kind", 3)]) (N := ["_law_text", "_law_chars_here", "_law_counts", "_law_kind", "_law_turn", "_law_found", "_law_at"]) (sc := defScope s_l_told_right) (by decide +kernel)) (fun _ _ _ _ _ => pg_name (i := 3) sc_l_told_right.nd rfl (Or.inl rfl)) (fun _ _ _ _ _ => pts_nil) (fun _ _ _ _ _ => (pe_meth (pv 0) T.cl T.m_count G_Text_count (hr.mono (by decide)) T.b_Text_count .nil passL (pa_cons (pv 3) pa_nil)))) pa_nil)) (pe_callB (call_reprQ hgd hr.units sysb) (by rfl) T.z_repr (by decide +kernel) (pa_cons (pv 2) pa_nil)) (nomark _)) (pss_one (ps_ret pe_bl)) pss_nil) (pss_one (ps_expr (pe_bm PySem.F.plainAttrs_list PySem.F.slot_list_append PySem.F.type_list_append mt_append (pv 5) (pa_cons pe_str pa_nil))))))))) (pss_one (ps_ret (pe_and (pe_cmpR (op_eqD hr.units) (pe_lc (own := [("_law_at", 6)]) (g := gName 6) (by rfl) sc_l_told_right.nd (pi_range1 (by rfl) T.z_range (pa_cons (pe_callB call_len (by rfl) T.z_len (by decide +kernel) (pa_cons (pv 1) pa_nil)) pa_nil)) (blkOk_by (own := [("_law_at", 6)]) (N := ["_law_text", "_law_chars_here", "_law_counts", "_law_kind", "_law_turn", "_law_found", "_law_at"]) (sc := defScope s_l_told_right) (by decide +kernel)) (fun _ _ _ _ _ => pg_name (i := 6) sc_l_told_right.nd rfl (Or.inl rfl)) (fun _ _ _ _ _ => pts_nil) (fun _ _ _ _ _ => (pe_ixO (E := fun _ => E0) T.o_getitem T.fn_getitem G_Text_getitem (hr.mono (by decide)) T.b_Text_getitem (fun _ => passLS) (pv 0) (pv 6)))) (pv 1) (nomark _)) (pe_one (pe_cmpR op_eq (pe_callB (call_reprO T.o_repr G_Text_repr hgd (hr.mono (by decide)) T.b_Text_repr (fun _ => pass0S)) (by rfl) T.z_repr (by decide +kernel) (pa_cons (pv 0) pa_nil)) (pe_callB (call_reprO T.o_repr G_Text_repr hgd (hr.mono (by decide)) T.b_Text_repr (fun _ => pass0S)) (by rfl) T.z_repr (by decide +kernel) (pa_cons (pv 0) pa_nil)) (nomark _)))))))), ?_⟩
    refine ⟨(by show 3 ≤ sizeLine; decide), fun tp htp => ⟨tp, rfl, ⟨_, SqT.of upd_same⟩, fun D hD => ?_⟩⟩
    have s1 := same_new (o := .tup kinds3) htp
    have freeD : H D = none := s1.free hD
    have h1 : (upd H tp (.tup kinds3)) tp = some (.tup kinds3) := upd_same
    refine lc_tup (K := K) (a := tp) (xs := kinds3) (fun i H' => Same H H' ∧ H' tp = some (.tup kinds3) ∧ H' D = some (.lst (intL ((totals cs).take i))))
      ⟨s1.trans (same_new hD), (same_new hD) _ _ h1, upd_same⟩ (fun i H' _ ⟨_, h, _⟩ => SqT.of h) ?_ ?_
    · rintro i x H' hx ⟨sm, hk, hl⟩
      obtain ⟨k, rfl, kd, _, tk, i3⟩ := kinds_at cs hx
      refine ⟨rfl, _, rfl, _, rfl, a, k, cs, rfl, SqL.of (sm _ _ ha), kd, by omega, fun l H2 pre hfl s2 hl2 => ?_⟩
      refine ⟨_, rfl, l, _, _, _, rfl, rfl, SqL.of hl2, (by rw [show intL (pre ++ [total k cs]) = intL pre ++ [V.int (total k cs)] by simp [intL]]; exact atI_last _ _), _, s2 _ _ hl, ?_, fun b o e => ?_, ?_, ?_⟩
      · rw [intL_len, List.length_take]
        omega
      · rw [upd_ne (fun z => by rw [z, freeD] at e; cases e)]
        exact s2 _ _ (sm _ _ e)
      · rw [upd_ne (fun z => by rw [z, hl] at hk; cases hk)]
        exact s2 _ _ hk
      · rw [upd_same, tk]
        simp [intL]
    · rintro H1 ⟨sm1, _, hc1⟩
      rw [show (totals cs).take kinds3.length = totals cs from rfl] at hc1
      have small := good.small sz
      have fn := fit_nest small (n := (cs.length : Nat)) ⟨by omega, by omega⟩
      have fc := fit_ints (totals_small sz)
      have three : intL (totals cs) = [V.int (total "bytes" cs), V.int (total "units" cs), V.int (cs.length : Nat)] := by
        show [V.int (total "bytes" cs), V.int (total "units" cs), V.int (total "chars" cs)] = _
        rw [total_chars]
      refine ⟨2, rfl, by decide, by decide, for_range (lo := 0) (n := 2)
        (fun i σ H' => ∃ v3 v4 v5 v6 : Option V, σ = [some (.ref p), some (.ref a), some (.ref D), v3, v4, v5, v6] ∧ Same H H' ∧ H' D = some (.lst (intL (totals cs))))
        ⟨none, none, none, none, rfl, sm1, hc1⟩ ?_ ?_⟩
      · rintro i σ H2 hi ⟨v3, v4, v5, v6, rfl, sm2, hc2⟩
        have ht2 := ht.same sm2
        have ht2' := ht2
        obtain ⟨dx, t, hp2, htt, _⟩ := ht2'
        refine ⟨_, rfl, p, dx, _, rfl, hp2, fpn _ _ (by decide +kernel), p, cs, rfl, ht2, fun l H3 hfl s3 hl3 => ?_⟩
        have sm3 := sm2.trans s3
        have ht3 := ht2.same s3
        have hp3 := s3 _ _ hp2
        refine ⟨_, rfl, _, rfl, p, dx, _, rfl, hp3, p, cs, rfl, ht3, cs.length, rfl, by omega, (by show 2 ≤ sizeLine; decide), fun l1 hl1 => ?_⟩
        have s4 := same_new (o := .lst [V.ref l, V.int (cs.length : Nat)]) hl1
        refine .inr ⟨l1, _, rfl, .li (SqL.of upd_same) (.co (.li (SqL.of (s4 _ _ hl3)) (dq_ints cs)) (.co (.it _) .no)), fn.1, fn.2.1, fn.line, ?_⟩
        refine ⟨_, rfl, _, rfl, .ref a, _, rfl, .inl ⟨_, SqL.of (s4 _ _ (sm3 _ _ ha)), rfl⟩, (by show 2 ≤ sizeLine; decide), fun l2 hl2 => ?_⟩
        rw [intL_len]
        have s5 := same_new (o := .lst [V.ref a, V.int (cs.length : Nat)]) hl2
        refine .inr ⟨l2, _, rfl, .li (SqL.of upd_same) (.co (.li (SqL.of (s5 _ _ (s4 _ _ (sm3 _ _ ha)))) (dq_ints cs)) (.co (.it _) .no)), fn.1, fn.2.1, fn.line, ?_⟩
        refine ⟨rfl, _, rfl, iteNS rfl ?_⟩
        have s35 := s4.trans s5
        have ht5 := ht3.same s35
        have hp5 := s35 _ _ hp3
        refine ⟨_, rfl, p, dx, _, rfl, hp5, p, cs, rfl, ht5, fun H6 s6 => ?_⟩
        refine ⟨_, rfl, p, dx, _, rfl, s6 _ _ hp5, p, cs, rfl, ht5.same s6, fun H7 s7 => ?_⟩
        refine ⟨_, rfl, p, dx, _, rfl, s7 _ _ (s6 _ _ hp5), p, cs, rfl, (ht5.same s6).same s7, (by show 3 ≤ sizeLine; decide), fun l3 hl3' => ?_⟩
        have s8 := same_new (o := .lst [V.int (total "bytes" cs), V.int (total "units" cs), V.int (cs.length : Nat)]) hl3'
        have big := ((s3.trans s35).trans s6).trans (s7.trans s8)
        have hc8 := big _ _ hc2
        refine .inr ⟨l3, .list (iData (totals cs)), rfl, .li (SqL.of (by rw [upd_same, three])) (dq_ints _), fc.1, fc.2.1, fc.line, ?_⟩
        refine ⟨_, rfl, .inr ⟨D, .list (iData (totals cs)), rfl, .li (SqL.of hc8) (dq_ints _), fc.1, fc.2.1, fc.line, ?_⟩⟩
        refine ⟨rfl, _, rfl, iteNS rfl ?_⟩
        have ht8 := ht2.same big
        have hp8 := big _ _ hp2
        have hl8 : (upd H7 l3 (.lst [V.int (total "bytes" cs), V.int (total "units" cs), V.int (cs.length : Nat)])) l = some (.lst (intL cs)) := (((s35.trans s6).trans s7).trans s8) _ _ hl3
        refine ⟨(by show 3 ≤ sizeLine; decide), fun tq htq => ⟨tq, rfl, ⟨_, SqT.of upd_same⟩, fun D2 hD2 => ?_⟩⟩
        have s9 := same_new (o := .tup kinds3) htq
        have freeD2 := s9.free hD2
        have h9 : (upd (upd H7 l3 (.lst [V.int (total "bytes" cs), V.int (total "units" cs), V.int (cs.length : Nat)])) tq (.tup kinds3)) tq = some (.tup kinds3) := upd_same
        generalize hH8 : upd H7 l3 (.lst [V.int (total "bytes" cs), V.int (total "units" cs), V.int (cs.length : Nat)]) = H8 at *
        refine lc_tup (K := K) (a := tq) (xs := kinds3) (fun i H' => Same H8 H' ∧ H' tq = some (.tup kinds3) ∧ H' D2 = some (.lst (intL ((totals cs).take i))))
          ⟨s9.trans (same_new hD2), (same_new hD2) _ _ h9, upd_same⟩ (fun i H' _ ⟨_, h, _⟩ => SqT.of h) ?_ ?_
        · rintro i x H' hx ⟨sm, hk, hl⟩
          obtain ⟨k, rfl, kd, kb, tk, i3⟩ := kinds_at cs hx
          refine ⟨rfl, _, rfl, p, dx, _, rfl, sm _ _ hp8, fpn _ _ (by decide +kernel), _, rfl, p, cs, _, rfl, ht8.same sm, ⟨_, .str k⟩, (fun no => by rw [kb] at no; cases no), fun _ k' ek H10 s10 => ?_⟩
          cases ek
          refine ⟨_, s10 _ _ hl, ?_, fun b o e => ?_, ?_, ?_⟩
          · rw [intL_len, List.length_take]
            omega
          · rw [upd_ne (fun z => by rw [z, freeD2] at e; cases e)]
            exact s10 _ _ (sm _ _ e)
          · rw [upd_ne (fun z => by rw [z, hl] at hk; cases hk)]
            exact s10 _ _ hk
          · rw [upd_same, tk]
            simp [intL]
        · rintro H9 ⟨sm9, _, hc9⟩
          rw [show (totals cs).take kinds3.length = totals cs from rfl] at hc9
          refine .inr ⟨D2, .list (iData (totals cs)), rfl, .li (SqL.of hc9) (dq_ints _), fc.1, fc.2.1, fc.line, ?_⟩
          refine ⟨_, rfl, .inr ⟨D, .list (iData (totals cs)), rfl, .li (SqL.of (sm9 _ _ hc8)) (dq_ints _), fc.1, fc.2.1, fc.line, ?_⟩⟩
          refine ⟨rfl, _, rfl, iteNS rfl ?_⟩
          have hl9 := sm9 _ _ hl8
          refine ⟨_, rfl, .inl ⟨rfl, _, SqL.of hl9⟩, l, _, _, rfl, rfl, hl9, (by rw [intL_len]; omega), ?_⟩
          have free_l : H l = none := sm2.free hfl
          have nDl : D ≠ l := fun z => by
            rw [z, hfl] at hc2
            cases hc2
          refine ⟨_, _, _, _, rfl, fun b o e => ?_, ?_⟩
          · rw [upd_ne (fun z => by rw [z, free_l] at e; cases e)]
            exact sm9 _ _ (big _ _ (sm2 _ _ e))
          · rw [upd_ne nDl]
            exact sm9 _ _ hc8
      · rintro σ H2 ⟨v3, v4, v5, v6, rfl, sm2, hc2⟩
        have ht2 := ht.same sm2
        have ht2' := ht2
        obtain ⟨dx, t, hp2, htt, _⟩ := ht2'
        have ha2 := sm2 _ _ ha
        refine ⟨_, rfl, .ref a, _, rfl, .inl ⟨_, SqL.of ha2, rfl⟩, _, rfl, by omega, by rw [intL_len]; omega, fun D2 hD2 => ?_⟩
        rw [intL_len, Int.toNat_natCast]
        refine lc_range (lo := 0) (n := cs.length) (fun i H' => Same H2 H' ∧ H' D2 = some (.lst (intL (cs.take i)))) ⟨same_new hD2, upd_same⟩ ?_ ?_
        · rintro i H3 hi ⟨sm3, hl3⟩
          have hp3 := sm3 _ _ hp2
          refine ⟨rfl, _, rfl, _, rfl, p, dx, _, rfl, hp3, p, cs, _, rfl, ht2.same sm3, ⟨_, .int _⟩, (fun no => by rw [inB_in (by omega) (by omega)] at no; cases no), fun _ n c en hc => ?_⟩
          have en' : n = i := by
            have := V.int.inj en
            omega
          subst en'
          refine ⟨_, hl3, ?_, fun b o e => ?_, ?_⟩
          · rw [intL_len, List.length_take]
            omega
          · rw [upd_ne (fun z => by rw [z, hD2] at e; cases e)]
            exact sm3 _ _ e
          · have e : cs.take (n + 1) = cs.take n ++ [c] := by rw [List.take_add_one, hc]; rfl
            rw [upd_same, e]
            simp [intL]
        · rintro H3 ⟨sm3, hl3⟩
          rw [List.take_length] at hl3
          refine ⟨_, rfl, .list (iData cs), .list (iData cs), .lst (SqL.of hl3) (dp_ints cs), .lst (SqL.of (sm3 _ _ ha2)) (dp_ints cs), shapedL cs, shapedL cs, _, rfl, ?_⟩
          have e : PyData.eqv (.list (iData cs)) (.list (iData cs)) = true := by
            rw [PyData.eqv]
            exact (eqv_ints cs cs).trans (decide_eq_true rfl)
          rw [e]
          refine iteT ?_
          have hp3 := sm3 _ _ hp2
          refine ⟨_, rfl, p, dx, _, rfl, hp3, p, cs, rfl, ht2.same sm3, good.small sz, fun H4 s4 => ⟨_, rfl, ?_⟩⟩
          refine ⟨_, rfl, p, dx, _, rfl, s4 _ _ hp3, p, cs, rfl, (ht2.same sm3).same s4, good.small sz, fun H5 s5 => ⟨_, rfl, ?_⟩⟩
          have fin := q H5 (((sm2.trans sm3).trans s4).trans s5)
          refine ⟨rfl, ?_⟩
          rw [decide_eq_true rfl]
          exact fin
end
end Tc

/-! # K5I -/
namespace Tc
open PySem PySem.Spec PyProof.Rows L2
def spOddR (C : Addr) : Sp := fun vs H Q _ => ∃ (b p a : Addr) (cs : List Int), vs = [.ref b, .ref p, .ref a] ∧ TextAt C H p cs ∧ H a = some (.lst (intL cs)) ∧ Good cs ∧ cs.length < 5000 ∧ ∀ H', Same H H' → Q (.bl true) H'
theorem inB_no {i lo hi : Int} (h : i < lo ∨ hi < i) : inB (.int i) lo hi = false := by
  show (decide (lo ≤ i) && decide (i ≤ hi)) = false
  rcases h with h | h
  · rw [decide_eq_false (show ¬ lo ≤ i by omega)]
    rfl
  · rw [decide_eq_false (show ¬ i ≤ hi by omega), Bool.and_false]
theorem great : (10 : Int) ^ (29 : Int).toNat = 100000000000000000000000000000 := by decide
section
variable {P : Program} {w : World} {K : PySem.W.Frag} {mg : Str → Option Value} {base : Heap} {A : Ads}
theorem ok_odd (T : Txt K mg A) : FnOk P w K mg base CX0 10 A.a_l_odd_right A.d_l_odd_right ["_law_bag_here", "_law_text", "_law_chars_here"] (spOddR A.C_Text) := by
  have G_l_caught : FnOk P w K mg base CX0 9 A.a_l_caught A.d_l_caught ["_law_door", "_law_text", "_law_one", "_law_other"] (spCaught A K) := ok_caught T
  refine T.F_l_odd_right.ok sc_l_odd_right (fun vs H Q E h => ?_) (fun cdv A' outer s H vs Q E hr h => ?_)
  · obtain ⟨b, p, a, cs, rfl, _⟩ := h
    rfl
  · obtain ⟨b, p, a, cs, rfl, ht, ha, good, sz, q⟩ := h
    have sl := sizeLine_eq
    refine ⟨_, (pss_cons (ps_set (i := 3) sc_l_odd_right.nd rfl (Or.inl rfl) (pe_callB call_len (by rfl) T.z_len (by decide +kernel) (pa_cons (pv 2) pa_nil))) (pss_cons (ps_for PassesOwn.never rfl (pi_list (pe_lst (pa_cons pe_non (pa_cons pe_bl (pa_cons pe_bl (pa_cons (pe_un un_neg pe_int) (pa_cons (pv 3) (pa_cons pe_str (pa_cons (pe_lst pa_nil) (pa_cons pe_dnewK (pa_cons (pe_op op_pow pe_int pe_int) (pa_cons (pe_tup (pa_cons pe_int (pa_cons pe_int pa_nil))) pa_nil)))))))))))) (pg_name (i := 4) sc_l_odd_right.nd rfl (Or.inl rfl)) (pss_one (ps_if (pt_cmpR (op_neSame hr.units) (pe_call G_l_caught (hr.mono (by decide)) (by rfl) T.g_l_caught T.F_l_caught.kp T.b_l_caught .nil pass0 (pa_cons pe_int (pa_cons (pv 1) (pa_cons (pv 4) (pa_cons pe_non pa_nil))))) (pe_lst (pa_cons pe_str (pa_cons (pv 4) pa_nil))) (nomark _)) (pss_one (ps_ret pe_bl)) pss_nil))) (pss_cons (ps_for PassesOwn.never rfl (pi_list (pe_lst (pa_cons pe_non (pa_cons pe_bl (pa_cons (pe_un un_neg pe_int) (pa_cons (pe_op op_add (pv 3) pe_int) (pa_cons pe_str (pa_cons (pe_lst pa_nil) (pa_cons pe_dnewK (pa_cons (pe_op op_pow pe_int pe_int) pa_nil)))))))))) (pg_name (i := 4) sc_l_odd_right.nd rfl (Or.inl rfl)) (pss_one (ps_if (PW.pt (pw_or (pt_cmpR (op_neSame hr.units) (pe_call G_l_caught (hr.mono (by decide)) (by rfl) T.g_l_caught T.F_l_caught.kp T.b_l_caught .nil pass0 (pa_cons pe_int (pa_cons (pv 1) (pa_cons (pv 4) (pa_cons (pv 4) pa_nil))))) (pe_lst (pa_cons pe_str (pa_cons (pv 4) pa_nil))) (nomark _)) (pw_or1 (pt_cmpR (op_neSame hr.units) (pe_call G_l_caught (hr.mono (by decide)) (by rfl) T.g_l_caught T.F_l_caught.kp T.b_l_caught .nil pass0 (pa_cons pe_int (pa_cons (pv 1) (pa_cons (pv 3) (pa_cons (pv 4) pa_nil))))) (pe_lst (pa_cons pe_str (pa_cons (pv 4) pa_nil))) (nomark _))))) (pss_one (ps_ret pe_bl)) pss_nil))) (pss_cons (ps_if (PW.pt (pw_and (pt_cmpR op_gt (pv 3) pe_int (nomark _)) (pw_and1 (pt_cmpR (op_neSame hr.units) (pe_call G_l_caught (hr.mono (by decide)) (by rfl) T.g_l_caught T.F_l_caught.kp T.b_l_caught .nil pass0 (pa_cons pe_int (pa_cons (pv 1) (pa_cons (pv 3) (pa_cons (pe_op op_sub (pv 3) pe_int) pa_nil))))) (pe_lst (pa_cons pe_str (pa_cons (pe_op op_sub (pv 3) pe_int) pa_nil))) (nomark _))))) (pss_one (ps_ret pe_bl)) pss_nil) (pss_cons (ps_if (PW.pt (pw_or (pt_cmpR (op_neSame hr.units) (pe_call G_l_caught (hr.mono (by decide)) (by rfl) T.g_l_caught T.F_l_caught.kp T.b_l_caught .nil pass0 (pa_cons pe_int (pa_cons (pv 1) (pa_cons (pe_op op_add (pv 3) pe_int) (pa_cons (pe_un un_neg pe_int) pa_nil))))) (pe_lst (pa_cons pe_str (pa_cons (pe_op op_add (pv 3) pe_int) pa_nil))) (nomark _)) (pw_or1 (pt_cmpR (op_neSame hr.units) (pe_call G_l_caught (hr.mono (by decide)) (by rfl) T.g_l_caught T.F_l_caught.kp T.b_l_caught .nil pass0 (pa_cons pe_int (pa_cons (pv 1) (pa_cons pe_str (pa_cons pe_non pa_nil))))) (pe_lst (pa_cons pe_str (pa_cons pe_str pa_nil))) (nomark _))))) (pss_one (ps_ret pe_bl)) pss_nil) (pss_cons (ps_for PassesOwn.never rfl (pi_list (pe_lst (pa_cons pe_non (pa_cons pe_bl (pa_cons pe_str (pa_cons pe_str (pa_cons (pe_lst (pa_cons pe_str pa_nil)) (pa_cons pe_dnewK pa_nil)))))))) (pg_name (i := 4) sc_l_odd_right.nd rfl (Or.inl rfl)) (pss_one (ps_if (pt_cmpR (op_neSame hr.units) (pe_call G_l_caught (hr.mono (by decide)) (by rfl) T.g_l_caught T.F_l_caught.kp T.b_l_caught .nil pass0 (pa_cons pe_int (pa_cons (pv 1) (pa_cons (pv 4) (pa_cons pe_non pa_nil))))) (pe_lst (pa_cons pe_str (pa_cons (pv 4) pa_nil))) (nomark _)) (pss_one (ps_ret pe_bl)) pss_nil))) (pss_one (ps_ret pe_bl)))))))), ?_⟩
    refine ⟨_, rfl, .ref a, _, rfl, .inl ⟨_, SqL.of ha, rfl⟩, ?_⟩
    rw [intL_len]
    -- the first list
    refine ⟨_, rfl, _, rfl, (by show 0 ≤ sizeLine; decide), fun l1 h1 => fun d1 h2 => ⟨_, _, rfl, rfl, ⟨by decide, by decide, by decide⟩, (by show 2 ≤ sizeLine; decide), fun t1 h3 => ⟨(by show 10 ≤ sizeLine; decide), fun ol h4 => ?_⟩⟩⟩
    have x1 := same_new (o := .lst []) h1
    have x2 := same_new (o := .dK []) h2
    have x3 := same_new (o := .tup [V.int 0, V.int 1]) h3
    have x4 := same_new (o := .lst [V.non, V.bl true, V.bl false, V.int (-1), V.int (cs.length : Nat), V.str "0", V.ref l1, V.ref d1, V.int (10 ^ (29 : Int).toNat), V.ref t1]) h4
    have X : Same H _ := ((x1.trans x2).trans x3).trans x4
    have e1 := ((x2.trans x3).trans x4) _ _ (upd_same (H := H) (a := l1) (o := .lst []))
    have e2 := (x3.trans x4) _ _ (upd_same (a := d1) (o := .dK []))
    have e3 := x4 _ _ (upd_same (a := t1) (o := .tup [V.int 0, V.int 1]))
    have e4 : (upd (upd (upd (upd H l1 (.lst [])) d1 (.dK [])) t1 (.tup [V.int 0, V.int 1])) ol (.lst [V.non, V.bl true, V.bl false, V.int (-1), V.int (cs.length : Nat), V.str "0", V.ref l1, V.ref d1, V.int (10 ^ (29 : Int).toNat), V.ref t1])) ol = some (.lst [V.non, V.bl true, V.bl false, V.int (-1), V.int (cs.length : Nat), V.str "0", V.ref l1, V.ref d1, V.int (10 ^ (29 : Int).toNat), V.ref t1]) := upd_same
    refine ⟨ol, rfl, ⟨_, SqL.of e4⟩, ?_⟩
    generalize upd (upd (upd (upd H l1 (.lst [])) d1 (.dK [])) t1 (.tup [V.int 0, V.int 1])) ol (.lst [V.non, V.bl true, V.bl false, V.int (-1), V.int (cs.length : Nat), V.str "0", V.ref l1, V.ref d1, V.int (10 ^ (29 : Int).toNat), V.ref t1]) = H1 at X e1 e2 e3 e4 ⊢
    have item : ∀ x ∈ [V.non, V.bl true, V.bl false, V.int (-1), V.int (cs.length : Nat), V.str "0", V.ref l1, V.ref d1, V.int (10 ^ (29 : Int).toNat), V.ref t1], (∃ t, Ty A.C_Text H1 x t) ∧ plainV x = true ∧ inB x 0 (cs.length - 1) = false := by
      intro x m
      simp only [List.mem_cons, List.mem_nil_iff, or_false] at m
      rcases m with rfl | rfl | rfl | rfl | rfl | rfl | rfl | rfl | rfl | rfl
      · exact ⟨⟨_, .non⟩, rfl, rfl⟩
      · exact ⟨⟨_, .bl _⟩, rfl, rfl⟩
      · exact ⟨⟨_, .bl _⟩, rfl, rfl⟩
      · exact ⟨⟨_, .int _⟩, rfl, inB_no (by omega)⟩
      · exact ⟨⟨_, .int _⟩, rfl, inB_no (by omega)⟩
      · exact ⟨⟨_, .str _⟩, rfl, rfl⟩
      · exact ⟨⟨_, .lst e1⟩, rfl, rfl⟩
      · exact ⟨⟨_, .dct e2⟩, rfl, rfl⟩
      · exact ⟨⟨_, .int _⟩, rfl, inB_no (by rw [great]; omega)⟩
      · exact ⟨⟨_, .tup e3⟩, rfl, rfl⟩
    refine for_list (K := K) (a := ol) (fun i σ H' => ∃ v : Option V, σ = [some (.ref b), some (.ref p), some (.ref a), some (.int (cs.length : Nat)), v] ∧ Same H1 H')
      ⟨none, rfl, Same.refl _⟩ (fun i σ H' _ ⟨_, _, sm⟩ => SqL.of (sm _ _ e4)) ?_ ?_
    · rintro i x σ H2 hx ⟨v, rfl, sm⟩
      obtain ⟨⟨t, ty⟩, pl, nb⟩ := item x (List.mem_of_getElem? hx)
      have ty2 := ty.same sm
      have ht2 := ht.same (X.trans sm)
      refine ⟨_, rfl, _, rfl, 0, .ref p, x, .non, rfl, ⟨_, ty2⟩, ⟨_, .non⟩, .inl ⟨p, cs, rfl, ht2, good, .inl ⟨rfl, nb, fun f H3 hf s3 hl3 => ?_⟩⟩⟩
      refine ⟨_, rfl, (by show 2 ≤ sizeLine; decide), fun g hg => ⟨f, g, [.str "place", x], rfl, rfl, SqL.of ((same_new hg) _ _ hl3), SqL.of upd_same, ?_, _, rfl, iteF ?_⟩⟩
      · show (true && (plainV x && true)) = true
        rw [pl]
        rfl
      · exact ⟨some x, rfl, sm.trans (s3.trans (same_new hg))⟩
    rintro σ H2 ⟨v, rfl, sm2⟩
    have X2 := X.trans sm2
    clear x1 x2 x3 x4 e1 e2 e3 e4 item h1 h2 h3 h4 X
    -- the second list
    refine ⟨_, rfl, _, rfl, _, _, rfl, rfl, (by show 0 ≤ sizeLine; decide), fun l2 h1 => fun d2 h2 => ⟨_, _, rfl, rfl, ⟨by decide, by decide, by decide⟩, (by show 8 ≤ sizeLine; decide), fun ol2 h4 => ?_⟩⟩
    have x1 := same_new (o := .lst []) h1
    have x2 := same_new (o := .dK []) h2
    have x4 := same_new (o := .lst [V.non, V.bl true, V.int (-1), V.int ((cs.length : Nat) + 1), V.str "0", V.ref l2, V.ref d2, V.int (10 ^ (29 : Int).toNat)]) h4
    have X := (X2.trans x1).trans (x2.trans x4)
    have e1 := (x2.trans x4) _ _ (upd_same (H := H2) (a := l2) (o := .lst []))
    have e2 := x4 _ _ (upd_same (a := d2) (o := .dK []))
    have e4 : (upd (upd (upd H2 l2 (.lst [])) d2 (.dK [])) ol2 (.lst [V.non, V.bl true, V.int (-1), V.int ((cs.length : Nat) + 1), V.str "0", V.ref l2, V.ref d2, V.int (10 ^ (29 : Int).toNat)])) ol2 = some (.lst [V.non, V.bl true, V.int (-1), V.int ((cs.length : Nat) + 1), V.str "0", V.ref l2, V.ref d2, V.int (10 ^ (29 : Int).toNat)]) := upd_same
    refine ⟨ol2, rfl, ⟨_, SqL.of e4⟩, ?_⟩
    generalize upd (upd (upd H2 l2 (.lst [])) d2 (.dK [])) ol2 (.lst [V.non, V.bl true, V.int (-1), V.int ((cs.length : Nat) + 1), V.str "0", V.ref l2, V.ref d2, V.int (10 ^ (29 : Int).toNat)]) = H3 at X e1 e2 e4 ⊢
    have item : ∀ x ∈ [V.non, V.bl true, V.int (-1), V.int ((cs.length : Nat) + 1), V.str "0", V.ref l2, V.ref d2, V.int (10 ^ (29 : Int).toNat)], (∃ t, Ty A.C_Text H3 x t) ∧ plainV x = true ∧ inB x 0 cs.length = false ∧ inB x cs.length cs.length = false := by
      intro x m
      simp only [List.mem_cons, List.mem_nil_iff, or_false] at m
      rcases m with rfl | rfl | rfl | rfl | rfl | rfl | rfl | rfl
      · exact ⟨⟨_, .non⟩, rfl, rfl, rfl⟩
      · exact ⟨⟨_, .bl _⟩, rfl, rfl, rfl⟩
      · exact ⟨⟨_, .int _⟩, rfl, inB_no (by omega), inB_no (by omega)⟩
      · exact ⟨⟨_, .int _⟩, rfl, inB_no (by omega), inB_no (by omega)⟩
      · exact ⟨⟨_, .str _⟩, rfl, rfl, rfl⟩
      · exact ⟨⟨_, .lst e1⟩, rfl, rfl, rfl⟩
      · exact ⟨⟨_, .dct e2⟩, rfl, rfl, rfl⟩
      · exact ⟨⟨_, .int _⟩, rfl, inB_no (by rw [great]; omega), inB_no (by rw [great]; omega)⟩
    refine for_list (K := K) (a := ol2) (fun i σ H' => ∃ v : Option V, σ = [some (.ref b), some (.ref p), some (.ref a), some (.int (cs.length : Nat)), v] ∧ Same H3 H')
      ⟨v, rfl, Same.refl _⟩ (fun i σ H' _ ⟨_, _, sm⟩ => SqL.of (sm _ _ e4)) ?_ ?_
    · rintro i x σ H4 hx ⟨v, rfl, sm⟩
      obtain ⟨⟨t, ty⟩, pl, nb, nb2⟩ := item x (List.mem_of_getElem? hx)
      have plx : ([V.str "place", x].all plainV) = true := by
        show (true && (plainV x && true)) = true
        rw [pl]
        rfl
      have ty2 := ty.same sm
      have ht2 := ht.same (X.trans sm)
      refine ⟨_, rfl, _, rfl, _, rfl, 1, .ref p, x, x, rfl, ⟨_, ty2⟩, ⟨_, ty2⟩, .inl ⟨p, cs, rfl, ht2, good, .inr (.inl ⟨rfl, nb, fun f H5 hf s5 hl5 => ?_⟩)⟩⟩
      refine ⟨_, rfl, (by show 2 ≤ sizeLine; decide), fun g hg => ⟨f, g, [.str "place", x], rfl, rfl, SqL.of ((same_new hg) _ _ hl5), SqL.of upd_same, plx, _, rfl, iteF ?_⟩⟩
      have s6 := s5.trans (same_new (o := .lst [V.str "place", x]) hg)
      have ty3 := ty2.same s6
      have ht3 := ht2.same s6
      refine ⟨_, rfl, _, rfl, _, rfl, 1, .ref p, .int (cs.length : Nat), x, rfl, ⟨_, .int _⟩, ⟨_, ty3⟩, .inl ⟨p, cs, rfl, ht3, good, .inr (.inr (.inl ⟨rfl, cs.length, rfl, Nat.le_refl _, nb2, fun f2 H7 hf2 s7 hl7 => ?_⟩))⟩⟩
      refine ⟨_, rfl, (by show 2 ≤ sizeLine; decide), fun g2 hg2 => ⟨f2, g2, [.str "place", x], rfl, rfl, SqL.of ((same_new hg2) _ _ hl7), SqL.of upd_same, plx, _, rfl, iteF ?_⟩⟩
      exact ⟨some x, rfl, (sm.trans s6).trans (s7.trans (same_new hg2))⟩
    rintro σ H4 ⟨v4, rfl, sm4⟩
    have X4 := X.trans sm4
    clear x1 x2 x4 e1 e2 e4 item h1 h2 h4 X X2 sm4 sm2
    -- what stands between
    have last : ∀ (v : Option V) (H5 : Hp), Same H H5 →
        (tSeq (tIfS (tOr (tTest (tOp (rNeSame K) (tCall (spCaught A K) [] E0 (tCons (tC (.int 1)) (tCons (tVar 1) (tCons (tOp (rI0 fun i j => .int (i + j)) (tVar 3) (tC (.int 1))) (tCons (tUn (rU fun i => .int (-i)) (tC (.int 1))) tNil))))) (tLst (tCons (tC (.str "place")) (tCons (tOp (rI0 fun i j => .int (i + j)) (tVar 3) (tC (.int 1))) tNil)))))
          (tTest (tOp (rNeSame K) (tCall (spCaught A K) [] E0 (tCons (tC (.int 1)) (tCons (tVar 1) (tCons (tC (.str "0")) (tCons (tC .non) tNil))))) (tLst (tCons (tC (.str "place")) (tCons (tC (.str "0")) tNil)))))) (tRet (tC (.bl false))) tNext)
          (tSeq (tFor (iList K (tLst (tCons (tC .non) (tCons (tC (.bl true)) (tCons (tC (.str "")) (tCons (tC (.str "Bytes")) (tCons (tLst (tCons (tC (.str "bytes")) tNil)) (tCons tDNewK tNil)))))))) (gName 4)
            (tIfS (tTest (tOp (rNeSame K) (tCall (spCaught A K) [] E0 (tCons (tC (.int 2)) (tCons (tVar 1) (tCons (tVar 4) (tCons (tC .non) tNil))))) (tLst (tCons (tC (.str "kind")) (tCons (tVar 4) tNil))))) (tRet (tC (.bl false))) tNext))
            (tRet (tC (.bl true))))) { nx := fun _ H' => Q .non H', rt := Q } [some (.ref b), some (.ref p), some (.ref a), some (.int (cs.length : Nat)), v] H5 := by
      intro v H5 X5
      have ht5 := ht.same X5
      refine ⟨_, rfl, _, rfl, _, _, rfl, rfl, _, rfl, 1, .ref p, .int ((cs.length : Nat) + 1), .int (-1), rfl, ⟨_, .int _⟩, ⟨_, .int _⟩, .inl ⟨p, cs, rfl, ht5, good, .inr (.inl ⟨rfl, inB_no (by omega), fun f H6 hf s6 hl6 => ?_⟩)⟩⟩
      refine ⟨_, rfl, _, _, rfl, rfl, (by show 2 ≤ sizeLine; decide), fun g hg => ⟨f, g, [.str "place", .int ((cs.length : Nat) + 1)], rfl, rfl, SqL.of ((same_new hg) _ _ hl6), SqL.of upd_same, rfl, _, rfl, iteF ?_⟩⟩
      have s7 := s6.trans (same_new (o := .lst [V.str "place", V.int ((cs.length : Nat) + 1)]) hg)
      refine ⟨_, rfl, 1, .ref p, .str "0", .non, rfl, ⟨_, .str _⟩, ⟨_, .non⟩, .inl ⟨p, cs, rfl, ht5.same s7, good, .inr (.inl ⟨rfl, rfl, fun f2 H7 hf2 s8 hl7 => ?_⟩)⟩⟩
      refine ⟨(by show 2 ≤ sizeLine; decide), fun g2 hg2 => ⟨f2, g2, [.str "place", .str "0"], rfl, rfl, SqL.of ((same_new hg2) _ _ hl7), SqL.of upd_same, rfl, _, rfl, iteF ?_⟩⟩
      have X8 := (X5.trans s7).trans (s8.trans (same_new (o := .lst [V.str "place", V.str "0"]) hg2))
      generalize upd H7 g2 (.lst [V.str "place", V.str "0"]) = H8 at X8 ⊢
      refine ⟨(by show 1 ≤ sizeLine; decide), fun l3 h1 => fun d3 h2 => ⟨(by show 6 ≤ sizeLine; decide), fun ol3 h4 => ?_⟩⟩
      have x1 := same_new (o := .lst [V.str "bytes"]) h1
      have x2 := same_new (o := .dK []) h2
      have x4 := same_new (o := .lst [V.non, V.bl true, V.str "", V.str "Bytes", V.ref l3, V.ref d3]) h4
      have X := (X8.trans x1).trans (x2.trans x4)
      have e1 := (x2.trans x4) _ _ (upd_same (H := H8) (a := l3) (o := .lst [V.str "bytes"]))
      have e2 := x4 _ _ (upd_same (a := d3) (o := .dK []))
      have e4 : (upd (upd (upd H8 l3 (.lst [V.str "bytes"])) d3 (.dK [])) ol3 (.lst [V.non, V.bl true, V.str "", V.str "Bytes", V.ref l3, V.ref d3])) ol3 = some (.lst [V.non, V.bl true, V.str "", V.str "Bytes", V.ref l3, V.ref d3]) := upd_same
      refine ⟨ol3, rfl, ⟨_, SqL.of e4⟩, ?_⟩
      generalize upd (upd (upd H8 l3 (.lst [V.str "bytes"])) d3 (.dK [])) ol3 (.lst [V.non, V.bl true, V.str "", V.str "Bytes", V.ref l3, V.ref d3]) = H9 at X e1 e2 e4 ⊢
      have item : ∀ x ∈ [V.non, V.bl true, V.str "", V.str "Bytes", V.ref l3, V.ref d3], (∃ t, Ty A.C_Text H9 x t) ∧ plainV x = true ∧ kdB x = false := by
        intro x m
        simp only [List.mem_cons, List.mem_nil_iff, or_false] at m
        rcases m with rfl | rfl | rfl | rfl | rfl | rfl
        · exact ⟨⟨_, .non⟩, rfl, rfl⟩
        · exact ⟨⟨_, .bl _⟩, rfl, rfl⟩
        · exact ⟨⟨_, .str _⟩, rfl, by decide +kernel⟩
        · exact ⟨⟨_, .str _⟩, rfl, by decide +kernel⟩
        · exact ⟨⟨_, .lst e1⟩, rfl, rfl⟩
        · exact ⟨⟨_, .dct e2⟩, rfl, rfl⟩
      refine for_list (K := K) (a := ol3) (fun i σ H' => ∃ v : Option V, σ = [some (.ref b), some (.ref p), some (.ref a), some (.int (cs.length : Nat)), v] ∧ Same H9 H')
        ⟨v, rfl, Same.refl _⟩ (fun i σ H' _ ⟨_, _, sm⟩ => SqL.of (sm _ _ e4)) ?_ ?_
      · rintro i x σ H10 hx ⟨v, rfl, sm⟩
        obtain ⟨⟨t, ty⟩, pl, nk⟩ := item x (List.mem_of_getElem? hx)
        have plx : ([V.str "kind", x].all plainV) = true := by
          show (true && (plainV x && true)) = true
          rw [pl]
          rfl
        refine ⟨_, rfl, _, rfl, 2, .ref p, x, .non, rfl, ⟨_, ty.same sm⟩, ⟨_, .non⟩, .inl ⟨p, cs, rfl, ht.same (X.trans sm), good, .inr (.inr (.inr ⟨rfl, nk, fun f3 H11 hf3 s11 hl11 => ?_⟩))⟩⟩
        refine ⟨_, rfl, (by show 2 ≤ sizeLine; decide), fun g3 hg3 => ⟨f3, g3, [.str "kind", x], rfl, rfl, SqL.of ((same_new hg3) _ _ hl11), SqL.of upd_same, plx, _, rfl, iteF ?_⟩⟩
        exact ⟨some x, rfl, sm.trans (s11.trans (same_new hg3))⟩
      · rintro σ H10 ⟨v, rfl, sm⟩
        exact q H10 (X.trans sm)
    refine ⟨_, rfl, _, _, rfl, rfl, _, rfl, ?_⟩
    refine ite2 (fun e => ?_) (fun e => ?_)
    · have pos : 0 < cs.length := by
        have := of_decide_eq_true e
        omega
      have ht5 := ht.same X4
      refine ⟨_, rfl, _, rfl, _, rfl, _, _, rfl, rfl, 1, .ref p, .int (cs.length : Nat), .int ((cs.length : Nat) - 1), rfl, ⟨_, .int _⟩, ⟨_, .int _⟩, .inl ⟨p, cs, rfl, ht5, good, .inr (.inr (.inl ⟨rfl, cs.length, rfl, Nat.le_refl _, inB_no (by omega), fun f H6 hf s6 hl6 => ?_⟩))⟩⟩
      refine ⟨_, rfl, _, _, rfl, rfl, (by show 2 ≤ sizeLine; decide), fun g hg => ⟨f, g, [.str "place", .int ((cs.length : Nat) - 1)], rfl, rfl, SqL.of ((same_new hg) _ _ hl6), SqL.of upd_same, rfl, _, rfl, iteF ?_⟩⟩
      exact last v4 _ (X4.trans (s6.trans (same_new hg)))
    · exact iteF (last v4 _ X4)
end
end Tc

/-! # K5J -/
namespace Tc
open PySem PySem.Spec PyProof.Rows L2
def spRefR (C : Addr) : Sp := fun vs H Q _ => ∃ (b a : Addr) (n : Int) (cs : List Int), vs = [.ref b, .ref a] ∧ BagAt H b n ∧ n ≤ 500000 ∧ H a = some (.lst (intL cs)) ∧ a ≠ b ∧ Good cs ∧ cs.length < 5000 ∧
  ∀ H', But b H H' → BagAt H' b (n + 10) → Q (.bl true) H'
theorem kit_lst {K : PySem.W.Frag} {mg : Str → Option Value} {A : Ads} {H : Hp} {v : V} {t : Value} (T : Txt K mg A) (h : Ty A.C_Text H v t) : ∃ b, PySem.W.kitOne K t (.type "list") = some b ∧ (b = true → ∃ q xs, v = .ref q ∧ H q = some (.lst xs)) := by
  cases h with
  | non => exact ⟨false, kit_ty (by decide +kernel), fun z => Bool.noConfusion z⟩
  | bl b => exact ⟨false, kit_ty (by decide +kernel), fun z => Bool.noConfusion z⟩
  | int i => exact ⟨false, kit_ty (by decide +kernel), fun z => Bool.noConfusion z⟩
  | str x => exact ⟨false, kit_ty (by decide +kernel), fun z => Bool.noConfusion z⟩
  | lst e => exact ⟨true, kit_ty (by decide +kernel), fun _ => ⟨_, _, rfl, e⟩⟩
  | tup e => exact ⟨false, kit_ty (by decide +kernel), fun z => Bool.noConfusion z⟩
  | dct e => exact ⟨false, kit_ty (by decide +kernel), fun z => Bool.noConfusion z⟩
  | ins e => exact ⟨false, T.q_Text_list, fun z => Bool.noConfusion z⟩
/-- an item of the first list: no list, or the list at l -/
def Itm (A : Ads) (K : PySem.W.Frag) (l d : Addr) (x : V) : Prop := chB x = false ∧
  ((∃ e : PyData, Fit (.list [.str "char", e]) ∧ ∀ H : Hp, H d = some (.dK []) → Dq K H x e ∧ (∃ t, Ty A.C_Text H x t) ∧ ∀ q xs, x = .ref q → H q ≠ some (.lst xs)) ∨ x = .ref l)
theorem fit_odds : ∀ e ∈ [PyData.none, .bool true, .int (-1), .int 55296, .int 57343, .int 1114112, .str "a", .dict [], .list [.int 97, .str "Late 1"], .list [.int 97]],
    (PyData.list [.str "char", e]).showable = true ∧ (PyData.list [.str "char", e]).depth ≤ 8 ∧ (PyData.list [.str "char", e]).shown.length ≤ 1000 := by decide +kernel
theorem fit_odd {e : PyData} (h : e ∈ [PyData.none, .bool true, .int (-1), .int 55296, .int 57343, .int 1114112, .str "a", .dict [], .list [.int 97, .str "Late 1"], .list [.int 97]]) : Fit (.list [.str "char", e]) := by
  obtain ⟨h1, h2, h3⟩ := fit_odds e h
  exact ⟨h1, h2, by omega⟩
section
variable {P : Program} {w : World} {K : PySem.W.Frag} {mg : Str → Option Value} {base : Heap} {A : Ads}
theorem made1 {H1 : Hp} {y : V} {cs : List Int} {R : VK} {E : XK} {x dx : Addr} (sq : ∃ q, y = .ref q ∧ (H1 q = some (.lst (intL cs)) ∨ H1 q = some (.tup (intL cs)))) (sz : cs.length < 1000000) (good : Good cs) (hx : H1 x = none) (hdx : H1 dx = none) (ne : dx ≠ x)
    (q : ∀ (H2 : Hp), Same H1 H2 → TextAt A.C_Text H2 x cs → R .non H2) : spText A K [.ref x, y] (upd (upd H1 dx (.own x)) x (.ins A.C_Text dx [])) R E := by
  have m := made (A := A) (K := K) (E := E) (Q := fun v H2 => v = .ref x → R .non H2) sq sz good (fun z H2 _ s2 t2 e => q H2 s2 (by rw [← V.ref.inj e]; exact t2)) x dx hx hdx ne
  obtain ⟨p', dx', y', e, hp, ty, n1, n2⟩ := m
  exact ⟨p', dx', y', e, hp, ty, n1, fun ls => let ⟨xs, sq, k1, k2⟩ := n2 ls; ⟨xs, sq, fun g t H' s h => (k1 g t H' s h).2 rfl, k2⟩⟩
theorem ok_refused (T : Txt K mg A) (sysb : SysD base) : FnG P w K mg base CX0 10 A.a_l_refused_right A.d_l_refused_right ["_law_bag_here", "_law_chars_here"] (spRefR A.C_Text) := by
  have G_l_take : FnOk P w K mg base CX0 1 A.a_l_take A.d_l_take ["_law_bag_here", "_law_many"] spTake := ok_take T
  have G_l_caught : FnOk P w K mg base CX0 9 A.a_l_caught A.d_l_caught ["_law_door", "_law_text", "_law_one", "_law_other"] (spCaught A K) := ok_caught T
  have G_Text_init : FnOk P w K mg base (L2.CX P w) 6 A.a_Text_init A.d_Text_init ["self", "chars"] (spText A K) := ok_Text_init T
  refine okG T.F_l_refused_right sc_l_refused_right (fun vs H Q E h => ?_) (fun cdv A' outer s H vs Q E hgd hr h => ?_)
  · obtain ⟨b, a, n, cs, rfl, _⟩ := h
    rfl
  · obtain ⟨b, a, n, cs, rfl, hb, hn, ha, nab, good, sz, q⟩ := h
    have sl := sizeLine_eq
    obtain ⟨bx, hbx⟩ := hb.there
    refine ⟨_, PSs.nox (pss_cons (ps_set (i := 2) sc_l_refused_right.nd rfl (Or.inl rfl) (pe_call G_l_take (hr.mono (by decide)) (by rfl) T.g_l_take T.F_l_take.kp T.b_l_take .nil pass0 (pa_cons (pv 0) (pa_cons (pe_op op_add (pe_callB call_len (by rfl) T.z_len (by decide +kernel) (pa_cons (pv 1) pa_nil)) pe_int) pa_nil)))) (pss_cons (ps_for PassesOwn.never rfl (pi_list (pe_lst (pa_cons pe_non (pa_cons pe_bl (pa_cons (pe_un un_neg pe_int) (pa_cons pe_int (pa_cons pe_int (pa_cons pe_int (pa_cons pe_str (pa_cons (pe_lst (pa_cons pe_int pa_nil)) (pa_cons pe_dnewK pa_nil))))))))))) (pg_name (i := 3) sc_l_refused_right.nd rfl (Or.inl rfl)) (pss_cons (ps_set (i := 4) sc_l_refused_right.nd rfl (Or.inl rfl) (pe_ix ix_list (pe_lst (pa_cons (pe_op op_cat (pe_slice sl_list (pv 1) po_none (po_some (pv 2))) (pe_lst (pa_cons (pv 3) (pa_cons pe_non (pa_cons pe_int pa_nil))))) (pa_cons (pe_callTy call_tuple_of (by rfl) T.z_tuple (by decide +kernel) (pa_cons (pe_op op_cat (pe_slice sl_list (pv 1) po_none (po_some (pv 2))) (pe_lst (pa_cons (pv 3) (pa_cons pe_int pa_nil)))) pa_nil)) pa_nil))) (pe_call G_l_take (hr.mono (by decide)) (by rfl) T.g_l_take T.F_l_take.kp T.b_l_take .nil pass0 (pa_cons (pv 0) (pa_cons pe_int pa_nil))) (fun _ _ => rfl))) (pss_cons (ps_set (i := 5) sc_l_refused_right.nd rfl (Or.inl rfl) (pe_call G_l_caught (hr.mono (by decide)) (by rfl) T.g_l_caught T.F_l_caught.kp T.b_l_caught .nil pass0 (pa_cons pe_int (pa_cons pe_non (pa_cons (pv 4) (pa_cons pe_non pa_nil)))))) (pss_cons (ps_if (pt_val (pe_callB call_isi (by rfl) T.z_isinstance (by decide +kernel) (pa_cons (pv 3) (pa_cons (pe_bltn (by rfl) T.z_list (by decide +kernel) (v := .ty "list") rfl) pa_nil)))) (pss_one (ps_expr (pe_bm PySem.F.plainAttrs_list PySem.F.slot_list_append PySem.F.type_list_append mt_append (pv 3) (pa_cons pe_str pa_nil)))) pss_nil) (pss_one (ps_if (pt_cmpR op_ne (pe_callB (call_reprQ hgd hr.units sysb) (by rfl) T.z_repr (by decide +kernel) (pa_cons (pv 5) pa_nil)) (pe_callB (call_reprQ hgd hr.units sysb) (by rfl) T.z_repr (by decide +kernel) (pa_cons (pe_lst (pa_cons pe_str (pa_cons (pv 3) pa_nil))) pa_nil)) (nomark _)) (pss_one (ps_ret pe_bl)) pss_nil)))))) (pss_cons (ps_for PassesOwn.never rfl (pi_list (pe_lst (pa_cons pe_non (pa_cons pe_bl (pa_cons pe_int (pa_cons pe_str (pa_cons pe_str (pa_cons pe_dnewK (pa_cons (pe_disp (pps_cons pe_int pe_int pps_nil) rfl rfl (by decide) (by decide)) (pa_cons (pe_make T.k_Text G_Text_init (hr.mono (by decide)) (by rfl) T.g_Text T.b_Text_init .nil passL (pa_cons (pv 1) pa_nil)) pa_nil)))))))))) (pg_name (i := 3) sc_l_refused_right.nd rfl (Or.inl rfl)) (pss_one (ps_if (pt_cmpR (op_neSame hr.units) (pe_call G_l_caught (hr.mono (by decide)) (by rfl) T.g_l_caught T.F_l_caught.kp T.b_l_caught .nil pass0 (pa_cons pe_int (pa_cons pe_non (pa_cons (pv 3) (pa_cons pe_non pa_nil))))) (pe_lst (pa_cons pe_str (pa_cons (pv 3) pa_nil))) (nomark _)) (pss_one (ps_ret pe_bl)) pss_nil))) (pss_one (ps_ret pe_bl))))), ?_⟩
    refine ⟨_, rfl, _, rfl, .ref a, _, rfl, .inl ⟨_, SqL.of ha, rfl⟩, ?_⟩
    rw [intL_len]
    refine ⟨_, _, rfl, rfl, b, (cs.length : Nat) + 1, n, rfl, by omega, by omega, hb, by omega, fun r H0 r0 r1 hb0 bt0 => ?_⟩
    obtain ⟨at_, rfl⟩ : ∃ z : Nat, r = z := ⟨r.toNat, by omega⟩
    have hat : at_ ≤ cs.length := by omega
    have frb : ∀ {z : Addr}, H0 z = none → H z = none ∧ z ≠ b := fun {z} hz => by
      have nz : z ≠ b := fun w => by
        obtain ⟨ys, hys⟩ := hb0.there
        rw [w, hys] at hz
        cases hz
      refine ⟨?_, nz⟩
      cases e : H z with
      | none => rfl
      | some o =>
        rw [bt0 _ _ nz e] at hz
        cases hz
    have ha0 := bt0 _ _ nab ha
    -- the first list
    refine ⟨_, rfl, (by show 1 ≤ sizeLine; decide), fun l hl => fun d hd => ⟨(by show 9 ≤ sizeLine; decide), fun ol hol => ?_⟩⟩
    have x1 := same_new (o := .lst [V.int 97]) hl
    have x2 := same_new (o := .dK []) hd
    have x3 := same_new (o := .lst [V.non, V.bl true, V.int (-1), V.int 55296, V.int 57343, V.int 1114112, V.str "a", V.ref l, V.ref d]) hol
    have e1 := (x2.trans x3) _ _ (upd_same (H := H0) (a := l) (o := .lst [V.int 97]))
    have e2 := x3 _ _ (upd_same (a := d) (o := .dK []))
    have e3 : (upd (upd (upd H0 l (.lst [V.int 97])) d (.dK [])) ol (.lst [V.non, V.bl true, V.int (-1), V.int 55296, V.int 57343, V.int 1114112, V.str "a", V.ref l, V.ref d])) ol = some (.lst [V.non, V.bl true, V.int (-1), V.int 55296, V.int 57343, V.int 1114112, V.str "a", V.ref l, V.ref d]) := upd_same
    have X := (x1.trans x2).trans x3
    refine ⟨ol, rfl, ⟨_, SqL.of e3⟩, ?_⟩
    have fl := frb hl
    have fd := frb (x1.free hd)
    have fo := frb ((x1.trans x2).free hol)
    generalize upd (upd (upd H0 l (.lst [V.int 97])) d (.dK [])) ol (.lst [V.non, V.bl true, V.int (-1), V.int 55296, V.int 57343, V.int 1114112, V.str "a", V.ref l, V.ref d]) = H1 at X e1 e2 e3 ⊢
    have item : ∀ (i : Nat) (x : V), [V.non, V.bl true, V.int (-1), V.int 55296, V.int 57343, V.int 1114112, V.str "a", V.ref l, V.ref d][i]? = some x → chB x = false ∧ ((∃ e : PyData, Fit (.list [.str "char", e]) ∧ ∀ H : Hp, H d = some (.dK []) → Dq K H x e ∧ (∃ t, Ty A.C_Text H x t) ∧ ∀ q xs, x = .ref q → H q ≠ some (.lst xs)) ∨ (i = 7 ∧ x = .ref l)) := by
      intro i x h
      rcases i with _ | _ | _ | _ | _ | _ | _ | _ | _ | i
      · cases h
        exact ⟨rfl, .inl ⟨.none, fit_odd (by simp), fun H _ => ⟨.no, ⟨_, .non⟩, fun _ _ z => nomatch z⟩⟩⟩
      · cases h
        exact ⟨rfl, .inl ⟨.bool true, fit_odd (by simp), fun H _ => ⟨.bo _, ⟨_, .bl _⟩, fun _ _ z => nomatch z⟩⟩⟩
      · cases h
        exact ⟨by decide, .inl ⟨.int (-1), fit_odd (by simp), fun H _ => ⟨.it _, ⟨_, .int _⟩, fun _ _ z => nomatch z⟩⟩⟩
      · cases h
        exact ⟨by decide, .inl ⟨.int 55296, fit_odd (by simp), fun H _ => ⟨.it _, ⟨_, .int _⟩, fun _ _ z => nomatch z⟩⟩⟩
      · cases h
        exact ⟨by decide, .inl ⟨.int 57343, fit_odd (by simp), fun H _ => ⟨.it _, ⟨_, .int _⟩, fun _ _ z => nomatch z⟩⟩⟩
      · cases h
        exact ⟨by decide, .inl ⟨.int 1114112, fit_odd (by simp), fun H _ => ⟨.it _, ⟨_, .int _⟩, fun _ _ z => nomatch z⟩⟩⟩
      · cases h
        exact ⟨rfl, .inl ⟨.str "a", fit_odd (by simp), fun H _ => ⟨.tx _, ⟨_, .str _⟩, fun _ _ z => nomatch z⟩⟩⟩
      · cases h
        exact ⟨rfl, .inr ⟨rfl, rfl⟩⟩
      · cases h
        exact ⟨rfl, .inl ⟨.dict [], fit_odd (by simp), fun H h => ⟨.em h, ⟨_, .dct h⟩, fun q xs z y => by rw [← V.ref.inj z, h] at y; cases y⟩⟩⟩
      · simp at h
    refine for_list (K := K) (a := ol) (xs := [V.non, V.bl true, V.int (-1), V.int 55296, V.int 57343, V.int 1114112, V.str "a", V.ref l, V.ref d]) (fun i σ H' => ∃ v3 v4 v5 : Option V, σ = [some (.ref b), some (.ref a), some (.int (at_ : Nat)), v3, v4, v5] ∧ (∀ z o, z ≠ b → z ≠ l → H1 z = some o → H' z = some o) ∧ BagAt H' b (n + 1 + (i : Nat)) ∧ (i ≤ 7 → H' l = some (.lst [V.int 97])))
      ⟨none, none, none, rfl, fun _ _ _ _ h => h, (hb0.same X).le (by omega), fun _ => e1⟩ (fun i σ H' _ ⟨_, _, _, _, k, _⟩ => SqL.of (k _ _ fo.2 (fun z => by rw [z, e1] at e3; cases e3) e3)) ?_ ?_
    · rintro i x σ H2 hx ⟨v3, v4, v5, rfl, kp, hb2, hl2⟩
      obtain ⟨cx, what⟩ := item i x hx
      have nal : a ≠ l := fun z => by
        rw [← z] at fl
        rw [fl.1] at ha
        cases ha
      have ndl : d ≠ l := fun z => by
        rw [z, e1] at e2
        cases e2
      have ha2 := kp _ _ nab nal (X _ _ ha0)
      have hd2 := kp _ _ fd.2 ndl e2
      have hcut : cutV (intL cs) none (some (at_ : Int)) = intL (cs.take at_) := by
        unfold cutV
        rw [HT.sIx_none, HT.sIx_nat, intL_len, Nat.min_eq_left hat]
        simp [intL, List.map_take]
      have plen : (intL (cs.take at_)).length = at_ := by
        rw [intL_len, List.length_take]
        omega
      refine ⟨_, rfl, _, rfl, _, rfl, a, _, rfl, SqL.of ha2, fun p1 h1 => ?_⟩
      rw [hcut]
      refine ⟨_, rfl, (by show 3 ≤ sizeLine; decide), fun p2 h2 => ?_⟩
      have y1 := same_new (o := .lst (intL (cs.take at_))) h1
      have y2 := same_new (o := .lst [x, V.non, V.int 97]) h2
      refine ⟨p1, p2, _, _, rfl, rfl, y2 _ _ upd_same, upd_same, (by rw [plen]; show at_ + 3 ≤ sizeLine; omega), fun p3 h3 => ?_⟩
      have y3 := same_new (o := .lst (intL (cs.take at_) ++ [x, V.non, V.int 97])) h3
      have Y3 := (y1.trans y2).trans y3
      have g3 : (upd (upd (upd H2 p1 (.lst (intL (cs.take at_)))) p2 (.lst [x, V.non, V.int 97])) p3 (.lst (intL (cs.take at_) ++ [x, V.non, V.int 97]))) p3 = some (.lst (intL (cs.take at_) ++ [x, V.non, V.int 97])) := upd_same
      have z3 := (y1.trans y2).free h3
      generalize upd (upd (upd H2 p1 (.lst (intL (cs.take at_)))) p2 (.lst [x, V.non, V.int 97])) p3 (.lst (intL (cs.take at_) ++ [x, V.non, V.int 97])) = H3 at Y3 g3 ⊢
      refine ⟨_, rfl, _, rfl, _, rfl, a, _, rfl, SqL.of (Y3 _ _ ha2), fun p4 h4 => ?_⟩
      rw [hcut]
      refine ⟨_, rfl, (by show 2 ≤ sizeLine; decide), fun p5 h5 => ?_⟩
      have y4 := same_new (o := .lst (intL (cs.take at_))) h4
      have y5 := same_new (o := .lst [x, V.int 97]) h5
      refine ⟨p4, p5, _, _, rfl, rfl, y5 _ _ upd_same, upd_same, (by rw [plen]; show at_ + 2 ≤ sizeLine; omega), fun p6 h6 => ?_⟩
      have y6 := same_new (o := .lst (intL (cs.take at_) ++ [x, V.int 97])) h6
      refine ⟨p6, _, rfl, .inl ⟨SqL.of upd_same, fun p7 h7 => ?_⟩⟩
      have y7 := same_new (o := .tup (intL (cs.take at_) ++ [x, V.int 97])) h7
      refine ⟨(by show 2 ≤ sizeLine; decide), fun p8 h8 => ?_⟩
      have y8 := same_new (o := .lst [V.ref p3, V.ref p7]) h8
      have Y7 := ((y4.trans y5).trans y6).trans y7
      have Y8 := Y7.trans y8
      have z7 := Y3.free (((y4.trans y5).trans y6).free h7)
      have z8 := (Y3.trans Y7).free h8
      have g3' := Y8 _ _ g3
      have g7 := y8 _ _ (upd_same (a := p7) (o := .tup (intL (cs.take at_) ++ [x, V.int 97])))
      have g8 : (upd (upd (upd (upd (upd H3 p4 (.lst (intL (cs.take at_)))) p5 (.lst [x, V.int 97])) p6 (.lst (intL (cs.take at_) ++ [x, V.int 97]))) p7 (.tup (intL (cs.take at_) ++ [x, V.int 97]))) p8 (.lst [V.ref p3, V.ref p7])) p8 = some (.lst [V.ref p3, V.ref p7]) := upd_same
      generalize upd (upd (upd (upd (upd H3 p4 (.lst (intL (cs.take at_)))) p5 (.lst [x, V.int 97])) p6 (.lst (intL (cs.take at_) ++ [x, V.int 97]))) p7 (.tup (intL (cs.take at_) ++ [x, V.int 97]))) p8 (.lst [V.ref p3, V.ref p7]) = H8 at Y8 g3' g7 g8 ⊢
      have S8 := Y3.trans Y8
      have nb : ∀ {z : Addr}, H2 z = none → z ≠ b := fun {z} hz w => by
        obtain ⟨ys, hys⟩ := hb2.there
        rw [w, hys] at hz
        cases hz
      refine ⟨_, rfl, b, 2, _, rfl, by decide, by decide, hb2.same S8, ?_, fun r2 H9 r20 r21 hb9 bt9 => ?_⟩
      · have : i ≤ 8 := by
          have := (List.getElem?_eq_some_iff.mp hx).1
          simp at this
          omega
        omega
      have hd9 := bt9 _ _ fd.2 (S8 _ _ hd2)
      obtain ⟨z, zq, tail, hat2, rfl, hz, htail⟩ : ∃ (z : V) (zq : Addr) (tail : List V), atI [V.ref p3, V.ref p7] r2 = some z ∧ z = .ref zq ∧ (H9 zq = some (.lst (intL (cs.take at_) ++ x :: tail)) ∨ H9 zq = some (.tup (intL (cs.take at_) ++ x :: tail))) ∧ ∀ y ∈ tail, y = .non ∨ y = .int 97 := by
        have cs2 : r2 = 0 ∨ r2 = 1 := by omega
        rcases cs2 with rfl | rfl
        · exact ⟨_, p3, [.non, .int 97], rfl, rfl, .inl (bt9 _ _ (nb z3) g3'), fun y m => by
            simp only [List.mem_cons, List.mem_nil_iff, or_false] at m
            exact m⟩
        · exact ⟨_, p7, [.int 97], rfl, rfl, .inr (bt9 _ _ (nb z7) g7), fun y m => .inr (List.mem_singleton.mp m)⟩
      refine ⟨p8, _, _, _, rfl, rfl, SqL.of (bt9 _ _ (nb z8) g8), hat2, ?_⟩
      have hl9 : i ≤ 7 → H9 l = some (.lst [V.int 97]) := fun h => bt9 _ _ fl.2 (S8 _ _ (hl2 h))
      have tyx : ∃ t, Ty A.C_Text H9 x t := by
        rcases what with ⟨e, _, he⟩ | ⟨i7, rfl⟩
        · exact (he H9 hd9).2.1
        · exact ⟨_, .lst (hl9 (by omega))⟩
      have seq : Seq K A.C_Text H9 (.ref zq) (intL (cs.take at_) ++ x :: tail) := ⟨zq, rfl, hz, fun y m => by
        rcases List.mem_append.mp m with m | m
        · obtain ⟨c, _, rfl⟩ := List.mem_map.mp m
          exact ⟨_, .int c⟩
        · rcases List.mem_cons.mp m with rfl | m
          · exact tyx
          · rcases htail y m with rfl | rfl
            · exact ⟨_, .non⟩
            · exact ⟨_, .int _⟩⟩
      have get : (intL (cs.take at_) ++ x :: tail)[at_]? = some x := by
        rw [List.getElem?_append_right (by omega), plen, Nat.sub_self]
        rfl
      have ahead : ∀ (j : Nat) (y : V), j < at_ → (intL (cs.take at_) ++ x :: tail)[j]? = some y → chB y = true := fun j y hj hy => by
        rw [List.getElem?_append_left (by omega)] at hy
        obtain ⟨c, hc, rfl⟩ := intL_get hy
        exact good c (List.mem_of_mem_take (List.mem_of_getElem? hc))
      refine ⟨_, rfl, 3, .non, .ref zq, .non, rfl, hz.elim (fun h => ⟨_, .lst h⟩) (fun h => ⟨_, .tup h⟩), ⟨_, .non⟩, .inr ⟨rfl, .inr ⟨_, at_, x, seq, get, ahead, cx, fun f H10 hf s10 hl10 => ?_⟩⟩⟩
      obtain ⟨t, ty9⟩ := tyx
      have ty10 := ty9.same s10
      obtain ⟨bb, kit, yes⟩ := kit_lst (K := K) T ty10
      have kp10 : ∀ z o, z ≠ b → z ≠ l → H1 z = some o → H10 z = some o := fun z o n1 n2 e => s10 _ _ (bt9 _ _ n1 (S8 _ _ (kp z o n1 n2 e)))
      have hd10 := s10 _ _ hd9
      have hb10 := hb9.same s10
      refine ⟨_, rfl, x, .ty "list", t, .type "list", bb, rfl, .ty _, ty10.x T, kit, bb, rfl, ?_⟩
      refine ite2 (fun e => ?_) (fun e => ?_)
      · obtain ⟨qq, xs, rfl, hq⟩ := yes e
        rcases what with ⟨_, _, he⟩ | ⟨i7, el⟩
        · exact absurd hq ((he H10 hd10).2.2 qq xs rfl)
        · obtain rfl : qq = l := V.ref.inj el
          have hl10' := s10 _ _ (hl9 (by omega))
          have fq : f ≠ qq := fun w => by
            rw [w, hl9 (by omega)] at hf
            cases hf
          have nfit := fit_odd (e := .list [.int 97, .str "Late 1"]) (by simp)
          refine ⟨_, rfl, .inl ⟨rfl, _, SqL.of hl10'⟩, qq, _, _, rfl, rfl, hl10', (by show 1 < sizeLine; decide), ?_⟩
          have hf11 : (upd H10 qq (.lst ([V.int 97] ++ [V.str "Late 1"]))) f = some (.lst [V.str "char", V.ref qq]) := by
            rw [upd_ne fq]
            exact hl10
          have hq11 : (upd H10 qq (.lst ([V.int 97] ++ [V.str "Late 1"]))) qq = some (.lst [V.int 97, V.str "Late 1"]) := upd_same
          refine ⟨_, rfl, .inr ⟨f, _, rfl, .li (SqL.of hf11) (.co (.tx "char") (.co (.li (SqL.of hq11) (.co (.it _) (.co (.tx _) .no))) .no)), nfit.1, nfit.2.1, nfit.line, ?_⟩⟩
          refine ⟨_, rfl, (by show 2 ≤ sizeLine; decide), fun g hg => .inr ⟨g, _, rfl, .li (SqL.of upd_same) (.co (.tx "char") (.co (.li (SqL.of ((same_new hg) _ _ hq11)) (.co (.it _) (.co (.tx _) .no))) .no)), nfit.1, nfit.2.1, nfit.line, ?_⟩⟩
          refine ⟨rfl, _, rfl, iteNS rfl ?_⟩
          have sg := same_new (o := .lst [V.str "char", V.ref qq]) hg
          refine ⟨_, _, _, rfl, fun z o n1 n2 e => sg _ _ (by rw [upd_ne n2]; exact kp10 z o n1 n2 e), ?_, fun h => by omega⟩
          obtain ⟨b0, b1, b2, e, r1, r2, r3, r4, r5⟩ := hb10
          exact ⟨b0, b1, b2, sg _ _ (by rw [upd_ne (Ne.symm fl.2)]; exact e), r1, r2, r3, r4, by omega⟩
      · obtain ⟨ee, fe, hde⟩ : ∃ ee : PyData, Fit (.list [.str "char", ee]) ∧ ∀ H' : Hp, Same H10 H' → Dq K H' x ee := by
          rcases what with ⟨ee, fe, he⟩ | ⟨i7, rfl⟩
          · exact ⟨ee, fe, fun H' s' => (he H' (s' _ _ hd10)).1⟩
          · exact ⟨.list [.int 97], fit_odd (by simp), fun H' s' => .li (SqL.of (s' _ _ (s10 _ _ (hl9 (by omega))))) (.co (.it _) .no)⟩
        refine ⟨_, rfl, .inr ⟨f, _, rfl, .li (SqL.of hl10) (.co (.tx "char") (.co (hde _ (Same.refl _)) .no)), fe.1, fe.2.1, fe.line, ?_⟩⟩
        refine ⟨_, rfl, (by show 2 ≤ sizeLine; decide), fun g hg => .inr ⟨g, _, rfl, .li (SqL.of upd_same) (.co (.tx "char") (.co (hde _ (same_new hg)) .no)), fe.1, fe.2.1, fe.line, ?_⟩⟩
        refine ⟨rfl, _, rfl, iteNS rfl ?_⟩
        have sg := same_new (o := .lst [V.str "char", x]) hg
        exact ⟨_, _, _, rfl, fun z o n1 n2 e => sg _ _ (kp10 z o n1 n2 e), (hb10.same sg).le (by omega), fun h => sg _ _ (s10 _ _ (hl9 (by omega)))⟩
    · rintro σ H2 ⟨v3, v4, v5, rfl, kp, hb2, _⟩
      have nal : a ≠ l := fun z => by
        rw [← z] at fl
        rw [fl.1] at ha
        cases ha
      have ha2 := kp _ _ nab nal (X _ _ ha0)
      have kpH : But b H H2 := fun z o nz e => by
        refine kp z o nz (fun w => ?_) (X _ _ (bt0 _ _ nz e))
        rw [w, fl.1] at e
        cases e
      refine fun d2 h2 => fun d3 h3 => ⟨upd_same, [(.inl 97, .int 98)], rfl, by decide, ?_⟩
      have y1 := same_new (o := .dK []) h2
      have y2 : Same (upd H2 d2 (.dK [])) (upd (upd (upd H2 d2 (.dK [])) d3 (.dK [])) d3 (.dK (mergeK [] [(.inl 97, .int 98)]))) := fun z o e => by
        have n : z ≠ d3 := fun w => by
          rw [w, h3] at e
          cases e
        rw [upd_ne n, upd_ne n]
        exact e
      have e5 : (upd (upd (upd H2 d2 (.dK [])) d3 (.dK [])) d3 (.dK (mergeK [] [(.inl 97, .int 98)]))) d3 = some (.dK (mergeK [] [(.inl 97, .int 98)])) := upd_same
      have e6 := y2 _ _ (upd_same (H := H2) (a := d2) (o := .dK []))
      have Y := y1.trans y2
      generalize upd (upd (upd H2 d2 (.dK [])) d3 (.dK [])) d3 (.dK (mergeK [] [(.inl 97, .int 98)])) = H3 at Y e5 e6 ⊢
      refine ⟨_, rfl, fun tx dx hx hdx ne => ?_⟩
      refine made1 (A := A) (K := K) (cs := cs) ⟨a, rfl, .inl (Y _ _ ha2)⟩ (by omega) good hx hdx ne (fun H4 s4 ht4 => ⟨rfl, ?_⟩)
      refine ⟨(by show 8 ≤ sizeLine; decide), fun o2 ho2 => ?_⟩
      have y5 := same_new (o := .lst [V.non, V.bl true, V.int 7, V.str "", V.str "ab", V.ref d2, V.ref d3, V.ref tx]) ho2
      have e7 : (upd H4 o2 (.lst [V.non, V.bl true, V.int 7, V.str "", V.str "ab", V.ref d2, V.ref d3, V.ref tx])) o2 = some (.lst [V.non, V.bl true, V.int 7, V.str "", V.str "ab", V.ref d2, V.ref d3, V.ref tx]) := upd_same
      have Z := (Y.trans s4).trans y5
      have ht5 := ht4.same y5
      have e8 := y5 _ _ (s4 _ _ e5)
      have e9 := y5 _ _ (s4 _ _ e6)
      refine ⟨o2, rfl, ⟨_, SqL.of e7⟩, ?_⟩
      generalize upd H4 o2 (.lst [V.non, V.bl true, V.int 7, V.str "", V.str "ab", V.ref d2, V.ref d3, V.ref tx]) = H5 at Z ht5 e7 e8 e9 ⊢
      have item : ∀ x ∈ [V.non, V.bl true, V.int 7, V.str "", V.str "ab", V.ref d2, V.ref d3, V.ref tx], (∃ t, Ty A.C_Text H5 x t) ∧ plainV x = true ∧ ∀ H6, Same H5 H6 → ¬ Lsq H6 x := by
        intro x m
        simp only [List.mem_cons, List.mem_nil_iff, or_false] at m
        rcases m with rfl | rfl | rfl | rfl | rfl | rfl | rfl | rfl
        · exact ⟨⟨_, .non⟩, rfl, fun _ _ ⟨_, _, z, _⟩ => nomatch z⟩
        · exact ⟨⟨_, .bl _⟩, rfl, fun _ _ ⟨_, _, z, _⟩ => nomatch z⟩
        · exact ⟨⟨_, .int _⟩, rfl, fun _ _ ⟨_, _, z, _⟩ => nomatch z⟩
        · exact ⟨⟨_, .str _⟩, rfl, fun _ _ ⟨_, _, z, _⟩ => nomatch z⟩
        · exact ⟨⟨_, .str _⟩, rfl, fun _ _ ⟨_, _, z, _⟩ => nomatch z⟩
        · refine ⟨⟨_, .dct e9⟩, rfl, fun H6 s6 ⟨w, ys, z, y⟩ => ?_⟩
          rw [← V.ref.inj z, s6 _ _ e9] at y
          rcases y with y | y <;> cases y
        · refine ⟨⟨_, .dct e8⟩, rfl, fun H6 s6 ⟨w, ys, z, y⟩ => ?_⟩
          rw [← V.ref.inj z, s6 _ _ e8] at y
          rcases y with y | y <;> cases y
        · exact ⟨⟨_, ht5.ty⟩, rfl, fun H6 s6 => (ht5.same s6).noSeq⟩
      refine for_list (K := K) (a := o2) (xs := [V.non, V.bl true, V.int 7, V.str "", V.str "ab", V.ref d2, V.ref d3, V.ref tx]) (fun i σ H' => ∃ v3 : Option V, σ = [some (.ref b), some (.ref a), some (.int (at_ : Nat)), v3, v4, v5] ∧ Same H5 H')
        ⟨v3, rfl, Same.refl _⟩ (fun i σ H' _ ⟨_, _, sm⟩ => SqL.of (sm _ _ e7)) ?_ ?_
      · rintro i x σ H6 hx ⟨v3, rfl, sm⟩
        obtain ⟨⟨t, ty⟩, pl, no⟩ := item x (List.mem_of_getElem? hx)
        have plx : ([V.str "chars", x].all plainV) = true := by
          show (true && (plainV x && true)) = true
          rw [pl]
          rfl
        refine ⟨_, rfl, 3, .non, x, .non, rfl, ⟨_, ty.same sm⟩, ⟨_, .non⟩, .inr ⟨rfl, .inl ⟨no H6 sm, fun f H7 hf s7 hl7 => ?_⟩⟩⟩
        refine ⟨_, rfl, (by show 2 ≤ sizeLine; decide), fun g hg => ⟨f, g, [.str "chars", x], rfl, rfl, SqL.of ((same_new hg) _ _ hl7), SqL.of upd_same, plx, _, rfl, iteF ?_⟩⟩
        exact ⟨some x, rfl, sm.trans (s7.trans (same_new hg))⟩
      · rintro σ H6 ⟨v3, rfl, sm⟩
        refine q H6 (fun z o nz e => sm _ _ (Z _ _ (kpH z o nz e))) ((hb2.same (Z.trans sm)).le ?_)
        show n + 1 + 9 ≤ n + 10
        omega
end
end Tc

/-! # K5K -/
namespace Tc
open PySem PySem.Spec PyProof.Rows L2
/-- what is asked of the law's def -/
def LawOk (P : Program) : Prop := ∀ (w : World) (K : PySem.W.Frag) (mg : Str → Option Value) (A : Ads) (base : Heap) (H : Hp) (s : Shared) (a : Addr) (ns : List Int),
  Txt K mg A → (∀ (s : Shared) (v : Value), BindsTo s A.d_law ⟨[v], []⟩ [("_law_script", v)]) → ns.length ≤ 63 → SqL K H a (ns.map V.int) → Only H → Env0 P w K mg base callerA [] s H → SysD base →
  codeAny (model P w) callerA (.call (.ref A.a_law) ⟨[.ref a], []⟩) (CR CX0 [] P w H s (fun v _ => v = .bl true) fun _ _ _ => False) s
theorem TextAt.updL {C : Addr} {H : Hp} {p l : Addr} {cs : List Int} {xs ys : List V} (h : TextAt C H p cs) (hl : H l = some (.lst xs)) : TextAt C (upd H l (.lst ys)) p cs := by
  obtain ⟨dx, t, h1, h2, z⟩ := h
  refine ⟨dx, t, ?_, ?_, z⟩
  · rw [upd_ne (fun w => by rw [w, hl] at h1; cases h1)]
    exact h1
  · rw [upd_ne (fun w => by rw [w, hl] at h2; cases h2)]
    exact h2
theorem TextAt.but {C : Addr} {H H' : Hp} {p b : Addr} {cs : List Int} {n : Int} (h : TextAt C H p cs) (hb : BagAt H b n) (bt : But b H H') : TextAt C H' p cs := by
  obtain ⟨dx, t, h1, h2, z⟩ := h
  obtain ⟨ys, hy⟩ := hb.there
  exact ⟨dx, t, bt _ _ (fun w => by rw [w, hy] at h1; cases h1) h1, bt _ _ (fun w => by rw [w, hy] at h2; cases h2) h2, z⟩
theorem NeM {C : Addr} : Mon (DIns C (EqT C)) := mon_ins fun _ _ _ _ e ⟨cs, h1, h2⟩ => ⟨cs, h1.same e, h2.same e⟩
theorem dIns {C : Addr} {H : Hp} {p q : Addr} {cs : List Int} (h1 : TextAt C H p cs) (h2 : TextAt C H q cs) : DIns C (EqT C) (.ref p) (.ref q) H := by
  have h1' := h1
  have h2' := h2
  obtain ⟨dx, t, e1, _, _⟩ := h1'
  obtain ⟨dy, t', e2, _, _⟩ := h2'
  exact ⟨p, q, dx, dy, _, _, rfl, rfl, e1, e2, cs, h1, h2⟩
theorem law_ok (P : Program) : LawOk P := by
  intro w K mg A base H s a0 ns T hb hn hS hO e0 sysb
  have G_l_cell : FnOk P w K mg base CX0 1 A.a_l_cell A.d_l_cell ["_law_script", "_law_index"] (spCell K) := ok_cell T
  have G_l_bag : FnOk P w K mg base CX0 1 A.a_l_bag A.d_l_bag ["_law_cell_here"] spBag := ok_bag T
  have G_l_take : FnOk P w K mg base CX0 1 A.a_l_take A.d_l_take ["_law_bag_here", "_law_many"] spTake := ok_take T
  have G_l_chars : FnOk P w K mg base CX0 3 A.a_l_chars A.d_l_chars ["_law_bag_here", "_law_most"] spChars2 := ok_lchars T
  have G_Text_init : FnOk P w K mg base (L2.CX P w) 6 A.a_Text_init A.d_Text_init ["self", "chars"] (spText A K) := ok_Text_init T
  have G_Text_part : FnOk P w K mg base (L2.CX P w) 8 A.a_Text_part A.d_Text_part ["self", "start", "end"] (spPart A.C_Text A.C_BadPlace) := ok_Text_part T
  have G_Text_eqs : FnOk P w K mg base CX0 1 A.a_Text_eq A.d_Text_eq ["self", "other"] (spEq (EqT A.C_Text)) := (ok_Text_eq T).imp fun vs H Q E ⟨a, b, e, ⟨cs, ta, tb⟩, q⟩ => ⟨a, b, cs, cs, e, ta, tb, by rw [decide_eq_true rfl]; exact q H Ext.rfl'⟩
  have G_l_told_right : FnG P w K mg base CX0 7 A.a_l_told_right A.d_l_told_right ["_law_text", "_law_chars_here"] (spTold A.C_Text) := ok_told T sysb
  have G_l_odd_right : FnOk P w K mg base CX0 10 A.a_l_odd_right A.d_l_odd_right ["_law_bag_here", "_law_text", "_law_chars_here"] (spOddR A.C_Text) := ok_odd T
  have G_l_refused_right : FnG P w K mg base CX0 10 A.a_l_refused_right A.d_l_refused_right ["_law_bag_here", "_law_chars_here"] (spRefR A.C_Text) := ok_refused T sysb
  have sl := sizeLine_eq
  refine fn_here (k := 10) (x := "law") (qual := "law") (st := s_law) (N := ["_law_script", "_law_index", "_law_bag_here", "_law_chars_here", "_law_passed", "_law_texts", "_law_text", "_law_turn", "_law_start", "_law_end"]) (ps := ["_law_script"])
    (us := [.ref a0]) (vs := [.ref a0]) T.F_law sc_law ⟨rfl, by decide, by decide⟩ e0 (hb s (.ref a0)) (.cons rfl .nil) rfl (fun cdv hr => ?_)
  refine ⟨_, PSs.nox (pss_cons (ps_for PassesOwn.never rfl (pi_range1 (by rfl) T.z_range (pa_cons (pe_callB (call_max2 rfl) (by rfl) T.z_max (by decide +kernel) (pa_cons pe_int (pa_cons (pe_callB (call_min2 rfl) (by rfl) T.z_min (by decide +kernel) (pa_cons pe_int (pa_cons (pe_callB call_len (by rfl) T.z_len (by decide +kernel) (pa_cons (pv 0) pa_nil)) pa_nil))) pa_nil))) pa_nil)) (pg_name (i := 1) sc_law.nd rfl (Or.inl rfl)) (pss_cons (ps_set (i := 2) sc_law.nd rfl (Or.inl rfl) (pe_call G_l_bag (hr.mono (by decide)) (by rfl) T.g_l_bag T.F_l_bag.kp T.b_l_bag .nil pass0 (pa_cons (pe_call G_l_cell (hr.mono (by decide)) (by rfl) T.g_l_cell T.F_l_cell.kp T.b_l_cell .nil pass0 (pa_cons (pv 0) (pa_cons (pv 1) pa_nil))) pa_nil))) (pss_cons (ps_set (i := 3) sc_law.nd rfl (Or.inl rfl) (pe_call G_l_chars (hr.mono (by decide)) (by rfl) T.g_l_chars T.F_l_chars.kp T.b_l_chars .nil pass0 (pa_cons (pv 2) (pa_cons (pe_ix ix_list (pe_lst (pa_cons pe_int (pa_cons pe_int (pa_cons pe_int pa_nil)))) (pe_call G_l_take (hr.mono (by decide)) (by rfl) T.g_l_take T.F_l_take.kp T.b_l_take .nil pass0 (pa_cons (pv 2) (pa_cons pe_int pa_nil))) (fun _ _ => rfl)) pa_nil)))) (pss_cons (ps_set (i := 4) sc_law.nd rfl (Or.inl rfl) (pe_callTy call_list_of (by rfl) T.z_list (by decide +kernel) (pa_cons (pv 3) pa_nil))) (pss_cons (ps_set (i := 5) sc_law.nd rfl (Or.inl rfl) (pe_lst (pa_cons (pe_make T.k_Text G_Text_init (hr.mono (by decide)) (by rfl) T.g_Text T.b_Text_init .nil passL (pa_cons (pv 4) pa_nil)) (pa_cons (pe_make T.k_Text G_Text_init (hr.mono (by decide)) (by rfl) T.g_Text T.b_Text_init .nil passL (pa_cons (pe_callTy call_tuple_of (by rfl) T.z_tuple (by decide +kernel) (pa_cons (pv 3) pa_nil)) pa_nil)) (pa_cons (pe_make T.k_Text G_Text_init (hr.mono (by decide)) (by rfl) T.g_Text T.b_Text_init .nil passL (pa_cons (pv 3) pa_nil)) pa_nil))))) (pss_cons (ps_expr (pe_bm PySem.F.plainAttrs_list PySem.F.slot_list_append PySem.F.type_list_append mt_append (pv 4) (pa_cons pe_str pa_nil))) (pss_cons (ps_expr (pe_bm0 PySem.F.plainAttrs_list PySem.F.slot_list_reverse PySem.F.type_list_reverse mt_reverse (pv 4))) (pss_cons (ps_if (pt_cmpR (op_neOwn NeM (eqG_ins G_Text_eqs T.o_eq.at_ T.o_eq.fn T.b_Text_eq pass0) (hr.mono (by decide))) (pv 5) (pe_lst (pa_cons (pe_ix ix_list (pv 5) pe_int (fun _ _ => rfl)) (pa_cons (pe_ix ix_list (pv 5) pe_int (fun _ _ => rfl)) (pa_cons (pe_ix ix_list (pv 5) pe_int (fun _ _ => rfl)) pa_nil)))) (nomark _)) (pss_one (ps_ret pe_bl)) pss_nil) (pss_cons (ps_for PassesOwn.never rfl (pi_list (pv 5)) (pg_name (i := 6) sc_law.nd rfl (Or.inl rfl)) (pss_one (ps_if (PW.pt (pw_or (pt_not (pt_val (pe_callG G_l_told_right rfl (hr.mono (by decide)) (by rfl) T.g_l_told_right T.F_l_told_right.kp T.b_l_told_right (fun _ => pass0S) (pa_cons (pv 6) (pa_cons (pv 3) pa_nil))))) (pw_or1 (pt_not (pt_val (pe_call G_l_odd_right (hr.mono (by decide)) (by rfl) T.g_l_odd_right T.F_l_odd_right.kp T.b_l_odd_right .nil pass0 (pa_cons (pv 2) (pa_cons (pv 6) (pa_cons (pv 3) pa_nil))))))))) (pss_one (ps_ret pe_bl)) pss_nil))) (pss_cons (ps_for PassesOwn.never rfl (pi_range1 (by rfl) T.z_range (pa_cons pe_int pa_nil)) (pg_name (i := 7) sc_law.nd rfl (Or.inl rfl)) (pss_cons (ps_set (i := 8) sc_law.nd rfl (Or.inl rfl) (pe_call G_l_take (hr.mono (by decide)) (by rfl) T.g_l_take T.F_l_take.kp T.b_l_take .nil pass0 (pa_cons (pv 2) (pa_cons (pe_op op_add (pe_callB call_len (by rfl) T.z_len (by decide +kernel) (pa_cons (pv 3) pa_nil)) pe_int) pa_nil)))) (pss_cons (ps_set (i := 9) sc_law.nd rfl (Or.inl rfl) (pe_op op_add (pv 8) (pe_call G_l_take (hr.mono (by decide)) (by rfl) T.g_l_take T.F_l_take.kp T.b_l_take .nil pass0 (pa_cons (pv 2) (pa_cons (pe_op op_sub (pe_op op_add (pe_callB call_len (by rfl) T.z_len (by decide +kernel) (pa_cons (pv 3) pa_nil)) pe_int) (pv 8)) pa_nil))))) (pss_one (ps_if (pt_not (pt_val (pe_callG G_l_told_right rfl (hr.mono (by decide)) (by rfl) T.g_l_told_right T.F_l_told_right.kp T.b_l_told_right (fun _ => pass0S) (pa_cons (pe_meth (pe_ix ix_list (pv 5) pe_int (fun _ _ => rfl)) T.cl T.m_part G_Text_part (hr.mono (by decide)) T.b_Text_part .nil passL (pa_cons (pv 8) (pa_cons (pv 9) pa_nil))) (pa_cons (pe_slice sl_list (pv 3) (po_some (pv 8)) (po_some (pv 9))) pa_nil))))) (pss_one (ps_ret pe_bl)) pss_nil))))) (pss_one (ps_if (pt_not (pt_val (pe_callG G_l_refused_right rfl (hr.mono (by decide)) (by rfl) T.g_l_refused_right T.F_l_refused_right.kp T.b_l_refused_right (fun _ => pass0S) (pa_cons (pv 2) (pa_cons (pv 3) pa_nil))))) (pss_one (ps_ret pe_bl)) pss_nil)))))))))))) (pss_one (ps_ret pe_bl))), ?_⟩
  refine ⟨_, rfl, .ref a0, _, rfl, .inl ⟨_, hS, rfl⟩, _, _, rfl, _, _, rfl, _, rfl, ?_, ?_, for_range (lo := 0)
    (fun i σ H' => ∃ v1 v2 v3 v4 v5 v6 v7 v8 v9 : Option V, σ = [some (.ref a0), v1, v2, v3, v4, v5, v6, v7, v8, v9] ∧ Same H H')
    ⟨none, none, none, none, none, none, none, none, none, rfl, Same.refl H⟩ ?_ ?_⟩
  · repeat' split
    all_goals omega
  · repeat' split
    all_goals omega
  · rintro i σ Ha hi ⟨v1, v2, v3, v4, v5, v6, v7, v8, v9, rfl, sm⟩
    refine ⟨_, rfl, _, rfl, a0, ns, _, rfl, sm.seq hS, by omega, fun z => ⟨z, rfl, fun p H1 hp s1 hb1 => ?_⟩⟩
    refine ⟨_, rfl, (by show 3 ≤ sizeLine; decide), fun kl hkl => ?_⟩
    have s2 := same_new (o := .lst (intL [3, 12, 120])) hkl
    refine ⟨_, rfl, p, 3, 0, rfl, by decide, by decide, hb1.same s2, by decide, fun r H3 r0 r1 hb3 bt3 => ?_⟩
    have nkl : kl ≠ p := fun z => by
      obtain ⟨ys, hy⟩ := hb1.there
      rw [z, hy] at hkl
      cases hkl
    obtain ⟨m, mm, hm⟩ := at_int (l := [3, 12, 120]) r0 r1
    have hm3 : 0 ≤ m ∧ m ≤ 120 := by
      simp only [List.mem_cons, List.mem_nil_iff, or_false] at mm
      omega
    refine ⟨kl, _, _, _, rfl, rfl, SqL.of (bt3 _ _ nkl upd_same), hm, ?_⟩
    refine ⟨p, m, 0 + 1, rfl, hm3.1, by omega, hb3, by decide, fun a H4 cs hfa bt4 hb4 ha4 good len => ?_⟩
    have sz : cs.length < 5000 := by omega
    have k4 : ∀ z o, Ha z = some o → H4 z = some o := fun z o e => by
      have n : z ≠ p := fun w => by
        rw [w, hp] at e
        cases e
      exact bt4 _ _ n (bt3 _ _ n (s2 _ _ (s1 _ _ e)))
    have nap : a ≠ p := fun z => by
      obtain ⟨ys, hy⟩ := hb3.there
      rw [z, hy] at hfa
      cases hfa
    refine ⟨_, rfl, a, _, rfl, .inl (SqL.of ha4), fun l hl => ?_⟩
    have hb4' : BagAt H4 p 400 := hb4.le (by omega)
    have s5 := same_new (o := .lst (intL cs)) hl
    have hl5 : (upd H4 l (.lst (intL cs))) l = some (.lst (intL cs)) := upd_same
    have ha5 := s5 _ _ ha4
    generalize upd H4 l (.lst (intL cs)) = H5 at s5 hl5 ha5 ⊢
    refine ⟨_, rfl, fun x1 dx1 hx1 hdx1 ne1 => made1 ⟨l, rfl, .inl hl5⟩ (by omega) good hx1 hdx1 ne1 fun H6 s6 t1 => ⟨rfl, ?_⟩⟩
    refine ⟨_, rfl, a, _, rfl, .inl ⟨SqL.of (s6 _ _ ha5), fun tq htq => ?_⟩⟩
    have s7 := same_new (o := .tup (intL cs)) htq
    refine fun x2 dx2 hx2 hdx2 ne2 => made1 ⟨tq, rfl, .inr upd_same⟩ (by omega) good hx2 hdx2 ne2 fun H8 s8 t2 => ⟨rfl, ?_⟩
    have s68 := (s6.trans s7).trans s8
    refine ⟨_, rfl, fun x3 dx3 hx3 hdx3 ne3 => made1 ⟨a, rfl, .inl (s68 _ _ ha5)⟩ (by omega) good hx3 hdx3 ne3 fun H9 s9 t3 => ⟨rfl, ?_⟩⟩
    refine ⟨(by show 3 ≤ sizeLine; decide), fun tl htl => ?_⟩
    have s10 := same_new (o := .lst [V.ref x1, V.ref x2, V.ref x3]) htl
    have e10 : (upd H9 tl (.lst [V.ref x1, V.ref x2, V.ref x3])) tl = some (.lst [V.ref x1, V.ref x2, V.ref x3]) := upd_same
    have u1 := ((t1.same (s7.trans s8)).same s9).same s10
    have u2 := (t2.same s9).same s10
    have u3 := t3.same s10
    have s510 := (s68.trans s9).trans s10
    have hl10 := s510 _ _ hl5
    have ha10 := s510 _ _ ha5
    have S410 := s5.trans s510
    have hb10 := hb4'.same S410
    have k10 : ∀ z o, Ha z = some o → (upd H9 tl (.lst [V.ref x1, V.ref x2, V.ref x3])) z = some o := fun z o e => S410 _ _ (k4 _ _ e)
    have ntl : tl ≠ l := fun w => by
      rw [w] at htl
      rw [(s68.trans s9) _ _ hl5] at htl
      cases htl
    have nal : a ≠ l := fun w => by
      rw [← w, ha4] at hl
      cases hl
    have npl : p ≠ l := fun w => by
      obtain ⟨ys, hy⟩ := hb4.there
      rw [← w, hy] at hl
      cases hl
    generalize upd H9 tl (.lst [V.ref x1, V.ref x2, V.ref x3]) = H10 at e10 u1 u2 u3 hl10 ha10 hb10 k10 ⊢
    refine ⟨_, rfl, .inl ⟨rfl, _, SqL.of hl10⟩, l, _, _, rfl, rfl, hl10, (by rw [intL_len]; omega), ?_⟩
    have hl11 : (upd H10 l (.lst (intL cs ++ [V.str "Late 1"]))) l = some (.lst (intL cs ++ [V.str "Late 1"])) := upd_same
    refine ⟨_, rfl, .inl ⟨rfl, _, SqL.of hl11⟩, l, _, rfl, rfl, hl11, ?_⟩
    have w1 := (u1.updL (ys := intL cs ++ [V.str "Late 1"]) hl10).updL (ys := (intL cs ++ [V.str "Late 1"]).reverse) hl11
    have w2 := (u2.updL (ys := intL cs ++ [V.str "Late 1"]) hl10).updL (ys := (intL cs ++ [V.str "Late 1"]).reverse) hl11
    have w3 := (u3.updL (ys := intL cs ++ [V.str "Late 1"]) hl10).updL (ys := (intL cs ++ [V.str "Late 1"]).reverse) hl11
    have kk : ∀ z o, z ≠ l → H10 z = some o → (upd (upd H10 l (.lst (intL cs ++ [V.str "Late 1"]))) l (.lst (intL cs ++ [V.str "Late 1"]).reverse)) z = some o := fun z o n e => by
      rw [upd_ne n, upd_ne n]
      exact e
    have e12 := kk _ _ ntl e10
    have ha12 := kk _ _ nal ha10
    have hb12 : BagAt (upd (upd H10 l (.lst (intL cs ++ [V.str "Late 1"]))) l (.lst (intL cs ++ [V.str "Late 1"]).reverse)) p 400 := by
      obtain ⟨b0, b1, b2, e, r⟩ := hb10
      exact ⟨b0, b1, b2, kk _ _ npl e, r⟩
    have k12 : ∀ z o, Ha z = some o → (upd (upd H10 l (.lst (intL cs ++ [V.str "Late 1"]))) l (.lst (intL cs ++ [V.str "Late 1"]).reverse)) z = some o := fun z o e => by
      refine kk _ _ (fun w => ?_) (k10 _ _ e)
      rw [w] at e
      rw [k4 _ _ e] at hl
      cases hl
    generalize upd (upd H10 l (.lst (intL cs ++ [V.str "Late 1"]))) l (.lst (intL cs ++ [V.str "Late 1"]).reverse) = H12 at w1 w2 w3 e12 ha12 hb12 k12 ⊢
    refine ⟨_, rfl, _, rfl, tl, _, _, _, rfl, rfl, SqL.of e12, (show atI [V.ref x1, V.ref x2, V.ref x3] 2 = some (.ref x3) from rfl), ?_⟩
    refine ⟨_, rfl, tl, _, _, _, rfl, rfl, SqL.of e12, (show atI [V.ref x1, V.ref x2, V.ref x3] 0 = some (.ref x1) from rfl), ?_⟩
    refine ⟨_, rfl, tl, _, _, _, rfl, rfl, SqL.of e12, (show atI [V.ref x1, V.ref x2, V.ref x3] 1 = some (.ref x2) from rfl), ?_⟩
    refine ⟨(by show 3 ≤ sizeLine; decide), fun g hg => ?_⟩
    have s13 := same_new (o := .lst [V.ref x3, V.ref x1, V.ref x2]) hg
    refine ⟨tl, g, _, _, rfl, rfl, s13 _ _ e12, upd_same, .cons (dIns (w1.same s13) (w3.same s13)) (.cons (dIns (w2.same s13) (w1.same s13)) (.cons (dIns (w3.same s13) (w2.same s13)) .nil)), fun H13 s13' => ⟨_, rfl, iteF ?_⟩⟩
    have S13 := s13.trans (show Same _ H13 from s13')
    have e13 := S13 _ _ e12
    have ha13 := S13 _ _ ha12
    have hb13 := hb12.same S13
    have k13 : ∀ z o, Ha z = some o → H13 z = some o := fun z o e => S13 _ _ (k12 _ _ e)
    have y1 := w1.same S13
    have y2 := w2.same S13
    have y3 := w3.same S13
    -- each of the texts
    refine ⟨_, rfl, tl, rfl, ⟨_, SqL.of e13⟩, ?_⟩
    have three : ∀ x ∈ [V.ref x1, V.ref x2, V.ref x3], ∃ q, x = .ref q ∧ TextAt A.C_Text H13 q cs := fun x mx => by
      simp only [List.mem_cons, List.mem_nil_iff, or_false] at mx
      rcases mx with rfl | rfl | rfl
      · exact ⟨_, rfl, y1⟩
      · exact ⟨_, rfl, y2⟩
      · exact ⟨_, rfl, y3⟩
    refine for_list (K := K) (a := tl) (xs := [V.ref x1, V.ref x2, V.ref x3]) (fun j σ H' => ∃ v6 : Option V, σ = [some (.ref a0), some (.int (0 + (i : Nat))), some (.ref p), some (.ref a), some (.ref l), some (.ref tl), v6, v7, v8, v9] ∧ Same H13 H')
      ⟨v6, rfl, Same.refl _⟩ (fun j σ H' _ ⟨_, _, s'⟩ => SqL.of (s' _ _ e13)) ?_ ?_
    · rintro j x σ H14 hx ⟨v6, rfl, s14⟩
      obtain ⟨q, rfl, tq⟩ := three x (List.mem_of_getElem? hx)
      refine ⟨_, rfl, _, rfl, q, a, cs, rfl, tq.same s14, s14 _ _ ha13, good, sz, fun H15 s15 => ⟨_, rfl, iteF ?_⟩⟩
      have s1415 := s14.trans s15
      refine ⟨_, rfl, _, rfl, _, rfl, p, q, a, cs, rfl, tq.same s1415, s1415 _ _ ha13, good, sz, fun H16 s16 => ⟨_, rfl, iteF ?_⟩⟩
      exact ⟨some (.ref q), rfl, s1415.trans s16⟩
    rintro σ H14 ⟨v6, rfl, s14⟩
    have e14 := s14 _ _ e13
    have ha14 := s14 _ _ ha13
    have hb14 := hb13.same s14
    have t14 := y1.same s14
    have k14 : ∀ z o, Ha z = some o → H14 z = some o := fun z o e => s14 _ _ (k13 _ _ e)
    have ntp : tl ≠ p := fun w => by
      obtain ⟨b0, b1, b2, e, _⟩ := hb14
      rw [← w, e14] at e
      cases e
    refine ⟨4, rfl, by decide, by decide, for_range (lo := 0) (n := 4) (fun j σ H' => ∃ v7 v8 v9 : Option V, σ = [some (.ref a0), some (.int (0 + (i : Nat))), some (.ref p), some (.ref a), some (.ref l), some (.ref tl), v6, v7, v8, v9] ∧ But p H14 H' ∧ BagAt H' p (400 + 2 * (j : Nat)))
      ⟨v7, v8, v9, rfl, But.refl _ _, hb14.le (by omega)⟩ ?_ ?_⟩
    · rintro j σ H15 hj ⟨v7, v8, v9, rfl, bt15, hb15⟩
      have ha15 := bt15 _ _ nap ha14
      refine ⟨_, rfl, _, rfl, .ref a, _, rfl, .inl ⟨_, SqL.of ha15, rfl⟩, ?_⟩
      rw [intL_len]
      refine ⟨_, _, rfl, rfl, p, (cs.length : Nat) + 1, _, rfl, by omega, by omega, hb15, by omega, fun r H16 r0 r1 hb16 bt16 => ?_⟩
      obtain ⟨st, rfl⟩ : ∃ z : Nat, r = z := ⟨r.toNat, by omega⟩
      have ha16 := bt16 _ _ nap ha15
      refine ⟨_, rfl, _, rfl, _, rfl, .ref a, _, rfl, .inl ⟨_, SqL.of ha16, rfl⟩, ?_⟩
      rw [intL_len]
      refine ⟨_, _, rfl, rfl, _, rfl, _, _, rfl, rfl, p, (cs.length : Nat) + 1 - (st : Nat), _, rfl, by omega, by omega, hb16, by omega, fun r H17 r0' r1' hb17 bt17 => ?_⟩
      obtain ⟨sp, rfl⟩ : ∃ z : Nat, r = z := ⟨r.toNat, by omega⟩
      refine ⟨_, _, rfl, rfl, ?_⟩
      have bt := (bt15.trans bt16).trans bt17
      have t17 := t14.but hb14 bt
      have e17 := bt _ _ ntp e14
      have ha17 := bt _ _ nap ha14
      have t17' := t17
      obtain ⟨dx, t, hx17, _, _⟩ := t17'
      refine ⟨_, rfl, tl, _, _, _, rfl, rfl, SqL.of e17, (show atI [V.ref x1, V.ref x2, V.ref x3] 0 = some (.ref x1) from rfl), x1, dx, _, rfl, hx17, fpn _ _ (by decide +kernel), _, rfl, _, rfl,
        x1, cs, .int (st : Nat), .int ((st : Nat) + (sp : Nat)), rfl, t17, good, ⟨_, .int _⟩, ⟨_, .int _⟩, (fun no => by rw [inB_in (by omega) (by omega)] at no; cases no), fun i' ei hi' => ⟨fun no => ?_, fun _ j' ej hij hj' q H18 hq s18 tq => ?_⟩⟩
      · have := V.int.inj ei
        rw [inB_in (by omega) (by omega)] at no
        cases no
      · have e1 : i' = st := by
          have := V.int.inj ei
          omega
        have e2 : j' = st + sp := by
          have := V.int.inj ej
          omega
        subst e1 e2
        have hc : cutV (intL cs) (some (i' : Int)) (some ((i' : Int) + (sp : Int))) = intL (cutI cs i' (i' + sp)) := by
          have := cut_ints cs (i := i') (j := i' + sp) (by omega) hj'
          rw [Int.natCast_add] at this
          exact this
        have gcut : Good (cutI cs i' (i' + sp)) := fun c m => good c (List.mem_of_mem_drop (List.mem_of_mem_take m))
        have csz : (cutI cs i' (i' + sp)).length < 5000 := by
          unfold cutI
          rw [List.length_take, List.length_drop]
          omega
        refine ⟨_, rfl, _, rfl, _, rfl, _, rfl, _, rfl, a, _, rfl, SqL.of (s18 _ _ ha17), fun p5 hp5 => ?_⟩
        rw [hc]
        have s19 := same_new (o := .lst (intL (cutI cs i' (i' + sp)))) hp5
        refine ⟨q, p5, _, rfl, tq.same s19, upd_same, gcut, csz, fun H20 s20 => ⟨_, rfl, iteF ?_⟩⟩
        have all := (s18.trans s19).trans s20
        exact ⟨_, _, _, rfl, bt.trans (But.of all), (hb17.same all).le (by omega)⟩
    · rintro σ H15 ⟨v7, v8, v9, rfl, bt15, hb15⟩
      refine ⟨_, rfl, _, rfl, p, a, _, cs, rfl, hb15, by omega, bt15 _ _ nap ha14, nap, good, sz, fun H16 bt16 _ => ⟨_, rfl, iteF ?_⟩⟩
      refine ⟨_, _, _, _, _, _, _, _, _, rfl, fun z o e => ?_⟩
      have e' := sm _ _ e
      have n : z ≠ p := fun w => by
        rw [w, hp] at e'
        cases e'
      exact bt16 _ _ n (bt15 _ _ n (k14 _ _ e'))
  · rintro σ H' ⟨v1, v2, v3, v4, v5, v6, v7, v8, v9, rfl, sm⟩
    exact rfl
end Tc

namespace Tc
open PySem PySem.Spec PyProof.Rows L2
theorem refsVE_two {P : Addr} : PySem.HandSPX.refsVE [.ref P, .type "ValueError", .type "Exception", .type "BaseException", .type "object"] = true := by
  show PySem.HandSPX.refsVE [.type "ValueError", .type "Exception", .type "BaseException", .type "object"] = true
  decide +kernel
theorem exm_two {K : PySem.W.Frag} {C D : Addr} {b : Bool} (h1 : PySem.W.subIn K (.ref D) (.type "BaseException") = some true) (h2 : PySem.W.isClsIn K D = true) (h3 : PySem.W.typeIn K (.ref D) = some (.type "type")) (h4 : PySem.W.subIn K (.ref C) (.ref D) = some b) :
    PySem.W.exmOne K (.ref C) (.ref D) = some b := by
  have e1 : (PySem.W.subIn K (.ref D) (.type "BaseException") == some true) = true := by rw [h1] <;> rfl
  have e2 : ((PySem.W.clsIn K D).isSome && PySem.W.typeIn K (.ref D) == some (.type "type")) = true := by
    have h5 : (PySem.W.clsIn K D).isSome = true := h2
    rw [h5, h3] <;> rfl
  show (if (PySem.W.subIn K (.ref D) (.type "BaseException") == some true) = true then
    (if ((PySem.W.clsIn K D).isSome && PySem.W.typeIn K (.ref D) == some (.type "type")) = true then PySem.W.subIn K (.ref C) (.ref D) else none) else none) = some b
  rw [if_pos e1, if_pos e2]
  exact h4
theorem kit_own {K : PySem.W.Frag} {C : Addr} {x : String} (h1 : PySem.W.isClsIn K C = true) (h2 : PySem.W.typeIn K (.ref C) = some (.type "type")) (h3 : PySem.W.subIn K (.type x) (.ref C) = some false) : PySem.W.kitOne K (.type x) (.ref C) = some false := by
  have e1 : ((PySem.W.clsIn K C).isSome && PySem.W.typeIn K (.ref C) == some (.type "type")) = true := by
    have h5 : (PySem.W.clsIn K C).isSome = true := h1
    rw [h5, h2] <;> rfl
  have e0 : ¬ ((Value.type x == Value.ref C) = true) := by simp
  unfold PySem.W.kitOne
  rw [if_neg e0]
  show (if ((PySem.W.clsIn K C).isSome && PySem.W.typeIn K (.ref C) == some (.type "type")) = true then PySem.W.subIn K (.type x) (.ref C) else none) = some false
  rw [if_pos e1]
  exact h3
theorem kit_up {K : PySem.W.Frag} {C : Addr} {x : String} (h1 : PySem.W.kitMeta x = true) (h3 : PySem.W.subIn K (.ref C) (.type x) = some false) : PySem.W.kitOne K (.ref C) (.type x) = some false := by
  have e0 : ¬ ((Value.ref C == Value.type x) = true) := by simp
  unfold PySem.W.kitOne
  rw [if_neg e0]
  show (if PySem.W.kitMeta x = true then PySem.W.subIn K (.ref C) (.type x) else none) = some false
  rw [if_pos h1]
  exact h3
theorem kit_self {K : PySem.W.Frag} {C : Addr} : PySem.W.kitOne K (.ref C) (.ref C) = some true := by
  unfold PySem.W.kitOne
  rw [if_pos (by simp)]
theorem notFirst_of {K : PySem.W.Frag} {C : Addr} {x : String} (h : PySem.W.subIn K (.type x) (.ref C) = some false) : PySem.W.notFirst K C (.type x) = true := by
  unfold PySem.W.notFirst
  rw [h]
  simp
theorem all_mk {K : PySem.W.Frag} {h : Heap} {mg : Str → Option Value} {fa : Addr} (X : K.In h) (G : h.Ns mainGlobals mg) (hfa : mg "law" = some (.ref fa))
    {f1 : Addr} {od1 an1 : Option Addr} {sl1 : Array (Option Value)} {oc1 kV1 dc1 pm1 cd1 ct1 : Value}
    {f2 : Addr} {od2 an2 : Option Addr} {sl2 : Array (Option Value)} {oc2 kV2 dc2 pm2 cd2 ct2 : Value}
    {f3 : Addr} {od3 an3 : Option Addr} {sl3 : Array (Option Value)} {oc3 kV3 dc3 pm3 cd3 ct3 : Value}
    {f4 : Addr} {od4 an4 : Option Addr} {sl4 : Array (Option Value)} {oc4 kV4 dc4 pm4 cd4 ct4 : Value}
    {f5 : Addr} {od5 an5 : Option Addr} {sl5 : Array (Option Value)} {oc5 kV5 dc5 pm5 cd5 ct5 : Value}
    {f6 : Addr} {od6 an6 : Option Addr} {sl6 : Array (Option Value)} {oc6 kV6 dc6 pm6 cd6 ct6 : Value}
    {f7 : Addr} {od7 an7 : Option Addr} {sl7 : Array (Option Value)} {oc7 kV7 dc7 pm7 cd7 ct7 : Value}
    {f8 : Addr} {od8 an8 : Option Addr} {sl8 : Array (Option Value)} {oc8 kV8 dc8 pm8 cd8 ct8 : Value}
    {f9 : Addr} {od9 an9 : Option Addr} {sl9 : Array (Option Value)} {oc9 kV9 dc9 pm9 cd9 ct9 : Value}
    {f10 : Addr} {od10 an10 : Option Addr} {sl10 : Array (Option Value)} {oc10 kV10 dc10 pm10 cd10 ct10 : Value}
    {f11 : Addr} {od11 an11 : Option Addr} {sl11 : Array (Option Value)} {oc11 kV11 dc11 pm11 cd11 ct11 : Value}
    {f12 : Addr} {od12 an12 : Option Addr} {sl12 : Array (Option Value)} {oc12 kV12 dc12 pm12 cd12 ct12 : Value}
    {f13 : Addr} {od13 an13 : Option Addr} {sl13 : Array (Option Value)} {oc13 kV13 dc13 pm13 cd13 ct13 : Value}
    {f14 : Addr} {od14 an14 : Option Addr} {sl14 : Array (Option Value)} {oc14 kV14 dc14 pm14 cd14 ct14 : Value}
    {f15 : Addr} {od15 an15 : Option Addr} {sl15 : Array (Option Value)} {oc15 kV15 dc15 pm15 cd15 ct15 : Value}
    {f16 : Addr} {od16 an16 : Option Addr} {sl16 : Array (Option Value)} {oc16 kV16 dc16 pm16 cd16 ct16 : Value}
    {f17 : Addr} {od17 an17 : Option Addr} {sl17 : Array (Option Value)} {oc17 kV17 dc17 pm17 cd17 ct17 : Value}
    {f18 : Addr} {od18 an18 : Option Addr} {sl18 : Array (Option Value)} {oc18 kV18 dc18 pm18 cd18 ct18 : Value}
    {f19 : Addr} {od19 an19 : Option Addr} {sl19 : Array (Option Value)} {oc19 kV19 dc19 pm19 cd19 ct19 : Value}
    {f20 : Addr} {od20 an20 : Option Addr} {sl20 : Array (Option Value)} {oc20 kV20 dc20 pm20 cd20 ct20 : Value}
    {f21 : Addr} {od21 an21 : Option Addr} {sl21 : Array (Option Value)} {oc21 kV21 dc21 pm21 cd21 ct21 : Value}
    {f22 : Addr} {od22 an22 : Option Addr} {sl22 : Array (Option Value)} {oc22 kV22 dc22 pm22 cd22 ct22 : Value}
    {f23 : Addr} {od23 an23 : Option Addr} {sl23 : Array (Option Value)} {oc23 kV23 dc23 pm23 cd23 ct23 : Value}
    {f24 : Addr} {od24 an24 : Option Addr} {sl24 : Array (Option Value)} {oc24 kV24 dc24 pm24 cd24 ct24 : Value}
    {f25 : Addr} {od25 an25 : Option Addr} {sl25 : Array (Option Value)} {oc25 kV25 dc25 pm25 cd25 ct25 : Value}
    {f26 : Addr} {od26 an26 : Option Addr} {sl26 : Array (Option Value)} {oc26 kV26 dc26 pm26 cd26 ct26 : Value}
    {f27 : Addr} {od27 an27 : Option Addr} {sl27 : Array (Option Value)} {oc27 kV27 dc27 pm27 cd27 ct27 : Value}
    {C_InvalidChar n_InvalidChar P_InvalidChar : Addr} {nm_InvalidChar q_InvalidChar : Str} {N_InvalidChar : Addr} {bs_InvalidChar : List Value} {sn_InvalidChar : List Str} {sub_InvalidChar : List Value} {ab_InvalidChar : Bool} {col_InvalidChar : Option Bool} {dd_InvalidChar : Option Addr} {m0_InvalidChar m1_InvalidChar m2_InvalidChar m3_InvalidChar m5_InvalidChar : Option Value} {od_InvalidChar an_InvalidChar : Option Addr} {sl_InvalidChar : Array (Option Value)} {oc_InvalidChar kV_InvalidChar dc_InvalidChar pm_InvalidChar cd_InvalidChar ct_InvalidChar : Value}
    {C_InvalidChars n_InvalidChars P_InvalidChars : Addr} {nm_InvalidChars q_InvalidChars : Str} {N_InvalidChars : Addr} {bs_InvalidChars : List Value} {sn_InvalidChars : List Str} {sub_InvalidChars : List Value} {ab_InvalidChars : Bool} {col_InvalidChars : Option Bool} {dd_InvalidChars : Option Addr} {m0_InvalidChars m1_InvalidChars m2_InvalidChars m3_InvalidChars m5_InvalidChars : Option Value} {od_InvalidChars an_InvalidChars : Option Addr} {sl_InvalidChars : Array (Option Value)} {oc_InvalidChars kV_InvalidChars dc_InvalidChars pm_InvalidChars cd_InvalidChars ct_InvalidChars : Value}
    {C_InvalidKind n_InvalidKind P_InvalidKind : Addr} {nm_InvalidKind q_InvalidKind : Str} {N_InvalidKind : Addr} {bs_InvalidKind : List Value} {sn_InvalidKind : List Str} {sub_InvalidKind : List Value} {ab_InvalidKind : Bool} {col_InvalidKind : Option Bool} {dd_InvalidKind : Option Addr} {m0_InvalidKind m1_InvalidKind m2_InvalidKind m3_InvalidKind m5_InvalidKind : Option Value} {od_InvalidKind an_InvalidKind : Option Addr} {sl_InvalidKind : Array (Option Value)} {oc_InvalidKind kV_InvalidKind dc_InvalidKind pm_InvalidKind cd_InvalidKind ct_InvalidKind : Value}
    {C_BadPlace n_BadPlace P_BadPlace : Addr} {nm_BadPlace q_BadPlace : Str} {N_BadPlace : Addr} {bs_BadPlace : List Value} {sn_BadPlace : List Str} {sub_BadPlace : List Value} {ab_BadPlace : Bool} {col_BadPlace : Option Bool} {dd_BadPlace : Option Addr} {m0_BadPlace m1_BadPlace m2_BadPlace m3_BadPlace m5_BadPlace : Option Value} {od_BadPlace an_BadPlace : Option Addr} {sl_BadPlace : Array (Option Value)} {oc_BadPlace kV_BadPlace dc_BadPlace pm_BadPlace cd_BadPlace ct_BadPlace : Value}
    {t_LAST_CHAR : Tok}
    {t_FIRST_SURROGATE : Tok}
    {t_LAST_SURROGATE : Tok}
    {t_FIRST_WIDE : Tok}
    {t_KINDS : Addr} {dd_KINDS : Option Addr} {n_KINDS : Nat} {sl_KINDS : Array (Option Value)} {k0_KINDS k1_KINDS k2_KINDS : Tok}
    {C_Text : Addr}
    {f_Text_init : Addr} {od_Text_init an_Text_init : Option Addr} {sl_Text_init : Array (Option Value)} {oc_Text_init kV_Text_init dc_Text_init pm_Text_init cd_Text_init ct_Text_init : Value}
    {f_Text_repr : Addr} {od_Text_repr an_Text_repr : Option Addr} {sl_Text_repr : Array (Option Value)} {oc_Text_repr kV_Text_repr dc_Text_repr pm_Text_repr cd_Text_repr ct_Text_repr : Value}
    {f_Text_chars : Addr} {od_Text_chars an_Text_chars : Option Addr} {sl_Text_chars : Array (Option Value)} {oc_Text_chars kV_Text_chars dc_Text_chars pm_Text_chars cd_Text_chars ct_Text_chars : Value}
    {f_Text_count : Addr} {od_Text_count an_Text_count : Option Addr} {sl_Text_count : Array (Option Value)} {oc_Text_count kV_Text_count dc_Text_count pm_Text_count cd_Text_count ct_Text_count : Value}
    {f_Text_in_bytes : Addr} {od_Text_in_bytes an_Text_in_bytes : Option Addr} {sl_Text_in_bytes : Array (Option Value)} {oc_Text_in_bytes kV_Text_in_bytes dc_Text_in_bytes pm_Text_in_bytes cd_Text_in_bytes ct_Text_in_bytes : Value}
    {p_Text_in_bytes : Addr} {rs_Text_in_bytes : List Value}
    {f_Text_in_units : Addr} {od_Text_in_units an_Text_in_units : Option Addr} {sl_Text_in_units : Array (Option Value)} {oc_Text_in_units kV_Text_in_units dc_Text_in_units pm_Text_in_units cd_Text_in_units ct_Text_in_units : Value}
    {p_Text_in_units : Addr} {rs_Text_in_units : List Value}
    {f_Text_in_chars : Addr} {od_Text_in_chars an_Text_in_chars : Option Addr} {sl_Text_in_chars : Array (Option Value)} {oc_Text_in_chars kV_Text_in_chars dc_Text_in_chars pm_Text_in_chars cd_Text_in_chars ct_Text_in_chars : Value}
    {p_Text_in_chars : Addr} {rs_Text_in_chars : List Value}
    {f_Text_len : Addr} {od_Text_len an_Text_len : Option Addr} {sl_Text_len : Array (Option Value)} {oc_Text_len kV_Text_len dc_Text_len pm_Text_len cd_Text_len ct_Text_len : Value}
    {f_Text_getitem : Addr} {od_Text_getitem an_Text_getitem : Option Addr} {sl_Text_getitem : Array (Option Value)} {oc_Text_getitem kV_Text_getitem dc_Text_getitem pm_Text_getitem cd_Text_getitem ct_Text_getitem : Value}
    {f_Text_part : Addr} {od_Text_part an_Text_part : Option Addr} {sl_Text_part : Array (Option Value)} {oc_Text_part kV_Text_part dc_Text_part pm_Text_part cd_Text_part ct_Text_part : Value}
    {f_Text_eq : Addr} {od_Text_eq an_Text_eq : Option Addr} {sl_Text_eq : Array (Option Value)} {oc_Text_eq kV_Text_eq dc_Text_eq pm_Text_eq cd_Text_eq ct_Text_eq : Value}
    (a1 : PySem.W.nsIn K mainGlobals "is_integer" = some (some (.ref f1)))
    (l1 : K.lookup f1 = some ⟨oc1, od1, .func (PySem.W.fnOf "is_integer" "is_integer" (defArgs s_is_integer) (defBody s_is_integer) (defScope s_is_integer) .none kV1 dc1 pm1 an1 cd1 ct1), sl1⟩)
    (c1 : PySem.W.codeIn K cd1 "is_integer" = true)
    (k1 : PySem.W.keepIn K (.ref f1) = true)
    (a2 : PySem.W.nsIn K mainGlobals "is_whole" = some (some (.ref f2)))
    (l2 : K.lookup f2 = some ⟨oc2, od2, .func (PySem.W.fnOf "is_whole" "is_whole" (defArgs s_is_whole) (defBody s_is_whole) (defScope s_is_whole) .none kV2 dc2 pm2 an2 cd2 ct2), sl2⟩)
    (c2 : PySem.W.codeIn K cd2 "is_whole" = true)
    (k2 : PySem.W.keepIn K (.ref f2) = true)
    (a3 : PySem.W.nsIn K mainGlobals "is_char" = some (some (.ref f3)))
    (l3 : K.lookup f3 = some ⟨oc3, od3, .func (PySem.W.fnOf "is_char" "is_char" (defArgs s_is_char) (defBody s_is_char) (defScope s_is_char) .none kV3 dc3 pm3 an3 cd3 ct3), sl3⟩)
    (c3 : PySem.W.codeIn K cd3 "is_char" = true)
    (k3 : PySem.W.keepIn K (.ref f3) = true)
    (a4 : PySem.W.nsIn K mainGlobals "is_list" = some (some (.ref f4)))
    (l4 : K.lookup f4 = some ⟨oc4, od4, .func (PySem.W.fnOf "is_list" "is_list" (defArgs s_is_list) (defBody s_is_list) (defScope s_is_list) .none kV4 dc4 pm4 an4 cd4 ct4), sl4⟩)
    (c4 : PySem.W.codeIn K cd4 "is_list" = true)
    (k4 : PySem.W.keepIn K (.ref f4) = true)
    (a5 : PySem.W.nsIn K mainGlobals "is_chars" = some (some (.ref f5)))
    (l5 : K.lookup f5 = some ⟨oc5, od5, .func (PySem.W.fnOf "is_chars" "is_chars" (defArgs s_is_chars) (defBody s_is_chars) (defScope s_is_chars) .none kV5 dc5 pm5 an5 cd5 ct5), sl5⟩)
    (c5 : PySem.W.codeIn K cd5 "is_chars" = true)
    (k5 : PySem.W.keepIn K (.ref f5) = true)
    (a6 : PySem.W.nsIn K mainGlobals "is_kind" = some (some (.ref f6)))
    (l6 : K.lookup f6 = some ⟨oc6, od6, .func (PySem.W.fnOf "is_kind" "is_kind" (defArgs s_is_kind) (defBody s_is_kind) (defScope s_is_kind) .none kV6 dc6 pm6 an6 cd6 ct6), sl6⟩)
    (c6 : PySem.W.codeIn K cd6 "is_kind" = true)
    (k6 : PySem.W.keepIn K (.ref f6) = true)
    (a7 : PySem.W.nsIn K mainGlobals "check_char" = some (some (.ref f7)))
    (l7 : K.lookup f7 = some ⟨oc7, od7, .func (PySem.W.fnOf "check_char" "check_char" (defArgs s_check_char) (defBody s_check_char) (defScope s_check_char) .none kV7 dc7 pm7 an7 cd7 ct7), sl7⟩)
    (c7 : PySem.W.codeIn K cd7 "check_char" = true)
    (k7 : PySem.W.keepIn K (.ref f7) = true)
    (a8 : PySem.W.nsIn K mainGlobals "check_chars" = some (some (.ref f8)))
    (l8 : K.lookup f8 = some ⟨oc8, od8, .func (PySem.W.fnOf "check_chars" "check_chars" (defArgs s_check_chars) (defBody s_check_chars) (defScope s_check_chars) .none kV8 dc8 pm8 an8 cd8 ct8), sl8⟩)
    (c8 : PySem.W.codeIn K cd8 "check_chars" = true)
    (k8 : PySem.W.keepIn K (.ref f8) = true)
    (a9 : PySem.W.nsIn K mainGlobals "check_kind" = some (some (.ref f9)))
    (l9 : K.lookup f9 = some ⟨oc9, od9, .func (PySem.W.fnOf "check_kind" "check_kind" (defArgs s_check_kind) (defBody s_check_kind) (defScope s_check_kind) .none kV9 dc9 pm9 an9 cd9 ct9), sl9⟩)
    (c9 : PySem.W.codeIn K cd9 "check_kind" = true)
    (k9 : PySem.W.keepIn K (.ref f9) = true)
    (a10 : PySem.W.nsIn K mainGlobals "char_width" = some (some (.ref f10)))
    (l10 : K.lookup f10 = some ⟨oc10, od10, .func (PySem.W.fnOf "char_width" "char_width" (defArgs s_char_width) (defBody s_char_width) (defScope s_char_width) .none kV10 dc10 pm10 an10 cd10 ct10), sl10⟩)
    (c10 : PySem.W.codeIn K cd10 "char_width" = true)
    (k10 : PySem.W.keepIn K (.ref f10) = true)
    (a11 : PySem.W.nsIn K mainGlobals "byte_width" = some (some (.ref f11)))
    (l11 : K.lookup f11 = some ⟨oc11, od11, .func (PySem.W.fnOf "byte_width" "byte_width" (defArgs s_byte_width) (defBody s_byte_width) (defScope s_byte_width) .none kV11 dc11 pm11 an11 cd11 ct11), sl11⟩)
    (c11 : PySem.W.codeIn K cd11 "byte_width" = true)
    (k11 : PySem.W.keepIn K (.ref f11) = true)
    (a12 : PySem.W.nsIn K mainGlobals "unit_width" = some (some (.ref f12)))
    (l12 : K.lookup f12 = some ⟨oc12, od12, .func (PySem.W.fnOf "unit_width" "unit_width" (defArgs s_unit_width) (defBody s_unit_width) (defScope s_unit_width) .none kV12 dc12 pm12 an12 cd12 ct12), sl12⟩)
    (c12 : PySem.W.codeIn K cd12 "unit_width" = true)
    (k12 : PySem.W.keepIn K (.ref f12) = true)
    (a13 : PySem.W.nsIn K mainGlobals "total_width" = some (some (.ref f13)))
    (l13 : K.lookup f13 = some ⟨oc13, od13, .func (PySem.W.fnOf "total_width" "total_width" (defArgs s_total_width) (defBody s_total_width) (defScope s_total_width) .none kV13 dc13 pm13 an13 cd13 ct13), sl13⟩)
    (c13 : PySem.W.codeIn K cd13 "total_width" = true)
    (k13 : PySem.W.keepIn K (.ref f13) = true)
    (a14 : PySem.W.nsIn K mainGlobals "points_of" = some (some (.ref f14)))
    (l14 : K.lookup f14 = some ⟨oc14, od14, .func (PySem.W.fnOf "points_of" "points_of" (defArgs s_points_of) (defBody s_points_of) (defScope s_points_of) .none kV14 dc14 pm14 an14 cd14 ct14), sl14⟩)
    (c14 : PySem.W.codeIn K cd14 "points_of" = true)
    (k14 : PySem.W.keepIn K (.ref f14) = true)
    (a15 : PySem.W.nsIn K mainGlobals "stands_in" = some (some (.ref f15)))
    (l15 : K.lookup f15 = some ⟨oc15, od15, .func (PySem.W.fnOf "stands_in" "stands_in" (defArgs s_stands_in) (defBody s_stands_in) (defScope s_stands_in) .none kV15 dc15 pm15 an15 cd15 ct15), sl15⟩)
    (c15 : PySem.W.codeIn K cd15 "stands_in" = true)
    (k15 : PySem.W.keepIn K (.ref f15) = true)
    (a16 : PySem.W.nsIn K mainGlobals "_law_cell" = some (some (.ref f16)))
    (l16 : K.lookup f16 = some ⟨oc16, od16, .func (PySem.W.fnOf "_law_cell" "_law_cell" (defArgs s_l_cell) (defBody s_l_cell) (defScope s_l_cell) .none kV16 dc16 pm16 an16 cd16 ct16), sl16⟩)
    (c16 : PySem.W.codeIn K cd16 "_law_cell" = true)
    (k16 : PySem.W.keepIn K (.ref f16) = true)
    (a17 : PySem.W.nsIn K mainGlobals "_law_bag" = some (some (.ref f17)))
    (l17 : K.lookup f17 = some ⟨oc17, od17, .func (PySem.W.fnOf "_law_bag" "_law_bag" (defArgs s_l_bag) (defBody s_l_bag) (defScope s_l_bag) .none kV17 dc17 pm17 an17 cd17 ct17), sl17⟩)
    (c17 : PySem.W.codeIn K cd17 "_law_bag" = true)
    (k17 : PySem.W.keepIn K (.ref f17) = true)
    (a18 : PySem.W.nsIn K mainGlobals "_law_take" = some (some (.ref f18)))
    (l18 : K.lookup f18 = some ⟨oc18, od18, .func (PySem.W.fnOf "_law_take" "_law_take" (defArgs s_l_take) (defBody s_l_take) (defScope s_l_take) .none kV18 dc18 pm18 an18 cd18 ct18), sl18⟩)
    (c18 : PySem.W.codeIn K cd18 "_law_take" = true)
    (k18 : PySem.W.keepIn K (.ref f18) = true)
    (a19 : PySem.W.nsIn K mainGlobals "_law_char" = some (some (.ref f19)))
    (l19 : K.lookup f19 = some ⟨oc19, od19, .func (PySem.W.fnOf "_law_char" "_law_char" (defArgs s_l_char) (defBody s_l_char) (defScope s_l_char) .none kV19 dc19 pm19 an19 cd19 ct19), sl19⟩)
    (c19 : PySem.W.codeIn K cd19 "_law_char" = true)
    (k19 : PySem.W.keepIn K (.ref f19) = true)
    (a20 : PySem.W.nsIn K mainGlobals "_law_chars" = some (some (.ref f20)))
    (l20 : K.lookup f20 = some ⟨oc20, od20, .func (PySem.W.fnOf "_law_chars" "_law_chars" (defArgs s_l_chars) (defBody s_l_chars) (defScope s_l_chars) .none kV20 dc20 pm20 an20 cd20 ct20), sl20⟩)
    (c20 : PySem.W.codeIn K cd20 "_law_chars" = true)
    (k20 : PySem.W.keepIn K (.ref f20) = true)
    (a21 : PySem.W.nsIn K mainGlobals "_law_width" = some (some (.ref f21)))
    (l21 : K.lookup f21 = some ⟨oc21, od21, .func (PySem.W.fnOf "_law_width" "_law_width" (defArgs s_l_width) (defBody s_l_width) (defScope s_l_width) .none kV21 dc21 pm21 an21 cd21 ct21), sl21⟩)
    (c21 : PySem.W.codeIn K cd21 "_law_width" = true)
    (k21 : PySem.W.keepIn K (.ref f21) = true)
    (a22 : PySem.W.nsIn K mainGlobals "_law_numbers" = some (some (.ref f22)))
    (l22 : K.lookup f22 = some ⟨oc22, od22, .func (PySem.W.fnOf "_law_numbers" "_law_numbers" (defArgs s_l_numbers) (defBody s_l_numbers) (defScope s_l_numbers) .none kV22 dc22 pm22 an22 cd22 ct22), sl22⟩)
    (c22 : PySem.W.codeIn K cd22 "_law_numbers" = true)
    (k22 : PySem.W.keepIn K (.ref f22) = true)
    (a23 : PySem.W.nsIn K mainGlobals "_law_caught" = some (some (.ref f23)))
    (l23 : K.lookup f23 = some ⟨oc23, od23, .func (PySem.W.fnOf "_law_caught" "_law_caught" (defArgs s_l_caught) (defBody s_l_caught) (defScope s_l_caught) .none kV23 dc23 pm23 an23 cd23 ct23), sl23⟩)
    (c23 : PySem.W.codeIn K cd23 "_law_caught" = true)
    (k23 : PySem.W.keepIn K (.ref f23) = true)
    (a24 : PySem.W.nsIn K mainGlobals "_law_told_right" = some (some (.ref f24)))
    (l24 : K.lookup f24 = some ⟨oc24, od24, .func (PySem.W.fnOf "_law_told_right" "_law_told_right" (defArgs s_l_told_right) (defBody s_l_told_right) (defScope s_l_told_right) .none kV24 dc24 pm24 an24 cd24 ct24), sl24⟩)
    (c24 : PySem.W.codeIn K cd24 "_law_told_right" = true)
    (k24 : PySem.W.keepIn K (.ref f24) = true)
    (a25 : PySem.W.nsIn K mainGlobals "_law_odd_right" = some (some (.ref f25)))
    (l25 : K.lookup f25 = some ⟨oc25, od25, .func (PySem.W.fnOf "_law_odd_right" "_law_odd_right" (defArgs s_l_odd_right) (defBody s_l_odd_right) (defScope s_l_odd_right) .none kV25 dc25 pm25 an25 cd25 ct25), sl25⟩)
    (c25 : PySem.W.codeIn K cd25 "_law_odd_right" = true)
    (k25 : PySem.W.keepIn K (.ref f25) = true)
    (a26 : PySem.W.nsIn K mainGlobals "_law_refused_right" = some (some (.ref f26)))
    (l26 : K.lookup f26 = some ⟨oc26, od26, .func (PySem.W.fnOf "_law_refused_right" "_law_refused_right" (defArgs s_l_refused_right) (defBody s_l_refused_right) (defScope s_l_refused_right) .none kV26 dc26 pm26 an26 cd26 ct26), sl26⟩)
    (c26 : PySem.W.codeIn K cd26 "_law_refused_right" = true)
    (k26 : PySem.W.keepIn K (.ref f26) = true)
    (a27 : PySem.W.nsIn K mainGlobals "law" = some (some (.ref f27)))
    (l27 : K.lookup f27 = some ⟨oc27, od27, .func (PySem.W.fnOf "law" "law" (defArgs s_law) (defBody s_law) (defScope s_law) .none kV27 dc27 pm27 an27 cd27 ct27), sl27⟩)
    (c27 : PySem.W.codeIn K cd27 "law" = true)
    (k27 : PySem.W.keepIn K (.ref f27) = true)
    (aC_InvalidChar : PySem.W.nsIn K mainGlobals "InvalidChar" = some (some (.ref C_InvalidChar)))
    (xL_InvalidChar : K.lookup C_InvalidChar = some (excClassObj nm_InvalidChar q_InvalidChar C_InvalidChar N_InvalidChar bs_InvalidChar [.ref P_InvalidChar, .type "ValueError", .type "Exception", .type "BaseException", .type "object"] true sn_InvalidChar sub_InvalidChar ab_InvalidChar col_InvalidChar dd_InvalidChar m0_InvalidChar m1_InvalidChar m2_InvalidChar m3_InvalidChar m5_InvalidChar "ValueError.__new__"))
    (sa_InvalidChar : PySem.W.findIn K (.ref C_InvalidChar) "__setattr__" = some (some (.builtin "object.__setattr__")))
    (ga_InvalidChar : PySem.W.findIn K (.ref C_InvalidChar) "__getattribute__" = some (some (.builtin "BaseException.__getattribute__")))
    (gg_InvalidChar : PySem.W.findIn K (.ref C_InvalidChar) "__getattr__" = some none)
    (nv_InvalidChar : PySem.W.findIn K (.ref C_InvalidChar) "value" = some none)
    (in_InvalidChar : PySem.W.findIn K (.ref C_InvalidChar) "__init__" = some (some (.ref n_InvalidChar)))
    (ti_InvalidChar : PySem.W.typeIn K (.ref n_InvalidChar) = some (.type "function"))
    (li_InvalidChar : K.lookup n_InvalidChar = some ⟨oc_InvalidChar, od_InvalidChar, .func (PySem.W.fnOf "__init__" "InvalidChar.__init__" (defArgs s_InvalidChar) (defBody s_InvalidChar) (defScope s_InvalidChar) .none kV_InvalidChar dc_InvalidChar pm_InvalidChar an_InvalidChar cd_InvalidChar ct_InvalidChar), sl_InvalidChar⟩)
    (ci_InvalidChar : PySem.W.codeIn K cd_InvalidChar "InvalidChar.__init__" = true)
    (ki_InvalidChar : PySem.W.keepIn K (.ref n_InvalidChar) = true)
    (kC_InvalidChar : PySem.W.keepIn K (.ref C_InvalidChar) = true)
    (eC_InvalidChar : PySem.W.subIn K (.ref C_InvalidChar) (.type "BaseException") = some true)
    (tC_InvalidChar : PySem.W.typeIn K (.ref C_InvalidChar) = some (.type "type"))
    (hC_InvalidChar : PySem.W.hasDictIn K C_InvalidChar = true)
    (iC_InvalidChar : PySem.W.isClsIn K C_InvalidChar = true)
    (aC_InvalidChars : PySem.W.nsIn K mainGlobals "InvalidChars" = some (some (.ref C_InvalidChars)))
    (xL_InvalidChars : K.lookup C_InvalidChars = some (excClassObj nm_InvalidChars q_InvalidChars C_InvalidChars N_InvalidChars bs_InvalidChars [.ref P_InvalidChars, .type "ValueError", .type "Exception", .type "BaseException", .type "object"] true sn_InvalidChars sub_InvalidChars ab_InvalidChars col_InvalidChars dd_InvalidChars m0_InvalidChars m1_InvalidChars m2_InvalidChars m3_InvalidChars m5_InvalidChars "ValueError.__new__"))
    (sa_InvalidChars : PySem.W.findIn K (.ref C_InvalidChars) "__setattr__" = some (some (.builtin "object.__setattr__")))
    (ga_InvalidChars : PySem.W.findIn K (.ref C_InvalidChars) "__getattribute__" = some (some (.builtin "BaseException.__getattribute__")))
    (gg_InvalidChars : PySem.W.findIn K (.ref C_InvalidChars) "__getattr__" = some none)
    (nv_InvalidChars : PySem.W.findIn K (.ref C_InvalidChars) "value" = some none)
    (in_InvalidChars : PySem.W.findIn K (.ref C_InvalidChars) "__init__" = some (some (.ref n_InvalidChars)))
    (ti_InvalidChars : PySem.W.typeIn K (.ref n_InvalidChars) = some (.type "function"))
    (li_InvalidChars : K.lookup n_InvalidChars = some ⟨oc_InvalidChars, od_InvalidChars, .func (PySem.W.fnOf "__init__" "InvalidChars.__init__" (defArgs s_InvalidChars) (defBody s_InvalidChars) (defScope s_InvalidChars) .none kV_InvalidChars dc_InvalidChars pm_InvalidChars an_InvalidChars cd_InvalidChars ct_InvalidChars), sl_InvalidChars⟩)
    (ci_InvalidChars : PySem.W.codeIn K cd_InvalidChars "InvalidChars.__init__" = true)
    (ki_InvalidChars : PySem.W.keepIn K (.ref n_InvalidChars) = true)
    (kC_InvalidChars : PySem.W.keepIn K (.ref C_InvalidChars) = true)
    (eC_InvalidChars : PySem.W.subIn K (.ref C_InvalidChars) (.type "BaseException") = some true)
    (tC_InvalidChars : PySem.W.typeIn K (.ref C_InvalidChars) = some (.type "type"))
    (hC_InvalidChars : PySem.W.hasDictIn K C_InvalidChars = true)
    (iC_InvalidChars : PySem.W.isClsIn K C_InvalidChars = true)
    (aC_InvalidKind : PySem.W.nsIn K mainGlobals "InvalidKind" = some (some (.ref C_InvalidKind)))
    (xL_InvalidKind : K.lookup C_InvalidKind = some (excClassObj nm_InvalidKind q_InvalidKind C_InvalidKind N_InvalidKind bs_InvalidKind [.ref P_InvalidKind, .type "ValueError", .type "Exception", .type "BaseException", .type "object"] true sn_InvalidKind sub_InvalidKind ab_InvalidKind col_InvalidKind dd_InvalidKind m0_InvalidKind m1_InvalidKind m2_InvalidKind m3_InvalidKind m5_InvalidKind "ValueError.__new__"))
    (sa_InvalidKind : PySem.W.findIn K (.ref C_InvalidKind) "__setattr__" = some (some (.builtin "object.__setattr__")))
    (ga_InvalidKind : PySem.W.findIn K (.ref C_InvalidKind) "__getattribute__" = some (some (.builtin "BaseException.__getattribute__")))
    (gg_InvalidKind : PySem.W.findIn K (.ref C_InvalidKind) "__getattr__" = some none)
    (nv_InvalidKind : PySem.W.findIn K (.ref C_InvalidKind) "value" = some none)
    (in_InvalidKind : PySem.W.findIn K (.ref C_InvalidKind) "__init__" = some (some (.ref n_InvalidKind)))
    (ti_InvalidKind : PySem.W.typeIn K (.ref n_InvalidKind) = some (.type "function"))
    (li_InvalidKind : K.lookup n_InvalidKind = some ⟨oc_InvalidKind, od_InvalidKind, .func (PySem.W.fnOf "__init__" "InvalidKind.__init__" (defArgs s_InvalidKind) (defBody s_InvalidKind) (defScope s_InvalidKind) .none kV_InvalidKind dc_InvalidKind pm_InvalidKind an_InvalidKind cd_InvalidKind ct_InvalidKind), sl_InvalidKind⟩)
    (ci_InvalidKind : PySem.W.codeIn K cd_InvalidKind "InvalidKind.__init__" = true)
    (ki_InvalidKind : PySem.W.keepIn K (.ref n_InvalidKind) = true)
    (kC_InvalidKind : PySem.W.keepIn K (.ref C_InvalidKind) = true)
    (eC_InvalidKind : PySem.W.subIn K (.ref C_InvalidKind) (.type "BaseException") = some true)
    (tC_InvalidKind : PySem.W.typeIn K (.ref C_InvalidKind) = some (.type "type"))
    (hC_InvalidKind : PySem.W.hasDictIn K C_InvalidKind = true)
    (iC_InvalidKind : PySem.W.isClsIn K C_InvalidKind = true)
    (aC_BadPlace : PySem.W.nsIn K mainGlobals "BadPlace" = some (some (.ref C_BadPlace)))
    (xL_BadPlace : K.lookup C_BadPlace = some (excClassObj nm_BadPlace q_BadPlace C_BadPlace N_BadPlace bs_BadPlace [.ref P_BadPlace, .type "ValueError", .type "Exception", .type "BaseException", .type "object"] true sn_BadPlace sub_BadPlace ab_BadPlace col_BadPlace dd_BadPlace m0_BadPlace m1_BadPlace m2_BadPlace m3_BadPlace m5_BadPlace "ValueError.__new__"))
    (sa_BadPlace : PySem.W.findIn K (.ref C_BadPlace) "__setattr__" = some (some (.builtin "object.__setattr__")))
    (ga_BadPlace : PySem.W.findIn K (.ref C_BadPlace) "__getattribute__" = some (some (.builtin "BaseException.__getattribute__")))
    (gg_BadPlace : PySem.W.findIn K (.ref C_BadPlace) "__getattr__" = some none)
    (nv_BadPlace : PySem.W.findIn K (.ref C_BadPlace) "number" = some none)
    (in_BadPlace : PySem.W.findIn K (.ref C_BadPlace) "__init__" = some (some (.ref n_BadPlace)))
    (ti_BadPlace : PySem.W.typeIn K (.ref n_BadPlace) = some (.type "function"))
    (li_BadPlace : K.lookup n_BadPlace = some ⟨oc_BadPlace, od_BadPlace, .func (PySem.W.fnOf "__init__" "BadPlace.__init__" (defArgs s_BadPlace) (defBody s_BadPlace) (defScope s_BadPlace) .none kV_BadPlace dc_BadPlace pm_BadPlace an_BadPlace cd_BadPlace ct_BadPlace), sl_BadPlace⟩)
    (ci_BadPlace : PySem.W.codeIn K cd_BadPlace "BadPlace.__init__" = true)
    (ki_BadPlace : PySem.W.keepIn K (.ref n_BadPlace) = true)
    (kC_BadPlace : PySem.W.keepIn K (.ref C_BadPlace) = true)
    (eC_BadPlace : PySem.W.subIn K (.ref C_BadPlace) (.type "BaseException") = some true)
    (tC_BadPlace : PySem.W.typeIn K (.ref C_BadPlace) = some (.type "type"))
    (hC_BadPlace : PySem.W.hasDictIn K C_BadPlace = true)
    (iC_BadPlace : PySem.W.isClsIn K C_BadPlace = true)
    (s_InvalidChar_InvalidChar : PySem.W.subIn K (.ref C_InvalidChar) (.ref C_InvalidChar) = some true)
    (s_InvalidChar_InvalidChars : PySem.W.subIn K (.ref C_InvalidChar) (.ref C_InvalidChars) = some false)
    (s_InvalidChar_InvalidKind : PySem.W.subIn K (.ref C_InvalidChar) (.ref C_InvalidKind) = some false)
    (s_InvalidChar_BadPlace : PySem.W.subIn K (.ref C_InvalidChar) (.ref C_BadPlace) = some false)
    (s_InvalidChars_InvalidChar : PySem.W.subIn K (.ref C_InvalidChars) (.ref C_InvalidChar) = some false)
    (s_InvalidChars_InvalidChars : PySem.W.subIn K (.ref C_InvalidChars) (.ref C_InvalidChars) = some true)
    (s_InvalidChars_InvalidKind : PySem.W.subIn K (.ref C_InvalidChars) (.ref C_InvalidKind) = some false)
    (s_InvalidChars_BadPlace : PySem.W.subIn K (.ref C_InvalidChars) (.ref C_BadPlace) = some false)
    (s_InvalidKind_InvalidChar : PySem.W.subIn K (.ref C_InvalidKind) (.ref C_InvalidChar) = some false)
    (s_InvalidKind_InvalidChars : PySem.W.subIn K (.ref C_InvalidKind) (.ref C_InvalidChars) = some false)
    (s_InvalidKind_InvalidKind : PySem.W.subIn K (.ref C_InvalidKind) (.ref C_InvalidKind) = some true)
    (s_InvalidKind_BadPlace : PySem.W.subIn K (.ref C_InvalidKind) (.ref C_BadPlace) = some false)
    (s_BadPlace_InvalidChar : PySem.W.subIn K (.ref C_BadPlace) (.ref C_InvalidChar) = some false)
    (s_BadPlace_InvalidChars : PySem.W.subIn K (.ref C_BadPlace) (.ref C_InvalidChars) = some false)
    (s_BadPlace_InvalidKind : PySem.W.subIn K (.ref C_BadPlace) (.ref C_InvalidKind) = some false)
    (s_BadPlace_BadPlace : PySem.W.subIn K (.ref C_BadPlace) (.ref C_BadPlace) = some true)
    (v_LAST_CHAR : PySem.W.nsIn K mainGlobals "LAST_CHAR" = some (some (.int 1114111 t_LAST_CHAR)))
    (v_FIRST_SURROGATE : PySem.W.nsIn K mainGlobals "FIRST_SURROGATE" = some (some (.int 55296 t_FIRST_SURROGATE)))
    (v_LAST_SURROGATE : PySem.W.nsIn K mainGlobals "LAST_SURROGATE" = some (some (.int 57343 t_LAST_SURROGATE)))
    (v_FIRST_WIDE : PySem.W.nsIn K mainGlobals "FIRST_WIDE" = some (some (.int 65536 t_FIRST_WIDE)))
    (g_KINDS : PySem.W.nsIn K mainGlobals "KINDS" = some (some (.ref t_KINDS)))
    (l_KINDS : K.lookup t_KINDS = some ⟨.type "tuple", dd_KINDS, .seq #[.str "bytes" k0_KINDS, .str "units" k1_KINDS, .str "chars" k2_KINDS] n_KINDS, sl_KINDS⟩)
    (z_all : PySem.W.nsIn K mainGlobals "all" = some none)
    (z_any : PySem.W.nsIn K mainGlobals "any" = some none)
    (z_bool : PySem.W.nsIn K mainGlobals "bool" = some none)
    (z_int : PySem.W.nsIn K mainGlobals "int" = some none)
    (z_isinstance : PySem.W.nsIn K mainGlobals "isinstance" = some none)
    (z_len : PySem.W.nsIn K mainGlobals "len" = some none)
    (z_list : PySem.W.nsIn K mainGlobals "list" = some none)
    (z_max : PySem.W.nsIn K mainGlobals "max" = some none)
    (z_min : PySem.W.nsIn K mainGlobals "min" = some none)
    (z_range : PySem.W.nsIn K mainGlobals "range" = some none)
    (z_repr : PySem.W.nsIn K mainGlobals "repr" = some none)
    (z_str : PySem.W.nsIn K mainGlobals "str" = some none)
    (z_sum : PySem.W.nsIn K mainGlobals "sum" = some none)
    (z_tuple : PySem.W.nsIn K mainGlobals "tuple" = some none)
    (aC_Text : PySem.W.nsIn K mainGlobals "Text" = some (some (.ref C_Text)))
    (fa_Text_init : PySem.W.findIn K (.ref C_Text) "__init__" = some (some (.ref f_Text_init)))
    (if_Text_init : PySem.W.isFn K (.ref f_Text_init) = true)
    (l_Text_init : K.lookup f_Text_init = some ⟨oc_Text_init, od_Text_init, .func (PySem.W.fnOf "__init__" "Text.__init__" (defArgs s_Text_init) (defBody s_Text_init) (defScope s_Text_init) .none kV_Text_init dc_Text_init pm_Text_init an_Text_init cd_Text_init ct_Text_init), sl_Text_init⟩)
    (c_Text_init : PySem.W.codeIn K cd_Text_init "Text.__init__" = true)
    (k_Text_init : PySem.W.keepIn K (.ref f_Text_init) = true)
    (fa_Text_repr : PySem.W.findIn K (.ref C_Text) "__repr__" = some (some (.ref f_Text_repr)))
    (if_Text_repr : PySem.W.isFn K (.ref f_Text_repr) = true)
    (l_Text_repr : K.lookup f_Text_repr = some ⟨oc_Text_repr, od_Text_repr, .func (PySem.W.fnOf "__repr__" "Text.__repr__" (defArgs s_Text_repr) (defBody s_Text_repr) (defScope s_Text_repr) .none kV_Text_repr dc_Text_repr pm_Text_repr an_Text_repr cd_Text_repr ct_Text_repr), sl_Text_repr⟩)
    (c_Text_repr : PySem.W.codeIn K cd_Text_repr "Text.__repr__" = true)
    (k_Text_repr : PySem.W.keepIn K (.ref f_Text_repr) = true)
    (fa_Text_chars : PySem.W.findIn K (.ref C_Text) "chars" = some (some (.ref f_Text_chars)))
    (if_Text_chars : PySem.W.isFn K (.ref f_Text_chars) = true)
    (l_Text_chars : K.lookup f_Text_chars = some ⟨oc_Text_chars, od_Text_chars, .func (PySem.W.fnOf "chars" "Text.chars" (defArgs s_Text_chars) (defBody s_Text_chars) (defScope s_Text_chars) .none kV_Text_chars dc_Text_chars pm_Text_chars an_Text_chars cd_Text_chars ct_Text_chars), sl_Text_chars⟩)
    (c_Text_chars : PySem.W.codeIn K cd_Text_chars "Text.chars" = true)
    (k_Text_chars : PySem.W.keepIn K (.ref f_Text_chars) = true)
    (fa_Text_count : PySem.W.findIn K (.ref C_Text) "count" = some (some (.ref f_Text_count)))
    (if_Text_count : PySem.W.isFn K (.ref f_Text_count) = true)
    (l_Text_count : K.lookup f_Text_count = some ⟨oc_Text_count, od_Text_count, .func (PySem.W.fnOf "count" "Text.count" (defArgs s_Text_count) (defBody s_Text_count) (defScope s_Text_count) .none kV_Text_count dc_Text_count pm_Text_count an_Text_count cd_Text_count ct_Text_count), sl_Text_count⟩)
    (c_Text_count : PySem.W.codeIn K cd_Text_count "Text.count" = true)
    (k_Text_count : PySem.W.keepIn K (.ref f_Text_count) = true)
    (fa_Text_in_bytes : PySem.W.findIn K (.ref C_Text) "in_bytes" = some (some (.ref p_Text_in_bytes)))
    (ge_Text_in_bytes : PySem.W.specialIn K (.ref p_Text_in_bytes) "__get__" = some (some (.builtin "property.__get__")))
    (ta_Text_in_bytes : PySem.W.takesIn K (.ref p_Text_in_bytes) = some true)
    (re_Text_in_bytes : PySem.W.recIn K p_Text_in_bytes "property" = some (.ref f_Text_in_bytes :: rs_Text_in_bytes))
    (l_Text_in_bytes : K.lookup f_Text_in_bytes = some ⟨oc_Text_in_bytes, od_Text_in_bytes, .func (PySem.W.fnOf "in_bytes" "Text.in_bytes" (defArgs s_Text_in_bytes) (defBody s_Text_in_bytes) (defScope s_Text_in_bytes) .none kV_Text_in_bytes dc_Text_in_bytes pm_Text_in_bytes an_Text_in_bytes cd_Text_in_bytes ct_Text_in_bytes), sl_Text_in_bytes⟩)
    (c_Text_in_bytes : PySem.W.codeIn K cd_Text_in_bytes "Text.in_bytes" = true)
    (k_Text_in_bytes : PySem.W.keepIn K (.ref f_Text_in_bytes) = true)
    (fa_Text_in_units : PySem.W.findIn K (.ref C_Text) "in_units" = some (some (.ref p_Text_in_units)))
    (ge_Text_in_units : PySem.W.specialIn K (.ref p_Text_in_units) "__get__" = some (some (.builtin "property.__get__")))
    (ta_Text_in_units : PySem.W.takesIn K (.ref p_Text_in_units) = some true)
    (re_Text_in_units : PySem.W.recIn K p_Text_in_units "property" = some (.ref f_Text_in_units :: rs_Text_in_units))
    (l_Text_in_units : K.lookup f_Text_in_units = some ⟨oc_Text_in_units, od_Text_in_units, .func (PySem.W.fnOf "in_units" "Text.in_units" (defArgs s_Text_in_units) (defBody s_Text_in_units) (defScope s_Text_in_units) .none kV_Text_in_units dc_Text_in_units pm_Text_in_units an_Text_in_units cd_Text_in_units ct_Text_in_units), sl_Text_in_units⟩)
    (c_Text_in_units : PySem.W.codeIn K cd_Text_in_units "Text.in_units" = true)
    (k_Text_in_units : PySem.W.keepIn K (.ref f_Text_in_units) = true)
    (fa_Text_in_chars : PySem.W.findIn K (.ref C_Text) "in_chars" = some (some (.ref p_Text_in_chars)))
    (ge_Text_in_chars : PySem.W.specialIn K (.ref p_Text_in_chars) "__get__" = some (some (.builtin "property.__get__")))
    (ta_Text_in_chars : PySem.W.takesIn K (.ref p_Text_in_chars) = some true)
    (re_Text_in_chars : PySem.W.recIn K p_Text_in_chars "property" = some (.ref f_Text_in_chars :: rs_Text_in_chars))
    (l_Text_in_chars : K.lookup f_Text_in_chars = some ⟨oc_Text_in_chars, od_Text_in_chars, .func (PySem.W.fnOf "in_chars" "Text.in_chars" (defArgs s_Text_in_chars) (defBody s_Text_in_chars) (defScope s_Text_in_chars) .none kV_Text_in_chars dc_Text_in_chars pm_Text_in_chars an_Text_in_chars cd_Text_in_chars ct_Text_in_chars), sl_Text_in_chars⟩)
    (c_Text_in_chars : PySem.W.codeIn K cd_Text_in_chars "Text.in_chars" = true)
    (k_Text_in_chars : PySem.W.keepIn K (.ref f_Text_in_chars) = true)
    (fa_Text_len : PySem.W.findIn K (.ref C_Text) "__len__" = some (some (.ref f_Text_len)))
    (if_Text_len : PySem.W.isFn K (.ref f_Text_len) = true)
    (l_Text_len : K.lookup f_Text_len = some ⟨oc_Text_len, od_Text_len, .func (PySem.W.fnOf "__len__" "Text.__len__" (defArgs s_Text_len) (defBody s_Text_len) (defScope s_Text_len) .none kV_Text_len dc_Text_len pm_Text_len an_Text_len cd_Text_len ct_Text_len), sl_Text_len⟩)
    (c_Text_len : PySem.W.codeIn K cd_Text_len "Text.__len__" = true)
    (k_Text_len : PySem.W.keepIn K (.ref f_Text_len) = true)
    (fa_Text_getitem : PySem.W.findIn K (.ref C_Text) "__getitem__" = some (some (.ref f_Text_getitem)))
    (if_Text_getitem : PySem.W.isFn K (.ref f_Text_getitem) = true)
    (l_Text_getitem : K.lookup f_Text_getitem = some ⟨oc_Text_getitem, od_Text_getitem, .func (PySem.W.fnOf "__getitem__" "Text.__getitem__" (defArgs s_Text_getitem) (defBody s_Text_getitem) (defScope s_Text_getitem) .none kV_Text_getitem dc_Text_getitem pm_Text_getitem an_Text_getitem cd_Text_getitem ct_Text_getitem), sl_Text_getitem⟩)
    (c_Text_getitem : PySem.W.codeIn K cd_Text_getitem "Text.__getitem__" = true)
    (k_Text_getitem : PySem.W.keepIn K (.ref f_Text_getitem) = true)
    (fn_getitem : PySem.W.fnIn K f_Text_getitem = true)
    (fa_Text_part : PySem.W.findIn K (.ref C_Text) "part" = some (some (.ref f_Text_part)))
    (if_Text_part : PySem.W.isFn K (.ref f_Text_part) = true)
    (l_Text_part : K.lookup f_Text_part = some ⟨oc_Text_part, od_Text_part, .func (PySem.W.fnOf "part" "Text.part" (defArgs s_Text_part) (defBody s_Text_part) (defScope s_Text_part) .none kV_Text_part dc_Text_part pm_Text_part an_Text_part cd_Text_part ct_Text_part), sl_Text_part⟩)
    (c_Text_part : PySem.W.codeIn K cd_Text_part "Text.part" = true)
    (k_Text_part : PySem.W.keepIn K (.ref f_Text_part) = true)
    (fa_Text_eq : PySem.W.findIn K (.ref C_Text) "__eq__" = some (some (.ref f_Text_eq)))
    (if_Text_eq : PySem.W.isFn K (.ref f_Text_eq) = true)
    (l_Text_eq : K.lookup f_Text_eq = some ⟨oc_Text_eq, od_Text_eq, .func (PySem.W.fnOf "__eq__" "Text.__eq__" (defArgs s_Text_eq) (defBody s_Text_eq) (defScope s_Text_eq) .none kV_Text_eq dc_Text_eq pm_Text_eq an_Text_eq cd_Text_eq ct_Text_eq), sl_Text_eq⟩)
    (c_Text_eq : PySem.W.codeIn K cd_Text_eq "Text.__eq__" = true)
    (k_Text_eq : PySem.W.keepIn K (.ref f_Text_eq) = true)
    (pg_T : PySem.W.plainGet K C_Text Str.empty = true)
    (hd_T : PySem.W.hasDictIn K C_Text = true)
    (po_T : PySem.W.plainOver K C_Text = true)
    (sa_T : PySem.W.findIn K (.ref C_Text) "__setattr__" = some (some (.builtin "object.__setattr__")))
    (mk_T : PySem.W.makesIn K C_Text = true)
    (kc_T : PySem.W.keepIn K (.ref C_Text) = true)
    (nP_T : PySem.W.findIn K (.ref C_Text) "points" = some none)
    (ca_T : PySem.W.findIn K (.ref C_Text) "__class__" = some (some (.builtin "object.__class__")))
    (cn_T : PySem.W.specialIn K (.builtin "object.__class__") "__get__" = some (some (.builtin "getset_descriptor.__get__")))
    (ct_T : PySem.W.takesIn K (.builtin "object.__class__") = some true)
    (mo_T : PySem.W.mroIn K C_Text (.type "object") = some true)
    (ic_T : PySem.W.isClsIn K C_Text = true)
    (tc_T : PySem.W.typeIn K (.ref C_Text) = some (.type "type"))
    (sb_NoneType : PySem.W.subIn K (.type "NoneType") (.ref C_Text) = some false)
    (sb_bool : PySem.W.subIn K (.type "bool") (.ref C_Text) = some false)
    (sb_int : PySem.W.subIn K (.type "int") (.ref C_Text) = some false)
    (sb_str : PySem.W.subIn K (.type "str") (.ref C_Text) = some false)
    (sb_list : PySem.W.subIn K (.type "list") (.ref C_Text) = some false)
    (sb_tuple : PySem.W.subIn K (.type "tuple") (.ref C_Text) = some false)
    (sb_dict : PySem.W.subIn K (.type "dict") (.ref C_Text) = some false)
    (su_bool : PySem.W.subIn K (.ref C_Text) (.type "bool") = some false)
    (su_int : PySem.W.subIn K (.ref C_Text) (.type "int") = some false)
    (su_str : PySem.W.subIn K (.ref C_Text) (.type "str") = some false)
    (su_list : PySem.W.subIn K (.ref C_Text) (.type "list") = some false)
    (su_tuple : PySem.W.subIn K (.ref C_Text) (.type "tuple") = some false) :
    ∃ A : Ads, A.a_law = fa ∧ Txt K mg A ∧ ∀ (s : Shared) (v : Value), BindsTo s A.d_law ⟨[v], []⟩ [("_law_script", v)] := by
  have F1 := fun_mk (st := s_is_integer) l1 c1 k1
  have F2 := fun_mk (st := s_is_whole) l2 c2 k2
  have F3 := fun_mk (st := s_is_char) l3 c3 k3
  have F4 := fun_mk (st := s_is_list) l4 c4 k4
  have F5 := fun_mk (st := s_is_chars) l5 c5 k5
  have F6 := fun_mk (st := s_is_kind) l6 c6 k6
  have F7 := fun_mk (st := s_check_char) l7 c7 k7
  have F8 := fun_mk (st := s_check_chars) l8 c8 k8
  have F9 := fun_mk (st := s_check_kind) l9 c9 k9
  have F10 := fun_mk (st := s_char_width) l10 c10 k10
  have F11 := fun_mk (st := s_byte_width) l11 c11 k11
  have F12 := fun_mk (st := s_unit_width) l12 c12 k12
  have F13 := fun_mk (st := s_total_width) l13 c13 k13
  have F14 := fun_mk (st := s_points_of) l14 c14 k14
  have F15 := fun_mk (st := s_stands_in) l15 c15 k15
  have F16 := fun_mk (st := s_l_cell) l16 c16 k16
  have F17 := fun_mk (st := s_l_bag) l17 c17 k17
  have F18 := fun_mk (st := s_l_take) l18 c18 k18
  have F19 := fun_mk (st := s_l_char) l19 c19 k19
  have F20 := fun_mk (st := s_l_chars) l20 c20 k20
  have F21 := fun_mk (st := s_l_width) l21 c21 k21
  have F22 := fun_mk (st := s_l_numbers) l22 c22 k22
  have F23 := fun_mk (st := s_l_caught) l23 c23 k23
  have F24 := fun_mk (st := s_l_told_right) l24 c24 k24
  have F25 := fun_mk (st := s_l_odd_right) l25 c25 k25
  have F26 := fun_mk (st := s_l_refused_right) l26 c26 k26
  have F27 := fun_mk (st := s_law) l27 c27 k27
  have F_InvalidChar := fun_mk (st := s_InvalidChar) li_InvalidChar ci_InvalidChar ki_InvalidChar
  have F_InvalidChars := fun_mk (st := s_InvalidChars) li_InvalidChars ci_InvalidChars ki_InvalidChars
  have F_InvalidKind := fun_mk (st := s_InvalidKind) li_InvalidKind ci_InvalidKind ki_InvalidKind
  have F_BadPlace := fun_mk (st := s_BadPlace) li_BadPlace ci_BadPlace ki_BadPlace
  have F_Text_init := fun_mk (st := s_Text_init) l_Text_init c_Text_init k_Text_init
  have F_Text_repr := fun_mk (st := s_Text_repr) l_Text_repr c_Text_repr k_Text_repr
  have F_Text_chars := fun_mk (st := s_Text_chars) l_Text_chars c_Text_chars k_Text_chars
  have F_Text_count := fun_mk (st := s_Text_count) l_Text_count c_Text_count k_Text_count
  have F_Text_in_bytes := fun_mk (st := s_Text_in_bytes) l_Text_in_bytes c_Text_in_bytes k_Text_in_bytes
  have F_Text_in_units := fun_mk (st := s_Text_in_units) l_Text_in_units c_Text_in_units k_Text_in_units
  have F_Text_in_chars := fun_mk (st := s_Text_in_chars) l_Text_in_chars c_Text_in_chars k_Text_in_chars
  have F_Text_len := fun_mk (st := s_Text_len) l_Text_len c_Text_len k_Text_len
  have F_Text_getitem := fun_mk (st := s_Text_getitem) l_Text_getitem c_Text_getitem k_Text_getitem
  have F_Text_part := fun_mk (st := s_Text_part) l_Text_part c_Text_part k_Text_part
  have F_Text_eq := fun_mk (st := s_Text_eq) l_Text_eq c_Text_eq k_Text_eq
  have e := hfa.symm.trans (PySem.W.mg_of X G a27)
  have e1 : fa = f27 := by injection (Option.some.inj e)
  subst e1
  refine ⟨{ a_is_integer := f1, d_is_integer := PySem.W.fnOf "is_integer" "is_integer" (defArgs s_is_integer) (defBody s_is_integer) (defScope s_is_integer) .none kV1 dc1 pm1 an1 cd1 ct1, a_is_whole := f2, d_is_whole := PySem.W.fnOf "is_whole" "is_whole" (defArgs s_is_whole) (defBody s_is_whole) (defScope s_is_whole) .none kV2 dc2 pm2 an2 cd2 ct2, a_is_char := f3, d_is_char := PySem.W.fnOf "is_char" "is_char" (defArgs s_is_char) (defBody s_is_char) (defScope s_is_char) .none kV3 dc3 pm3 an3 cd3 ct3, a_is_list := f4, d_is_list := PySem.W.fnOf "is_list" "is_list" (defArgs s_is_list) (defBody s_is_list) (defScope s_is_list) .none kV4 dc4 pm4 an4 cd4 ct4, a_is_chars := f5, d_is_chars := PySem.W.fnOf "is_chars" "is_chars" (defArgs s_is_chars) (defBody s_is_chars) (defScope s_is_chars) .none kV5 dc5 pm5 an5 cd5 ct5, a_is_kind := f6, d_is_kind := PySem.W.fnOf "is_kind" "is_kind" (defArgs s_is_kind) (defBody s_is_kind) (defScope s_is_kind) .none kV6 dc6 pm6 an6 cd6 ct6, a_check_char := f7, d_check_char := PySem.W.fnOf "check_char" "check_char" (defArgs s_check_char) (defBody s_check_char) (defScope s_check_char) .none kV7 dc7 pm7 an7 cd7 ct7, a_check_chars := f8, d_check_chars := PySem.W.fnOf "check_chars" "check_chars" (defArgs s_check_chars) (defBody s_check_chars) (defScope s_check_chars) .none kV8 dc8 pm8 an8 cd8 ct8, a_check_kind := f9, d_check_kind := PySem.W.fnOf "check_kind" "check_kind" (defArgs s_check_kind) (defBody s_check_kind) (defScope s_check_kind) .none kV9 dc9 pm9 an9 cd9 ct9, a_char_width := f10, d_char_width := PySem.W.fnOf "char_width" "char_width" (defArgs s_char_width) (defBody s_char_width) (defScope s_char_width) .none kV10 dc10 pm10 an10 cd10 ct10, a_byte_width := f11, d_byte_width := PySem.W.fnOf "byte_width" "byte_width" (defArgs s_byte_width) (defBody s_byte_width) (defScope s_byte_width) .none kV11 dc11 pm11 an11 cd11 ct11, a_unit_width := f12, d_unit_width := PySem.W.fnOf "unit_width" "unit_width" (defArgs s_unit_width) (defBody s_unit_width) (defScope s_unit_width) .none kV12 dc12 pm12 an12 cd12 ct12, a_total_width := f13, d_total_width := PySem.W.fnOf "total_width" "total_width" (defArgs s_total_width) (defBody s_total_width) (defScope s_total_width) .none kV13 dc13 pm13 an13 cd13 ct13, a_points_of := f14, d_points_of := PySem.W.fnOf "points_of" "points_of" (defArgs s_points_of) (defBody s_points_of) (defScope s_points_of) .none kV14 dc14 pm14 an14 cd14 ct14, a_stands_in := f15, d_stands_in := PySem.W.fnOf "stands_in" "stands_in" (defArgs s_stands_in) (defBody s_stands_in) (defScope s_stands_in) .none kV15 dc15 pm15 an15 cd15 ct15, a_l_cell := f16, d_l_cell := PySem.W.fnOf "_law_cell" "_law_cell" (defArgs s_l_cell) (defBody s_l_cell) (defScope s_l_cell) .none kV16 dc16 pm16 an16 cd16 ct16, a_l_bag := f17, d_l_bag := PySem.W.fnOf "_law_bag" "_law_bag" (defArgs s_l_bag) (defBody s_l_bag) (defScope s_l_bag) .none kV17 dc17 pm17 an17 cd17 ct17, a_l_take := f18, d_l_take := PySem.W.fnOf "_law_take" "_law_take" (defArgs s_l_take) (defBody s_l_take) (defScope s_l_take) .none kV18 dc18 pm18 an18 cd18 ct18, a_l_char := f19, d_l_char := PySem.W.fnOf "_law_char" "_law_char" (defArgs s_l_char) (defBody s_l_char) (defScope s_l_char) .none kV19 dc19 pm19 an19 cd19 ct19, a_l_chars := f20, d_l_chars := PySem.W.fnOf "_law_chars" "_law_chars" (defArgs s_l_chars) (defBody s_l_chars) (defScope s_l_chars) .none kV20 dc20 pm20 an20 cd20 ct20, a_l_width := f21, d_l_width := PySem.W.fnOf "_law_width" "_law_width" (defArgs s_l_width) (defBody s_l_width) (defScope s_l_width) .none kV21 dc21 pm21 an21 cd21 ct21, a_l_numbers := f22, d_l_numbers := PySem.W.fnOf "_law_numbers" "_law_numbers" (defArgs s_l_numbers) (defBody s_l_numbers) (defScope s_l_numbers) .none kV22 dc22 pm22 an22 cd22 ct22, a_l_caught := f23, d_l_caught := PySem.W.fnOf "_law_caught" "_law_caught" (defArgs s_l_caught) (defBody s_l_caught) (defScope s_l_caught) .none kV23 dc23 pm23 an23 cd23 ct23, a_l_told_right := f24, d_l_told_right := PySem.W.fnOf "_law_told_right" "_law_told_right" (defArgs s_l_told_right) (defBody s_l_told_right) (defScope s_l_told_right) .none kV24 dc24 pm24 an24 cd24 ct24, a_l_odd_right := f25, d_l_odd_right := PySem.W.fnOf "_law_odd_right" "_law_odd_right" (defArgs s_l_odd_right) (defBody s_l_odd_right) (defScope s_l_odd_right) .none kV25 dc25 pm25 an25 cd25 ct25, a_l_refused_right := f26, d_l_refused_right := PySem.W.fnOf "_law_refused_right" "_law_refused_right" (defArgs s_l_refused_right) (defBody s_l_refused_right) (defScope s_l_refused_right) .none kV26 dc26 pm26 an26 cd26 ct26, a_law := fa, d_law := PySem.W.fnOf "law" "law" (defArgs s_law) (defBody s_law) (defScope s_law) .none kV27 dc27 pm27 an27 cd27 ct27, C_InvalidChar := C_InvalidChar, n_InvalidChar := n_InvalidChar, d_InvalidChar := PySem.W.fnOf "__init__" "InvalidChar.__init__" (defArgs s_InvalidChar) (defBody s_InvalidChar) (defScope s_InvalidChar) .none kV_InvalidChar dc_InvalidChar pm_InvalidChar an_InvalidChar cd_InvalidChar ct_InvalidChar, C_InvalidChars := C_InvalidChars, n_InvalidChars := n_InvalidChars, d_InvalidChars := PySem.W.fnOf "__init__" "InvalidChars.__init__" (defArgs s_InvalidChars) (defBody s_InvalidChars) (defScope s_InvalidChars) .none kV_InvalidChars dc_InvalidChars pm_InvalidChars an_InvalidChars cd_InvalidChars ct_InvalidChars, C_InvalidKind := C_InvalidKind, n_InvalidKind := n_InvalidKind, d_InvalidKind := PySem.W.fnOf "__init__" "InvalidKind.__init__" (defArgs s_InvalidKind) (defBody s_InvalidKind) (defScope s_InvalidKind) .none kV_InvalidKind dc_InvalidKind pm_InvalidKind an_InvalidKind cd_InvalidKind ct_InvalidKind, C_BadPlace := C_BadPlace, n_BadPlace := n_BadPlace, d_BadPlace := PySem.W.fnOf "__init__" "BadPlace.__init__" (defArgs s_BadPlace) (defBody s_BadPlace) (defScope s_BadPlace) .none kV_BadPlace dc_BadPlace pm_BadPlace an_BadPlace cd_BadPlace ct_BadPlace, t_KINDS := t_KINDS, C_Text := C_Text, a_Text_init := f_Text_init, d_Text_init := PySem.W.fnOf "__init__" "Text.__init__" (defArgs s_Text_init) (defBody s_Text_init) (defScope s_Text_init) .none kV_Text_init dc_Text_init pm_Text_init an_Text_init cd_Text_init ct_Text_init, a_Text_repr := f_Text_repr, d_Text_repr := PySem.W.fnOf "__repr__" "Text.__repr__" (defArgs s_Text_repr) (defBody s_Text_repr) (defScope s_Text_repr) .none kV_Text_repr dc_Text_repr pm_Text_repr an_Text_repr cd_Text_repr ct_Text_repr, a_Text_chars := f_Text_chars, d_Text_chars := PySem.W.fnOf "chars" "Text.chars" (defArgs s_Text_chars) (defBody s_Text_chars) (defScope s_Text_chars) .none kV_Text_chars dc_Text_chars pm_Text_chars an_Text_chars cd_Text_chars ct_Text_chars, a_Text_count := f_Text_count, d_Text_count := PySem.W.fnOf "count" "Text.count" (defArgs s_Text_count) (defBody s_Text_count) (defScope s_Text_count) .none kV_Text_count dc_Text_count pm_Text_count an_Text_count cd_Text_count ct_Text_count, a_Text_in_bytes := f_Text_in_bytes, d_Text_in_bytes := PySem.W.fnOf "in_bytes" "Text.in_bytes" (defArgs s_Text_in_bytes) (defBody s_Text_in_bytes) (defScope s_Text_in_bytes) .none kV_Text_in_bytes dc_Text_in_bytes pm_Text_in_bytes an_Text_in_bytes cd_Text_in_bytes ct_Text_in_bytes, p_Text_in_bytes := p_Text_in_bytes, a_Text_in_units := f_Text_in_units, d_Text_in_units := PySem.W.fnOf "in_units" "Text.in_units" (defArgs s_Text_in_units) (defBody s_Text_in_units) (defScope s_Text_in_units) .none kV_Text_in_units dc_Text_in_units pm_Text_in_units an_Text_in_units cd_Text_in_units ct_Text_in_units, p_Text_in_units := p_Text_in_units, a_Text_in_chars := f_Text_in_chars, d_Text_in_chars := PySem.W.fnOf "in_chars" "Text.in_chars" (defArgs s_Text_in_chars) (defBody s_Text_in_chars) (defScope s_Text_in_chars) .none kV_Text_in_chars dc_Text_in_chars pm_Text_in_chars an_Text_in_chars cd_Text_in_chars ct_Text_in_chars, p_Text_in_chars := p_Text_in_chars, a_Text_len := f_Text_len, d_Text_len := PySem.W.fnOf "__len__" "Text.__len__" (defArgs s_Text_len) (defBody s_Text_len) (defScope s_Text_len) .none kV_Text_len dc_Text_len pm_Text_len an_Text_len cd_Text_len ct_Text_len, a_Text_getitem := f_Text_getitem, d_Text_getitem := PySem.W.fnOf "__getitem__" "Text.__getitem__" (defArgs s_Text_getitem) (defBody s_Text_getitem) (defScope s_Text_getitem) .none kV_Text_getitem dc_Text_getitem pm_Text_getitem an_Text_getitem cd_Text_getitem ct_Text_getitem, a_Text_part := f_Text_part, d_Text_part := PySem.W.fnOf "part" "Text.part" (defArgs s_Text_part) (defBody s_Text_part) (defScope s_Text_part) .none kV_Text_part dc_Text_part pm_Text_part an_Text_part cd_Text_part ct_Text_part, a_Text_eq := f_Text_eq, d_Text_eq := PySem.W.fnOf "__eq__" "Text.__eq__" (defArgs s_Text_eq) (defBody s_Text_eq) (defScope s_Text_eq) .none kV_Text_eq dc_Text_eq pm_Text_eq an_Text_eq cd_Text_eq ct_Text_eq }, rfl, ?_, fun s v => .of_eq rfl⟩
  exact {
    g_is_integer := PySem.W.mg_of X G a1
    F_is_integer := F1
    b_is_integer := F1.binds (ps := ["value", "low", "high"]) fun _ _ _ _ _ _ us hl => match us, hl with | [_, _, _], _ => rfl
    g_is_whole := PySem.W.mg_of X G a2
    F_is_whole := F2
    b_is_whole := F2.binds (ps := ["value"]) fun _ _ _ _ _ _ us hl => match us, hl with | [_], _ => rfl
    g_is_char := PySem.W.mg_of X G a3
    F_is_char := F3
    b_is_char := F3.binds (ps := ["value"]) fun _ _ _ _ _ _ us hl => match us, hl with | [_], _ => rfl
    g_is_list := PySem.W.mg_of X G a4
    F_is_list := F4
    b_is_list := F4.binds (ps := ["value"]) fun _ _ _ _ _ _ us hl => match us, hl with | [_], _ => rfl
    g_is_chars := PySem.W.mg_of X G a5
    F_is_chars := F5
    b_is_chars := F5.binds (ps := ["value"]) fun _ _ _ _ _ _ us hl => match us, hl with | [_], _ => rfl
    g_is_kind := PySem.W.mg_of X G a6
    F_is_kind := F6
    b_is_kind := F6.binds (ps := ["value"]) fun _ _ _ _ _ _ us hl => match us, hl with | [_], _ => rfl
    g_check_char := PySem.W.mg_of X G a7
    F_check_char := F7
    b_check_char := F7.binds (ps := ["char"]) fun _ _ _ _ _ _ us hl => match us, hl with | [_], _ => rfl
    g_check_chars := PySem.W.mg_of X G a8
    F_check_chars := F8
    b_check_chars := F8.binds (ps := ["chars"]) fun _ _ _ _ _ _ us hl => match us, hl with | [_], _ => rfl
    g_check_kind := PySem.W.mg_of X G a9
    F_check_kind := F9
    b_check_kind := F9.binds (ps := ["kind"]) fun _ _ _ _ _ _ us hl => match us, hl with | [_], _ => rfl
    g_char_width := PySem.W.mg_of X G a10
    F_char_width := F10
    b_char_width := F10.binds (ps := ["char", "kind"]) fun _ _ _ _ _ _ us hl => match us, hl with | [_, _], _ => rfl
    g_byte_width := PySem.W.mg_of X G a11
    F_byte_width := F11
    b_byte_width := F11.binds (ps := ["char"]) fun _ _ _ _ _ _ us hl => match us, hl with | [_], _ => rfl
    g_unit_width := PySem.W.mg_of X G a12
    F_unit_width := F12
    b_unit_width := F12.binds (ps := ["char"]) fun _ _ _ _ _ _ us hl => match us, hl with | [_], _ => rfl
    g_total_width := PySem.W.mg_of X G a13
    F_total_width := F13
    b_total_width := F13.binds (ps := ["chars", "kind"]) fun _ _ _ _ _ _ us hl => match us, hl with | [_, _], _ => rfl
    g_points_of := PySem.W.mg_of X G a14
    F_points_of := F14
    b_points_of := F14.binds (ps := ["other"]) fun _ _ _ _ _ _ us hl => match us, hl with | [_], _ => rfl
    g_stands_in := PySem.W.mg_of X G a15
    F_stands_in := F15
    b_stands_in := F15.binds (ps := ["part", "whole"]) fun _ _ _ _ _ _ us hl => match us, hl with | [_, _], _ => rfl
    g_l_cell := PySem.W.mg_of X G a16
    F_l_cell := F16
    b_l_cell := F16.binds (ps := ["_law_script", "_law_index"]) fun _ _ _ _ _ _ us hl => match us, hl with | [_, _], _ => rfl
    g_l_bag := PySem.W.mg_of X G a17
    F_l_bag := F17
    b_l_bag := F17.binds (ps := ["_law_cell_here"]) fun _ _ _ _ _ _ us hl => match us, hl with | [_], _ => rfl
    g_l_take := PySem.W.mg_of X G a18
    F_l_take := F18
    b_l_take := F18.binds (ps := ["_law_bag_here", "_law_many"]) fun _ _ _ _ _ _ us hl => match us, hl with | [_, _], _ => rfl
    g_l_char := PySem.W.mg_of X G a19
    F_l_char := F19
    b_l_char := F19.binds (ps := ["_law_bag_here"]) fun _ _ _ _ _ _ us hl => match us, hl with | [_], _ => rfl
    g_l_chars := PySem.W.mg_of X G a20
    F_l_chars := F20
    b_l_chars := F20.binds (ps := ["_law_bag_here", "_law_most"]) fun _ _ _ _ _ _ us hl => match us, hl with | [_, _], _ => rfl
    g_l_width := PySem.W.mg_of X G a21
    F_l_width := F21
    b_l_width := F21.binds (ps := ["_law_char_here", "_law_kind"]) fun _ _ _ _ _ _ us hl => match us, hl with | [_, _], _ => rfl
    g_l_numbers := PySem.W.mg_of X G a22
    F_l_numbers := F22
    b_l_numbers := F22.binds (ps := ["_law_row", "_law_kind"]) fun _ _ _ _ _ _ us hl => match us, hl with | [_, _], _ => rfl
    g_l_caught := PySem.W.mg_of X G a23
    F_l_caught := F23
    b_l_caught := F23.binds (ps := ["_law_door", "_law_text", "_law_one", "_law_other"]) fun _ _ _ _ _ _ us hl => match us, hl with | [_, _, _, _], _ => rfl
    g_l_told_right := PySem.W.mg_of X G a24
    F_l_told_right := F24
    b_l_told_right := F24.binds (ps := ["_law_text", "_law_chars_here"]) fun _ _ _ _ _ _ us hl => match us, hl with | [_, _], _ => rfl
    g_l_odd_right := PySem.W.mg_of X G a25
    F_l_odd_right := F25
    b_l_odd_right := F25.binds (ps := ["_law_bag_here", "_law_text", "_law_chars_here"]) fun _ _ _ _ _ _ us hl => match us, hl with | [_, _, _], _ => rfl
    g_l_refused_right := PySem.W.mg_of X G a26
    F_l_refused_right := F26
    b_l_refused_right := F26.binds (ps := ["_law_bag_here", "_law_chars_here"]) fun _ _ _ _ _ _ us hl => match us, hl with | [_, _], _ => rfl
    g_law := PySem.W.mg_of X G a27
    F_law := F27
    g_InvalidChar := PySem.W.mg_of X G aC_InvalidChar
    x_InvalidChar := ⟨⟨_, _, _, _, _, _, _, _, _, _, _, _, _, _, _, xL_InvalidChar, refsVE_two⟩, sa_InvalidChar, eC_InvalidChar, tC_InvalidChar, kC_InvalidChar⟩
    f_InvalidChar := ⟨ga_InvalidChar, gg_InvalidChar, eC_InvalidChar, hC_InvalidChar⟩
    i_InvalidChar := in_InvalidChar
    t_InvalidChar := ti_InvalidChar
    F_InvalidChar := F_InvalidChar
    b_InvalidChar := F_InvalidChar.binds (ps := ["self", "value"]) fun _ _ _ _ _ _ us hl => match us, hl with | [_, _], _ => rfl
    v_InvalidChar := nv_InvalidChar
    g_InvalidChars := PySem.W.mg_of X G aC_InvalidChars
    x_InvalidChars := ⟨⟨_, _, _, _, _, _, _, _, _, _, _, _, _, _, _, xL_InvalidChars, refsVE_two⟩, sa_InvalidChars, eC_InvalidChars, tC_InvalidChars, kC_InvalidChars⟩
    f_InvalidChars := ⟨ga_InvalidChars, gg_InvalidChars, eC_InvalidChars, hC_InvalidChars⟩
    i_InvalidChars := in_InvalidChars
    t_InvalidChars := ti_InvalidChars
    F_InvalidChars := F_InvalidChars
    b_InvalidChars := F_InvalidChars.binds (ps := ["self", "value"]) fun _ _ _ _ _ _ us hl => match us, hl with | [_, _], _ => rfl
    v_InvalidChars := nv_InvalidChars
    g_InvalidKind := PySem.W.mg_of X G aC_InvalidKind
    x_InvalidKind := ⟨⟨_, _, _, _, _, _, _, _, _, _, _, _, _, _, _, xL_InvalidKind, refsVE_two⟩, sa_InvalidKind, eC_InvalidKind, tC_InvalidKind, kC_InvalidKind⟩
    f_InvalidKind := ⟨ga_InvalidKind, gg_InvalidKind, eC_InvalidKind, hC_InvalidKind⟩
    i_InvalidKind := in_InvalidKind
    t_InvalidKind := ti_InvalidKind
    F_InvalidKind := F_InvalidKind
    b_InvalidKind := F_InvalidKind.binds (ps := ["self", "value"]) fun _ _ _ _ _ _ us hl => match us, hl with | [_, _], _ => rfl
    v_InvalidKind := nv_InvalidKind
    g_BadPlace := PySem.W.mg_of X G aC_BadPlace
    x_BadPlace := ⟨⟨_, _, _, _, _, _, _, _, _, _, _, _, _, _, _, xL_BadPlace, refsVE_two⟩, sa_BadPlace, eC_BadPlace, tC_BadPlace, kC_BadPlace⟩
    f_BadPlace := ⟨ga_BadPlace, gg_BadPlace, eC_BadPlace, hC_BadPlace⟩
    i_BadPlace := in_BadPlace
    t_BadPlace := ti_BadPlace
    F_BadPlace := F_BadPlace
    b_BadPlace := F_BadPlace.binds (ps := ["self", "number"]) fun _ _ _ _ _ _ us hl => match us, hl with | [_, _], _ => rfl
    v_BadPlace := nv_BadPlace
    e_InvalidChar_InvalidChar := exm_two eC_InvalidChar iC_InvalidChar tC_InvalidChar s_InvalidChar_InvalidChar
    e_InvalidChar_InvalidChars := exm_two eC_InvalidChars iC_InvalidChars tC_InvalidChars s_InvalidChar_InvalidChars
    e_InvalidChar_InvalidKind := exm_two eC_InvalidKind iC_InvalidKind tC_InvalidKind s_InvalidChar_InvalidKind
    e_InvalidChar_BadPlace := exm_two eC_BadPlace iC_BadPlace tC_BadPlace s_InvalidChar_BadPlace
    e_InvalidChars_InvalidChar := exm_two eC_InvalidChar iC_InvalidChar tC_InvalidChar s_InvalidChars_InvalidChar
    e_InvalidChars_InvalidChars := exm_two eC_InvalidChars iC_InvalidChars tC_InvalidChars s_InvalidChars_InvalidChars
    e_InvalidChars_InvalidKind := exm_two eC_InvalidKind iC_InvalidKind tC_InvalidKind s_InvalidChars_InvalidKind
    e_InvalidChars_BadPlace := exm_two eC_BadPlace iC_BadPlace tC_BadPlace s_InvalidChars_BadPlace
    e_InvalidKind_InvalidChar := exm_two eC_InvalidChar iC_InvalidChar tC_InvalidChar s_InvalidKind_InvalidChar
    e_InvalidKind_InvalidChars := exm_two eC_InvalidChars iC_InvalidChars tC_InvalidChars s_InvalidKind_InvalidChars
    e_InvalidKind_InvalidKind := exm_two eC_InvalidKind iC_InvalidKind tC_InvalidKind s_InvalidKind_InvalidKind
    e_InvalidKind_BadPlace := exm_two eC_BadPlace iC_BadPlace tC_BadPlace s_InvalidKind_BadPlace
    e_BadPlace_InvalidChar := exm_two eC_InvalidChar iC_InvalidChar tC_InvalidChar s_BadPlace_InvalidChar
    e_BadPlace_InvalidChars := exm_two eC_InvalidChars iC_InvalidChars tC_InvalidChars s_BadPlace_InvalidChars
    e_BadPlace_InvalidKind := exm_two eC_InvalidKind iC_InvalidKind tC_InvalidKind s_BadPlace_InvalidKind
    e_BadPlace_BadPlace := exm_two eC_BadPlace iC_BadPlace tC_BadPlace s_BadPlace_BadPlace
    c_LAST_CHAR := ⟨_, PySem.W.mg_of X G v_LAST_CHAR⟩
    c_FIRST_SURROGATE := ⟨_, PySem.W.mg_of X G v_FIRST_SURROGATE⟩
    c_LAST_SURROGATE := ⟨_, PySem.W.mg_of X G v_LAST_SURROGATE⟩
    c_FIRST_WIDE := ⟨_, PySem.W.mg_of X G v_FIRST_WIDE⟩
    g_KINDS := PySem.W.mg_of X G g_KINDS
    s_KINDS := fun H => .inr ⟨_, _, _, l_KINDS, rfl, rfl, (by show 3 ≤ sizeLine; decide), .cons ⟨_, rfl⟩ (.cons ⟨_, rfl⟩ (.cons ⟨_, rfl⟩ (.nil)))⟩
    z_all := PySem.W.mg_none_of X G z_all
    z_any := PySem.W.mg_none_of X G z_any
    z_bool := PySem.W.mg_none_of X G z_bool
    z_int := PySem.W.mg_none_of X G z_int
    z_isinstance := PySem.W.mg_none_of X G z_isinstance
    z_len := PySem.W.mg_none_of X G z_len
    z_list := PySem.W.mg_none_of X G z_list
    z_max := PySem.W.mg_none_of X G z_max
    z_min := PySem.W.mg_none_of X G z_min
    z_range := PySem.W.mg_none_of X G z_range
    z_repr := PySem.W.mg_none_of X G z_repr
    z_str := PySem.W.mg_none_of X G z_str
    z_sum := PySem.W.mg_none_of X G z_sum
    z_tuple := PySem.W.mg_none_of X G z_tuple
    g_Text := PySem.W.mg_of X G aC_Text
    F_Text_init := F_Text_init
    b_Text_init := F_Text_init.binds (ps := ["self", "chars"]) fun _ _ _ _ _ _ us hl => match us, hl with | [_, _], _ => rfl
    F_Text_repr := F_Text_repr
    b_Text_repr := F_Text_repr.binds (ps := ["self"]) fun _ _ _ _ _ _ us hl => match us, hl with | [_], _ => rfl
    o_repr := ⟨fa_Text_repr, if_Text_repr⟩
    F_Text_chars := F_Text_chars
    b_Text_chars := F_Text_chars.binds (ps := ["self"]) fun _ _ _ _ _ _ us hl => match us, hl with | [_], _ => rfl
    m_chars := ⟨fa_Text_chars, if_Text_chars, k_Text_chars⟩
    F_Text_count := F_Text_count
    b_Text_count := F_Text_count.binds (ps := ["self", "kind"]) fun _ _ _ _ _ _ us hl => match us, hl with | [_, _], _ => rfl
    m_count := ⟨fa_Text_count, if_Text_count, k_Text_count⟩
    F_Text_in_bytes := F_Text_in_bytes
    b_Text_in_bytes := F_Text_in_bytes.binds (ps := ["self"]) fun _ _ _ _ _ _ us hl => match us, hl with | [_], _ => rfl
    p_in_bytes := ⟨fa_Text_in_bytes, ge_Text_in_bytes, ta_Text_in_bytes, ⟨_, re_Text_in_bytes⟩⟩
    F_Text_in_units := F_Text_in_units
    b_Text_in_units := F_Text_in_units.binds (ps := ["self"]) fun _ _ _ _ _ _ us hl => match us, hl with | [_], _ => rfl
    p_in_units := ⟨fa_Text_in_units, ge_Text_in_units, ta_Text_in_units, ⟨_, re_Text_in_units⟩⟩
    F_Text_in_chars := F_Text_in_chars
    b_Text_in_chars := F_Text_in_chars.binds (ps := ["self"]) fun _ _ _ _ _ _ us hl => match us, hl with | [_], _ => rfl
    p_in_chars := ⟨fa_Text_in_chars, ge_Text_in_chars, ta_Text_in_chars, ⟨_, re_Text_in_chars⟩⟩
    F_Text_len := F_Text_len
    b_Text_len := F_Text_len.binds (ps := ["self"]) fun _ _ _ _ _ _ us hl => match us, hl with | [_], _ => rfl
    o_len := ⟨fa_Text_len, if_Text_len⟩
    F_Text_getitem := F_Text_getitem
    b_Text_getitem := F_Text_getitem.binds (ps := ["self", "index"]) fun _ _ _ _ _ _ us hl => match us, hl with | [_, _], _ => rfl
    o_getitem := ⟨fa_Text_getitem, if_Text_getitem⟩
    fn_getitem := fn_getitem
    F_Text_part := F_Text_part
    b_Text_part := F_Text_part.binds (ps := ["self", "start", "end"]) fun _ _ _ _ _ _ us hl => match us, hl with | [_, _, _], _ => rfl
    m_part := ⟨fa_Text_part, if_Text_part, k_Text_part⟩
    F_Text_eq := F_Text_eq
    b_Text_eq := F_Text_eq.binds (ps := ["self", "other"]) fun _ _ _ _ _ _ us hl => match us, hl with | [_, _], _ => rfl
    o_eq := ⟨fa_Text_eq, if_Text_eq⟩
    cl := ⟨pg_T, hd_T, po_T, sa_T⟩
    k_Text := ⟨mk_T, fa_Text_init, if_Text_init, kc_T⟩
    n_points := nP_T
    ty_Text := fun _ _ _ _ e => .ins e ⟨pg_T, hd_T, po_T, sa_T⟩ ca_T cn_T ct_T mo_T
    s_Text_NoneType := notFirst_of sb_NoneType
    o_Text_NoneType := kit_own ic_T tc_T sb_NoneType
    s_Text_bool := notFirst_of sb_bool
    o_Text_bool := kit_own ic_T tc_T sb_bool
    s_Text_int := notFirst_of sb_int
    o_Text_int := kit_own ic_T tc_T sb_int
    s_Text_str := notFirst_of sb_str
    o_Text_str := kit_own ic_T tc_T sb_str
    s_Text_list := notFirst_of sb_list
    o_Text_list := kit_own ic_T tc_T sb_list
    s_Text_tuple := notFirst_of sb_tuple
    o_Text_tuple := kit_own ic_T tc_T sb_tuple
    s_Text_dict := notFirst_of sb_dict
    o_Text_dict := kit_own ic_T tc_T sb_dict
    o_Text_self := kit_self
    q_Text_bool := kit_up (by decide +kernel) su_bool
    q_Text_int := kit_up (by decide +kernel) su_int
    q_Text_str := kit_up (by decide +kernel) su_str
    q_Text_list := kit_up (by decide +kernel) su_list
    q_Text_tuple := kit_up (by decide +kernel) su_tuple
  }
theorem walk_here {l : PySem.W.OpenLaw} {q : Program} {loose : List Str} {XP : (Str → Option Value) → Heap → Prop} {YP : World → Heap → Prop} {d : DefRec} {K : Params → PySem.W.Frag}
    (hn : l.most = some 63) (hdf : d.params.defaults = []) (noImp : importsNone q = true) (hY : ∀ (w : World) (h : Heap), YP w h → (K w.params).In h) (ok : LawOk l.prog)
    (F : ∀ (w : World) (mg : Str → Option Value) (fa : Addr) (h : Heap), (K w.params).In h → h.Ns mainGlobals mg → mg d.name = some (.ref fa) →
      ∃ A : Ads, A.a_law = fa ∧ Txt (K w.params) mg A ∧ ∀ (s : Shared) (v : Value), BindsTo s A.d_law ⟨[v], []⟩ [("_law_script", v)]) :
    PySem.W.WalkO q loose XP YP l.row.toRowW d [] (fun f vs => PySem.call f vs) := by
  refine Att.attach_call hn hdf fun w s₀ s₁ mg mb fa o pm cd doc a vs ns G Y ho hd hcd hmg hobj hints hlen hg => ?_
  have KH := hY w _ Y
  obtain ⟨A, rfl, T, hb⟩ := F w mg fa _ KH G.T.g hmg
  exact call_here KH G.T.g G.T.b G.T.builtins G.T.nolimit (let ⟨mm, z, _⟩ := (G.T.seer noImp).mods; ⟨mm, z⟩) hg hobj hints (Nat.le_trans hlen (by decide)) fun base H _ _ hO hS e0 sb => ok w _ mg A base H s₁ a ns T hb hlen hS hO e0 sb

end Tc

open PySem PySem.W PyProof.Rows in
set_option maxRecDepth 100000 in
set_option maxHeartbeats 0 in
theorem PySem.Challenge.cw_threecounts_k05_texts_told_holds : PySem.Challenge.rw_threecounts_k05_texts_told.Holds := by
  w_on; o_law; k_head; (case hw => w_witness2)
  k_fill
  refine Tc.walk_here (l := PySem.Challenge.rw_threecounts_k05_texts_told) rfl rfl (by decide +kernel) (fun w h Y => PySem.W.kIn_of Y) (Tc.law_ok _) ?F
  case F =>
    intro w mg fa h KX G hmg
    refine' Tc.all_mk KX G hmg ?a1 ?l1 ?c1 ?k1 ?a2 ?l2 ?c2 ?k2 ?a3 ?l3 ?c3 ?k3 ?a4 ?l4 ?c4 ?k4 ?a5 ?l5 ?c5 ?k5 ?a6 ?l6 ?c6 ?k6 ?a7 ?l7 ?c7 ?k7 ?a8 ?l8 ?c8 ?k8 ?a9 ?l9 ?c9 ?k9 ?a10 ?l10 ?c10 ?k10 ?a11 ?l11 ?c11 ?k11 ?a12 ?l12 ?c12 ?k12 ?a13 ?l13 ?c13 ?k13 ?a14 ?l14 ?c14 ?k14 ?a15 ?l15 ?c15 ?k15 ?a16 ?l16 ?c16 ?k16 ?a17 ?l17 ?c17 ?k17 ?a18 ?l18 ?c18 ?k18 ?a19 ?l19 ?c19 ?k19 ?a20 ?l20 ?c20 ?k20 ?a21 ?l21 ?c21 ?k21 ?a22 ?l22 ?c22 ?k22 ?a23 ?l23 ?c23 ?k23 ?a24 ?l24 ?c24 ?k24 ?a25 ?l25 ?c25 ?k25 ?a26 ?l26 ?c26 ?k26 ?a27 ?l27 ?c27 ?k27 ?aC_InvalidChar ?xL_InvalidChar ?sa_InvalidChar ?ga_InvalidChar ?gg_InvalidChar ?nv_InvalidChar ?in_InvalidChar ?ti_InvalidChar ?li_InvalidChar ?ci_InvalidChar ?ki_InvalidChar ?kC_InvalidChar ?eC_InvalidChar ?tC_InvalidChar ?hC_InvalidChar ?iC_InvalidChar ?aC_InvalidChars ?xL_InvalidChars ?sa_InvalidChars ?ga_InvalidChars ?gg_InvalidChars ?nv_InvalidChars ?in_InvalidChars ?ti_InvalidChars ?li_InvalidChars ?ci_InvalidChars ?ki_InvalidChars ?kC_InvalidChars ?eC_InvalidChars ?tC_InvalidChars ?hC_InvalidChars ?iC_InvalidChars ?aC_InvalidKind ?xL_InvalidKind ?sa_InvalidKind ?ga_InvalidKind ?gg_InvalidKind ?nv_InvalidKind ?in_InvalidKind ?ti_InvalidKind ?li_InvalidKind ?ci_InvalidKind ?ki_InvalidKind ?kC_InvalidKind ?eC_InvalidKind ?tC_InvalidKind ?hC_InvalidKind ?iC_InvalidKind ?aC_BadPlace ?xL_BadPlace ?sa_BadPlace ?ga_BadPlace ?gg_BadPlace ?nv_BadPlace ?in_BadPlace ?ti_BadPlace ?li_BadPlace ?ci_BadPlace ?ki_BadPlace ?kC_BadPlace ?eC_BadPlace ?tC_BadPlace ?hC_BadPlace ?iC_BadPlace ?s_InvalidChar_InvalidChar ?s_InvalidChar_InvalidChars ?s_InvalidChar_InvalidKind ?s_InvalidChar_BadPlace ?s_InvalidChars_InvalidChar ?s_InvalidChars_InvalidChars ?s_InvalidChars_InvalidKind ?s_InvalidChars_BadPlace ?s_InvalidKind_InvalidChar ?s_InvalidKind_InvalidChars ?s_InvalidKind_InvalidKind ?s_InvalidKind_BadPlace ?s_BadPlace_InvalidChar ?s_BadPlace_InvalidChars ?s_BadPlace_InvalidKind ?s_BadPlace_BadPlace ?v_LAST_CHAR ?v_FIRST_SURROGATE ?v_LAST_SURROGATE ?v_FIRST_WIDE ?g_KINDS ?l_KINDS ?z_all ?z_any ?z_bool ?z_int ?z_isinstance ?z_len ?z_list ?z_max ?z_min ?z_range ?z_repr ?z_str ?z_sum ?z_tuple ?aC_Text ?fa_Text_init ?if_Text_init ?l_Text_init ?c_Text_init ?k_Text_init ?fa_Text_repr ?if_Text_repr ?l_Text_repr ?c_Text_repr ?k_Text_repr ?fa_Text_chars ?if_Text_chars ?l_Text_chars ?c_Text_chars ?k_Text_chars ?fa_Text_count ?if_Text_count ?l_Text_count ?c_Text_count ?k_Text_count ?fa_Text_in_bytes ?ge_Text_in_bytes ?ta_Text_in_bytes ?re_Text_in_bytes ?l_Text_in_bytes ?c_Text_in_bytes ?k_Text_in_bytes ?fa_Text_in_units ?ge_Text_in_units ?ta_Text_in_units ?re_Text_in_units ?l_Text_in_units ?c_Text_in_units ?k_Text_in_units ?fa_Text_in_chars ?ge_Text_in_chars ?ta_Text_in_chars ?re_Text_in_chars ?l_Text_in_chars ?c_Text_in_chars ?k_Text_in_chars ?fa_Text_len ?if_Text_len ?l_Text_len ?c_Text_len ?k_Text_len ?fa_Text_getitem ?if_Text_getitem ?l_Text_getitem ?c_Text_getitem ?k_Text_getitem ?fn_getitem ?fa_Text_part ?if_Text_part ?l_Text_part ?c_Text_part ?k_Text_part ?fa_Text_eq ?if_Text_eq ?l_Text_eq ?c_Text_eq ?k_Text_eq ?pg_T ?hd_T ?po_T ?sa_T ?mk_T ?kc_T ?nP_T ?ca_T ?cn_T ?ct_T ?mo_T ?ic_T ?tc_T ?sb_NoneType ?sb_bool ?sb_int ?sb_str ?sb_list ?sb_tuple ?sb_dict ?su_bool ?su_int ?su_str ?su_list ?su_tuple
    (case a1 => k_is)
    (case l1 => k_is)
    (case c1 => k_is)
    (case k1 => k_is)
    (case a2 => k_is)
    (case l2 => k_is)
    (case c2 => k_is)
    (case k2 => k_is)
    (case a3 => k_is)
    (case l3 => k_is)
    (case c3 => k_is)
    (case k3 => k_is)
    (case a4 => k_is)
    (case l4 => k_is)
    (case c4 => k_is)
    (case k4 => k_is)
    (case a5 => k_is)
    (case l5 => k_is)
    (case c5 => k_is)
    (case k5 => k_is)
    (case a6 => k_is)
    (case l6 => k_is)
    (case c6 => k_is)
    (case k6 => k_is)
    (case a7 => k_is)
    (case l7 => k_is)
    (case c7 => k_is)
    (case k7 => k_is)
    (case a8 => k_is)
    (case l8 => k_is)
    (case c8 => k_is)
    (case k8 => k_is)
    (case a9 => k_is)
    (case l9 => k_is)
    (case c9 => k_is)
    (case k9 => k_is)
    (case a10 => k_is)
    (case l10 => k_is)
    (case c10 => k_is)
    (case k10 => k_is)
    (case a11 => k_is)
    (case l11 => k_is)
    (case c11 => k_is)
    (case k11 => k_is)
    (case a12 => k_is)
    (case l12 => k_is)
    (case c12 => k_is)
    (case k12 => k_is)
    (case a13 => k_is)
    (case l13 => k_is)
    (case c13 => k_is)
    (case k13 => k_is)
    (case a14 => k_is)
    (case l14 => k_is)
    (case c14 => k_is)
    (case k14 => k_is)
    (case a15 => k_is)
    (case l15 => k_is)
    (case c15 => k_is)
    (case k15 => k_is)
    (case a16 => k_is)
    (case l16 => k_is)
    (case c16 => k_is)
    (case k16 => k_is)
    (case a17 => k_is)
    (case l17 => k_is)
    (case c17 => k_is)
    (case k17 => k_is)
    (case a18 => k_is)
    (case l18 => k_is)
    (case c18 => k_is)
    (case k18 => k_is)
    (case a19 => k_is)
    (case l19 => k_is)
    (case c19 => k_is)
    (case k19 => k_is)
    (case a20 => k_is)
    (case l20 => k_is)
    (case c20 => k_is)
    (case k20 => k_is)
    (case a21 => k_is)
    (case l21 => k_is)
    (case c21 => k_is)
    (case k21 => k_is)
    (case a22 => k_is)
    (case l22 => k_is)
    (case c22 => k_is)
    (case k22 => k_is)
    (case a23 => k_is)
    (case l23 => k_is)
    (case c23 => k_is)
    (case k23 => k_is)
    (case a24 => k_is)
    (case l24 => k_is)
    (case c24 => k_is)
    (case k24 => k_is)
    (case a25 => k_is)
    (case l25 => k_is)
    (case c25 => k_is)
    (case k25 => k_is)
    (case a26 => k_is)
    (case l26 => k_is)
    (case c26 => k_is)
    (case k26 => k_is)
    (case a27 => k_is)
    (case l27 => k_is)
    (case c27 => k_is)
    (case k27 => k_is)
    (case aC_InvalidChar => k_is)
    (case xL_InvalidChar => k_is)
    (case sa_InvalidChar => k_is)
    (case ga_InvalidChar => k_is)
    (case gg_InvalidChar => k_is)
    (case nv_InvalidChar => k_is)
    (case in_InvalidChar => k_is)
    (case ti_InvalidChar => k_is)
    (case li_InvalidChar => k_is)
    (case ci_InvalidChar => k_is)
    (case ki_InvalidChar => k_is)
    (case kC_InvalidChar => k_is)
    (case eC_InvalidChar => k_is)
    (case tC_InvalidChar => k_is)
    (case hC_InvalidChar => k_is)
    (case iC_InvalidChar => k_is)
    (case aC_InvalidChars => k_is)
    (case xL_InvalidChars => k_is)
    (case sa_InvalidChars => k_is)
    (case ga_InvalidChars => k_is)
    (case gg_InvalidChars => k_is)
    (case nv_InvalidChars => k_is)
    (case in_InvalidChars => k_is)
    (case ti_InvalidChars => k_is)
    (case li_InvalidChars => k_is)
    (case ci_InvalidChars => k_is)
    (case ki_InvalidChars => k_is)
    (case kC_InvalidChars => k_is)
    (case eC_InvalidChars => k_is)
    (case tC_InvalidChars => k_is)
    (case hC_InvalidChars => k_is)
    (case iC_InvalidChars => k_is)
    (case aC_InvalidKind => k_is)
    (case xL_InvalidKind => k_is)
    (case sa_InvalidKind => k_is)
    (case ga_InvalidKind => k_is)
    (case gg_InvalidKind => k_is)
    (case nv_InvalidKind => k_is)
    (case in_InvalidKind => k_is)
    (case ti_InvalidKind => k_is)
    (case li_InvalidKind => k_is)
    (case ci_InvalidKind => k_is)
    (case ki_InvalidKind => k_is)
    (case kC_InvalidKind => k_is)
    (case eC_InvalidKind => k_is)
    (case tC_InvalidKind => k_is)
    (case hC_InvalidKind => k_is)
    (case iC_InvalidKind => k_is)
    (case aC_BadPlace => k_is)
    (case xL_BadPlace => k_is)
    (case sa_BadPlace => k_is)
    (case ga_BadPlace => k_is)
    (case gg_BadPlace => k_is)
    (case nv_BadPlace => k_is)
    (case in_BadPlace => k_is)
    (case ti_BadPlace => k_is)
    (case li_BadPlace => k_is)
    (case ci_BadPlace => k_is)
    (case ki_BadPlace => k_is)
    (case kC_BadPlace => k_is)
    (case eC_BadPlace => k_is)
    (case tC_BadPlace => k_is)
    (case hC_BadPlace => k_is)
    (case iC_BadPlace => k_is)
    (case s_InvalidChar_InvalidChar => first | rfl | k_is)
    (case s_InvalidChar_InvalidChars => first | rfl | k_is)
    (case s_InvalidChar_InvalidKind => first | rfl | k_is)
    (case s_InvalidChar_BadPlace => first | rfl | k_is)
    (case s_InvalidChars_InvalidChar => first | rfl | k_is)
    (case s_InvalidChars_InvalidChars => first | rfl | k_is)
    (case s_InvalidChars_InvalidKind => first | rfl | k_is)
    (case s_InvalidChars_BadPlace => first | rfl | k_is)
    (case s_InvalidKind_InvalidChar => first | rfl | k_is)
    (case s_InvalidKind_InvalidChars => first | rfl | k_is)
    (case s_InvalidKind_InvalidKind => first | rfl | k_is)
    (case s_InvalidKind_BadPlace => first | rfl | k_is)
    (case s_BadPlace_InvalidChar => first | rfl | k_is)
    (case s_BadPlace_InvalidChars => first | rfl | k_is)
    (case s_BadPlace_InvalidKind => first | rfl | k_is)
    (case s_BadPlace_BadPlace => first | rfl | k_is)
    (case v_LAST_CHAR => k_is)
    (case v_FIRST_SURROGATE => k_is)
    (case v_LAST_SURROGATE => k_is)
    (case v_FIRST_WIDE => k_is)
    (case g_KINDS => k_is)
    (case l_KINDS => k_is)
    (case z_all => k_is)
    (case z_any => k_is)
    (case z_bool => k_is)
    (case z_int => k_is)
    (case z_isinstance => k_is)
    (case z_len => k_is)
    (case z_list => k_is)
    (case z_max => k_is)
    (case z_min => k_is)
    (case z_range => k_is)
    (case z_repr => k_is)
    (case z_str => k_is)
    (case z_sum => k_is)
    (case z_tuple => k_is)
    (case aC_Text => k_is)
    (case fa_Text_init => k_is)
    (case if_Text_init => k_is)
    (case l_Text_init => k_is)
    (case c_Text_init => k_is)
    (case k_Text_init => k_is)
    (case fa_Text_repr => k_is)
    (case if_Text_repr => k_is)
    (case l_Text_repr => k_is)
    (case c_Text_repr => k_is)
    (case k_Text_repr => k_is)
    (case fa_Text_chars => k_is)
    (case if_Text_chars => k_is)
    (case l_Text_chars => k_is)
    (case c_Text_chars => k_is)
    (case k_Text_chars => k_is)
    (case fa_Text_count => k_is)
    (case if_Text_count => k_is)
    (case l_Text_count => k_is)
    (case c_Text_count => k_is)
    (case k_Text_count => k_is)
    (case fa_Text_in_bytes => k_is)
    (case ge_Text_in_bytes => k_is)
    (case ta_Text_in_bytes => k_is)
    (case re_Text_in_bytes => k_is)
    (case l_Text_in_bytes => k_is)
    (case c_Text_in_bytes => k_is)
    (case k_Text_in_bytes => k_is)
    (case fa_Text_in_units => k_is)
    (case ge_Text_in_units => k_is)
    (case ta_Text_in_units => k_is)
    (case re_Text_in_units => k_is)
    (case l_Text_in_units => k_is)
    (case c_Text_in_units => k_is)
    (case k_Text_in_units => k_is)
    (case fa_Text_in_chars => k_is)
    (case ge_Text_in_chars => k_is)
    (case ta_Text_in_chars => k_is)
    (case re_Text_in_chars => k_is)
    (case l_Text_in_chars => k_is)
    (case c_Text_in_chars => k_is)
    (case k_Text_in_chars => k_is)
    (case fa_Text_len => k_is)
    (case if_Text_len => k_is)
    (case l_Text_len => k_is)
    (case c_Text_len => k_is)
    (case k_Text_len => k_is)
    (case fa_Text_getitem => k_is)
    (case if_Text_getitem => k_is)
    (case l_Text_getitem => k_is)
    (case c_Text_getitem => k_is)
    (case k_Text_getitem => k_is)
    (case fn_getitem => k_is)
    (case fa_Text_part => k_is)
    (case if_Text_part => k_is)
    (case l_Text_part => k_is)
    (case c_Text_part => k_is)
    (case k_Text_part => k_is)
    (case fa_Text_eq => k_is)
    (case if_Text_eq => k_is)
    (case l_Text_eq => k_is)
    (case c_Text_eq => k_is)
    (case k_Text_eq => k_is)
    (case pg_T => k_is)
    (case hd_T => k_is)
    (case po_T => k_is)
    (case sa_T => k_is)
    (case mk_T => k_is)
    (case kc_T => k_is)
    (case nP_T => k_is)
    (case ca_T => k_is)
    (case cn_T => k_is)
    (case ct_T => k_is)
    (case mo_T => k_is)
    (case ic_T => k_is)
    (case tc_T => k_is)
    (case sb_NoneType => first | rfl | k_is)
    (case sb_bool => first | rfl | k_is)
    (case sb_int => first | rfl | k_is)
    (case sb_str => first | rfl | k_is)
    (case sb_list => first | rfl | k_is)
    (case sb_tuple => first | rfl | k_is)
    (case sb_dict => first | rfl | k_is)
    (case su_bool => k_is)
    (case su_int => k_is)
    (case su_str => k_is)
    (case su_list => k_is)
    (case su_tuple => k_is)

