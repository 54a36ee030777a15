import PyProof.Rows.All
import Wide.All
import OpenK.AllK
import Wide.FinOn
import HandS.ForMost
import HandS.IsInst
import HandS.StrMore
import HandS.TupAny
import HandS.TupMul
import HandS.Zip
import HandS.CallLocal
import HandS.Style
import HandS.Flow
import HandS.More
import HandS.Conv
import HandS.Exc
import HandS.ExcInit
import HandS.ExcField
import HandS.TryMany
import HandS.ExcOwn
import HandS.ExcValue
import HandS.ReplaceLit
import HandS.Replace
import HandS.TryOnly
import HandS.ExcIs
import HandS.ReplaceList
import KE.IntTextLaws
import PySem.Challenge.RW_inorderonce_k09_frames_there_and_back
set_option Elab.async false
set_option linter.all false
set_option maxRecDepth 100000
set_option maxHeartbeats 4000000
/-! errors whose base is Exception, with an own __init__ that keeps its arguments -/
namespace PySem.EX1
open PySem PySem.Spec PySem.W PySem.Calls PyProof.Rows PySem.HandSPX Builtin Builtin.ObjectAttr
/-- an mro: own classes, then Exception's -/
def ownEx : List Value → Bool
  | .ref _ :: r => ownEx r
  | [.type "Exception", .type "BaseException", .type "object"] => true
  | _ => false
inductive OwnEx : List Value → Prop
  | base : OwnEx [.type "Exception", .type "BaseException", .type "object"]
  | own (c : Addr) {r : List Value} : OwnEx r → OwnEx (.ref c :: r)
theorem ownEx_ok : ∀ l : List Value, ownEx l = true → OwnEx l
  | [], h => by cases h
  | .ref c :: r, h => .own c (ownEx_ok r h)
  | .none :: _, h => by cases h
  | .ellipsis :: _, h => by cases h
  | .notImplemented :: _, h => by cases h
  | .bool _ :: _, h => by cases h
  | .int _ _ :: _, h => by cases h
  | .float _ _ :: _, h => by cases h
  | .str _ _ :: _, h => by cases h
  | .bytes _ _ :: _, h => by cases h
  | .builtin _ :: _, h => by cases h
  | .type a :: r, h => by
    unfold ownEx at h
    split at h
    · rename_i e
      cases e
    · rename_i e
      rw [e]
      exact .base
    · cases h
theorem OwnEx.setable {l : List Value} (h : OwnEx l) (self : Value) : refuseLoop self "__setattr__" l = pure () := by
  induction h with
  | base => exact F.store_Exception.passes self
  | own c _ ih => rw [refuseLoop_ref, ih]
theorem OwnEx.has {l : List Value} (h : OwnEx l) (n : String) : l.contains (.type n) = [Value.type "Exception", .type "BaseException", .type "object"].contains (.type n) := by
  induction h with
  | base => rfl
  | own c _ ih =>
    rw [List.contains_cons, ih]
    rfl
theorem OwnEx.full {l : List Value} (h : OwnEx l) : l.isEmpty = false := by cases h <;> rfl
section
variable {prog : Program} {w : World} {A : Around} {E : Value → Shared → Prop} {R : Result → Shared → Prop} {hp : Heap} {g : Array GenState} {d : Drawn} {t : Nat} {os : OsState}
variable {K : W.Frag} {nm : Str} {tk : Tok} {v : Value} {x C dx : Addr} {fv : Array Value} {cd : ClassData} {od : Option Addr} {oo : Option Obj}
theorem exs_new (X : K.In hp) (hx : hp.get? x = some { cls := .ref C, data := .fields fv }) (hcd : W.clsIn K C = some cd) (hm : OwnEx cd.mro) (hh : cd.hasDict = true) (ha : W.findIn K (.ref C) nm = some none)
    (hq : ∀ h' tk' dx, (∀ b o, b ≠ x → hp.get? b = some o → h'.get? b = some o) → hp.objs.size ≤ dx → dx ≠ x →
      h'.get? x = some { cls := .ref C, dict := some dx, data := .fields fv } → h'.Ns1 dx (fun y => if y = nm then some v else none) → R (.ok (.ret .none)) ⟨h', g, d, tk', os⟩) :
    codeAny (model prog w) A (.call (.builtin "object.__setattr__") ⟨[.ref x, .str nm tk, v], []⟩) R ⟨hp, g, d, t, os⟩ := by
  have J : W.InstAt hp x { cls := .ref C, data := .fields fv } C none := ⟨hx, rfl, rfl, trivial⟩
  have xs : x ≠ hp.objs.size := Nat.ne_of_lt (Heap.lt_size hx)
  have obj : cd.mro.contains (.type "object") = true := (hm.has "object").trans (by decide +kernel)
  have lm : W.Looks (model prog w) hp (mroOf (.ref C)) cd.mro := (W.looks_clsIn X hcd).andThen .now
  have lc : W.Looks (model prog w) hp (classData C) cd := W.looks_clsIn X hcd
  have ln : W.Looks (model prog w) hp (storeTaker? none) none := .now
  have li : W.Looks (model prog w) hp (isInstance (.ref x) (.type "object")) true :=
    J.type.andThen (W.looks_mroIn X (by unfold W.mroIn; rw [hcd, Option.bind_some, if_neg (by rw [hm.full]; decide), obj]))
  refine codeAny_call_builtin F.store_object.slot.plain F.store_object.entry
    (@W.check_slot (model prog w) _ _ ⟨hp, g, d, t, os⟩ "object.__setattr__" "object" "__setattr__" (.ref x) [.str nm tk, v] [] _ F.store_object.kind F.store_object.split li
      (F.store_object.args (.ref x) (.str nm tk) v) ?_)
  rw [W.osa_eq, refuse_eq]
  refine wpAny_bind (wpAny_bind (J.type.at (wpAny_bind (lm.at ?_))))
  rw [hm.setable]
  refine wpAny_pure (wpAny_bind (J.type.at (wpAny_bind ((W.looks_findIn X ha).at (wpAny_bind (ln.at ?_))))))
  show wpAny _ _ (storeInOwnDict (.ref x) (.ref C) (.str nm tk) nm v false) _ _ _
  obtain ⟨c1, c2, c3, c4, c5, c6, c7, c8, c9, c10, c11⟩ := cd
  have e6 : c6 = true := hh
  subst e6
  unfold storeInOwnDict ownDictForStores
  repeat (first | with_reducible refine store_in_new ?_ ?_ | with_reducible refine wpAny_loadPart_at hx ?_ | with_reducible refine lc.at ?_ | wp_step)
  · exact ⟨_, #[], _, (Heap.get?_update_ne _ _ _ _ xs.symm).trans (Heap.get?_push_at rfl rfl), rfl, fun e q => absurd q (by simp), fun _ => rfl⟩
  · intro h' tk' n1 sb
    have hx1 := Heap.get?_push_of_some (h := hp) { cls := .type "dict", data := .dict #[] } hx
    exact hq h' tk' hp.objs.size (fun b o ne q => (sb.2 b (Nat.ne_of_lt (Heap.lt_size q))).trans ((Heap.get?_update_ne _ _ _ _ ne).trans (Heap.get?_push_of_some _ q))) (Nat.le_refl _) xs.symm
      ((sb.2 x xs).trans (Heap.get?_update_self _ hx1 rfl)) n1
/-- a further field -/
theorem exs_old {m0 : Str → Option Value} {nl : List Str} (X : K.In hp) (hx : hp.get? x = some { cls := .ref C, dict := some dx, data := .fields fv }) (hns : hp.Ns1 dx m0) (hw : Within m0 nl) (hz : nl.length ≤ 1000)
    (hcd : W.clsIn K C = some cd) (hm : OwnEx cd.mro) (hh : cd.hasDict = true) (ha : W.findIn K (.ref C) nm = some none)
    (hq : ∀ h' tk', (∀ b o, b ≠ dx → hp.get? b = some o → h'.get? b = some o) → h'.Ns1 dx (fun y => if y = nm then some v else m0 y) → R (.ok (.ret .none)) ⟨h', g, d, tk', os⟩) :
    codeAny (model prog w) A (.call (.builtin "object.__setattr__") ⟨[.ref x, .str nm tk, v], []⟩) R ⟨hp, g, d, t, os⟩ := by
  obtain ⟨oD, _, _, hoD, _, _⟩ := hns.count hw
  have J : W.InstAt hp x { cls := .ref C, dict := some dx, data := .fields fv } C (some oD) := ⟨hx, rfl, rfl, hoD⟩
  have obj : cd.mro.contains (.type "object") = true := (hm.has "object").trans (by decide +kernel)
  have lm : W.Looks (model prog w) hp (mroOf (.ref C)) cd.mro := (W.looks_clsIn X hcd).andThen .now
  have lc : W.Looks (model prog w) hp (classData C) cd := W.looks_clsIn X hcd
  have ln : W.Looks (model prog w) hp (storeTaker? none) none := .now
  have li : W.Looks (model prog w) hp (isInstance (.ref x) (.type "object")) true :=
    J.type.andThen (W.looks_mroIn X (by unfold W.mroIn; rw [hcd, Option.bind_some, if_neg (by rw [hm.full]; decide), obj]))
  refine codeAny_call_builtin F.store_object.slot.plain F.store_object.entry
    (@W.check_slot (model prog w) _ _ ⟨hp, g, d, t, os⟩ "object.__setattr__" "object" "__setattr__" (.ref x) [.str nm tk, v] [] _ F.store_object.kind F.store_object.split li
      (F.store_object.args (.ref x) (.str nm tk) v) ?_)
  rw [W.osa_eq, refuse_eq]
  refine wpAny_bind (wpAny_bind (J.type.at (wpAny_bind (lm.at ?_))))
  rw [hm.setable]
  refine wpAny_pure (wpAny_bind (J.type.at (wpAny_bind ((W.looks_findIn X ha).at (wpAny_bind (ln.at ?_))))))
  show wpAny _ _ (storeInOwnDict (.ref x) (.ref C) (.str nm tk) nm v false) _ _ _
  obtain ⟨c1, c2, c3, c4, c5, c6, c7, c8, c9, c10, c11⟩ := cd
  have e6 : c6 = true := hh
  subst e6
  unfold storeInOwnDict ownDictForStores
  repeat (first | with_reducible refine OEX.store_in_old hns hw hz ?_ | with_reducible refine wpAny_loadPart_at hx ?_ | with_reducible refine lc.at ?_ | wp_step)
  exact fun h' tk' n1 sb => hq h' tk' (fun b o ne q => (sb.2 b ne).trans q) n1
end
end PySem.EX1

namespace W2
open PySem PySem.Spec PyProof.Rows L2 PySem.EX1
/-- what the written part says of such an error class -/
structure ErC (K : PySem.W.Frag) (C : Addr) : Prop where
  cls : ∃ nm q N bs bm sn sub ab col dd k0 k1 k2 k3 k5, K.lookup C = some (excClassObj nm q C N bs bm true sn sub ab col dd k0 k1 k2 k3 k5 "Exception.__new__") ∧ ownEx bm = true
  sa : PySem.W.findIn K (.ref C) "__setattr__" = some (some (.builtin "object.__setattr__"))
  exC : PySem.W.subIn K (.ref C) (.type "BaseException") = some true
  tyC : PySem.W.typeIn K (.ref C) = some (.type "type")
  kC : PySem.W.keepIn K (.ref C) = true
section
variable {X : Cx} {pins : List (Addr × Obj)} {σ : L2.St} {H : Hp} {s : Shared} {a C dx : Addr} {f : Str} {y : V} {u : Value} {fs : List (Str × V)} {Q : Unit → Shared → Prop} {E : Value → Shared → Prop} {A : Around}
theorem er_new (T : ErC X.K C) (I : Inv X pins σ H s) (e : H a = some (exo a C none)) (hno : PySem.W.findIn X.K (.ref C) f = some none) (ry : RelV y u)
    (h : ∀ dx s', H dx = none → dx ≠ a → Inv X pins σ (upd (upd H dx (exd dx [(f, y)])) a (exo a C (some dx))) s' → Q () s') : wpAny (model X.prog X.w) A (setAttr (.ref a) f u) Q E s := by
  obtain ⟨nm, q, N, bs, bm, sn, sub, ab, col, dd, k0, k1, k2, k3, k5, hC, hbm⟩ := T.cls
  have hcl : PySem.W.clsIn X.K C = some ⟨nm, bs, .ref C :: bm, N, q, true, sn, sub, ab, col, false⟩ := by
    unfold PySem.W.clsIn
    rw [hC]
  obtain ⟨t1, ho⟩ := exo_at I.hok e
  obtain ⟨hp, g, d, t, os⟩ := s
  refine PySem.W.set_plain I.kIn (ox := ⟨.ref C, none, .fields #[.ref t1, .none, .none, .none, .bool false, .none], #[]⟩) (od := none) ⟨ho, rfl, rfl, trivial⟩ T.sa ?_
  refine exs_new I.kIn ho hcl (.own C (ownEx_ok _ hbm)) rfl hno fun h' tk' dx k dn dne hx hn => ?_
  have fresh : H dx = none := I.hok.fresh dn
  have off : ∀ {b : Addr} {o : Obj}, hp.get? b = some o → b ≠ dx := fun z => Nat.ne_of_lt (Nat.lt_of_lt_of_le (Heap.lt_size z) dn)
  have offa : ∀ {b : Addr}, H b = none → b ≠ a := fun n z => by
    rw [z, e] at n
    cases n
  have un : Un X.fs [] H (upd (upd H dx (exd dx [(f, y)])) a (exo a C (some dx))) hp h' :=
    ⟨fun b o z n _ _ => k b o (offa n) z, fun b o z n _ _ => ⟨o.slots, k b o (offa n) z⟩, fun b o z n _ => by rw [upd_ne (offa n), upd_ne (off z)]; exact n,
      fun b o z _ => by
        by_cases hb : b = a
        · exact ⟨_, by rw [hb]; exact hx⟩
        · exact ⟨o, k b o hb z⟩,
      fun b xs z => by rw [upd_ne (at_ne e z exo_tup), upd_ne (ne_of_none z fresh)]; exact z,
      fun b o v z => by rw [upd_ne (at_ne e z exo_frz), upd_ne (ne_of_none z fresh)]; exact z,
      fun b ps z => ⟨#[], by rw [upd_ne (at_ne e z exo_tbl), upd_ne (ne_of_none z fresh), z]; simp⟩⟩
  refine h dx _ fresh dne (I.un (t' := tk') un fun b o z => ?_)
  by_cases hb : b = a
  · subst hb
    rw [upd_same] at z
    cases z
    exact exo_ok hx
  rw [upd_ne hb] at z
  by_cases hd : b = dx
  · subst hd
    rw [upd_same] at z
    cases z
    exact exd_ok hn (relO_put (fs := []) ry fun g => True.intro)
  rw [upd_ne hd] at z
  refine (I.hok b o z).stay (fun c v hc r => k c v ?_ r) (fun c hc => ?_) fun c xs hc => ?_
  · rcases hc with hc | hc
    · rw [hc]; exact hb
    · exact at_ne e hc exo_own
  · rw [upd_ne (at_ne e hc exo_own), upd_ne (ne_of_none hc fresh)]; exact hc
  · rw [upd_ne (at_ne e hc exo_tup), upd_ne (ne_of_none hc fresh)]; exact hc
theorem er_old (T : ErC X.K C) (I : Inv X pins σ H s) (e : H a = some (exo a C (some dx))) (ed : H dx = some (exd dx fs)) (hl : fs.length ≤ 900) (hno : PySem.W.findIn X.K (.ref C) f = some none) (ry : RelV y u)
    (h : ∀ s', Inv X pins σ (upd H dx (exd dx ((f, y) :: fs))) s' → Q () s') : wpAny (model X.prog X.w) A (setAttr (.ref a) f u) Q E s := by
  obtain ⟨nm, q, N, bs, bm, sn, sub, ab, col, dd, k0, k1, k2, k3, k5, hC, hbm⟩ := T.cls
  have hcl : PySem.W.clsIn X.K C = some ⟨nm, bs, .ref C :: bm, N, q, true, sn, sub, ab, col, false⟩ := by
    unfold PySem.W.clsIn
    rw [hC]
  obtain ⟨t1, ho⟩ := exo_at I.hok e
  obtain ⟨mA, hns, rel⟩ := exd_at I.hok ed
  obtain ⟨hp, g, d, t, os⟩ := s
  obtain ⟨oD, _, _, hoD, _, _⟩ := hns.count (within_of rel)
  refine PySem.W.set_plain I.kIn (ox := ⟨.ref C, some dx, .fields #[.ref t1, .none, .none, .none, .bool false, .none], #[]⟩) (od := some oD) ⟨ho, rfl, rfl, hoD⟩ T.sa ?_
  refine exs_old I.kIn ho hns (within_of rel) (by rw [List.length_map]; omega) hcl (.own C (ownEx_ok _ hbm)) rfl hno fun h' tk' k hn => ?_
  obtain ⟨o1, _, _, e1, _⟩ := id hn
  exact h _ (I.write (t' := tk') (x := dx) (e := dx) (o := exd dx ((f, y) :: fs)) (by rw [ed]; exact True.intro) (.inl rfl) k ⟨o1, e1⟩ (exd_ok hn (relO_put ry rel)))
end
/-- self.f = e in the __init__ of an error -/
def tEr (K : PySem.W.Frag) (f : Str) (to te : TE) : TS := fun D σ H => te σ H fun y H1 => to σ H1 fun x H2 => ∃ a C : Addr, x = .ref a ∧ ErC K C ∧ PySem.W.findIn K (.ref C) f = some none ∧
  ((H2 a = some (exo a C none) ∧ ∀ dx, H2 dx = none → dx ≠ a → D.nx σ (upd (upd H2 dx (exd dx [(f, y)])) a (exo a C (some dx)))) ∨
    ∃ (dx : Addr) (fs : List (Str × V)), H2 a = some (exo a C (some dx)) ∧ H2 dx = some (exd dx fs) ∧ fs.length ≤ 900 ∧ D.nx σ (upd H2 dx (exd dx ((f, y) :: fs))))
theorem ps_er {X : Cx} {o e : Expr} {to te : TE} {f : Str} {p' pos : Pos} (ho : PE X o to) (he : PE X e te) (hs : swapsWith e (some (.Attribute o f p')) pos.line X.env = pure false := by rfl) : PS X (.Assign [.Attribute o f p'] e pos) (tEr X.K f to te) := by
  constructor
  intro pins s σ H D I h
  refine plainObj_wpAny_Assign_Attribute (thn (he.run pins s σ H _ I h) fun v s1 ⟨y, H1, I1, r1, q1⟩ => thn (ho.run pins s1 σ H1 _ I1 q1) ?_) hs
  rintro u s2 ⟨x, H2, I2, r2, a, C, rfl, T, hno, q⟩
  obtain rfl : u = Value.ref a := r2
  rcases q with ⟨ea, q⟩ | ⟨dx, fs, ea, ed, hl, q⟩
  · exact er_new T I2 ea hno r1 fun dx s' n ne J => ⟨σ, _, J, q dx n ne⟩
  · exact er_old T I2 ea ed hl hno r1 fun s' J => ⟨σ, _, J, q⟩
end W2

namespace W2
open PySem PySem.Spec PyProof.Rows L2
/-! ### room with the guards told; what is left of it in an except suite -/
structure Rm (k : Nat) (A : Around) : Prop where
  r : Room k A
  g : A.guards = some []
theorem Rm.mono {j k : Nat} {A : Around} (h : Rm k A) (le : j ≤ k) : Rm j A := ⟨h.r.mono le, h.g⟩
structure Rg (A : Around) : Prop where
  un : A.units + 200 < cLine
  g : A.guards = some []
theorem Rm.rg {k : Nat} {A : Around} (h : Rm k A) : Rg A := ⟨by have := h.r.un; omega, h.g⟩
theorem Rg.mark {A : Around} (h : Rg A) (hd : Option Value) : Rg (A.mark hd) := ⟨h.un, h.g⟩
theorem Rm.make {k : Nat} {A : Around} (r : Rm (k + 1) A) (C : Addr) (us : List Value) (kw : List (Str × Value)) : Rm k (A.under (.builtin "type.__call__" ⟨.ref C :: us, kw⟩)) := ⟨r.r.make C us kw, by
  show pushGuards (Code.guards (.builtin "type.__call__" ⟨.ref C :: us, kw⟩)) A.guards = some []
  rw [r.g]
  have : Code.guards (.builtin "type.__call__" ⟨.ref C :: us, kw⟩) = [] := by
    unfold Code.guards
    rw [if_neg]
    show ¬ guardIds.contains "type.__call__" = true
    decide +kernel
  rw [this]
  rfl⟩
/-- a def's promise; errors may leave it -/
structure FnX (P : Program) (w : World) (K : PySem.W.Frag) (mg : Str → Option Value) (base : Heap) (k : Nat) (f : Addr) (fd : FuncData) (ps : List Str) (sp : Sp) : Prop where
  len : ∀ vs H Q E, sp vs H Q E → vs.length = ps.length
  run : ∀ (A : Around) (o : List Env) (s : Shared) (H : Hp) (ar : Args) (us : List Value) (vs : List V) (Q : VK) (E : XK), Rm k A → Env0 P w K mg base A o s H → BindsTo s fd ar (ps.zip us) → Vals vs us → sp vs H Q E →
    codeAny (model P w) A (.call (.ref f) ar) (CR (L2.CX P w) o P w H s Q E) s
section
variable {P : Program} {w : World} {K : PySem.W.Frag} {mg : Str → Option Value} {base : Heap}
theorem FnX.mono {j k : Nat} {f : Addr} {fd : FuncData} {ps : List Str} {sp : Sp} (F : FnX P w K mg base j f fd ps sp) (h : j ≤ k) : FnX P w K mg base k f fd ps sp := ⟨F.len, fun A o s H ar us vs Q E hr => F.run A o s H ar us vs Q E (hr.mono h)⟩
theorem fnX_of {x qual : Str} {st : Stmt} {f : Addr} {fd : FuncData} {N ps : List Str} {k : Nat} {sp : Sp} (F : Fun K x qual st f fd) (S : FnScope N ps (defScope st)) (len : ∀ vs H Q E, sp vs H Q E → vs.length = ps.length)
    (body : ∀ (c : Value) (A : Around) (o : List Env) (s : Shared) (H : Hp) (vs : List V) (Q : VK) (E : XK), Rm k (A.deeper (envOfC qual (defScope st) s.heap.objs.size f c)) → sp vs H Q E →
      ∃ t, PSs (cxOf (L2.CX P w) P w K mg base N qual (defScope st) f c A o s H E) (defBody st) t ∧ t { nx := fun _ H' => Q .non H', rt := Q } (start N vs) H) : FnX P w K mg base (k + 1) f fd ps sp := by
  obtain ⟨oc, od, kV, doc, pm, an, c, ct, osl, rfl, lk, hcd⟩ := F.ex
  refine ⟨len, ?_⟩
  intro A o s H ar us vs Q E hr e0 hb r hsp
  have kb : ∀ b ob, base.get? b = some ob → s.heap.get? b = some ob := fun b ob e => (e0.bs b ob e).1
  have KX : K.In s.heap := e0.mod.kin.keeps kb
  have kinds : ∀ y ∈ ps.zip us, (defScope st).names.lookup y.1 = some .local ∨ ((defScope st).names.lookup y.1 = some .cell ∧ ((cellsFrom (s.heap.objs.size + 1) (defScope st).names []).lookup y.1).isSome = true) := by
    intro y hy
    rcases S.par y.1 (List.of_mem_zip (show (y.1, y.2) ∈ ps.zip us from hy)).1 with q | q
    · exact .inl q
    · exact .inr ⟨q, PySem.W.cellsFrom_some _ _ _ (Or.inl q)⟩
  refine codeAny_call_function hr.r.depth (KX _ _ lk) rfl S.co S.gen rfl (PySem.W.codeRec_of KX hcd) (hb _ _ _ _ ?_)
  refine wpAny_newFunctionEnv_cells S.kind kinds fun env he s1 x => ?_
  subst he
  refine ⟨(e0.mod.nolimit.keeps kb).keeps x.toInCall.keep, codeAny_func ?_⟩
  obtain ⟨t, ht, hq⟩ := body c A o s H vs Q E ⟨hr.r.deeper _, hr.g⟩ hsp
  have I := inv_start (CX := L2.CX P w) (P := P) (w := w) (K := K) (mg := mg) (base := base) (qual := qual) (f := f) (cd := c) (E := E) S hr.r.hd e0 (len _ _ _ _ hsp) r x
  refine wpAny_mono (ht.run [] s1 (start N vs) H _ I hq) (fun fl s' hs => ?_) fun e s' hs => hs
  cases fl with
  | ret u =>
    obtain ⟨v, σ', H', J, rv, q⟩ := hs
    exact ⟨v, H', J.os, J.bare, J.base, J.hok, rv, q⟩
  | next =>
    obtain ⟨σ', H', J, q⟩ := hs
    exact ⟨.non, H', J.os, J.bare, J.base, J.hok, rfl, q⟩
  | brk => exact (hs.elim fun _ h => h.elim fun _ h => False.elim h.2)
  | cont => exact (hs.elim fun _ h => h.elim fun _ h => False.elim h.2)
end
section
variable {X : Cx} {k : Nat} {f : Addr} {fd : FuncData} {ps : List Str} {sp : Sp} {E : L2.St → XK} {W : WX} {x : Str} {p pos : Pos} {e : Expr} {es : List Expr} {t : TA}
theorem run_X {pins : List (Addr × Obj)} {σ : L2.St} {H : Hp} {s : Shared} {Q : VK} {us : List Value} {vs : List V} {ar : Args} (F : FnX X.prog X.w X.K X.mg X.base k f fd ps sp) (hr : Rm k X.A) (tk : Takes X W)
    (hb : BindsTo s fd ar (ps.zip us)) (I : Inv X pins σ H s) (r : Vals vs us) (h : sp vs H Q (WE W σ)) :
    codeAny (model X.prog X.w) X.A (.call (.ref f) ar) (fun r s' => match r with | .ok (.ret u) => EP X pins σ Q u s' | .ok _ => False | .error e => X.xe e s') s := by
  refine codeAny_mono (F.run X.A X.stack s H ar us vs Q _ hr I.env0 hb r h) fun r s' hq => ?_
  match r, hq with
  | .error e, hq => exact passAt tk σ pins H s e s' I hq
  | .ok (.ret u), hq => exact I.after hq
theorem run_Xc {pins : List (Addr × Obj)} {σ : L2.St} {H : Hp} {s : Shared} {Q : VK} {us : List Value} {vs : List V} (F : FnX X.prog X.w X.K X.mg X.base k f fd ps sp) (hr : Rm k X.A) (tk : Takes X W)
    (hb : Binds X.K fd ps []) (I : Inv X pins σ H s) (r : Vals vs us) (h : sp vs H Q (WE W σ)) : wpAny (model X.prog X.w) X.A (call (.ref f) us) (EP X pins σ Q) X.xe s := by
  have hl : (us ++ []).length = ps.length := by
    rw [List.append_nil, ← r.length]
    exact F.len _ _ _ _ h
  have hz := hb s us I.kIn hl
  rw [List.append_nil] at hz
  refine wpAny_call (codeAny_mono (run_X F hr tk hz I r h) fun r s' hq => ?_)
  match r, hq with
  | .error e, hq => exact hq
  | .ok (.ret u), hq => exact hq
theorem pe_X (F : FnX X.prog X.w X.K X.mg X.base k f fd ps sp) (hr : Rm k X.A) (tk : Takes X W) (hg : Gl X x) (hm : X.mg x = some (.ref f)) (hk : PySem.W.keepIn X.K (.ref f) = true) (hb : Binds X.K fd ps []) (ha : PA X (e :: es) t)
    (hdb : (x == ("__debug__" : Str)) = false := by decide) (he : starEach (e :: es) X.env = (false, eval e X.env) :: starEach es X.env := by rfl) (hpl : (backTo pos (starEach es X.env)).any (·.1) = false := by rfl) :
    PE X (.Call (.Name x p) (e :: es) [] pos) (fun σ H Q => t σ H fun vs H1 => sp vs H1 Q (WE W σ)) := by
  constructor
  intro pins s σ H Q I h
  refine wpAny_Call_Name_kw (ld_glob I hg hm ?_ hdb)
  refine PySem.W.callWith_K (h₀ := X.base) I.ok.mod.kin hk (thn (ha.run pos pins s σ H _ I h) ?_) he hpl
  rintro us s1 ⟨vs, H1, I1, r, q⟩
  exact ⟨I1.kIn, run_Xc F hr tk hb I1 r q⟩
theorem pe_X0 (F : FnX X.prog X.w X.K X.mg X.base k f fd ps sp) (hr : Rm k X.A) (tk : Takes X W) (hg : Gl X x) (hm : X.mg x = some (.ref f)) (hk : PySem.W.keepIn X.K (.ref f) = true) (hb : Binds X.K fd ps [])
    (hdb : (x == ("__debug__" : Str)) = false := by decide) : PE X (.Call (.Name x p) [] [] pos) (fun σ H Q => sp [] H Q (WE W σ)) := by
  constructor
  intro pins s σ H Q I h
  refine wpAny_Call_Name_kw (ld_glob I hg hm ?_ hdb)
  exact PySem.W.callWith_K0 I.kIn hk (run_Xc (us := []) F hr tk hb I .nil h)
/-- C(e, ..), C an error class with an own __init__ -/
theorem pmk_er {C fI : Addr} (T : ErC X.K C) (iC : PySem.W.findIn X.K (.ref C) "__init__" = some (some (.ref fI))) (tI : PySem.W.typeIn X.K (.ref fI) = some (.type "function")) (F : FnX X.prog X.w X.K X.mg X.base k fI fd ps sp) (hr : Rm (k + 1) X.A)
    (hb : Binds X.K fd ps []) (hg : Gl X x) (hm : X.mg x = some (.ref C)) (ha : PA X (e :: es) t)
    (hdb : (x == ("__debug__" : Str)) = false := by decide) (he : starEach (e :: es) X.env = (false, eval e X.env) :: starEach es X.env := by rfl) (hpl : (backTo pos (starEach es X.env)).any (·.1) = false := by rfl) :
    PMk X (.Call (.Name x p) (e :: es) [] pos) (tMkO C sp [] t) := by
  intro pins s σ H Q I h
  obtain ⟨nm, q, N, bs, bm, sn, sub, ab, col, dd, k0, k1, k2, k3, k5, hC, hbm⟩ := T.cls
  have hm2 := PySem.EX1.ownEx_ok _ hbm
  refine wpAny_Call_Name_kw (ld_glob I hg hm ?_ hdb)
  refine PySem.W.callWith_K (h₀ := X.base) I.ok.mod.kin T.kC (thn (ha.run pos pins s σ H _ I h) fun us s1 ⟨vs, H1, I1, r1, hz, q1⟩ => ⟨I1.kIn, ?_⟩) he hpl
  show wpAny _ _ (call (.ref C) us) _ _ _
  obtain ⟨hp, g, dr, tk, os⟩ := s1
  have hsz : hp.objs.size ≤ hp.objs.size + 1 := Nat.le_succ _
  have hq := q1 (hp.objs.size + 1) (I1.hok.fresh hsz)
  have kk : ∀ b o, hp.get? b = some o → ((hp.push (PySem.W.kdv_tup us)).push (PySem.HandSPX.excO C hp.objs.size)).get? b = some o := fun b o e => Heap.get?_push_of_some _ (Heap.get?_push_of_some _ e)
  have hget : ((hp.push (PySem.W.kdv_tup us)).push (PySem.HandSPX.excO C hp.objs.size)).get? (hp.objs.size + 1) = some (PySem.HandSPX.excO C hp.objs.size) := by heap_get
  have I2 := I1.laid (t' := tk) (a := hp.objs.size + 1) (o := exo (hp.objs.size + 1) C none) (h' := (hp.push (PySem.W.kdv_tup us)).push (PySem.HandSPX.excO C hp.objs.size)) kk hsz (exo_ok hget)
  have r2 : Vals (V.ref (hp.objs.size + 1) :: (vs ++ [])) (Value.ref (hp.objs.size + 1) :: us) := .cons rfl (by rw [List.append_nil]; exact r1)
  have hl : (Value.ref (hp.objs.size + 1) :: us ++ []).length = ps.length := by
    rw [List.append_nil, ← r2.length]
    exact F.len _ _ _ _ hq
  have hus : us.length ≤ sizeLine := by
    rw [← Paired.length r1, sizeLine_eq]
    omega
  have hbz := hb _ (Value.ref (hp.objs.size + 1) :: us) I2.kIn hl
  rw [List.append_nil] at hbz
  refine wpAny_call (PySem.HandSPX.call_own PySem.F.excBase_Exception (fun Y => hm2.has Y) (I1.kIn _ _ hC) (PySem.W.looks_findIn I1.kIn iC) (fun self => PySem.W.bind_fn I1.kIn self tI) hus
    (codeAny_mono (F.run _ X.stack _ _ _ _ _ _ (fun _ _ _ => False) (hr.make C us []) (I2.env0.make C us []) hbz r2 hq) fun r s' hq' => ?_))
  match r, hq' with
  | .error er, hq' =>
    obtain ⟨_, _, _, _, _, _, _, _, _, _, _, _, z⟩ := hq'
    exact z.elim
  | .ok (.ret u), hq' =>
    obtain ⟨v, H2, os2, bare2, un2, hok2, rv, ev, d, fs, ea, ed, hd1, q2⟩ := hq'
    subst ev
    obtain ⟨h2, g2, d2, t2, os'⟩ := s'
    exact ⟨rv, mk_end (raises_own T.exC T.tyC) I1 hsz kk un2 hok2 os2 bare2 ea ed hd1 q2⟩
end
end W2

namespace W2
open PySem PySem.Spec PyProof.Rows L2
/-! ### try with any clauses "except C:" and "except C as n:" -/
abbrev Ts := Addr → Value → Option Addr → TS
structure Cl where
  c : Value
  i : Option Nat
  ts : Ts
/-- what is wanted behind a suite: the clause's name is gone -/
def dropN (D : Ends) : Option Nat → Ends
  | none => D
  | some i => { nx := fun σ H => D.nx (σ.set i none) H, rt := D.rt, bk := fun σ H => D.bk (σ.set i none) H, ct := fun σ H => D.ct (σ.set i none) H }
def setN (σ : L2.St) (a : Addr) : Option Nat → L2.St
  | none => σ
  | some i => σ.set i (some (.ref a))
def wCl (K : PySem.W.Frag) (Wout : WX) (D : Ends) : List Cl → WX
  | [] => Wout
  | l :: r => fun cls d σ H => ∃ b, PySem.W.exmOne K cls l.c = some b ∧ (b = true → ∀ a, H a = none → l.ts a cls d (dropN D l.i) (setN σ a l.i) H) ∧ (b = false → wCl K Wout D r cls d σ H)
inductive ClsOk (X : Cx) : List ExceptHandler → List Cl → Prop
  | nil : ClsOk X [] []
  | cons {x : Str} {c : Value} {ts : Ts} {b₀ : Stmt} {suite : List Stmt} {np pos' : Pos} {hds : List ExceptHandler} {l : List Cl} (hc : Names X x c)
      (hsu : ∀ (a : Addr) (oe : Obj) (cls : Value) (d : Option Addr) (pn : List (Addr × Obj)), Zc cls d oe → (∃ vs, oe.data = .fields vs) → PSs (X.suite a ((a, oe) :: pn)) (b₀ :: suite) (ts a cls d)) (r : ClsOk X hds l) :
      ClsOk X (.ExceptHandler (some (.Name x np)) none (b₀ :: suite) pos' :: hds) (⟨c, none, ts⟩ :: l)
  | as {x n : Str} {i : Nat} {c : Value} {ts : Ts} {b₀ : Stmt} {suite : List Stmt} {np pos' : Pos} {hds : List ExceptHandler} {l : List Cl} (hc : Names X x c) (hi : X.N[i]? = some n) (hln : X.env.kindOf n = some .local)
      (hsu : ∀ (a : Addr) (oe : Obj) (cls : Value) (d : Option Addr) (pn : List (Addr × Obj)), Zc cls d oe → (∃ vs, oe.data = .fields vs) → PSs (X.suite a ((a, oe) :: pn)) (b₀ :: suite) (ts a cls d)) (r : ClsOk X hds l) :
      ClsOk X (.ExceptHandler (some (.Name x np)) (some n) (b₀ :: suite) pos' :: hds) (⟨c, some i, ts⟩ :: l)
section
variable {X : Cx} {body : List Stmt} {h₀ : ExceptHandler} {hds : List ExceptHandler} {l : List Cl} {pos : Pos} {tb : WX → TS} {Wout : WX}
theorem ps_try (hs : X.stack = X.env :: X.outer) (hf : X.env.frame = some X.env.locals) (hN : X.N.Nodup) (tk : Takes X Wout)
    (hb : ∀ (W : WX) (pn : List (Addr × Obj)) (xe : Value → Shared → Prop), Takes (X.tr pn xe) W → PassesOwn (model X.prog X.w) X.A X.env xe → PSs (X.tr pn xe) body (tb W)) (hh : ClsOk X (h₀ :: hds) l) :
    PS X (.Try body (h₀ :: hds) [] [] pos) (fun D σ H => tb (wCl X.K Wout D l) D σ H) := by
  constructor
  intro pins s σ H D I h
  have ok := I.ok
  have hfr : X.A.frames = some (X.env :: X.outer) := by rw [ok.frames, hs]
  refine wpAny_Try_except (wpAny_mono ((hb (wCl X.K Wout D l) (X.pn ++ pins) (fun e s₁ => wpAny (model X.prog X.w) X.A (noteFrame e X.env) (fun _ s₂ => wpAny (model X.prog X.w) X.A (setFlight e none)
    (fun _ s₃ => wpAny (model X.prog X.w) X.A (handleBy e X.env (h₀ :: hds)) (SP X pins D) X.xe s₃) X.xe s₂) X.xe s₁) (fun u s' xx => ?_) PassesOwn.looking).run [] s σ H D (I.toTry _) h) (fun f s1 hsp => ?_) (fun e s1 he => he))
  · obtain ⟨a, B, sI, pins', σ', H', cls, d, rfl, J', nb, up, sky, na, os, ag, w⟩ := xx
    have J : Inv X pins σ' H' sI := J'.ofTry ok
    have sky' : Sky B (X.env :: X.outer) a (Zc cls d) X.env.locals s'.heap := hs ▸ sky
    show wpAny (model X.prog X.w) X.A (noteFrame (.ref a) X.env) _ _ _
    refine Sky.land Zc.steady hfr hf sky' fun h3 fl3 up3 => ?_
    have J3 : Inv X pins σ' H' { s' with heap := h3 } := J.landed nb fl3.1 (up.trans up3) os ag
    obtain ⟨oe3, vs3, he3, hz3, hd3⟩ := fl3.there
    have nfr : a ∉ frs (X.env :: X.outer) := fun hm => by
      obtain ⟨_, o', e', hnf⟩ := fl3.2.2.1.mem hm
      rw [he3] at e'
      cases e'
      exact hnf _ hd3
    have nL : a ≠ X.env.locals := fun z => nfr (List.mem_filterMap.mpr ⟨X.env, List.mem_cons_self, by rw [hf, z]⟩)
    have nF : a ∉ X.fs := fun hm => by
      obtain ⟨e, he, q⟩ := List.mem_filterMap.mp hm
      exact nfr (List.mem_filterMap.mpr ⟨e, List.mem_cons_of_mem _ he, q⟩)
    have S3 := J3.suite he3 hd3 na nL nF
    have LT : PySem.W.Looks (model X.prog X.w) h3 (typeOf (.ref a)) cls := fun A Q E s k q => wpAny_typeOf_ref (k _ _ he3) (by rw [hz3.1]; exact q)
    have test : ∀ {x : Str} {c : Value} {np : Pos} {Q : Value → Shared → Prop} {E : Value → Shared → Prop}, Names X x c → Q c { s' with heap := h3 } → wpAny (model X.prog X.w) (X.A.mark (some (.ref a))) (eval (.Name x np) X.env) Q E { s' with heap := h3 } := by
      intro x c np Q E hc q
      obtain ⟨hg, hdbg, hm | ⟨hm, hv, hnn⟩⟩ := hc
      · exact ld_glob (X := X.suite a ((a, oe3) :: (X.pn ++ pins))) S3 hg hm q hdbg
      · exact ld_blt (X := X.suite a ((a, oe3) :: (X.pn ++ pins))) S3 hg hm hv q hnn hdbg
    have go : ∀ {hds' : List ExceptHandler} {l' : List Cl}, ClsOk X hds' l' → wCl X.K Wout D l' cls d σ' H' → wpAny (model X.prog X.w) X.A (handleBy (.ref a) X.env hds') (SP X pins D) X.xe { s' with heap := h3 } := by
      intro hds' l' hk
      induction hk with
      | nil =>
        intro w
        refine wpAny_handleBy_nil ?_
        obtain ⟨_, _, _, oe, vs, T, _, _, he, _, hd, h1, _⟩ := id fl3
        have fin : wpAny (model X.prog X.w) X.A (setFlight (.ref a) X.env.frame) (fun _ s4 => wpAny (model X.prog X.w) X.A (throw (.ref a) : Sem Flow) (SP X pins D) X.xe s4) X.xe { s' with heap := h3 } := by
          rw [hf]
          refine HandSPX.setFlight_upZ fl3 fun h4 hh4 up4 => wpAny_throw (tk _ _ ⟨a, B, sI, pins, σ', H', cls, d, rfl, J, nb, (up.trans up3).trans up4, .inr (.inr (by rw [hs]; exact hh4)), na, os, ag, w⟩)
        unfold PySem.passOn
        refine wpAny_bind (wpAny_field he hd h1 ?_)
        rw [if_neg (show ¬ ((Value.ref T == Value.none) = true) from by simp)]
        first | exact wpAny_bind (wpAny_pure (wpAny_bind fin)) | exact wpAny_bind fin
      | @cons x c ts b₀ suite np pos' hds2 l2 hc hsu r ih =>
        rintro ⟨b, hb1, hyes, hno⟩
        refine wpAny_handleBy_cons (codeAny_handlers_test ?_) (by intro q; cases q)
        refine test hc ((PySem.W.exm_one (M := model X.prog X.w) J3.kIn LT hb1).here ?_)
        cases b with
        | false => exact ih (hno rfl)
        | true =>
          refine codeAny_handlers_suite (HandSPX.lands_againZ fl3 fun h4 fl4 up4 => ?_)
          have J4 : Inv X pins σ' H' { s' with heap := h4 } := J.landed nb fl4.1 ((up.trans up3).trans up4) os ag
          obtain ⟨oe4, vs4, he4, hz4, hd4⟩ := fl4.there
          refine wpAny_mono ((hsu a oe4 cls d (X.pn ++ pins) hz4 ⟨_, hd4⟩).run [] _ _ H' _ (J4.suite he4 hd4 na nL nF) (hyes rfl a na)) (fun f s6 hsp => ?_) (fun _ _ z => False.elim z)
          match f, hsp with
          | .next, ⟨_, _, S6, q6⟩ => exact ⟨_, _, S6.unsuite ok, q6⟩
          | .brk, ⟨_, _, S6, q6⟩ => exact ⟨_, _, S6.unsuite ok, q6⟩
          | .cont, ⟨_, _, S6, q6⟩ => exact ⟨_, _, S6.unsuite ok, q6⟩
          | .ret u, ⟨_, _, _, S6, r6, q6⟩ => exact ⟨_, _, _, S6.unsuite ok, r6, q6⟩
      | @as x n i c ts b₀ suite np pos' hds2 l2 hc hi hln hsu r ih =>
        rintro ⟨b, hb1, hyes, hno⟩
        refine wpAny_handleBy_cons (codeAny_handlers_test ?_) (by intro q; cases q)
        refine test hc ((PySem.W.exm_one (M := model X.prog X.w) J3.kIn LT hb1).here ?_)
        cases b with
        | false => exact ih (hno rfl)
        | true =>
          refine codeAny_handlers_suite_as (HandSPX.lands_againZ fl3 fun h4 fl4 up4 => ?_)
          have J4 : Inv X pins σ' H' { s' with heap := h4 } := J.landed nb fl4.1 ((up.trans up3).trans up4) os ag
          obtain ⟨oe4, vs4, he4, hz4, hd4⟩ := fl4.there
          refine store_ok (X := X.suite a ((a, oe4) :: (X.pn ++ pins))) (v := .ref a) (J4.suite he4 hd4 na nL nF) hN hi (.inl hln) rfl (fun s5 S5 => ?_) (.inr hln)
          refine wpAny_mono ((hsu a oe4 cls d (X.pn ++ pins) hz4 ⟨_, hd4⟩).run [] s5 _ H' _ S5 (hyes rfl a na)) (fun f s6 hsp => ?_) (fun _ _ z => False.elim z)
          have end_ : ∀ {σ6 : L2.St} {H6 : Hp} {Q : Shared → Prop}, Inv (X.suite a ((a, oe4) :: (X.pn ++ pins))) [] σ6 H6 s6 → (∀ s7, Inv X pins (σ6.set i none) H6 s7 → Q s7) →
              wpAny (model X.prog X.w) X.A (do bindName X.env n .none; unbindBehindTheSuite X.env n pos') (fun _ s7 => Q s7) X.xe s6 := fun S6 hq => gone_ok (S6.unsuite ok) hN hi hln hq
          match f, hsp with
          | .next, ⟨_, _, S6, q6⟩ => exact end_ S6 fun s7 J7 => ⟨_, _, J7, q6⟩
          | .brk, ⟨_, _, S6, q6⟩ => exact end_ S6 fun s7 J7 => ⟨_, _, J7, q6⟩
          | .cont, ⟨_, _, S6, q6⟩ => exact end_ S6 fun s7 J7 => ⟨_, _, J7, q6⟩
          | .ret u, ⟨_, _, _, S6, r6, q6⟩ => exact end_ S6 fun s7 J7 => ⟨_, _, _, J7, r6, q6⟩
    exact go hh w
  · match f, hsp with
    | .next, ⟨σ', H', J', q⟩ => exact wpAny_execs_nil ⟨σ', H', J'.ofTry ok, q⟩
    | .brk, ⟨σ', H', J', q⟩ => exact ⟨σ', H', J'.ofTry ok, q⟩
    | .cont, ⟨σ', H', J', q⟩ => exact ⟨σ', H', J'.ofTry ok, q⟩
    | .ret u, ⟨v, σ', H', J', r, q⟩ => exact ⟨v, σ', H', J'.ofTry ok, r, q⟩
end
/-- e.f of a pinned error -/
def Pin (X : Cx) (a : Addr) (cls : Value) (d : Option Addr) : Prop := ∃ oe, (a, oe) ∈ X.pn ∧ Zc cls d oe ∧ ∃ vs, oe.data = .fields vs
def tPf (X : Cx) (n : Str) (te : TE) : TE := fun σ H Q => te σ H fun x H1 => ∃ (a C dd : Addr) (fs : List (Str × V)) (v : V), x = .ref a ∧ Pin X a (.ref C) (some dd) ∧ XfC X.K C ∧ PySem.W.findIn X.K (.ref C) n = some none ∧ H1 dd = some (.xd fs) ∧ fs.lookup n = some v ∧ Q v H1
theorem pe_pf {X : Cx} {e : Expr} {te : TE} {pos : Pos} {n : Str} (he : PE X e te) (hb : attributeBase e n X.env (eval e X.env) = eval e X.env := by rfl) : PE X (.Attribute e n pos) (tPf X n te) := by
  constructor
  intro pins s σ H Q I h
  refine attr_of hb (thn (he.run pins s σ H _ I h) fun u s1 hh => ?_)
  obtain ⟨x, H1, I1, rx, a, C, dd, fs, v, rfl, ⟨oe, hp, hz, vs, hd⟩, T, hno, ea, l, q⟩ := hh
  obtain rfl : u = Value.ref a := rx
  obtain ⟨ha, _⟩ := I1.pin (a, oe) (List.mem_append_left _ hp)
  obtain ⟨mA, hns, hr⟩ := (show ObjOk X.prog X.w H1 s1.heap dd (.xd fs) from I1.hok dd _ ea)
  obtain ⟨od, ho, hl⟩ := lookIn_ns hns
  have hrn := hr n
  rw [l] at hrn
  obtain ⟨u, hu, ru⟩ := RelO.some_of (v := v) (o := mA n) hrn
  have J : PySem.W.InstAt s1.heap a oe C (some od) := ⟨ha, hz.1, by unfold PySem.W.notCls; rw [hd] <;> rfl, by rw [hz.2]; exact ho⟩
  exact HandSPX.exc_get I1.kIn J T.ga T.gg T.exC (PySem.W.findObj_own T.hdC hno rfl (by rw [hl, hu])) (handed_of ru) ⟨v, H1, I1.tok _, ru, q⟩
end W2

namespace W2
open PySem PySem.Spec PyProof.Rows L2
theorem Rg.units {A : Around} (h : Rg A) : A.units + 64 < cLine := by have := h.un; omega
/-! ### a def that raises nothing -/
abbrev FnG := FnX
section
variable {P : Program} {w : World} {K : PySem.W.Frag} {mg : Str → Option Value} {base : Heap}
theorem fnG_of {x qual : Str} {st : Stmt} {f : Addr} {fd : FuncData} {N ps : List Str} {k : Nat} {sp : Sp} (F : Fun K x qual st f fd) (S : FnScope N ps (defScope st)) (len : ∀ vs H Q E, sp vs H Q E → vs.length = ps.length)
    (body : ∀ (c : Value) (A : Around) (o : List Env) (s : Shared) (H : Hp) (vs : List V) (Q : VK) (E : XK), Rm k (A.deeper (envOfC qual (defScope st) s.heap.objs.size f c)) → sp vs H Q E →
      ∃ t, PSs (cxOf (L2.CX P w) P w K mg base N qual (defScope st) f c A o s H E).nox (defBody st) t ∧ t { nx := fun _ H' => Q .non H', rt := Q } (start N vs) H) : FnG P w K mg base (k + 1) f fd ps sp :=
  fnX_of F S len fun c A o s H vs Q E hr h => let ⟨t, a, b⟩ := body c A o s H vs Q E hr h; ⟨t, a.nox, b⟩
end
section
variable {X : Cx} {k : Nat} {f : Addr} {fd : FuncData} {ps : List Str} {sp : Sp} {x : Str} {p pos : Pos} {e : Expr} {es : List Expr} {t : TA}
theorem run_G {pins : List (Addr × Obj)} {σ : L2.St} {H : Hp} {s : Shared} {Q : VK} {us : List Value} {vs : List V} (F : FnG X.prog X.w X.K X.mg X.base k f fd ps sp) (hr : Rm k X.A) (hb : Binds X.K fd ps []) (I : Inv X pins σ H s) (r : Vals vs us) (h : sp vs H Q E0) :
    wpAny (model X.prog X.w) X.A (call (.ref f) us) (EP X pins σ Q) X.xe s := run_Xc F hr takes_none5 hb I r h
theorem pe_G (F : FnG X.prog X.w X.K X.mg X.base k f fd ps sp) (hr : Rm k X.A) (hg : Gl X x) (hm : X.mg x = some (.ref f)) (hk : PySem.W.keepIn X.K (.ref f) = true) (hb : Binds X.K fd ps []) (ha : PA X (e :: es) t)
    (hdb : (x == ("__debug__" : Str)) = false := by decide) (he : starEach (e :: es) X.env = (false, eval e X.env) :: starEach es X.env := by rfl) (hpl : (backTo pos (starEach es X.env)).any (·.1) = false := by rfl) :
    PE X (.Call (.Name x p) (e :: es) [] pos) (fun σ H Q => t σ H fun vs H1 => sp vs H1 Q E0) := pe_X F hr takes_none5 hg hm hk hb ha hdb he hpl
end
end W2

namespace W2
open PySem PySem.Spec PyProof.Rows L2
/-! ### try: the error that a clause has caught is a thing that stays -/
def EO (a : Addr) (oe : Obj) : HO := .frz oe (.ext fun h => h.get? a = some oe)
theorem eO_ok {P : Program} {w : World} {H : Hp} {h : Heap} {a : Addr} {oe : Obj} (e : h.get? a = some oe) : ObjOk P w H h a (EO a oe) := ⟨e, e, ⟨oe, e⟩, fun _ _ q k => k _ q⟩
section
variable {X : Cx} {pins : List (Addr × Obj)} {σ : L2.St} {H : Hp} {s sI s' : Shared} {B : Heap}
theorem Inv.suiteF (I : L2.Inv X pins σ H s) (a : Addr) : L2.Inv (X.suite a (X.pn ++ pins)) [] σ H s :=
  ⟨I.ok.suite _ _, I.os, I.bare, I.base, I.loc, I.cell, I.free, I.freeC, fun p hp => I.pin p (by rw [List.append_nil] at hp; exact hp), I.hok, I.len⟩
theorem Inv.unsuiteF {a : Addr} {pn' : List (Addr × Obj)} (I : L2.Inv (X.suite a (X.pn ++ pins)) pn' σ H s) (ok : X.Ok) : L2.Inv X pins σ H s :=
  ⟨ok, I.os, I.bare, I.base, I.loc, I.cell, I.free, I.freeC, fun p hp => I.pin p (List.mem_append_left _ hp), I.hok, I.len⟩
theorem Inv.landF {a : Addr} {oe : Obj} {h4 : Heap} (J : L2.Inv X pins σ H sI) (nb : ∀ b o, sI.heap.get? b = some o → b ∉ frs X.stack → B.get? b = some o) (st : B.StaysIn h4) (hB : B.get? a = none) (up : sI.heap.UpToSlots h4) (os : s'.os = sI.os) (ag : AllBare s'.gens)
    (nfr : a ∉ frs X.stack) (na : H a = none) (he : h4.get? a = some oe) : L2.Inv X pins σ (upd H a (EO a oe)) { s' with heap := h4 } := by
  obtain ⟨G, g1, g2⟩ := restrict h4 fun b => decide (b ≠ a)
  have gk : ∀ b, b ≠ a → G.get? b = h4.get? b := fun b hb => g1 b (decide_eq_true hb)
  have ga : G.get? a = none := g2 a (by simp)
  have nI : ∀ b o, sI.heap.get? b = some o → b ≠ a := fun b o e q => by
    subst q
    rw [nb b o e nfr] at hB
    cases hB
  have JG := J.landed (s' := { s' with heap := G }) nb (fun b o e => by
    have hb : b ≠ a := fun q => by rw [q, hB] at e; cases e
    show G.get? b = some o
    rw [gk b hb]; exact st b o e) (fun b o e d => by
    obtain ⟨sl, q⟩ := up b o e d
    exact ⟨sl, by show G.get? b = _; rw [gk b (nI b o e)]; exact q⟩) os ag
  exact JG.laidN (h' := h4) (t' := s'.toks) (fun b u e => by
    have e' : G.get? b = some u := e
    have hb : b ≠ a := fun q => by rw [q, ga] at e'; cases e'
    rw [← gk b hb]; exact e') ga na (eO_ok he)
end
abbrev TsF := Value → Option Addr → TS
structure ClF where
  c : Value
  i : Option Nat
  ts : TsF
/-- what is wanted behind a suite: the clause's name is gone -/
def dropF (D : Ends) : Option Nat → Ends
  | none => D
  | some i => { nx := fun σ H => D.nx (σ.set i none) H, rt := D.rt, bk := fun σ H => D.bk (σ.set i none) H, ct := fun σ H => D.ct (σ.set i none) H }
def setF (σ : L2.St) (a : Addr) : Option Nat → L2.St
  | none => σ
  | some i => σ.set i (some (.ref a))
def wClF (K : PySem.W.Frag) (Wout : WX) (D : Ends) : List ClF → WX
  | [] => Wout
  | l :: r => fun cls d σ H => ∃ b, PySem.W.exmOne K cls l.c = some b ∧ (b = true → ∀ a oe, H a = none → Zc cls d oe → (∃ vs, oe.data = .fields vs) → l.ts cls d (dropF D l.i) (setF σ a l.i) (upd H a (EO a oe))) ∧ (b = false → wClF K Wout D r cls d σ H)
inductive ClsOkF (X : Cx) : List ExceptHandler → List ClF → Prop
  | nil : ClsOkF X [] []
  | cons {x : Str} {c : Value} {ts : TsF} {b₀ : Stmt} {suite : List Stmt} {np pos' : Pos} {hds : List ExceptHandler} {l : List ClF} (hc : Names X x c)
      (hsu : ∀ (a : Addr) (cls : Value) (d : Option Addr) (pn : List (Addr × Obj)), PSs (X.suite a pn) (b₀ :: suite) (ts cls d)) (r : ClsOkF X hds l) :
      ClsOkF X (.ExceptHandler (some (.Name x np)) none (b₀ :: suite) pos' :: hds) (⟨c, none, ts⟩ :: l)
  | as {x n : Str} {i : Nat} {c : Value} {ts : TsF} {b₀ : Stmt} {suite : List Stmt} {np pos' : Pos} {hds : List ExceptHandler} {l : List ClF} (hc : Names X x c) (hi : X.N[i]? = some n) (hln : X.env.kindOf n = some .local)
      (hsu : ∀ (a : Addr) (cls : Value) (d : Option Addr) (pn : List (Addr × Obj)), PSs (X.suite a pn) (b₀ :: suite) (ts cls d)) (r : ClsOkF X hds l) :
      ClsOkF X (.ExceptHandler (some (.Name x np)) (some n) (b₀ :: suite) pos' :: hds) (⟨c, some i, ts⟩ :: l)
section
variable {X : Cx} {body : List Stmt} {h₀ : ExceptHandler} {hds : List ExceptHandler} {l : List ClF} {pos : Pos} {tb : WX → TS} {Wout : WX}
theorem ps_tryF (hs : X.stack = X.env :: X.outer) (hf : X.env.frame = some X.env.locals) (hN : X.N.Nodup) (tk : Takes X Wout)
    (hb : ∀ (W : WX) (pn : List (Addr × Obj)) (xe : Value → Shared → Prop), Takes (X.tr pn xe) W → PassesOwn (model X.prog X.w) X.A X.env xe → PSs (X.tr pn xe) body (tb W)) (hh : ClsOkF X (h₀ :: hds) l) :
    PS X (.Try body (h₀ :: hds) [] [] pos) (fun D σ H => tb (wClF X.K Wout D l) D σ H) := by
  constructor
  intro pins s σ H D I h
  have ok := I.ok
  have hfr : X.A.frames = some (X.env :: X.outer) := by rw [ok.frames, hs]
  refine wpAny_Try_except (wpAny_mono ((hb (wClF X.K Wout D l) (X.pn ++ pins) (fun e s₁ => wpAny (model X.prog X.w) X.A (noteFrame e X.env) (fun _ s₂ => wpAny (model X.prog X.w) X.A (setFlight e none)
    (fun _ s₃ => wpAny (model X.prog X.w) X.A (handleBy e X.env (h₀ :: hds)) (SP X pins D) X.xe s₃) X.xe s₂) X.xe s₁) (fun u s' xx => ?_) PassesOwn.looking).run [] s σ H D (I.toTry _) h) (fun f s1 hsp => ?_) (fun e s1 he => he))
  · obtain ⟨a, B, sI, pins', σ', H', cls, d, rfl, J', nb, up, sky, na, os, ag, w⟩ := xx
    have J : L2.Inv X pins σ' H' sI := J'.ofTry ok
    have sky' : Sky B (X.env :: X.outer) a (Zc cls d) X.env.locals s'.heap := hs ▸ sky
    show wpAny (model X.prog X.w) X.A (noteFrame (.ref a) X.env) _ _ _
    refine Sky.land Zc.steady hfr hf sky' fun h3 fl3 up3 => ?_
    have J3 : L2.Inv X pins σ' H' { s' with heap := h3 } := J.landed nb fl3.1 (up.trans up3) os ag
    obtain ⟨oe3, vs3, he3, hz3, hd3⟩ := fl3.there
    have nfr : a ∉ frs (X.env :: X.outer) := fun hm => by
      obtain ⟨_, o', e', hnf⟩ := fl3.2.2.1.mem hm
      rw [he3] at e'
      cases e'
      exact hnf _ hd3
    have nL : a ≠ X.env.locals := fun z => nfr (List.mem_filterMap.mpr ⟨X.env, List.mem_cons_self, by rw [hf, z]⟩)
    have nF : a ∉ X.fs := fun hm => by
      obtain ⟨e, he, q⟩ := List.mem_filterMap.mp hm
      exact nfr (List.mem_filterMap.mpr ⟨e, List.mem_cons_of_mem _ he, q⟩)
    have S3 := Inv.suiteF J3 a
    have LT : PySem.W.Looks (model X.prog X.w) h3 (typeOf (.ref a)) cls := fun A Q E s k q => wpAny_typeOf_ref (k _ _ he3) (by rw [hz3.1]; exact q)
    have test : ∀ {x : Str} {c : Value} {np : Pos} {Q : Value → Shared → Prop} {E : Value → Shared → Prop}, Names X x c → Q c { s' with heap := h3 } → wpAny (model X.prog X.w) (X.A.mark (some (.ref a))) (eval (.Name x np) X.env) Q E { s' with heap := h3 } := by
      intro x c np Q E hc q
      obtain ⟨hg, hdbg, hm | ⟨hm, hv, hnn⟩⟩ := hc
      · exact ld_glob (X := X.suite a (X.pn ++ pins)) S3 hg hm q hdbg
      · exact ld_blt (X := X.suite a (X.pn ++ pins)) S3 hg hm hv q hnn hdbg
    have go : ∀ {hds' : List ExceptHandler} {l' : List ClF}, ClsOkF X hds' l' → wClF X.K Wout D l' cls d σ' H' → wpAny (model X.prog X.w) X.A (handleBy (.ref a) X.env hds') (SP X pins D) X.xe { s' with heap := h3 } := by
      intro hds' l' hk
      induction hk with
      | nil =>
        intro w
        refine wpAny_handleBy_nil ?_
        obtain ⟨_, _, _, oe, vs, T, _, _, he, _, hd, h1, _⟩ := id fl3
        have fin : wpAny (model X.prog X.w) X.A (setFlight (.ref a) X.env.frame) (fun _ s4 => wpAny (model X.prog X.w) X.A (throw (.ref a) : Sem Flow) (SP X pins D) X.xe s4) X.xe { s' with heap := h3 } := by
          rw [hf]
          refine HandSPX.setFlight_upZ fl3 fun h4 hh4 up4 => wpAny_throw (tk _ _ ⟨a, B, sI, pins, σ', H', cls, d, rfl, J, nb, (up.trans up3).trans up4, .inr (.inr (by rw [hs]; exact hh4)), na, os, ag, w⟩)
        unfold PySem.passOn
        refine wpAny_bind (wpAny_field he hd h1 ?_)
        rw [if_neg (show ¬ ((Value.ref T == Value.none) = true) from by simp)]
        first | exact wpAny_bind (wpAny_pure (wpAny_bind fin)) | exact wpAny_bind fin
      | @cons x c ts b₀ suite np pos' hds2 l2 hc hsu r ih =>
        rintro ⟨b, hb1, hyes, hno⟩
        refine wpAny_handleBy_cons (codeAny_handlers_test ?_) (by intro q; cases q)
        refine test hc ((PySem.W.exm_one (M := model X.prog X.w) J3.kIn LT hb1).here ?_)
        cases b with
        | false => exact ih (hno rfl)
        | true =>
          refine codeAny_handlers_suite (HandSPX.lands_againZ fl3 fun h4 fl4 up4 => ?_)
          obtain ⟨oe4, vs4, he4, hz4, hd4⟩ := fl4.there
          have J4 : L2.Inv X pins σ' (upd H' a (EO a oe4)) { s' with heap := h4 } := Inv.landF J nb fl4.1 fl4.2.1 ((up.trans up3).trans up4) os ag (hs ▸ nfr) na he4
          refine wpAny_mono ((hsu a cls d (X.pn ++ pins)).run [] _ _ _ _ (Inv.suiteF J4 a) (hyes rfl a oe4 na hz4 ⟨_, hd4⟩)) (fun f s6 hsp => ?_) (fun _ _ z => False.elim z)
          match f, hsp with
          | .next, ⟨_, _, S6, q6⟩ => exact ⟨_, _, Inv.unsuiteF S6 ok, q6⟩
          | .brk, ⟨_, _, S6, q6⟩ => exact ⟨_, _, Inv.unsuiteF S6 ok, q6⟩
          | .cont, ⟨_, _, S6, q6⟩ => exact ⟨_, _, Inv.unsuiteF S6 ok, q6⟩
          | .ret u, ⟨_, _, _, S6, r6, q6⟩ => exact ⟨_, _, _, Inv.unsuiteF S6 ok, r6, q6⟩
      | @as x n i c ts b₀ suite np pos' hds2 l2 hc hi hln hsu r ih =>
        rintro ⟨b, hb1, hyes, hno⟩
        refine wpAny_handleBy_cons (codeAny_handlers_test ?_) (by intro q; cases q)
        refine test hc ((PySem.W.exm_one (M := model X.prog X.w) J3.kIn LT hb1).here ?_)
        cases b with
        | false => exact ih (hno rfl)
        | true =>
          refine codeAny_handlers_suite_as (HandSPX.lands_againZ fl3 fun h4 fl4 up4 => ?_)
          obtain ⟨oe4, vs4, he4, hz4, hd4⟩ := fl4.there
          have J4 : L2.Inv X pins σ' (upd H' a (EO a oe4)) { s' with heap := h4 } := Inv.landF J nb fl4.1 fl4.2.1 ((up.trans up3).trans up4) os ag (hs ▸ nfr) na he4
          refine store_ok (X := X.suite a (X.pn ++ pins)) (v := .ref a) (Inv.suiteF J4 a) hN hi (.inl hln) rfl (fun s5 S5 => ?_) (.inr hln)
          refine wpAny_mono ((hsu a cls d (X.pn ++ pins)).run [] s5 _ _ _ S5 (hyes rfl a oe4 na hz4 ⟨_, hd4⟩)) (fun f s6 hsp => ?_) (fun _ _ z => False.elim z)
          have end_ : ∀ {σ6 : L2.St} {H6 : Hp} {Q : Shared → Prop}, L2.Inv (X.suite a (X.pn ++ pins)) [] σ6 H6 s6 → (∀ s7, L2.Inv X pins (σ6.set i none) H6 s7 → Q s7) →
              wpAny (model X.prog X.w) X.A (do bindName X.env n .none; unbindBehindTheSuite X.env n pos') (fun _ s7 => Q s7) X.xe s6 := fun S6 hq => gone_ok (Inv.unsuiteF S6 ok) hN hi hln hq
          match f, hsp with
          | .next, ⟨_, _, S6, q6⟩ => exact end_ S6 fun s7 J7 => ⟨_, _, J7, q6⟩
          | .brk, ⟨_, _, S6, q6⟩ => exact end_ S6 fun s7 J7 => ⟨_, _, J7, q6⟩
          | .cont, ⟨_, _, S6, q6⟩ => exact end_ S6 fun s7 J7 => ⟨_, _, J7, q6⟩
          | .ret u, ⟨_, _, _, S6, r6, q6⟩ => exact end_ S6 fun s7 J7 => ⟨_, _, _, J7, r6, q6⟩
    exact go hh w
  · match f, hsp with
    | .next, ⟨σ', H', J', q⟩ => exact wpAny_execs_nil ⟨σ', H', J'.ofTry ok, q⟩
    | .brk, ⟨σ', H', J', q⟩ => exact ⟨σ', H', J'.ofTry ok, q⟩
    | .cont, ⟨σ', H', J', q⟩ => exact ⟨σ', H', J'.ofTry ok, q⟩
    | .ret u, ⟨v, σ', H', J', r, q⟩ => exact ⟨v, σ', H', J'.ofTry ok, r, q⟩
end
end W2

namespace M
open PySem PySem.Spec L2 W2

/-! ### values as data; `ref j`: the j-th thing of the store; `err`: an error with its fields -/
inductive D where
  | non | bl (b : Bool) | int (i : Int) | str (x : Str)
  | lst (xs : List D) | tup (xs : List D) | dct (kvs : List (Key × D))
  | ref (j : Nat) | fn (x : Str) | ty (n : String) | seq (xs : List D) | cls (x : Str) | err (cn : Str) (fs : List (Str × D))
/-- a thing that may change -/
inductive Ob where
  | lst (xs : List D) | dct (kvs : List (Key × D)) | ins (cn : Str) (fs : List (Str × D))
abbrev Sto := List Ob
abbrev En := List (Option D)
abbrev Fs := List (Str × D)
structure Cfg where
  π : Nat → Addr
  S : Sto
  T : Addr → Prop
  H : Hp
def Cfg.Rg (c : Cfg) (a : Addr) : Prop := ∃ j, j < c.S.length ∧ c.π j = a
def Cfg.B (c : Cfg) (a : Addr) : Prop := c.Rg a ∨ c.T a
def Hn : Hp := fun _ => none
/-- an error that stays: made here, or named by an except clause -/
def ErrAt (H : Hp) (a C : Addr) (od : Option Addr) : Prop := H a = some (exo a C od) ∨ ∃ oe u, H a = some (.frz oe u) ∧ Zc (.ref C) od oe ∧ ∃ w, oe.data = .fields w
def ErrD (c : Cfg) (od : Option Addr) (vs : List (Str × V)) : Prop := match od with
  | none => vs = []
  | some dd => ¬ c.B dd ∧ (c.H dd = some (exd dd vs) ∨ c.H dd = some (.xd vs))
section
variable (K : PySem.W.Frag) (mg : Str → Option Value)
def Sl (c : Cfg) (a : Addr) (xs : List V) : Prop := (¬ c.B a ∧ Rd c.H a (.lst xs)) ∨ SqL K Hn a xs
def Ll (c : Cfg) (a : Addr) (xs : List V) : Prop := ¬ c.B a ∧ Rd c.H a (.lst xs)
def Tl (c : Cfg) (a : Addr) (xs : List V) : Prop := (¬ c.B a ∧ Rd c.H a (.tup xs)) ∨ SqT K Hn a xs
mutual
inductive Den (c : Cfg) : V → D → Prop
  | non : Den c .non .non
  | bl (b : Bool) : Den c (.bl b) (.bl b)
  | int (i : Int) : Den c (.int i) (.int i)
  | str (x : Str) : Den c (.str x) (.str x)
  | lst {a : Addr} {xs : List V} {ds : List D} : Ll c a xs → DenA c xs ds → Den c (.ref a) (.lst ds)
  | seq {a : Addr} {xs : List V} {ds : List D} : Sl K c a xs → DenA c xs ds → Den c (.ref a) (.seq ds)
  | tup {a : Addr} {xs : List V} {ds : List D} : Tl K c a xs → DenA c xs ds → Den c (.ref a) (.tup ds)
  | dct {a : Addr} {xs : List (Key × V)} {ds : List (Key × D)} : ¬ c.B a → c.H a = some (.dK xs) → DenK c xs ds → Den c (.ref a) (.dct ds)
  | ref {j : Nat} : j < c.S.length → Den c (.ref (c.π j)) (.ref j)
  | fn {x : Str} {f : Addr} : mg x = some (.ref f) → Den c (.ref f) (.fn x)
  | ty (n : String) : Den c (.ty n) (.ty n)
  | cls {x : Str} {f : Addr} : mg x = some (.ref f) → Den c (.ref f) (.cls x)
  | err {a C : Addr} {od : Option Addr} {vs : List (Str × V)} {cn : Str} {fs : List (Str × D)} : ¬ c.B a → mg cn = some (.ref C) → ErrAt c.H a C od → ErrD c od vs → DenF c vs fs → Den c (.ref a) (.err cn fs)
inductive DenA (c : Cfg) : List V → List D → Prop
  | nil : DenA c [] []
  | cons {v : V} {vs : List V} {d : D} {ds : List D} : Den c v d → DenA c vs ds → DenA c (v :: vs) (d :: ds)
inductive DenK (c : Cfg) : List (Key × V) → List (Key × D) → Prop
  | nil : DenK c [] []
  | cons {k : Key} {v : V} {vs : List (Key × V)} {d : D} {ds : List (Key × D)} : Den c v d → DenK c vs ds → DenK c ((k, v) :: vs) ((k, d) :: ds)
inductive DenF (c : Cfg) : List (Str × V) → List (Str × D) → Prop
  | nil : DenF c [] []
  | cons {k : Str} {v : V} {vs : List (Str × V)} {d : D} {ds : List (Str × D)} : Den c v d → DenF c vs ds → DenF c ((k, v) :: vs) ((k, d) :: ds)
end
end
/-- growth -/
structure Le (c c' : Cfg) : Prop where
  len : c.S.length ≤ c'.S.length
  pi : ∀ j, j < c.S.length → c'.π j = c.π j
  keep : ∀ a o, ¬ c.Rg a → c.H a = some o → c'.H a = some o ∧ ¬ c'.Rg a
  T : c'.T = c.T
theorem Le.refl (c : Cfg) : Le c c := ⟨Nat.le_refl _, fun _ _ => rfl, fun _ _ n h => ⟨h, n⟩, rfl⟩
theorem Le.trans {a b c : Cfg} (x : Le a b) (y : Le b c) : Le a c where
  len := Nat.le_trans x.len y.len
  pi := fun j h => (y.pi j (Nat.lt_of_lt_of_le h x.len)).trans (x.pi j h)
  keep := fun p o n h => let ⟨h1, n1⟩ := x.keep p o n h; y.keep p o n1 h1
  T := y.T.trans x.T
structure Lw (c c' : Cfg) : Prop where
  len : c.S.length ≤ c'.S.length
  pi : ∀ j, j < c.S.length → c'.π j = c.π j
  nB : ∀ a o, ¬ c.B a → c.H a = some o → c'.H a = some o ∧ ¬ c'.B a
theorem Lw.refl (c : Cfg) : Lw c c := ⟨Nat.le_refl _, fun _ _ => rfl, fun _ _ n h => ⟨h, n⟩⟩
theorem Lw.trans {a b c : Cfg} (x : Lw a b) (y : Lw b c) : Lw a c where
  len := Nat.le_trans x.len y.len
  pi := fun j h => (y.pi j (Nat.lt_of_lt_of_le h x.len)).trans (x.pi j h)
  nB := fun p o n h => let ⟨h1, n1⟩ := x.nB p o n h; y.nB p o n1 h1
theorem Le.lw {c c' : Cfg} (e : Le c c') : Lw c c' := ⟨e.len, e.pi, fun a o n h => by
  obtain ⟨h1, n1⟩ := e.keep a o (fun q => n (.inl q)) h
  exact ⟨h1, fun q => q.elim n1 fun q => n (.inr (by rw [← e.T]; exact q))⟩⟩
section
variable {K : PySem.W.Frag} {mg : Str → Option Value} {c c' : Cfg}
theorem Sl.get {a : Addr} {xs : List V} (h : Sl K c a xs) : SqL K c.H a xs := h.elim (fun h => .inl h.2) fun h => h.elim (fun h => h.elim (fun z => nomatch z) fun ⟨_, z⟩ => nomatch z) .inr
theorem Ll.get {a : Addr} {xs : List V} (h : Ll c a xs) : SqL K c.H a xs := .inl h.2
theorem Tl.get {a : Addr} {xs : List V} (h : Tl K c a xs) : SqT K c.H a xs := h.elim (fun h => .inl h.2) fun h => h.elim (fun h => h.elim (fun z => nomatch z) fun ⟨_, z⟩ => nomatch z) .inr
theorem Lw.rd {a : Addr} {o : HO} (e : Lw c c') (n : ¬ c.B a) (h : Rd c.H a o) : ¬ c'.B a ∧ Rd c'.H a o := by
  rcases h with h | ⟨ob, h⟩
  · obtain ⟨h1, h2⟩ := e.nB _ _ n h
    exact ⟨h2, .inl h1⟩
  · obtain ⟨h1, h2⟩ := e.nB _ _ n h
    exact ⟨h2, .inr ⟨ob, h1⟩⟩
theorem Sl.mw {a : Addr} {xs : List V} (e : Lw c c') (h : Sl K c a xs) : Sl K c' a xs := h.elim (fun h => .inl (e.rd h.1 h.2)) .inr
theorem Ll.mw {a : Addr} {xs : List V} (e : Lw c c') (h : Ll c a xs) : Ll c' a xs := e.rd h.1 h.2
theorem Tl.mw {a : Addr} {xs : List V} (e : Lw c c') (h : Tl K c a xs) : Tl K c' a xs := h.elim (fun h => .inl (e.rd h.1 h.2)) .inr
theorem Lw.err {a C : Addr} {od : Option Addr} (e : Lw c c') (n : ¬ c.B a) (h : ErrAt c.H a C od) : ¬ c'.B a ∧ ErrAt c'.H a C od := by
  rcases h with h | ⟨oe, u, h, z⟩
  · obtain ⟨h1, h2⟩ := e.nB _ _ n h
    exact ⟨h2, .inl h1⟩
  · obtain ⟨h1, h2⟩ := e.nB _ _ n h
    exact ⟨h2, .inr ⟨oe, u, h1, z⟩⟩
theorem Lw.errD {od : Option Addr} {vs : List (Str × V)} (e : Lw c c') (h : ErrD c od vs) : ErrD c' od vs := by
  cases od with
  | none => exact h
  | some dd =>
    obtain ⟨n, h⟩ := h
    rcases h with h | h
    · obtain ⟨h1, h2⟩ := e.nB _ _ n h
      exact ⟨h2, .inl h1⟩
    · obtain ⟨h1, h2⟩ := e.nB _ _ n h
      exact ⟨h2, .inr h1⟩
mutual
theorem Den.mw (e : Lw c c') : ∀ {d : D} {v : V}, Den K mg c v d → Den K mg c' v d
  | .non, _, h => by cases h; exact .non
  | .bl b, _, h => by cases h; exact .bl b
  | .int i, _, h => by cases h; exact .int i
  | .str x, _, h => by cases h; exact .str x
  | .lst ds, _, h => by
    cases h with
    | lst s t => exact .lst (s.mw e) (DenA.mw e t)
  | .seq ds, _, h => by
    cases h with
    | seq s t => exact .seq (s.mw e) (DenA.mw e t)
  | .tup ds, _, h => by
    cases h with
    | tup s t => exact .tup (s.mw e) (DenA.mw e t)
  | .dct ds, _, h => by
    cases h with
    | dct n s t => exact .dct (e.nB _ _ n s).2 (e.nB _ _ n s).1 (DenK.mw e t)
  | .ref j, _, h => by
    cases h with
    | ref l => rw [← e.pi j l]; exact .ref (Nat.lt_of_lt_of_le l e.len)
  | .fn x, _, h => by
    cases h with
    | fn m => exact .fn m
  | .ty n, _, h => by cases h; exact .ty n
  | .cls x, _, h => by
    cases h with
    | cls m => exact .cls m
  | .err cn fs, _, h => by
    cases h with
    | err n m e1 e2 q => exact .err (e.err n e1).1 m (e.err n e1).2 (e.errD e2) (DenF.mw e q)
theorem DenA.mw (e : Lw c c') : ∀ {ds : List D} {vs : List V}, DenA K mg c vs ds → DenA K mg c' vs ds
  | [], _, h => by cases h; exact .nil
  | d :: ds, _, h => by
    cases h with
    | cons a b => exact .cons (Den.mw e a) (DenA.mw e b)
theorem DenK.mw (e : Lw c c') : ∀ {ds : List (Key × D)} {vs : List (Key × V)}, DenK K mg c vs ds → DenK K mg c' vs ds
  | [], _, h => by cases h; exact .nil
  | (_, d) :: ds, _, h => by
    cases h with
    | cons a b => exact .cons (Den.mw e a) (DenK.mw e b)
theorem DenF.mw (e : Lw c c') : ∀ {ds : List (Str × D)} {vs : List (Str × V)}, DenF K mg c vs ds → DenF K mg c' vs ds
  | [], _, h => by cases h; exact .nil
  | (_, d) :: ds, _, h => by
    cases h with
    | cons a b => exact .cons (Den.mw e a) (DenF.mw e b)
end
theorem Den.mono (e : Le c c') {d : D} {v : V} (h : Den K mg c v d) : Den K mg c' v d := h.mw e.lw
theorem DenA.mono (e : Le c c') {ds : List D} {vs : List V} (h : DenA K mg c vs ds) : DenA K mg c' vs ds := h.mw e.lw
theorem DenK.mono (e : Le c c') {ds : List (Key × D)} {vs : List (Key × V)} (h : DenK K mg c vs ds) : DenK K mg c' vs ds := h.mw e.lw
theorem DenF.mono (e : Le c c') {ds : Fs} {vs : List (Str × V)} (h : DenF K mg c vs ds) : DenF K mg c' vs ds := h.mw e.lw
theorem DenA.length : ∀ {ds : List D} {vs : List V}, DenA K mg c vs ds → vs.length = ds.length
  | [], _, h => by cases h; rfl
  | d :: ds, _, h => by
    cases h with
    | cons a b => simp [DenA.length b]
theorem DenK.length : ∀ {ds : List (Key × D)} {vs : List (Key × V)}, DenK K mg c vs ds → vs.length = ds.length
  | [], _, h => by cases h; rfl
  | (_, d) :: ds, _, h => by
    cases h with
    | cons a b => simp [DenK.length b]
theorem DenA.app : ∀ {ds es : List D} {vs ws : List V}, DenA K mg c vs ds → DenA K mg c ws es → DenA K mg c (vs ++ ws) (ds ++ es)
  | [], _, _, _, h, q => by cases h; exact q
  | d :: ds, _, _, _, h, q => by
    cases h with
    | cons a b => exact .cons a (DenA.app b q)
theorem DenA.take (n : Nat) : ∀ {ds : List D} {vs : List V}, DenA K mg c vs ds → DenA K mg c (vs.take n) (ds.take n) := by
  induction n with
  | zero => intro ds vs _; simp only [List.take_zero]; exact .nil
  | succ n ih =>
    intro ds vs h
    cases h with
    | nil => exact .nil
    | cons a b => exact .cons a (ih b)
theorem DenA.drop (n : Nat) : ∀ {ds : List D} {vs : List V}, DenA K mg c vs ds → DenA K mg c (vs.drop n) (ds.drop n) := by
  induction n with
  | zero => intro ds vs h; simpa only [List.drop_zero] using h
  | succ n ih =>
    intro ds vs h
    cases h with
    | nil => exact .nil
    | cons a b => exact ih b
theorem DenA.get : ∀ {ds : List D} {vs : List V} {i : Nat} {d : D}, DenA K mg c vs ds → ds[i]? = some d → ∃ v, vs[i]? = some v ∧ Den K mg c v d
  | [], _, _, _, h, e => by cases h; simp at e
  | d :: ds, _, 0, _, h, e => by
    cases h with
    | cons a b => simp at e; subst e; exact ⟨_, rfl, a⟩
  | d :: ds, _, i + 1, _, h, e => by
    cases h with
    | cons a b =>
      obtain ⟨x, h1, h2⟩ := DenA.get (i := i) b (by simpa using e)
      exact ⟨x, by simpa using h1, h2⟩
theorem DenA.set {v : V} {d : D} (h : Den K mg c v d) : ∀ {ds : List D} {vs : List V} (i : Nat), DenA K mg c vs ds → DenA K mg c (vs.set i v) (ds.set i d)
  | [], _, _, q => by cases q; exact .nil
  | _ :: _, _, 0, q => by
    cases q with
    | cons a b => exact .cons h b
  | _ :: _, _, i + 1, q => by
    cases q with
    | cons a b => exact .cons a (DenA.set h i b)
def lkF (fs : Fs) (n : Str) : Option D := fs.lookup n
theorem DenF.get : ∀ {fs : List (Str × D)} {vs : List (Str × V)} {n : Str}, DenF K mg c vs fs → match fs.lookup n with
    | some d => ∃ v, vs.lookup n = some v ∧ Den K mg c v d
    | none => vs.lookup n = none
  | [], _, n, h => by cases h; rfl
  | (k, d) :: fs, _, n, h => by
    cases h with
    | @cons _ v vs _ _ a b =>
      by_cases e : n = k
      · subst e
        simp only [List.lookup, beq_self_eq_true]
        exact ⟨v, rfl, a⟩
      · have e2 : (n == k) = false := by simpa using e
        simp only [List.lookup, e2]
        exact DenF.get b

/-! ### a sound configuration -/
def ObR (K : PySem.W.Frag) (mg : Str → Option Value) (c : Cfg) (p : Addr) : Ob → Prop
  | .lst xs => ∃ vs, c.H p = some (.lst vs) ∧ DenA K mg c vs xs
  | .dct kvs => ∃ vs, c.H p = some (.dK vs) ∧ DenK K mg c vs kvs
  | .ins cn fs => ∃ C dx vs, mg cn = some (.ref C) ∧ c.H p = some (.ins C dx vs) ∧ c.H dx = some (.own p) ∧ DenF K mg c vs fs
structure Ok (K : PySem.W.Frag) (mg : Str → Option Value) (c : Cfg) : Prop where
  at_ : ∀ j o, c.S[j]? = some o → ObR K mg c (c.π j) o
  inj : ∀ i j, i < c.S.length → j < c.S.length → c.π i = c.π j → i = j
  nT : ∀ a, c.T a → ¬ c.Rg a ∧ ∃ xs, c.H a = some (.lst xs)
end
theorem lt_of_get {α : Type} {l : List α} {j : Nat} {x : α} (h : l[j]? = some x) : j < l.length := (List.getElem?_eq_some_iff.mp h).1
def isMu : HO → Bool
  | .lst _ => true
  | .dK _ => true
  | .ins _ _ _ => true
  | _ => false
section
variable {K : PySem.W.Frag} {mg : Str → Option Value} {c c' : Cfg}
theorem rg_mu (k : Ok K mg c) {a : Addr} (h : c.Rg a) : ∃ o, c.H a = some o ∧ isMu o = true := by
  obtain ⟨j, l, rfl⟩ := h
  have q := k.at_ j _ (List.getElem?_eq_getElem l)
  revert q
  cases c.S[j] with
  | lst xs => rintro ⟨vs, h, _⟩; exact ⟨_, h, rfl⟩
  | dct xs => rintro ⟨vs, h, _⟩; exact ⟨_, h, rfl⟩
  | ins cn fs => rintro ⟨C, dx, vs, _, h, _⟩; exact ⟨_, h, rfl⟩
theorem ok_some (k : Ok K mg c) {a : Addr} (h : c.Rg a) : c.H a ≠ none := by
  obtain ⟨o, e, _⟩ := rg_mu k h
  rw [e]; exact fun z => nomatch z
theorem not_rg (k : Ok K mg c) {a : Addr} {o : HO} (h : c.H a = some o) (n : isMu o = false) : ¬ c.Rg a := fun q => by
  obtain ⟨u, e, m⟩ := rg_mu k q
  rw [h] at e
  cases e
  rw [n] at m
  cases m
theorem Ok.nB (k : Ok K mg c) {p : Addr} (h : c.H p = none) : ¬ c.B p := fun q => q.elim (fun q => ok_some k q h) fun q => by
  obtain ⟨_, xs, e⟩ := k.nT p q
  rw [h] at e; cases e
theorem Ok.nBo (k : Ok K mg c) {p : Addr} {o : HO} (h : c.H p = some o) (n : isMu o = false) : ¬ c.B p := fun q => q.elim (not_rg k h n) fun q => by
  obtain ⟨_, xs, e⟩ := k.nT p q
  rw [h] at e; cases e; cases n
/-- a thing stays what it is where its own place is kept -/
theorem ob_mono (k : Ok K mg c) (e : Le c c') {p p' : Addr} {o : Ob} (hp : p' = p) (h : c'.H p = c.H p) (q : ObR K mg c p o) : ObR K mg c' p' o := by
  subst hp
  cases o with
  | lst xs =>
    obtain ⟨vs, h1, h2⟩ := q
    exact ⟨vs, h.trans h1, h2.mono e⟩
  | dct xs =>
    obtain ⟨vs, h1, h2⟩ := q
    exact ⟨vs, h.trans h1, h2.mono e⟩
  | ins cn fs =>
    obtain ⟨C, dx, vs, h0, h1, h3, h2⟩ := q
    exact ⟨C, dx, vs, h0, h.trans h1, (e.keep dx _ (not_rg k h3 rfl) h3).1, h2.mono e⟩
/-- a new thing that stays -/
def Cfg.lay (c : Cfg) (p : Addr) (o : HO) : Cfg := { c with H := upd c.H p o }
theorem lay_le {p : Addr} {o : HO} (h : c.H p = none) : Le c (c.lay p o) :=
  ⟨Nat.le_refl _, fun _ _ => rfl, fun a u n e => ⟨by show upd c.H p o a = _; rw [upd_ne (ne_of_none e h)]; exact e, n⟩, rfl⟩
theorem lay_ok (k : Ok K mg c) {p : Addr} {o : HO} (h : c.H p = none) : Ok K mg (c.lay p o) := by
  have pe : ∀ a u, c.H a = some u → (c.lay p o).H a = some u := fun a u e => (upd_ne (ne_of_none e h)).trans e
  refine ⟨fun j ob e => ?_, k.inj, fun a t => ⟨(k.nT a t).1, ?_⟩⟩
  · obtain ⟨u, e1, _⟩ := rg_mu k ⟨j, lt_of_get e, rfl⟩
    exact ob_mono k (lay_le h) rfl ((pe _ _ e1).trans e1.symm) (k.at_ j ob e)
  · obtain ⟨_, xs, e⟩ := k.nT a t
    exact ⟨xs, pe _ _ e⟩
/-- a new thing of the store: H' is as H but at fresh places -/
def Cfg.new (c : Cfg) (p : Addr) (ob : Ob) (H' : Hp) : Cfg := { c with π := fun j => if j = c.S.length then p else c.π j, S := c.S ++ [ob], H := H' }
theorem new_le {p : Addr} {ob : Ob} {H' : Hp} (h : c.H p = none) (hH : ∀ a u, c.H a = some u → H' a = some u) : Le c (c.new p ob H') := by
  refine ⟨by show _ ≤ (c.S ++ [_]).length; simp, fun j l => if_neg (by omega), fun a u n e => ⟨hH a u e, ?_⟩, rfl⟩
  rintro ⟨j, l, q⟩
  have l' : j < c.S.length + 1 := by simpa [Cfg.new] using l
  by_cases z : j = c.S.length
  · rw [show (c.new p ob H').π j = p from if_pos z] at q
    rw [q, e] at h; cases h
  · rw [show (c.new p ob H').π j = c.π j from if_neg z] at q
    exact n ⟨j, by omega, q⟩
theorem new_ok (k : Ok K mg c) {p : Addr} {ob : Ob} {H' : Hp} (h : c.H p = none) (hH : ∀ a u, c.H a = some u → H' a = some u) (d : ObR K mg (c.new p ob H') p ob) : Ok K mg (c.new p ob H') := by
  have le := new_le (ob := ob) h hH
  have old : ∀ i, i < c.S.length → c.π i ≠ p := fun i l q => ok_some k ⟨i, l, rfl⟩ (by rw [q]; exact h)
  refine ⟨fun j o e => ?_, fun i j hi hj q => ?_, fun a t => ⟨fun r => ?_, ?_⟩⟩
  · have e' : (c.S ++ [ob])[j]? = some o := e
    by_cases z : j < c.S.length
    · rw [List.getElem?_append_left z] at e'
      obtain ⟨u, e1, _⟩ := rg_mu k ⟨j, z, rfl⟩
      exact ob_mono k le (le.pi j z) ((hH _ _ e1).trans e1.symm) (k.at_ j o e')
    · have l := lt_of_get e'
      have z' : j = c.S.length := by simp at l; omega
      subst z'
      rw [List.getElem?_append_right (Nat.le_refl _)] at e'
      simp at e'
      subst e'
      rw [show (c.new p ob H').π c.S.length = p from if_pos rfl]
      exact d
  · have hi' : i < c.S.length + 1 := by simpa [Cfg.new] using hi
    have hj' : j < c.S.length + 1 := by simpa [Cfg.new] using hj
    by_cases z : i = c.S.length
    · by_cases z' : j = c.S.length
      · omega
      · rw [show (c.new p ob H').π i = p from if_pos z, show (c.new p ob H').π j = c.π j from if_neg z'] at q
        exact absurd q.symm (old j (by omega))
    · by_cases z' : j = c.S.length
      · rw [show (c.new p ob H').π i = c.π i from if_neg z, show (c.new p ob H').π j = p from if_pos z'] at q
        exact absurd q (old i (by omega))
      · rw [show (c.new p ob H').π i = c.π i from if_neg z, show (c.new p ob H').π j = c.π j from if_neg z'] at q
        exact k.inj i j (by omega) (by omega) q
  · obtain ⟨n, xs, e⟩ := k.nT a t
    exact (le.keep a _ n e).2 r
  · obtain ⟨_, xs, e⟩ := k.nT a t
    exact ⟨xs, hH _ _ e⟩
/-- a thing of the store changes -/
def Cfg.put (c : Cfg) (j : Nat) (o : HO) (ob : Ob) : Cfg := { c with S := c.S.set j ob, H := upd c.H (c.π j) o }
theorem put_le {j : Nat} (hj : j < c.S.length) {o : HO} {ob : Ob} : Le c (c.put j o ob) := by
  refine ⟨by simp [Cfg.put], fun _ _ => rfl, fun a u n e => ⟨?_, fun ⟨i, l, q⟩ => n ⟨i, by simpa [Cfg.put] using l, q⟩⟩, rfl⟩
  show upd c.H (c.π j) _ a = _
  rw [upd_ne fun q => n ⟨j, hj, q.symm⟩]; exact e
theorem put_ok (k : Ok K mg c) {j : Nat} (hj : j < c.S.length) {o : HO} {ob : Ob} (d : ObR K mg (c.put j o ob) (c.π j) ob) : Ok K mg (c.put j o ob) := by
  have le := put_le (c := c) hj (o := o) (ob := ob)
  refine ⟨fun i u e => ?_, fun a b ha hb q => k.inj a b (by simpa [Cfg.put] using ha) (by simpa [Cfg.put] using hb) q, fun a t => ⟨fun r => ?_, ?_⟩⟩
  · have e' : (c.S.set j ob)[i]? = some u := e
    by_cases z : i = j
    · subst z
      rw [List.getElem?_set_self hj] at e'
      cases e'
      exact d
    · rw [List.getElem?_set_ne (Ne.symm z)] at e'
      exact ob_mono k le rfl (upd_ne fun q => z (k.inj i j (lt_of_get e') hj q)) (k.at_ i u e')
  · obtain ⟨n, xs, e⟩ := k.nT a t
    exact (le.keep a _ n e).2 r
  · obtain ⟨n, xs, e⟩ := k.nT a t
    exact ⟨xs, (le.keep a _ n e).1⟩
end

/-! ### the names' values -/
structure EnD (K : PySem.W.Frag) (mg : Str → Option Value) (c : Cfg) (σ : L2.St) (ρ : En) : Prop where
  len : σ.length = ρ.length
  get : ∀ (i : Nat) (d : D), ρ[i]? = some (some d) → ∃ v, σ[i]? = some (some v) ∧ Den K mg c v d
section
variable {K : PySem.W.Frag} {mg : Str → Option Value} {c c' : Cfg} {σ : L2.St} {ρ : En}
theorem EnD.mw (e : Lw c c') (h : EnD K mg c σ ρ) : EnD K mg c' σ ρ := ⟨h.len, fun i d q => let ⟨v, h1, h2⟩ := h.get i d q; ⟨v, h1, h2.mw e⟩⟩
theorem EnD.mono (e : Le c c') (h : EnD K mg c σ ρ) : EnD K mg c' σ ρ := h.mw e.lw
theorem EnD.set {i : Nat} {v : V} {d : D} (h : EnD K mg c σ ρ) (q : Den K mg c v d) : EnD K mg c (σ.set i (some v)) (ρ.set i (some d)) := by
  refine ⟨by simp [h.len], fun j u e => ?_⟩
  by_cases z : i = j
  · subst z
    have l : i < ρ.length := by have := lt_of_get e; simpa using this
    rw [List.getElem?_set_self l] at e
    cases e
    exact ⟨v, List.getElem?_set_self (by rw [h.len]; exact l), q⟩
  · rw [List.getElem?_set_ne z] at e
    obtain ⟨w, h1, h2⟩ := h.get j u e
    exact ⟨w, by rw [List.getElem?_set_ne z]; exact h1, h2⟩
theorem EnD.clear {i : Nat} (h : EnD K mg c σ ρ) : EnD K mg c (σ.set i none) (ρ.set i none) := by
  refine ⟨by simp [h.len], fun j u e => ?_⟩
  by_cases z : i = j
  · subst z
    have l : i < ρ.length := by have := lt_of_get e; simpa using this
    rw [List.getElem?_set_self l] at e
    cases e
  · rw [List.getElem?_set_ne z] at e
    obtain ⟨w, h1, h2⟩ := h.get j u e
    exact ⟨w, by rw [List.getElem?_set_ne z]; exact h1, h2⟩
def wipeE (ρ : En) : List Nat → En
  | [] => ρ
  | v :: vs => (wipeE ρ vs).set v none
theorem EnD.wipe (h : EnD K mg c σ ρ) : ∀ vs : List Nat, EnD K mg c (L2.wipe σ vs) (wipeE ρ vs)
  | [] => h
  | _ :: vs => (EnD.wipe h vs).clear
end
end M

namespace M
open PySem PySem.Spec L2 W2

abbrev EvF := En → Sto → Option (D × Sto)
abbrev EtF := En → Sto → Option (Bool × Sto)
abbrev EaF := En → Sto → Option (List D × Sto)
inductive Out where
  | nx (ρ : En) | rt (d : D) | bk (ρ : En) | ct (ρ : En)
abbrev StF := En → Sto → Option (Out × Sto)

section
variable (K : PySem.W.Frag) (mg : Str → Option Value)
/-- what is wanted behind a value that was reckoned -/
def Post (c : Cfg) (S' : Sto) (d : D) (Q : VK) : Prop := ∀ v c', Le c c' → Ok K mg c' → c'.S = S' → Den K mg c' v d → Q v c'.H
structure At (c : Cfg) (ρ : En) (σ : L2.St) (H : Hp) : Prop where
  h : c.H = H
  ok : Ok K mg c
  en : EnD K mg c σ ρ
def tM (f : EvF) : TE := fun σ H Q => ∃ c ρ d S', At K mg c ρ σ H ∧ f ρ c.S = some (d, S') ∧ Post K mg c S' d Q
def tT (f : EtF) : TT := fun σ H Q => ∃ c ρ d S', At K mg c ρ σ H ∧ f ρ c.S = some (d, S') ∧ ∀ c', Le c c' → Ok K mg c' → c'.S = S' → Q d c'.H
def tAs (f : EaF) : TA := fun σ H Q => ∃ c ρ ds S', At K mg c ρ σ H ∧ f ρ c.S = some (ds, S') ∧ ∀ vs c', Le c c' → Ok K mg c' → c'.S = S' → DenA K mg c' vs ds → Q vs c'.H
def OutTo (Dd : Ends) (c' : Cfg) : Out → Prop
  | .nx ρ' => ∀ σ', EnD K mg c' σ' ρ' → Dd.nx σ' c'.H
  | .rt d => ∀ v, Den K mg c' v d → Dd.rt v c'.H
  | .bk ρ' => ∀ σ', EnD K mg c' σ' ρ' → Dd.bk σ' c'.H
  | .ct ρ' => ∀ σ', EnD K mg c' σ' ρ' → Dd.ct σ' c'.H
def tS (g : StF) : TS := fun Dd σ H => ∃ c ρ o S', At K mg c ρ σ H ∧ g ρ c.S = some (o, S') ∧ ∀ c', Le c c' → Ok K mg c' → c'.S = S' → OutTo K mg Dd c' o
/-- an operation on values -/
def r2 (op : D → D → Option D) : R2 := fun x y H Q => ∃ c a b z, c.H = H ∧ Ok K mg c ∧ Den K mg c x a ∧ Den K mg c y b ∧ op a b = some z ∧ Post K mg c c.S z Q
end
section
variable {K : PySem.W.Frag} {mg : Str → Option Value} {c c' : Cfg} {ρ : En} {σ : L2.St} {H : Hp} {S' : Sto} {d : D} {Q : VK}
theorem At.of (k : Ok K mg c) (e : EnD K mg c σ ρ) : At K mg c ρ σ c.H := ⟨rfl, k, e⟩
theorem Post.mono (p : Post K mg c S' d Q) (l : Le c c') : Post K mg c' S' d Q := fun v c2 l2 k e q => p v c2 (l.trans l2) k e q
theorem Post.here {v : V} (p : Post K mg c c.S d Q) (k : Ok K mg c) (q : Den K mg c v d) : Q v c.H := p v c (Le.refl c) k rfl q
end

section
variable {X : Cx}
theorem pe_imp {e : Expr} {t t' : TE} (h : PE X e t) (w : ∀ σ H Q, t' σ H Q → t σ H Q) : PE X e t' :=
  ⟨fun pins s σ H Q I q => h.run pins s σ H Q I (w σ H Q q)⟩
theorem pt_imp {e : Expr} {t t' : TT} (h : PT X e t) (w : ∀ σ H Q, t' σ H Q → t σ H Q) : PT X e t' :=
  ⟨fun pins s σ H Q I q => h.run pins s σ H Q I (w σ H Q q)⟩
theorem pw_imp {e : Expr} {t t' : TT} (h : PW X e t) (w : ∀ σ H Q, t' σ H Q → t σ H Q) : PW X e t' :=
  ⟨fun wh pins s σ H Q I q => h.run wh pins s σ H Q I (w σ H Q q)⟩
theorem pa_imp {es : List Expr} {t t' : TA} (h : PA X es t) (w : ∀ σ H Q, t' σ H Q → t σ H Q) : PA X es t' :=
  ⟨fun pos pins s σ H Q I q => h.run pos pins s σ H Q I (w σ H Q q)⟩
theorem ps_imp {st : Stmt} {t t' : TS} (h : PS X st t) (w : ∀ D σ H, t' D σ H → t D σ H) : PS X st t' :=
  ⟨fun pins s σ H D I q => h.run pins s σ H D I (w D σ H q)⟩
theorem pss_imp {st : List Stmt} {t t' : TS} (h : PSs X st t) (w : ∀ D σ H, t' D σ H → t D σ H) : PSs X st t' :=
  ⟨fun pins s σ H D I q => h.run pins s σ H D I (w D σ H q)⟩
end

/-! ### expressions -/
def mVar (i : Nat) : EvF := fun ρ S => (ρ[i]?).bind fun o => o.map fun d => (d, S)
def mC (d : D) : EvF := fun _ S => some (d, S)
def mBin (op : D → D → Option D) (f g : EvF) : EvF := fun ρ S => (f ρ S).bind fun x => (g ρ x.2).bind fun y => (op x.1 y.1).map fun z => (z, y.2)
def mChain (op op' : D → D → Option D) (f g h : EvF) : EvF := fun ρ S => (f ρ S).bind fun x => (g ρ x.2).bind fun y => (op x.1 y.1).bind fun z =>
  match z with
  | .bl true => (h ρ y.2).bind fun w => (op' y.1 w.1).map fun z => (z, w.2)
  | .bl false => some (.bl false, y.2)
  | _ => none
def mAnd (f g : EvF) : EvF := fun ρ S => (f ρ S).bind fun x => match x.1 with
  | .bl true => g ρ x.2
  | .bl false => some (.bl false, x.2)
  | _ => none
def mOr (f g : EvF) : EvF := fun ρ S => (f ρ S).bind fun x => match x.1 with
  | .bl true => some (.bl true, x.2)
  | .bl false => g ρ x.2
  | _ => none
def mNot (f : EvF) : EvF := fun ρ S => (f ρ S).bind fun x => match x.1 with
  | .bl b => some (.bl (!b), x.2)
  | _ => none
def mIf (t : EtF) (f g : EvF) : EvF := fun ρ S => (t ρ S).bind fun b => if b.1 = true then f ρ b.2 else g ρ b.2
def mNil : EaF := fun _ S => some ([], S)
def mCons (f : EvF) (g : EaF) : EaF := fun ρ S => (f ρ S).bind fun x => (g ρ x.2).map fun y => (x.1 :: y.1, y.2)
def mTup (g : EaF) : EvF := fun ρ S => (g ρ S).bind fun x => if x.1.length ≤ 100000 then some (.tup x.1, x.2) else none
def mLst (g : EaF) : EvF := fun ρ S => (g ρ S).bind fun x => if x.1.length ≤ 100000 then some (.lst x.1, x.2) else none
/-- a list that will change -/
def mNew (g : EaF) : EvF := fun ρ S => (g ρ S).bind fun x => if x.1.length ≤ 100000 then some (.ref x.2.length, x.2 ++ [.lst x.1]) else none
/-- tests -/
def mTv (f : EvF) : EtF := fun ρ S => (f ρ S).bind fun x => match x.1 with
  | .bl b => some (b, x.2)
  | _ => none
def mTand (f g : EtF) : EtF := fun ρ S => (f ρ S).bind fun x => if x.1 = true then g ρ x.2 else some (false, x.2)
def mTor (f g : EtF) : EtF := fun ρ S => (f ρ S).bind fun x => if x.1 = true then some (true, x.2) else g ρ x.2
def mTnot (f : EtF) : EtF := fun ρ S => (f ρ S).map fun x => (!x.1, x.2)

theorem bd {α β : Type} {o : Option α} {f : α → Option β} {b : β} (h : o.bind f = some b) : ∃ a, o = some a ∧ f a = some b := Option.bind_eq_some_iff.mp h
theorem mp {α β : Type} {o : Option α} {f : α → β} {b : β} (h : o.map f = some b) : ∃ a, o = some a ∧ f a = b := Option.map_eq_some_iff.mp h
theorem sz5 {n : Nat} (h : n ≤ 100000) : n ≤ sizeLine := Nat.le_trans h (by decide)

section
variable {X : Cx} {pos : Pos} {a b e : Expr} {f g h : EvF} {t u : EtF} {fa : EaF}
abbrev ME (X : Cx) (e : Expr) (f : EvF) : Prop := PE X e (tM X.K X.mg f)
abbrev MT (X : Cx) (e : Expr) (f : EtF) : Prop := PT X e (tT X.K X.mg f)
abbrev MA (X : Cx) (es : List Expr) (f : EaF) : Prop := PA X es (tAs X.K X.mg f)
abbrev OpD (X : Cx) (fn : Value → Value → Sem Value) (op : D → D → Option D) : Prop := OpR X fn (r2 X.K X.mg op)

theorem me_var (i : Nat) {x : Str} {pos : Pos} (hN : X.N[i]? = some x := by rfl)
    (hv : Vis X.env.scope x := by first | exact Or.inl rfl | exact Or.inr (Or.inl rfl) | exact Or.inr (Or.inr rfl))
    (hd : (x == ("__debug__" : Str)) = false := by decide) (hcd : (x == ("__classdict__" : Str)) = false := by decide) : ME X (.Name x pos) (mVar i) :=
  pe_imp (pe_var hN hv hd hcd) <| by
    rintro σ H Q ⟨c, ρ, d, S', ⟨rfl, k, en⟩, q, p⟩
    obtain ⟨o, h1, h2⟩ := bd q
    obtain ⟨d', rfl, h3⟩ := mp h2
    cases h3
    obtain ⟨v, e1, e2⟩ := en.get i _ h1
    exact ⟨v, e1, p.here k e2⟩
theorem me_c {v : V} {d : D} (h : PE X e (tC v)) (r : ∀ c, Den X.K X.mg c v d) : ME X e (mC d) :=
  pe_imp h <| by
    rintro σ H Q ⟨c, ρ, d, S', ⟨rfl, k, en⟩, q, p⟩
    cases q
    exact p.here k (r c)
theorem me_int {i : Int} {j : Nat} : ME X (.Constant (.int i) j pos) (mC (.int i)) := me_c pe_int fun _ => .int i
theorem me_bl {i : Bool} {j : Nat} : ME X (.Constant (.bool i) j pos) (mC (.bl i)) := me_c pe_bl fun _ => .bl i
theorem me_non {j : Nat} : ME X (.Constant .none j pos) (mC .non) := me_c pe_non fun _ => .non
theorem me_str {x : Str} {j : Nat} : ME X (.Constant (.str x) j pos) (mC (.str x)) := me_c pe_str fun _ => .str x
theorem me_glob {x : Str} {v : V} {u : Value} {d : D} (hg : Gl X x) (hm : X.mg x = some u) (r : RelV v u) (q : ∀ c, Den X.K X.mg c v d) (hd : (x == ("__debug__" : Str)) = false := by decide) : ME X (.Name x pos) (mC d) :=
  me_c (pe_glob hg hm r hd) q
theorem op_go {op : D → D → Option D} {σ : L2.St} {H : Hp} {Q : VK} (q : tM X.K X.mg (mBin op f g) σ H Q) : tOp (r2 X.K X.mg op) (tM X.K X.mg f) (tM X.K X.mg g) σ H Q := by
  obtain ⟨c, ρ, d, S', ⟨rfl, k, en⟩, q, p⟩ := q
  obtain ⟨x, h1, q⟩ := bd q
  obtain ⟨y, h2, q⟩ := bd q
  obtain ⟨z, h3, q⟩ := mp q
  cases q
  refine ⟨c, ρ, x.1, x.2, .of k en, h1, fun v c1 l1 k1 e1 D1 => ?_⟩
  refine ⟨c1, ρ, y.1, y.2, .of k1 (en.mono l1), by rw [e1]; exact h2, fun w c2 l2 k2 e2 D2 => ?_⟩
  exact ⟨c2, x.1, y.1, d, rfl, k2, D1.mono l2, D2, h3, by rw [e2]; exact p.mono (l1.trans l2)⟩
theorem me_bin {o : Operator} {op : D → D → Option D} (ho : OpD X (binaryOp o) op) (ha : ME X a f) (hb : ME X b g) : ME X (.BinOp a o b pos) (mBin op f g) :=
  pe_imp (pe_op ho ha hb) fun _ _ _ => op_go
theorem me_cmp {o : CmpOp} {op : D → D → Option D} (ho : OpD X (compareOp o) op) (ha : ME X a f) (hb : ME X b g) (hm : behindInMarks o b = false) : ME X (.Compare a [o] [b] pos) (mBin op f g) :=
  pe_imp (pe_cmpR ho ha hb hm) fun _ _ _ => op_go
theorem mt_of {te : TE} {e : Expr} (h : PT X e (tTest te)) (w : ∀ σ H Q, tM X.K X.mg f σ H Q → te σ H Q) : MT X e (mTv f) :=
  pt_imp h <| by
    rintro σ H Q ⟨c, ρ, d, S', ⟨rfl, k, en⟩, q, p⟩
    obtain ⟨x, h1, q⟩ := bd q
    obtain ⟨x, S1⟩ := x
    cases x <;> try (cases q)
    exact w _ _ _ ⟨c, ρ, _, _, .of k en, h1, fun v c1 l1 k1 e1 D1 => by
      cases D1
      exact ⟨_, rfl, p c1 l1 k1 e1⟩⟩
theorem mt_cmp {o : CmpOp} {op : D → D → Option D} (ho : OpD X (compareOp o) op) (ha : ME X a f) (hb : ME X b g) (hm : behindInMarks o b = false) : MT X (.Compare a [o] [b] pos) (mTv (mBin op f g)) :=
  mt_of (pt_cmpR ho ha hb hm) fun _ _ _ => op_go
theorem mt_val (h : ME X e f) (he : ∀ whole, isTrue e X.env whole = (do let v ← whole; standAt e.pos; holding [v] (truthy v)) := by intro _; rfl) : MT X e (mTv f) :=
  mt_of (pt_val h he) fun _ _ _ q => q
theorem me_chain {o o' : CmpOp} {op op' : D → D → Option D} {b' : Expr} {g' : EvF} (ho : OpD X (compareOp o) op) (ho' : OpD X (compareOp o') op') (ha : ME X a f) (hb : ME X b g) (hc : ME X b' g')
    (hm : lastMarks [o, o'] [b, b'] = false := by with_unfolding_all rfl) : ME X (.Compare a [o, o'] [b, b'] pos) (mChain op op' f g g') :=
  pe_imp (pe_chain ho ho' ha hb hc hm) <| by
    rintro σ H Q ⟨c, ρ, d, S', ⟨rfl, k, en⟩, q, p⟩
    obtain ⟨x, h1, q⟩ := bd q
    obtain ⟨y, h2, q⟩ := bd q
    obtain ⟨z, h3, q⟩ := bd q
    refine ⟨c, ρ, x.1, x.2, .of k en, h1, fun v c1 l1 k1 e1 D1 => ?_⟩
    refine ⟨c1, ρ, y.1, y.2, .of k1 (en.mono l1), by rw [e1]; exact h2, fun w c2 l2 k2 e2 D2 => ?_⟩
    refine ⟨c2, x.1, y.1, z, rfl, k2, D1.mono l2, D2, h3, fun vz c3 l3 k3 e3 D3 => ?_⟩
    cases z <;> try (cases q)
    cases D3
    rename_i bz
    refine ⟨bz, rfl, ?_⟩
    cases bz with
    | false =>
      cases q
      exact p _ c3 ((l1.trans l2).trans l3) k3 (e3.trans e2) (.bl false)
    | true =>
      obtain ⟨w', h4, q⟩ := bd q
      obtain ⟨z', h5, q⟩ := mp q
      cases q
      refine ⟨c3, ρ, w'.1, w'.2, .of k3 (en.mono ((l1.trans l2).trans l3)), by rw [e3, e2]; exact h4, fun vw c4 l4 k4 e4 D4 => ?_⟩
      exact ⟨c4, y.1, w'.1, d, rfl, k4, D2.mono (l3.trans l4), D4, h5, by rw [e4]; exact p.mono (((l1.trans l2).trans l3).trans l4)⟩
theorem me_one {op : BoolOp} (h : ME X a f) : ME X (.BoolOp op [a] pos) f := pe_one h
theorem me_and {rest : List Expr} (ha : ME X a f) (hb : ME X (.BoolOp .And (b :: rest) pos) g) : ME X (.BoolOp .And (a :: b :: rest) pos) (mAnd f g) :=
  pe_imp (pe_and ha hb) <| by
    rintro σ H Q ⟨c, ρ, d, S', ⟨rfl, k, en⟩, q, p⟩
    obtain ⟨⟨x, S1⟩, h1, q⟩ := bd q
    refine ⟨c, ρ, x, S1, .of k en, h1, fun v c1 l1 k1 e1 D1 => ?_⟩
    cases x <;> try (cases q)
    rename_i bx
    cases D1
    refine ⟨bx, rfl, ?_⟩
    cases bx with
    | true => exact ⟨c1, ρ, d, S', .of k1 (en.mono l1), by rw [e1]; exact q, p.mono l1⟩
    | false =>
      cases q
      exact p _ c1 l1 k1 e1 (.bl false)
theorem me_or {rest : List Expr} (ha : ME X a f) (hb : ME X (.BoolOp .Or (b :: rest) pos) g) : ME X (.BoolOp .Or (a :: b :: rest) pos) (mOr f g) :=
  pe_imp (pe_or ha hb) <| by
    rintro σ H Q ⟨c, ρ, d, S', ⟨rfl, k, en⟩, q, p⟩
    obtain ⟨⟨x, S1⟩, h1, q⟩ := bd q
    refine ⟨c, ρ, x, S1, .of k en, h1, fun v c1 l1 k1 e1 D1 => ?_⟩
    cases x <;> try (cases q)
    rename_i bx
    cases D1
    refine ⟨bx, rfl, ?_⟩
    cases bx with
    | false => exact ⟨c1, ρ, d, S', .of k1 (en.mono l1), by rw [e1]; exact q, p.mono l1⟩
    | true =>
      cases q
      exact p _ c1 l1 k1 e1 (.bl true)
theorem me_not (ha : ME X a f) : ME X (.UnaryOp .Not a pos) (mNot f) :=
  pe_imp (pe_not ha) <| by
    rintro σ H Q ⟨c, ρ, d, S', ⟨rfl, k, en⟩, q, p⟩
    obtain ⟨⟨x, S1⟩, h1, q⟩ := bd q
    refine ⟨c, ρ, x, S1, .of k en, h1, fun v c1 l1 k1 e1 D1 => ?_⟩
    cases x <;> try (cases q)
    rename_i bx
    cases D1
    exact ⟨bx, rfl, p _ c1 l1 k1 e1 (.bl _)⟩
theorem me_if {w : Expr} (ht : MT X w t) (ha : ME X a f) (hb : ME X b g) : ME X (.IfExp w a b pos) (mIf t f g) :=
  pe_imp (pe_ifExp ht ha hb) <| by
    rintro σ H Q ⟨c, ρ, d, S', ⟨rfl, k, en⟩, q, p⟩
    obtain ⟨⟨x, S1⟩, h1, q⟩ := bd q
    refine ⟨c, ρ, x, S1, .of k en, h1, fun c1 l1 k1 e1 => ?_⟩
    cases x with
    | true => exact ⟨c1, ρ, d, S', .of k1 (en.mono l1), by rw [e1]; exact q, p.mono l1⟩
    | false => exact ⟨c1, ρ, d, S', .of k1 (en.mono l1), by rw [e1]; exact q, p.mono l1⟩
theorem mt_not (h : MT X a t) : MT X (.UnaryOp .Not a pos) (mTnot t) :=
  pt_imp (pt_not h) <| by
    rintro σ H Q ⟨c, ρ, d, S', ⟨rfl, k, en⟩, q, p⟩
    obtain ⟨x, h1, q⟩ := mp q
    cases q
    exact ⟨c, ρ, x.1, x.2, .of k en, h1, p⟩
abbrev MW (X : Cx) (e : Expr) (f : EtF) : Prop := PW X e (tT X.K X.mg f)
theorem mw_and1 (h : MT X a t) : MW X (.BoolOp .And [a] pos) t := pw_and1 h
theorem mw_or1 (h : MT X a t) : MW X (.BoolOp .Or [a] pos) t := pw_or1 h
theorem mw_and {rest : List Expr} (ha : MT X a t) (hb : MW X (.BoolOp .And (b :: rest) pos) u) : MW X (.BoolOp .And (a :: b :: rest) pos) (mTand t u) :=
  pw_imp (pw_and ha hb) <| by
    rintro σ H Q ⟨c, ρ, d, S', ⟨rfl, k, en⟩, q, p⟩
    obtain ⟨⟨x, S1⟩, h1, q⟩ := bd q
    refine ⟨c, ρ, x, S1, .of k en, h1, fun c1 l1 k1 e1 => ?_⟩
    cases x with
    | true => exact ⟨c1, ρ, d, S', .of k1 (en.mono l1), by rw [e1]; exact q, fun c2 l2 => p c2 (l1.trans l2)⟩
    | false =>
      cases q
      exact p c1 l1 k1 e1
theorem mw_or {rest : List Expr} (ha : MT X a t) (hb : MW X (.BoolOp .Or (b :: rest) pos) u) : MW X (.BoolOp .Or (a :: b :: rest) pos) (mTor t u) :=
  pw_imp (pw_or ha hb) <| by
    rintro σ H Q ⟨c, ρ, d, S', ⟨rfl, k, en⟩, q, p⟩
    obtain ⟨⟨x, S1⟩, h1, q⟩ := bd q
    refine ⟨c, ρ, x, S1, .of k en, h1, fun c1 l1 k1 e1 => ?_⟩
    cases x with
    | false => exact ⟨c1, ρ, d, S', .of k1 (en.mono l1), by rw [e1]; exact q, fun c2 l2 => p c2 (l1.trans l2)⟩
    | true =>
      cases q
      exact p c1 l1 k1 e1
theorem mt_w (h : MW X e t) : MT X e t := h.pt
theorem ma_nil : MA X [] mNil :=
  pa_imp pa_nil <| by
    rintro σ H Q ⟨c, ρ, d, S', ⟨rfl, k, en⟩, q, p⟩
    cases q
    exact p [] c (.refl c) k rfl .nil
theorem ma_cons {es : List Expr} (ha : ME X e f) (hr : MA X es fa) (hs : starEach (e :: es) X.env = (false, eval e X.env) :: starEach es X.env := by rfl) : MA X (e :: es) (mCons f fa) :=
  pa_imp (pa_cons ha hr hs) <| by
    rintro σ H Q ⟨c, ρ, d, S', ⟨rfl, k, en⟩, q, p⟩
    obtain ⟨⟨x, S1⟩, h1, q⟩ := bd q
    obtain ⟨y, h2, q⟩ := mp q
    cases q
    refine ⟨c, ρ, x, S1, .of k en, h1, fun v c1 l1 k1 e1 D1 => ?_⟩
    refine ⟨c1, ρ, y.1, y.2, .of k1 (en.mono l1), by rw [e1]; exact h2, fun vs c2 l2 k2 e2 D2 => ?_⟩
    exact p _ c2 (l1.trans l2) k2 e2 (.cons (D1.mono l2) D2)
theorem den_tup {c : Cfg} {K : PySem.W.Frag} {mg : Str → Option Value} {p : Addr} {vs : List V} {ds : List D} (k : Ok K mg c) (h : c.H p = none) (q : DenA K mg c vs ds) : Den K mg (c.lay p (.tup vs)) (.ref p) (.tup ds) :=
  .tup (.inl ⟨k.nB h, .inl upd_same⟩) (q.mono (lay_le h))
theorem den_lst {c : Cfg} {K : PySem.W.Frag} {mg : Str → Option Value} {p : Addr} {vs : List V} {ds : List D} (k : Ok K mg c) (h : c.H p = none) (q : DenA K mg c vs ds) : Den K mg (c.lay p (.lst vs)) (.ref p) (.lst ds) :=
  .lst ⟨k.nB h, .inl upd_same⟩ (q.mono (lay_le h))
theorem post_tup {K : PySem.W.Frag} {mg : Str → Option Value} {c : Cfg} {ds : List D} {vs : List V} {Q : VK} (P : Post K mg c c.S (.tup ds) Q) (k : Ok K mg c) (q : DenA K mg c vs ds) : ∀ p, c.H p = none → Q (.ref p) (upd c.H p (.tup vs)) :=
  fun p h => P _ (c.lay p (.tup vs)) (lay_le h) (lay_ok k h) rfl (den_tup k h q)
theorem post_lst {K : PySem.W.Frag} {mg : Str → Option Value} {c : Cfg} {ds : List D} {vs : List V} {Q : VK} (P : Post K mg c c.S (.lst ds) Q) (k : Ok K mg c) (q : DenA K mg c vs ds) : ∀ p, c.H p = none → Q (.ref p) (upd c.H p (.lst vs)) :=
  fun p h => P _ (c.lay p (.lst vs)) (lay_le h) (lay_ok k h) rfl (den_lst k h q)
theorem me_tup {es : List Expr} (h : MA X es fa) : ME X (.Tuple es n pos) (mTup fa) :=
  pe_imp (pe_tup h) <| by
    rintro σ H Q ⟨c, ρ, d, S', ⟨rfl, k, en⟩, q, p⟩
    obtain ⟨⟨x, S1⟩, h1, q⟩ := bd q
    by_cases z : x.length ≤ 100000
    · rw [if_pos z] at q
      cases q
      refine ⟨c, ρ, x, S1, .of k en, h1, fun vs c1 l1 k1 e1 D1 => ⟨by rw [D1.length]; exact sz5 z, ?_⟩⟩
      exact post_tup (by rw [e1]; exact p.mono l1) k1 D1
    · rw [if_neg z] at q
      cases q
theorem me_lst {es : List Expr} (h : MA X es fa) : ME X (.List es pos) (mLst fa) :=
  pe_imp (pe_lst h) <| by
    rintro σ H Q ⟨c, ρ, d, S', ⟨rfl, k, en⟩, q, p⟩
    obtain ⟨⟨x, S1⟩, h1, q⟩ := bd q
    by_cases z : x.length ≤ 100000
    · rw [if_pos z] at q
      cases q
      refine ⟨c, ρ, x, S1, .of k en, h1, fun vs c1 l1 k1 e1 D1 => ⟨by rw [D1.length]; exact sz5 z, ?_⟩⟩
      exact post_lst (by rw [e1]; exact p.mono l1) k1 D1
    · rw [if_neg z] at q
      cases q
/-- a new thing of the store -/
theorem post_new {K : PySem.W.Frag} {mg : Str → Option Value} {c : Cfg} {ob : Ob} {p : Addr} {H' : Hp} {Q : VK} (P : Post K mg c (c.S ++ [ob]) (.ref c.S.length) Q) (k : Ok K mg c) (h : c.H p = none) (hH : ∀ a u, c.H a = some u → H' a = some u)
    (d : ObR K mg (c.new p ob H') p ob) : Q (.ref p) H' := by
  have e2 : (c.new p ob H').π c.S.length = p := if_pos rfl
  have w := Den.ref (K := K) (mg := mg) (c := c.new p ob H') (j := c.S.length) (by show _ < (c.S ++ [_]).length; simp)
  rw [e2] at w
  exact P (.ref p) (c.new p ob H') (new_le h hH) (new_ok k h hH d) rfl w
theorem upd_keep {H : Hp} {p : Addr} {o : HO} (h : H p = none) : ∀ a u, H a = some u → upd H p o a = some u := fun a u e => (upd_ne (ne_of_none e h)).trans e
theorem me_new {es : List Expr} (h : MA X es fa) : ME X (.List es pos) (mNew fa) :=
  pe_imp (pe_lst h) <| by
    rintro σ H Q ⟨c, ρ, d, S', ⟨rfl, k, en⟩, q, p⟩
    obtain ⟨⟨x, S1⟩, h1, q⟩ := bd q
    by_cases z : x.length ≤ 100000
    · rw [if_pos z] at q
      cases q
      refine ⟨c, ρ, x, S1, .of k en, h1, fun vs c1 l1 k1 e1 D1 => ⟨by rw [D1.length]; exact sz5 z, fun a ha => ?_⟩⟩
      subst e1
      exact post_new (ob := .lst x) (p.mono l1) k1 ha (upd_keep ha) ⟨vs, upd_same, D1.mono (new_le ha (upd_keep ha))⟩
    · rw [if_neg z] at q
      cases q
end
end M

namespace M
open PySem PySem.Spec L2 W2

/-! ### statements -/
def mRet (f : EvF) : StF := fun ρ S => (f ρ S).map fun x => (.rt x.1, x.2)
def mRetN : StF := fun _ S => some (.rt .non, S)
def mSkip : StF := fun ρ S => some (.nx ρ, S)
def mBrk : StF := fun ρ S => some (.bk ρ, S)
def mCnt : StF := fun ρ S => some (.ct ρ, S)
def mDrop (f : EvF) : StF := fun ρ S => (f ρ S).map fun x => (.nx ρ, x.2)
/-- a target: where a value goes -/
abbrev TgF := En → D → Option En
def gN (i : Nat) : TgF := fun ρ d => some (ρ.set i (some d))
def setAll : List Nat → List D → En → Option En
  | [], [], ρ => some ρ
  | i :: is, d :: ds, ρ => setAll is ds (ρ.set i (some d))
  | _, _, _ => none
def gT (is : List Nat) : TgF := fun ρ d => match d with
  | .tup ds => setAll is ds ρ
  | _ => none
def mAsg (f : EvF) (g : TgF) : StF := fun ρ S => (f ρ S).bind fun x => (g ρ x.1).map fun ρ' => (.nx ρ', x.2)
def mPar (is : List Nat) (f : EaF) : StF := fun ρ S => (f ρ S).bind fun x => (setAll is x.1 ρ).map fun ρ' => (.nx ρ', x.2)
def mIfS (t : EtF) (g h : StF) : StF := fun ρ S => (t ρ S).bind fun b => if b.1 = true then g ρ b.2 else h ρ b.2
def mSeq (g h : StF) : StF := fun ρ S => (g ρ S).bind fun x => match x.1 with
  | .nx ρ' => h ρ' x.2
  | o => some (o, x.2)
def stSet (S : Sto) (j : Nat) (i : Int) (d : D) : Option Sto := match S[j]? with
  | some (.lst xs) => (ixN xs.length i).map fun n => S.set j (.lst (xs.set n d))
  | _ => none
/-- o[i] = e, o a thing of the store -/
def mSetI (f o i : EvF) : StF := fun ρ S => (f ρ S).bind fun x => (o ρ x.2).bind fun y => (i ρ y.2).bind fun z => match y.1, z.1 with
  | .ref j, .int n => (stSet z.2 j n x.1).map fun S' => (.nx ρ, S')
  | _, _ => none

abbrev MS (X : Cx) (st : Stmt) (g : StF) : Prop := PS X st (tS X.K X.mg g)
abbrev MSs (X : Cx) (st : List Stmt) (g : StF) : Prop := PSs X st (tS X.K X.mg g)
def tG (K : PySem.W.Frag) (mg : Str → Option Value) (g : TgF) : TG := fun v σ H Q => ∃ c ρ d ρ', At K mg c ρ σ H ∧ Den K mg c v d ∧ g ρ d = some ρ' ∧ ∀ σ', EnD K mg c σ' ρ' → Q σ' H
abbrev MG (X : Cx) (e : Expr) (g : TgF) : Prop := PG X e (tG X.K X.mg g)
theorem pg_imp {X : Cx} {e : Expr} {t t' : TG} (h : PG X e t) (w : ∀ v σ H Q, t' v σ H Q → t v σ H Q) : PG X e t' :=
  ⟨fun pins s σ H v u Q I r q => h.run pins s σ H v u Q I r (w v σ H Q q)⟩
def gsA (is : List Nat) : TGs := fun vs σ H Q => vs.length = is.length ∧ Q ((is.zip vs).foldl (fun σ p => σ.set p.1 (some p.2)) σ) H
theorem pgs_imp {X : Cx} {e : List Expr} {t t' : TGs} (h : PGs X e t) (w : ∀ v σ H Q, t' v σ H Q → t v σ H Q) : PGs X e t' :=
  ⟨fun pins s σ H v u Q I r q => h.run pins s σ H v u Q I r (w v σ H Q q)⟩
theorem gs_nil {X : Cx} : PGs X [] (gsA []) := pgs_imp pgs_nil <| by
  rintro v σ H Q ⟨h, q⟩
  cases v with
  | nil => exact ⟨rfl, q⟩
  | cons a b => cases h
theorem gs_cons {X : Cx} {es : List Expr} {i : Nat} {is : List Nat} (hs : PGs X es (gCons (gName i) (gsA is))) : PGs X es (gsA (i :: is)) := pgs_imp hs <| by
  rintro v σ H Q ⟨h, q⟩
  cases v with
  | nil => cases h
  | cons a b => exact ⟨a, b, rfl, Nat.succ.inj h, q⟩
theorem setAll_en {K : PySem.W.Frag} {mg : Str → Option Value} {c : Cfg} : ∀ {is : List Nat} {ds : List D} {vs : List V} {ρ ρ' : En} {σ : L2.St}, EnD K mg c σ ρ → DenA K mg c vs ds → setAll is ds ρ = some ρ' →
    EnD K mg c ((is.zip vs).foldl (fun σ p => σ.set p.1 (some p.2)) σ) ρ'
  | [], [], _, _, _, _, en, d, h => by cases d; cases h; exact en
  | i :: is, x :: ds, _, _, _, _, en, d, h => by
    cases d with
    | cons a b => exact setAll_en (is := is) (ds := ds) (en.set (i := i) a) b h
  | [], _ :: _, _, _, _, _, _, _, h => by cases h
  | _ :: _, [], _, _, _, _, _, _, h => by cases h
theorem setAll_len : ∀ {is : List Nat} {ds : List D} {ρ ρ' : En}, setAll is ds ρ = some ρ' → ds.length = is.length
  | [], [], _, _, h => rfl
  | i :: is, x :: ds, _, _, h => by simp [setAll_len (is := is) (ds := ds) h]
  | [], _ :: _, _, _, h => by cases h
  | _ :: _, [], _, _, h => by cases h

section
variable {X : Cx} {pos : Pos} {a b e : Expr} {f : EvF} {t : EtF} {fa : EaF} {g h : StF} {tg : TgF} {st : Stmt} {rest sts : List Stmt}
theorem ms_ret (he : ME X e f) : MS X (.Return (some e) pos) (mRet f) := ps_imp (ps_ret he) <| by
  rintro Dd σ H ⟨c, ρ, o, S', ⟨rfl, k, en⟩, q, p⟩
  obtain ⟨x, h1, q⟩ := mp q
  cases q
  exact ⟨c, ρ, x.1, x.2, .of k en, h1, fun v c1 l1 k1 e1 D1 => p c1 l1 k1 e1 v D1⟩
theorem ms_retN : MS X (.Return none pos) mRetN := ps_imp ps_retN <| by
  rintro Dd σ H ⟨c, ρ, o, S', ⟨rfl, k, en⟩, q, p⟩
  cases q
  exact p c (.refl c) k rfl _ .non
theorem ms_pass : MS X (.Pass pos) mSkip := ps_imp ps_pass <| by
  rintro Dd σ H ⟨c, ρ, o, S', ⟨rfl, k, en⟩, q, p⟩
  cases q
  exact p c (.refl c) k rfl _ en
theorem ms_brk : MS X (.Break pos) mBrk := ps_imp ps_break <| by
  rintro Dd σ H ⟨c, ρ, o, S', ⟨rfl, k, en⟩, q, p⟩
  cases q
  exact p c (.refl c) k rfl _ en
theorem ms_cnt : MS X (.Continue pos) mCnt := ps_imp ps_continue <| by
  rintro Dd σ H ⟨c, ρ, o, S', ⟨rfl, k, en⟩, q, p⟩
  cases q
  exact p c (.refl c) k rfl _ en
theorem ms_drop (hs : PS X st (tDrop (tM X.K X.mg f))) : MS X st (mDrop f) := ps_imp hs <| by
  rintro Dd σ H ⟨c, ρ, o, S', ⟨rfl, k, en⟩, q, p⟩
  obtain ⟨x, h1, q⟩ := mp q
  cases q
  exact ⟨c, ρ, x.1, x.2, .of k en, h1, fun v c1 l1 k1 e1 D1 => p c1 l1 k1 e1 _ (en.mono l1)⟩
theorem mg_name {i : Nat} {x : Str} (hN : X.N.Nodup) (hi : X.N[i]? = some x) (hx : Loc X.env.scope x) (hf : X.fn x = true ∨ X.env.scope.names.lookup x = some .local := by first | exact .inl rfl | exact .inr rfl | assumption) :
    MG X (.Name x pos) (gN i) := pg_imp (pg_name hN hi hx hf) <| by
  rintro v σ H Q ⟨c, ρ, d, ρ', ⟨rfl, k, en⟩, D1, q, p⟩
  cases q
  exact p _ (en.set D1)
theorem mg_tup {es : List Expr} {n : Nat} {is : List Nat} (hc : X.calm = true) (hs : PGs X es (gsA is)) (hl : PG X (.Tuple es n pos) (gTup X.K is.length (gsA is))) : MG X (.Tuple es n pos) (gT is) := pg_imp hl <| by
  rintro v σ H Q ⟨c, ρ, d, ρ', ⟨rfl, k, en⟩, D1, q, p⟩
  cases d <;> try (cases q)
  cases D1 with
  | tup s t =>
    have q' : setAll is _ ρ = some ρ' := q
    have l := setAll_len q'
    exact ⟨_, _, rfl, s.get, t.length.trans l, t.length.trans l, p _ (setAll_en en t q')⟩
theorem ms_asg (hs : PS X st (tAsg (tM X.K X.mg f) (tG X.K X.mg tg))) : MS X st (mAsg f tg) := ps_imp hs <| by
  rintro Dd σ H ⟨c, ρ, o, S', ⟨rfl, k, en⟩, q, p⟩
  obtain ⟨x, h1, q⟩ := bd q
  obtain ⟨ρ', h2, q⟩ := mp q
  cases q
  refine ⟨c, ρ, x.1, x.2, .of k en, h1, fun v c1 l1 k1 e1 D1 => ?_⟩
  exact ⟨c1, ρ, x.1, ρ', .of k1 (en.mono l1), D1, h2, fun σ' en' => p c1 l1 k1 e1 σ' en'⟩
theorem ms_if {c : Expr} (ht : MT X c t) (h1 : MSs X rest g) (h2 : MSs X sts h) : MS X (.If c rest sts pos) (mIfS t g h) := ps_imp (ps_if ht h1 h2) <| by
  rintro Dd σ H ⟨c, ρ, o, S', ⟨rfl, k, en⟩, q, p⟩
  obtain ⟨⟨x, S1⟩, h1, q⟩ := bd q
  refine ⟨c, ρ, x, S1, .of k en, h1, fun c1 l1 k1 e1 => ?_⟩
  cases x with
  | true => exact ⟨c1, ρ, o, S', .of k1 (en.mono l1), by rw [e1]; exact q, fun c2 l2 => p c2 (l1.trans l2)⟩
  | false => exact ⟨c1, ρ, o, S', .of k1 (en.mono l1), by rw [e1]; exact q, fun c2 l2 => p c2 (l1.trans l2)⟩
theorem mss_nil : MSs X [] mSkip := pss_imp pss_nil <| by
  rintro Dd σ H ⟨c, ρ, o, S', ⟨rfl, k, en⟩, q, p⟩
  cases q
  exact p c (.refl c) k rfl _ en
theorem mss_one (h : MS X st g) : MSs X [st] g := pss_one h
theorem mss_cons (h1 : MS X st g) (h2 : MSs X rest h) : MSs X (st :: rest) (mSeq g h) := pss_imp (pss_cons h1 h2) <| by
  rintro Dd σ H ⟨c, ρ, o, S', ⟨rfl, k, en⟩, q, p⟩
  obtain ⟨⟨x, S1⟩, h1, q⟩ := bd q
  refine ⟨c, ρ, x, S1, .of k en, h1, fun c1 l1 k1 e1 => ?_⟩
  cases x with
  | nx ρ' =>
    intro σ' en'
    exact ⟨c1, ρ', o, S', .of k1 en', by rw [e1]; exact q, fun c2 l2 => p c2 (l1.trans l2)⟩
  | rt d => cases q; exact p c1 l1 k1 e1
  | bk ρ' => cases q; exact p c1 l1 k1 e1
  | ct ρ' => cases q; exact p c1 l1 k1 e1
theorem ms_par {i j : Nat} (hs : PS X st (tPar i j (tAs X.K X.mg fa))) : MS X st (mPar [i, j] fa) := ps_imp hs <| by
  rintro Dd σ H ⟨c, ρ, o, S', ⟨rfl, k, en⟩, q, p⟩
  obtain ⟨x, h1, q⟩ := bd q
  obtain ⟨ρ', h2, q⟩ := mp q
  cases q
  refine ⟨c, ρ, x.1, x.2, .of k en, h1, fun vs c1 l1 k1 e1 D1 => ?_⟩
  have l := D1.length.trans (setAll_len h2)
  match vs, l, D1 with
  | [u, v], _, D1 => exact ⟨u, v, rfl, p c1 l1 k1 e1 _ (setAll_en (en.mono l1) D1 h2)⟩
theorem ms_par3 {i j l : Nat} (hs : PS X st (tPar3 i j l (tAs X.K X.mg fa))) : MS X st (mPar [i, j, l] fa) := ps_imp hs <| by
  rintro Dd σ H ⟨c, ρ, o, S', ⟨rfl, k, en⟩, q, p⟩
  obtain ⟨x, h1, q⟩ := bd q
  obtain ⟨ρ', h2, q⟩ := mp q
  cases q
  refine ⟨c, ρ, x.1, x.2, .of k en, h1, fun vs c1 l1 k1 e1 D1 => ?_⟩
  have l := D1.length.trans (setAll_len h2)
  match vs, l, D1 with
  | [u, v, w], _, D1 => exact ⟨u, v, w, rfl, p c1 l1 k1 e1 _ (setAll_en (en.mono l1) D1 h2)⟩
theorem ms_setI {fo fi : EvF} (hs : PS X st (tAsg (tM X.K X.mg f) (gSub (tM X.K X.mg fo) (tM X.K X.mg fi) rSetL))) : MS X st (mSetI f fo fi) := ps_imp hs <| by
  rintro Dd σ H ⟨c, ρ, o, S', ⟨rfl, k, en⟩, q, p⟩
  obtain ⟨⟨x, S1⟩, h1, q⟩ := bd q
  obtain ⟨⟨y, S2⟩, h2, q⟩ := bd q
  obtain ⟨⟨z, S3⟩, h3, q⟩ := bd q
  refine ⟨c, ρ, x, S1, .of k en, h1, fun v c1 l1 k1 e1 D1 => ?_⟩
  refine ⟨c1, ρ, y, S2, .of k1 (en.mono l1), by rw [e1]; exact h2, fun w c2 l2 k2 e2 D2 => ?_⟩
  refine ⟨c2, ρ, z, S3, .of k2 (en.mono (l1.trans l2)), by rw [e2]; exact h3, fun u c3 l3 k3 e3 D3 => ?_⟩
  obtain ⟨j, rfl⟩ : ∃ j, y = .ref j := by
    cases y with
    | ref j => exact ⟨j, rfl⟩
    | _ => cases q
  obtain ⟨n, rfl⟩ : ∃ n, z = .int n := by
    cases z with
    | int n => exact ⟨n, rfl⟩
    | _ => cases q
  have q' : (stSet S3 j n x).map (fun S' => (Out.nx ρ, S')) = some (o, S') := q
  obtain ⟨S4, h4, q'⟩ := mp q'
  cases q'
  unfold stSet at h4
  cases hS : S3[j]? with
  | none => rw [hS] at h4; cases h4
  | some ob =>
    cases ob with
    | dct _ => rw [hS] at h4; cases h4
    | ins _ _ => rw [hS] at h4; cases h4
    | lst xs =>
      rw [hS] at h4
      obtain ⟨m, h5, h6⟩ := mp h4
      have hS' : c3.S[j]? = some (.lst xs) := by rw [e3]; exact hS
      obtain ⟨vs, hv, dv⟩ := k3.at_ j _ hS'
      have D2' := D2.mono l3
      cases D2' with
      | ref hj =>
        cases D3
        refine ⟨c3.π j, vs, n, m, rfl, rfl, hv, by rw [dv.length]; exact h5, ?_⟩
        have dx := dv.set (D1.mono (l2.trans l3)) m
        refine p (c3.put j (.lst (vs.set m v)) (.lst (xs.set m x))) (((l1.trans l2).trans l3).trans (put_le hj)) (put_ok k3 hj ⟨_, upd_same, dx.mono (put_le hj)⟩) ?_ σ (en.mono (((l1.trans l2).trans l3).trans (put_le hj)))
        show c3.S.set j _ = _
        rw [e3]; exact h6
end
end M

namespace M
open PySem PySem.Spec L2 W2 RZ

/-! ### defs -/
abbrev Fn := List D → Sto → Option (D × Sto)
/-- a def with n names whose body is g -/
def mDef (n : Nat) (g : StF) : Fn := fun ds S => (g (ds.map some ++ List.replicate (n - ds.length) none) S).bind fun x => match x.1 with
  | .rt d => some (d, x.2)
  | .nx _ => some (.non, x.2)
  | _ => none
def spM (K : PySem.W.Frag) (mg : Str → Option Value) (np : Nat) (F : Fn) : Sp := fun vs H Q _ => vs.length = np ∧ ∃ c ds d S', c.H = H ∧ Ok K mg c ∧ DenA K mg c vs ds ∧ F ds c.S = some (d, S') ∧ Post K mg c S' d Q
theorem start_en {K : PySem.W.Frag} {mg : Str → Option Value} {c : Cfg} {N : List Str} {vs : List V} {ds : List D} (h : DenA K mg c vs ds) : EnD K mg c (L2.start N vs) (ds.map some ++ List.replicate (N.length - ds.length) none) := by
  have l := h.length
  refine ⟨by unfold L2.start; simp [l], fun i d q => ?_⟩
  unfold L2.start
  by_cases z : i < ds.length
  · rw [List.getElem?_append_left (by simpa using z), List.getElem?_map] at q
    cases e : ds[i]? with
    | none => rw [e] at q; cases q
    | some u =>
      rw [e] at q
      cases q
      obtain ⟨v, h1, h2⟩ := h.get e
      refine ⟨v, ?_, h2⟩
      rw [List.getElem?_append_left (by simpa [l] using z), List.getElem?_map, h1]
      rfl
  · rw [List.getElem?_append_right (by simpa using z), List.getElem?_replicate] at q
    split at q <;> cases q
structure Cal (P : Program) (w : World) (K : PySem.W.Frag) (mg : Str → Option Value) (base : Heap) (k : Nat) (x : Str) (np : Nat) (F : Fn) : Prop where
  ex : ∃ (f : Addr) (fd : FuncData) (ps : List Str), mg x = some (.ref f) ∧ PySem.W.keepIn K (.ref f) = true ∧ Binds K fd ps [] ∧ FnG P w K mg base k f fd ps (spM K mg np F) ∧ ps.length = np
theorem Cal.mono {P : Program} {w : World} {K : PySem.W.Frag} {mg : Str → Option Value} {base : Heap} {k j : Nat} {x : Str} {np : Nat} {F : Fn} (h : Cal P w K mg base k x np F) (l : k ≤ j) : Cal P w K mg base j x np F := by
  obtain ⟨f, fd, ps, a, b, c, d, e⟩ := h.ex
  exact ⟨f, fd, ps, a, b, c, ⟨d.len, fun A o s H ar us vs Q E hr => d.run A o s H ar us vs Q E (hr.mono l)⟩, e⟩
theorem def_ok {P : Program} {w : World} {K : PySem.W.Frag} {mg : Str → Option Value} {base : Heap} {x qual : Str} {st : Stmt} {f : Addr} {fd : FuncData} {N ps : List Str} {k : Nat} {g : StF} (F : Fun K x qual st f fd) (S : FnScope N ps (defScope st))
    (body : ∀ (c : Value) (A : Around) (o : List Env) (s : Shared) (H : Hp) (E : XK), Rm k (A.deeper (PyProof.Rows.envOfC qual (defScope st) s.heap.objs.size f c)) → MSs (cxOf (L2.CX P w) P w K mg base N qual (defScope st) f c A o s H E).nox (defBody st) g) :
    FnG P w K mg base (k + 1) f fd ps (spM K mg ps.length (mDef N.length g)) := by
  refine fnG_of F S (fun vs H Q E h => h.1) fun c A o s H vs Q E hr h => ⟨_, body c A o s H E hr, ?_⟩
  obtain ⟨hl, cf, ds, d, S', rfl, k, D1, q, p⟩ := h
  obtain ⟨⟨x, S1⟩, h1, q⟩ := bd q
  refine ⟨cf, _, x, S1, .of k (start_en D1), h1, fun c1 l1 k1 e1 => ?_⟩
  cases x with
  | nx ρ' =>
    cases q
    exact fun σ' en' => p _ c1 l1 k1 e1 .non
  | rt d' =>
    cases q
    exact fun v D2 => p v c1 l1 k1 e1 D2
  | bk ρ' => cases q
  | ct ρ' => cases q
def mCall (F : Fn) (fa : EaF) : EvF := fun ρ S => (fa ρ S).bind fun x => F x.1 x.2
section
variable {X : Cx} {pos p : Pos} {e : Expr} {es : List Expr} {f : EvF} {fa : EaF} {k np : Nat} {x : Str} {F : Fn}
theorem arg_len {K : PySem.W.Frag} {mg : Str → Option Value} {c : Cfg} : ∀ {ds : List D} {vs : List V}, DenA K mg c vs ds → vs.length = ds.length := fun h => h.length
theorem me_call (C : Cal X.prog X.w X.K X.mg X.base k x np F) (hr : Rm k X.A) (hg : Gl X x) (ha : MA X (e :: es) fa) (hn : ∀ ρ S ds S', fa ρ S = some (ds, S') → ds.length = np)
    (hdb : (x == ("__debug__" : Str)) = false := by decide) (he : starEach (e :: es) X.env = (false, eval e X.env) :: starEach es X.env := by rfl) (hpl : (backTo pos (starEach es X.env)).any (·.1) = false := by rfl) :
    ME X (.Call (.Name x p) (e :: es) [] pos) (mCall F fa) := by
  obtain ⟨f, fd, ps, hm, hk, hb, G, hl⟩ := C.ex
  refine pe_imp (pe_G G hr hg hm hk hb ha hdb he hpl) ?_
  rintro σ H Q ⟨c, ρ, d, S', ⟨rfl, k, en⟩, q, p⟩
  obtain ⟨⟨ds, S1⟩, h1, q⟩ := bd q
  refine ⟨c, ρ, ds, S1, .of k en, h1, fun vs c1 l1 k1 e1 D1 => ?_⟩
  exact ⟨by rw [D1.length]; exact hn _ _ _ _ h1, c1, ds, d, S', rfl, k1, D1, by rw [e1]; exact q, p.mono l1⟩
end
theorem mcons_len {f : EvF} {g : EaF} {n : Nat} (h : ∀ ρ S ds S', g ρ S = some (ds, S') → ds.length = n) : ∀ ρ S ds S', mCons f g ρ S = some (ds, S') → ds.length = n + 1 := by
  intro ρ S ds S' q
  obtain ⟨x, h1, q⟩ := bd q
  obtain ⟨y, h2, q⟩ := mp q
  cases q
  simp [h _ _ _ _ h2]
theorem mnil_len : ∀ ρ S ds S', mNil ρ S = some (ds, S') → ds.length = 0 := by
  intro ρ S ds S' q
  cases q
  rfl

/-! ### what is walked -/
/-- the iterator gives the things ds, wherever one stands behind c -/
def Enum (K : PySem.W.Frag) (mg : Str → Option Value) (c : Cfg) (J : It) (ds : List D) : Prop := ∀ i c1, Lw c c1 → Ok K mg c1 →
  (∀ d, ds[i]? = some d → J.go i c1.H ∧ ∀ x H', J.yld i c1.H x H' → ∃ c2, c2.H = H' ∧ Le c1 c2 ∧ Ok K mg c2 ∧ c2.S = c1.S ∧ Den K mg c2 x d) ∧ (ds.length ≤ i → J.stop i c1.H)
abbrev SrF := En → Sto → Option (List D × Sto)
def tI (K : PySem.W.Frag) (mg : Str → Option Value) (f : SrF) : TI := fun σ H R => ∃ c ρ ds S', At K mg c ρ σ H ∧ f ρ c.S = some (ds, S') ∧ ∀ J c1, Le c c1 → Ok K mg c1 → c1.S = S' → Enum K mg c1 J ds → R J c1.H
abbrev MI (X : Cx) (tg it : Expr) (f : SrF) : Prop := PI X tg it (tI X.K X.mg f)
theorem pi_imp {X : Cx} {a e : Expr} {t t' : TI} (h : PI X a e t) (w : ∀ σ H R, t' σ H R → t σ H R) : PI X a e t' :=
  ⟨fun pins s σ H R I q => h.run pins s σ H R I (w σ H R q)⟩
/-- a list that stays, a tuple -/
def sL (f : EvF) : SrF := fun ρ S => (f ρ S).bind fun x => match x.1 with
  | .lst ds => some (ds, x.2)
  | _ => none
def sT (f : EvF) : SrF := fun ρ S => (f ρ S).bind fun x => match x.1 with
  | .tup ds => some (ds, x.2)
  | _ => none
def upto (n : Nat) : List D := (List.range n).map fun (i : Nat) => D.int (i : Int)
def sR (f : EaF) : SrF := fun ρ S => (f ρ S).bind fun x => match x.1 with
  | [.int n] => if n ≤ 1000000 ∧ -1000000 ≤ n then some (upto n.toNat, x.2) else none
  | _ => none
def sS (f : EvF) : SrF := fun ρ S => (f ρ S).bind fun x => match x.1 with
  | .str z => some (z.cps.toList.map fun c => .str ⟨#[c]⟩, x.2)
  | _ => none
def sZ (f : EaF) : SrF := fun ρ S => (f ρ S).bind fun x => match x.1 with
  | [.tup as, .tup bs] => some (List.zipWith (fun a b => .tup [a, b]) as bs, x.2)
  | _ => none
theorem one_int {α : Type} {g : Int → Option α} {d : α} (x : List D) (k : Unit) (q : (match x with | [.int n] => g n | _ => none) = some d) : ∃ n, x = [.int n] := by
  split at q
  · exact ⟨_, rfl⟩
  · cases q
theorem two_tup {α : Type} {g : List D → List D → Option α} {d : α} (x : List D) (k : Unit) (q : (match x with | [.tup as, .tup bs] => g as bs | _ => none) = some d) : ∃ as bs, x = [.tup as, .tup bs] := by
  split at q
  · exact ⟨_, _, rfl⟩
  · cases q
section
variable {X : Cx} {tg it : Expr} {f : EvF} {fa : EaF}
theorem DenA.getd {K : PySem.W.Frag} {mg : Str → Option Value} {c : Cfg} : ∀ {ds : List D} {vs : List V} {i : Nat} {v : V}, DenA K mg c vs ds → vs[i]? = some v → ∃ d, ds[i]? = some d ∧ Den K mg c v d
  | [], _, _, _, h, e => by cases h; simp at e
  | d :: ds, _, 0, _, h, e => by
    cases h with
    | cons a b => simp at e; subst e; exact ⟨_, rfl, a⟩
  | d :: ds, _, i + 1, _, h, e => by
    cases h with
    | cons a b =>
      obtain ⟨x, h1, h2⟩ := DenA.getd (i := i) b (by simpa using e)
      exact ⟨x, by simpa using h1, h2⟩
theorem enum_l {K : PySem.W.Frag} {mg : Str → Option Value} {c : Cfg} {a : Addr} {vs : List V} {ds : List D} (s : Sl K c a vs) (t : DenA K mg c vs ds) : Enum K mg c (Itl K a) ds := by
  intro i c1 l k
  have s1 := (s.mw l).get
  refine ⟨fun d e => ?_, fun h => ⟨vs, s1, by rw [t.length]; exact h⟩⟩
  obtain ⟨v, h1, h2⟩ := t.get e
  refine ⟨⟨vs, v, s1, h1⟩, ?_⟩
  rintro x H' ⟨rfl, q⟩
  have := q vs s1
  rw [h1] at this
  cases this
  exact ⟨c1, rfl, .refl _, k, rfl, h2.mw l⟩
theorem enum_t {K : PySem.W.Frag} {mg : Str → Option Value} {c : Cfg} {a : Addr} {vs : List V} {ds : List D} (s : Tl K c a vs) (t : DenA K mg c vs ds) : Enum K mg c (Itt K a) ds := by
  intro i c1 l k
  have s1 := (s.mw l).get
  refine ⟨fun d e => ?_, fun h => ⟨vs, s1, by rw [t.length]; exact h⟩⟩
  obtain ⟨v, h1, h2⟩ := t.get e
  refine ⟨⟨vs, v, s1, h1⟩, ?_⟩
  rintro x H' ⟨rfl, q⟩
  have := q vs s1
  rw [h1] at this
  cases this
  exact ⟨c1, rfl, .refl _, k, rfl, h2.mw l⟩
theorem mi_list (h : PI X tg it (iList X.K (tM X.K X.mg f))) : MI X tg it (sL f) := pi_imp h <| by
  rintro σ H R ⟨c, ρ, ds, S', ⟨rfl, k, en⟩, q, p⟩
  obtain ⟨⟨x, S1⟩, h1, q⟩ := bd q
  cases x <;> try (cases q)
  refine ⟨c, ρ, _, _, .of k en, h1, fun v c1 l1 k1 e1 D1 => ?_⟩
  cases D1 with
  | lst s t => exact ⟨_, rfl, ⟨_, s.get⟩, p _ c1 l1 k1 e1 (enum_l (.inl s) t)⟩
theorem mi_tup (h : PI X tg it (iTup X.K (tM X.K X.mg f))) : MI X tg it (sT f) := pi_imp h <| by
  rintro σ H R ⟨c, ρ, ds, S', ⟨rfl, k, en⟩, q, p⟩
  obtain ⟨⟨x, S1⟩, h1, q⟩ := bd q
  cases x <;> try (cases q)
  refine ⟨c, ρ, _, _, .of k en, h1, fun v c1 l1 k1 e1 D1 => ?_⟩
  cases D1 with
  | tup s t => exact ⟨_, rfl, ⟨_, s.get⟩, p _ c1 l1 k1 e1 (enum_t s t)⟩
theorem mi_range (h : PI X tg it (iRng1 (tAs X.K X.mg fa))) : MI X tg it (sR fa) := pi_imp h <| by
  rintro σ H R ⟨c, ρ, ds, S', ⟨rfl, k, en⟩, q, p⟩
  obtain ⟨⟨x, S1⟩, h1, q⟩ := bd q
  obtain ⟨n, rfl⟩ : ∃ n, x = [.int n] := one_int x () q
  have q' : (if n ≤ 1000000 ∧ -1000000 ≤ n then some (upto n.toNat, S1) else none) = some (ds, S') := q
  by_cases z : n ≤ 1000000 ∧ -1000000 ≤ n
  · rw [if_pos z] at q'
    cases q'
    refine ⟨c, ρ, _, _, .of k en, h1, fun vs c1 l1 k1 e1 D1 => ?_⟩
    cases D1 with
    | cons a b =>
      cases b
      cases a
      refine ⟨n, rfl, by omega, by omega, p _ c1 l1 k1 e1 fun i c2 l2 k2 => ⟨fun d e => ?_, fun hl => ?_⟩⟩
      · unfold upto at e
        rw [List.getElem?_map] at e
        obtain ⟨j, e1, e2⟩ := Option.map_eq_some_iff.mp e
        have l := lt_of_get e1
        rw [List.getElem?_range (by simpa using l)] at e1
        cases e1
        subst e2
        refine ⟨by show i < n.toNat; simpa using l, ?_⟩
        rintro x H' ⟨rfl, rfl⟩
        exact ⟨c2, rfl, .refl _, k2, rfl, by rw [Int.zero_add]; exact .int _⟩
      · show n.toNat ≤ i
        have : (upto n.toNat).length = n.toNat := by simp [upto]
        omega
  · rw [if_neg z] at q'
    cases q'
theorem mi_str (h : PI X tg it (iStr (tM X.K X.mg f))) : MI X tg it (sS f) := pi_imp h <| by
  rintro σ H R ⟨c, ρ, ds, S', ⟨rfl, k, en⟩, q, p⟩
  obtain ⟨⟨x, S1⟩, h1, q⟩ := bd q
  cases x <;> try (cases q)
  rename_i z
  refine ⟨c, ρ, _, _, .of k en, h1, fun v c1 l1 k1 e1 D1 => ?_⟩
  cases D1
  refine ⟨z, rfl, p _ c1 l1 k1 e1 fun i c2 l2 k2 => ⟨fun d e => ?_, fun hl => ?_⟩⟩
  · rw [List.getElem?_map] at e
    obtain ⟨j, e1, e2⟩ := Option.map_eq_some_iff.mp e
    subst e2
    rw [Array.getElem?_toList] at e1
    refine ⟨(Array.getElem?_eq_some_iff.mp e1).1, ?_⟩
    rintro x H' ⟨rfl, y, e3, rfl⟩
    rw [e1] at e3
    cases e3
    exact ⟨c2, rfl, .refl _, k2, rfl, .str _⟩
  · show z.cps.size ≤ i
    simpa using hl
theorem zip_get {α β γ : Type} {g : α → β → γ} {as : List α} {bs : List β} {i : Nat} {d : γ} (h : (List.zipWith g as bs)[i]? = some d) : ∃ a b, as[i]? = some a ∧ bs[i]? = some b ∧ d = g a b := by
  rw [List.getElem?_zipWith] at h
  cases e1 : as[i]? with
  | none => rw [e1] at h; cases h
  | some a =>
    cases e2 : bs[i]? with
    | none => rw [e1, e2] at h; cases h
    | some b => rw [e1, e2] at h; cases h; exact ⟨a, b, rfl, rfl, rfl⟩
theorem mi_zip (h : PI X tg it (iZipA X.K (tAs X.K X.mg fa))) : MI X tg it (sZ fa) := pi_imp h <| by
  rintro σ H R ⟨c, ρ, ds, S', ⟨rfl, k, en⟩, q, p⟩
  obtain ⟨⟨x, S1⟩, h1, q⟩ := bd q
  obtain ⟨as, bs, rfl⟩ : ∃ as bs, x = [.tup as, .tup bs] := two_tup x () q
  have q' : some (List.zipWith (fun a b => D.tup [a, b]) as bs, S1) = some (ds, S') := q
  cases q'
  refine ⟨c, ρ, _, _, .of k en, h1, fun vs c1 l1 k1 e1 D1 => ?_⟩
  cases D1 with
  | cons da D1 =>
    cases D1 with
    | cons db D1 =>
      cases D1
      cases da with
      | tup sa ta =>
        cases db with
        | tup sb tb =>
          refine ⟨_, _, _, _, rfl, .inr ⟨sa.get, sb.get, p _ c1 l1 k1 e1 fun i c2 l2 k2 => ?_⟩⟩
          have sa2 := (sa.mw l2).get
          have sb2 := (sb.mw l2).get
          refine ⟨fun d e => ?_, fun hl => ⟨_, _, sa2, sb2, ?_⟩⟩
          · obtain ⟨a, b, g1, g2, rfl⟩ := zip_get e
            obtain ⟨va, h1, ha⟩ := ta.get g1
            obtain ⟨vb, h2, hb⟩ := tb.get g2
            refine ⟨⟨_, _, va, vb, sa2, sb2, h1, h2⟩, ?_⟩
            rintro x H' ⟨T, x, y, rfl, hT, rfl, q1, q2⟩
            have r1 := q1 _ sa2
            have r2 := q2 _ sb2
            rw [h1] at r1
            rw [h2] at r2
            cases r1
            cases r2
            exact ⟨c2.lay T (.tup [va, vb]), rfl, lay_le hT, lay_ok k2 hT, rfl, den_tup k2 hT (.cons (ha.mw l2) (.cons (hb.mw l2) .nil))⟩
          · rw [ta.length, tb.length]
            have := List.length_zipWith (f := fun a b : D => D.tup [a, b]) (l₁ := as) (l₂ := bs)
            rw [this] at hl
            omega
end

/-! ### for -/
def loop (tg : TgF) (g : StF) : List D → StF
  | [], ρ, S => some (.nx ρ, S)
  | d :: ds, ρ, S => (tg ρ d).bind fun ρ1 => (g ρ1 S).bind fun x => match x.1 with
    | .nx ρ' => loop tg g ds ρ' x.2
    | .ct ρ' => loop tg g ds ρ' x.2
    | .bk ρ' => some (.nx ρ', x.2)
    | .rt d => some (.rt d, x.2)
def mFor (sr : SrF) (tg : TgF) (g : StF) : StF := fun ρ S => (sr ρ S).bind fun x => loop tg g x.1 ρ x.2
section
variable {X : Cx} {st : Stmt} {sr : SrF} {tg : TgF} {g : StF}
theorem ms_for (h : PS X st (tFor (tI X.K X.mg sr) (tG X.K X.mg tg) (tS X.K X.mg g))) : MS X st (mFor sr tg g) := ps_imp h <| by
  rintro Dd σ H ⟨c, ρ, o, S', ⟨rfl, k, en⟩, q, p⟩
  obtain ⟨⟨ds, S1⟩, h1, q⟩ := bd q
  refine ⟨c, ρ, ds, S1, .of k en, h1, fun J c1 l1 k1 e1 En => ?_⟩
  let W : Nat → L2.St → Hp → Prop := fun i σ H => ∃ c2 ρ2, At X.K X.mg c2 ρ2 σ H ∧ Le c1 c2 ∧ i ≤ ds.length ∧ loop tg g (ds.drop i) ρ2 c2.S = some (o, S')
  refine ⟨fun i m σ H => m = ds.length - i ∧ W i σ H, ⟨_, rfl, c1, ρ, .of k1 (en.mono l1), .refl _, Nat.zero_le _, by rw [e1]; exact q⟩, ?_⟩
  rintro i m σ' H' ⟨rfl, c2, ρ2, ⟨rfl, k2, en2⟩, l2, hi, q2⟩
  obtain ⟨Eg, Es⟩ := En i c2 l2.lw k2
  by_cases z : i < ds.length
  · right
    have e : ds[i]? = some ds[i] := List.getElem?_eq_getElem z
    obtain ⟨hg, hy⟩ := Eg _ e
    rw [List.drop_eq_getElem_cons z] at q2
    obtain ⟨ρ3, g1, q2⟩ := bd q2
    obtain ⟨⟨x, S3⟩, g2, q2⟩ := bd q2
    refine ⟨hg, W (i + 1), fun σ3 H3 w => ⟨ds.length - (i + 1), by omega, rfl, w⟩, fun v H3 y => ?_⟩
    obtain ⟨c3, rfl, l3, k3, e3, D3⟩ := hy v H3 y
    refine ⟨c3, ρ2, _, ρ3, .of k3 (en2.mono l3), D3, g1, fun σ4 en4 => ?_⟩
    refine ⟨c3, ρ3, x, S3, .of k3 en4, by rw [e3]; exact g2, fun c4 l4 k4 e4 => ?_⟩
    cases x with
    | nx ρ' => exact fun σ5 en5 => ⟨c4, ρ', .of k4 en5, l2.trans (l3.trans l4), z, by rw [e4]; exact q2⟩
    | ct ρ' => exact fun σ5 en5 => ⟨c4, ρ', .of k4 en5, l2.trans (l3.trans l4), z, by rw [e4]; exact q2⟩
    | bk ρ' =>
      cases q2
      exact p c4 (l1.trans (l2.trans (l3.trans l4))) k4 e4
    | rt d =>
      cases q2
      exact p c4 (l1.trans (l2.trans (l3.trans l4))) k4 e4
  · left
    have hl : ds.length ≤ i := by omega
    refine ⟨Es hl, ?_⟩
    rw [List.drop_eq_nil_of_le hl] at q2
    cases q2
    exact p c2 (l1.trans l2) k2 rfl σ' en2
end

/-! ### list comprehensions, one name -/
theorem ob_mw {K : PySem.W.Frag} {mg : Str → Option Value} {c c' : Cfg} (k : Ok K mg c) (e : Lw c c') {p : Addr} {o : Ob} (h : c'.H p = c.H p) (q : ObR K mg c p o) : ObR K mg c' p o := by
  cases o with
  | lst xs =>
    obtain ⟨vs, h1, h2⟩ := q
    exact ⟨vs, h.trans h1, h2.mw e⟩
  | dct xs =>
    obtain ⟨vs, h1, h2⟩ := q
    exact ⟨vs, h.trans h1, h2.mw e⟩
  | ins cn fs =>
    obtain ⟨C, dx, vs, h0, h1, h3, h2⟩ := q
    exact ⟨C, dx, vs, h0, h.trans h1, (e.nB dx _ (k.nBo h3 rfl) h3).1, h2.mw e⟩

def mapL (te : EvF) (tt : EtF) (j : Nat) (ρ : En) : List D → Sto → Option (List D × Sto)
  | [], S => some ([], S)
  | d :: ds, S => (tt (ρ.set j (some d)) S).bind fun b => if b.1 = true then
      (te (ρ.set j (some d)) b.2).bind fun y => (mapL te tt j ρ ds y.2).map fun r => (y.1 :: r.1, r.2)
    else mapL te tt j ρ ds b.2
def mLc (sr : SrF) (j : Nat) (tt : EtF) (te : EvF) : EvF := fun ρ S => (sr ρ S).bind fun x => (mapL te tt j (ρ.set j none) x.1 x.2).bind fun r => if r.1.length ≤ 100000 then some (.lst r.1, r.2) else none
def mYes : EtF := fun _ S => some (true, S)
theorem yes_go {K : PySem.W.Frag} {mg : Str → Option Value} {σ : L2.St} {H : Hp} {Q : Bool → Hp → Prop} (h : tT K mg mYes σ H Q) : tYes σ H Q := by
  obtain ⟨c, ρ, d, S', ⟨rfl, k, en⟩, q, p⟩ := h
  cases q
  exact p c (.refl c) k rfl
section
variable {X : Cx} {e : Expr} {sr : SrF} {tt : EtF} {te : EvF} {j : Nat}
theorem wipe_one (σ : L2.St) (j : Nat) (x : V) : wipe ((wipe σ [j]).set j (some x)) [j] = wipe σ [j] := by
  show (((σ.set j none).set j (some x)).set j none) = σ.set j none
  rw [List.set_set, List.set_set]
theorem lc_go {σ : L2.St} {H : Hp} {Q : VK} (h : tM X.K X.mg (mLc sr j tt te) σ H Q) : tLc (tI X.K X.mg sr) (gName j) (tT X.K X.mg tt) (tM X.K X.mg te) [j] σ H Q := by
  obtain ⟨c, ρ, d, S', ⟨rfl, k, en⟩, q, p⟩ := h
  obtain ⟨⟨ds, S1⟩, h1, q⟩ := bd q
  obtain ⟨⟨rs, S2⟩, h2, q⟩ := bd q
  have hz : rs.length ≤ 100000 := by
    by_cases z : rs.length ≤ 100000
    · exact z
    · rw [if_neg z] at q; cases q
  rw [if_pos hz] at q
  cases q
  refine ⟨c, ρ, ds, S1, .of k en, h1, fun J c1 l1 k1 e1 En Dl hD => ?_⟩
  let ρ0 := ρ.set j none
  -- the configuration while the list grows: Dl is shut out
  let W : Nat → Hp → Prop := fun i H => ∃ (c2 : Cfg) (acc : List V) (as bs : List D), c2.H = H ∧ Ok X.K X.mg c2 ∧ Lw c1 c2 ∧ (∀ a o, ¬ c1.Rg a → c1.H a = some o → c2.H a = some o ∧ ¬ c2.Rg a) ∧ c2.T = (fun a => c1.T a ∨ a = Dl) ∧
    c2.H Dl = some (.lst acc) ∧ DenA X.K X.mg c2 acc as ∧ i ≤ ds.length ∧ mapL te tt j ρ0 (ds.drop i) c2.S = some (bs, S2) ∧ as ++ bs = rs
  have c1n : ¬ c1.Rg Dl := fun q => ok_some k1 q hD
  refine ⟨fun i m H => m = ds.length - i ∧ W i H, ⟨_, rfl, { c1 with H := upd c1.H Dl (.lst []), T := fun a => c1.T a ∨ a = Dl }, [], [], rs, rfl, ?_, ?_, ?_, rfl, upd_same, .nil, Nat.zero_le _, by rw [← e1] at h2; exact h2, rfl⟩, ?_⟩
  · have lw : Lw c1 { c1 with H := upd c1.H Dl (.lst []), T := fun a => c1.T a ∨ a = Dl } := ⟨Nat.le_refl _, fun _ _ => rfl, fun a o n e => ⟨by show upd c1.H Dl _ a = _; rw [upd_ne (ne_of_none e hD)]; exact e, fun q => q.elim (fun q => n (.inl q)) fun q => q.elim (fun q => n (.inr q)) fun q => ne_of_none e hD q⟩⟩
    refine ⟨fun i xs q => ?_, k1.inj, fun a t => ?_⟩
    · obtain ⟨u, q1, _⟩ := rg_mu k1 ⟨i, lt_of_get q, rfl⟩
      exact ob_mw k1 lw (upd_ne (ne_of_none q1 hD)) (k1.at_ i xs q)
    · rcases t with t | t
      · obtain ⟨n, xs, e⟩ := k1.nT a t
        exact ⟨n, xs, (upd_ne (ne_of_none e hD)).trans e⟩
      · rw [t]
        exact ⟨c1n, [], upd_same⟩
  · exact ⟨Nat.le_refl _, fun _ _ => rfl, fun a o n e => ⟨by show upd c1.H Dl _ a = _; rw [upd_ne (ne_of_none e hD)]; exact e, fun q => q.elim (fun q => n (.inl q)) fun q => q.elim (fun q => n (.inr q)) fun q => ne_of_none e hD q⟩⟩
  · exact fun a o n e => ⟨by show upd c1.H Dl _ a = _; rw [upd_ne (ne_of_none e hD)]; exact e, n⟩
  rintro i m H' ⟨rfl, c2, acc, as, bs, rfl, k2, lw, kp, hT, hDl, Da, hi, q2, hr⟩
  have nD : ¬ c2.Rg Dl := (k2.nT Dl (by rw [hT]; exact .inr rfl)).1
  obtain ⟨Eg, Es⟩ := En i c2 lw k2
  by_cases z : i < ds.length
  · right
    have e : ds[i]? = some ds[i] := List.getElem?_eq_getElem z
    obtain ⟨hg, hy⟩ := Eg _ e
    rw [List.drop_eq_getElem_cons z] at q2
    obtain ⟨⟨b, S3⟩, g1, q2⟩ := bd q2
    refine ⟨hg, W (i + 1), fun H3 w => ⟨ds.length - (i + 1), by omega, rfl, w⟩, fun v H3 y => ?_⟩
    obtain ⟨c3, rfl, l3, k3, e3, D3⟩ := hy v H3 y
    refine ⟨wipe_one σ j v, ?_⟩
    have en0 : EnD X.K X.mg c2 (wipe σ [j]) ρ0 := (EnD.mw ((l1.lw).trans lw) en).wipe [j]
    have en3 : EnD X.K X.mg c3 ((wipe σ [j]).set j (some v)) (ρ0.set j (some ds[i])) := (en0.mono l3).set D3
    refine ⟨c3, _, b, S3, .of k3 en3, by rw [e3]; exact g1, fun c4 l4 k4 e4 => ?_⟩
    have l24 : Le c2 c4 := l3.trans l4
    cases b with
    | false =>
      have q2 : mapL te tt j ρ0 (ds.drop (i + 1)) S3 = some (bs, S2) := q2
      refine ⟨c4, acc, as, bs, rfl, k4, lw.trans l24.lw, fun a o n e => ?_, l24.T.trans hT, (l24.keep Dl _ nD hDl).1, Da.mono l24, z, by rw [e4]; exact q2, hr⟩
      obtain ⟨a1, a2⟩ := kp a o n e
      exact l24.keep a o a2 a1
    | true =>
      obtain ⟨⟨y, S4⟩, g2, q2⟩ := bd q2
      obtain ⟨⟨ys, S5⟩, g3, q2⟩ := mp q2
      cases q2
      refine ⟨c4, _, y, S4, .of k4 (en3.mono l4), by rw [e4]; exact g2, fun u c5 l5 k5 e5 D5 => ?_⟩
      have l25 : Le c2 c5 := l24.trans l5
      obtain ⟨hDl5, nD5⟩ := l25.keep Dl _ nD hDl
      have hlen : acc.length < sizeLine := by
        have : as.length ≤ rs.length := by rw [← hr]; simp
        rw [Da.length]
        exact Nat.lt_of_le_of_lt (Nat.le_trans this hz) (by decide)
      refine ⟨acc, hDl5, hlen, ?_⟩
      have lw6 : Lw c5 { c5 with H := upd c5.H Dl (.lst (acc ++ [u])) } := ⟨Nat.le_refl _, fun _ _ => rfl, fun a o n e => ⟨(upd_ne (fun q => n (.inr (by rw [l25.T, hT]; exact .inr q)))).trans e, n⟩⟩
      refine ⟨{ c5 with H := upd c5.H Dl (.lst (acc ++ [u])) }, acc ++ [u], as ++ [y], ys, rfl, ?_, (lw.trans l25.lw).trans lw6, fun a o n e => ?_, l25.T.trans hT, upd_same, ((Da.mono l25).mw lw6).app (.cons (D5.mw lw6) .nil), z, by show mapL te tt j ρ0 _ c5.S = _; rw [e5]; exact g3, by rw [List.append_assoc]; exact hr⟩
      · refine ⟨fun i xs q => ?_, k5.inj, fun a t => ⟨(k5.nT a t).1, ?_⟩⟩
        · exact ob_mw k5 lw6 (upd_ne (fun q' => nD5 ⟨i, lt_of_get q, q'⟩)) (k5.at_ i xs q)
        · by_cases z : a = Dl
          · rw [z]; exact ⟨_, upd_same⟩
          · obtain ⟨_, xs, e⟩ := k5.nT a t
            exact ⟨xs, (upd_ne z).trans e⟩
      · have ne : a ≠ Dl := fun q => by rw [q, hD] at e; cases e
        obtain ⟨a1, a2⟩ := kp a o n e
        obtain ⟨b1, b2⟩ := l25.keep a o a2 a1
        exact ⟨(upd_ne ne).trans b1, b2⟩
  · left
    have hl : ds.length ≤ i := by omega
    refine ⟨Es hl, ?_⟩
    rw [List.drop_eq_nil_of_le hl] at q2
    cases q2
    rw [List.append_nil] at hr
    subst hr
    -- Dl is let in again
    have lw7 : Lw c2 { c2 with T := c1.T } := ⟨Nat.le_refl _, fun _ _ => rfl, fun a o n e => ⟨e, fun q => q.elim (fun q => n (.inl q)) fun q => n (.inr (by rw [hT]; exact .inl q))⟩⟩
    have nT1 : ¬ c1.T Dl := fun t => by
      obtain ⟨_, xs, e⟩ := k1.nT Dl t
      rw [hD] at e; cases e
    refine p _ { c2 with T := c1.T } ?_ ?_ rfl (.lst ⟨fun q => q.elim nD nT1, .inl hDl⟩ (Da.mw lw7))
    · exact ⟨Nat.le_trans l1.len lw.len, fun j h => (lw.pi j (Nat.lt_of_lt_of_le h l1.len)).trans (l1.pi j h), fun a o n e => let ⟨x1, x2⟩ := l1.keep a o n e; kp a o x2 x1, l1.T⟩
    · refine ⟨fun i xs q => ob_mw k2 lw7 rfl (k2.at_ i xs q), k2.inj, fun a t => k2.nT a (by rw [hT]; exact .inl t)⟩
theorem me_lc (h : PE X e (tLc (tI X.K X.mg sr) (gName j) (tT X.K X.mg tt) (tM X.K X.mg te) [j])) : ME X e (mLc sr j tt te) := pe_imp h fun _ _ _ => lc_go
theorem ms_setLc {st : Stmt} {i : Nat} (h : PS X st (tAsg (tLc (tI X.K X.mg sr) (gName j) (tT X.K X.mg tt) (tM X.K X.mg te) [j]) (gName i))) : MS X st (mAsg (mLc sr j tt te) (gN i)) := ps_imp h <| by
  rintro Dd σ H ⟨c, ρ, o, S', ⟨rfl, k, en⟩, q, p⟩
  obtain ⟨x, h1, q1⟩ := bd q
  obtain ⟨ρ', h2, q2⟩ := mp q1
  cases q2
  cases h2
  exact lc_go ⟨c, ρ, x.1, x.2, .of k en, h1, fun v c1 l1 k1 e1 D1 => p c1 l1 k1 e1 _ ((en.mono l1).set D1)⟩
theorem mts_nil : PTs X [] (tT X.K X.mg mYes) := ⟨fun pins s σ H Q I h => (pts_nil (X := X)).run pins s σ H Q I (yes_go h)⟩
end
end M

namespace M
open PySem PySem.Spec L2 W2 RZ

/-! ### operations -/
def addD : D → D → Option D
  | .int a, .int b => some (.int (a + b))
  | .str a, .str b => if a.length + b.length ≤ 1000000 then some (.str (a ++ b)) else none
  | .tup a, .tup b => if a.length + b.length ≤ 100000 then some (.tup (a ++ b)) else none
  | .lst a, .lst b => if a.length + b.length ≤ 100000 then some (.lst (a ++ b)) else none
  | _, _ => none
def subD : D → D → Option D
  | .int a, .int b => some (.int (a - b))
  | _, _ => none
def smul (x : Str) (n : Nat) : Str := ⟨(List.replicate n x.cps).foldl (· ++ ·) #[]⟩
theorem foldl_app_size (x : Array Nat) : ∀ (l : List (Array Nat)) (a : Array Nat), (∀ y ∈ l, y = x) → (l.foldl (· ++ ·) a).size = a.size + l.length * x.size
  | [], a, _ => by simp
  | y :: l, a, h => by
    have e : y = x := h y List.mem_cons_self
    have ih := foldl_app_size x l (a ++ y) fun z hz => h z (List.mem_cons_of_mem _ hz)
    rw [List.foldl_cons, ih, Array.size_append, e, List.length_cons, Nat.add_mul]
    omega
theorem smul_len (x : Str) (n : Nat) : (smul x n).length = n * x.length := by
  show ((List.replicate n x.cps).foldl (· ++ ·) #[]).size = _
  rw [foldl_app_size x.cps _ _ fun y hy => (List.mem_replicate.mp hy).2]
  simp [Str.length]
def mulD : D → D → Option D
  | .int a, .int b => if a.natAbs < 2 ^ 63 ∨ b.natAbs < 2 ^ 63 then some (.int (a * b)) else none
  | .str a, .int b => if 1 ≤ b ∧ b ≤ 1000000 ∧ a.length * b.toNat ≤ 1000000 then some (.str (if b = 1 ∨ a.length = 0 then a else smul a b.toNat)) else if b ≤ 0 ∧ -1000000 ≤ b then some (.str Str.empty) else none
  | _, _ => none
def modD : D → D → Option D
  | .int a, .int b => if 0 < b then some (.int (a % b)) else none
  | _, _ => none
def fdvD : D → D → Option D
  | .int a, .int b => if 0 < b ∧ b < 1073741824 then some (.int (a / b)) else none
  | _, _ => none
def powD : D → D → Option D
  | .int a, .int b => if 0 ≤ b ∧ b ≤ 1000000 ∧ a.natAbs < 2 ^ 64 then some (.int (a ^ b.toNat)) else none
  | _, _ => none
def ltD : D → D → Option D
  | .int a, .int b => some (.bl (decide (a < b)))
  | .str a, .str b => some (.bl (decide (a.cps.toList < b.cps.toList)))
  | _, _ => none
def leD : D → D → Option D
  | .int a, .int b => some (.bl (decide (a ≤ b)))
  | _, _ => none
def gtD : D → D → Option D
  | .int a, .int b => some (.bl (decide (b < a)))
  | .str a, .str b => some (.bl (decide (b.cps.toList < a.cps.toList)))
  | _, _ => none
def geD : D → D → Option D
  | .int a, .int b => some (.bl (decide (b ≤ a)))
  | _, _ => none
def isD : D → D → Option D
  | .bl a, .bl b => some (.bl (decide (a = b)))
  | .non, .non => some (.bl true)
  | .ref _, .non => some (.bl false)
  | .fn _, .non => some (.bl false)
  | .ty _, .non => some (.bl false)
  | .bl _, .non => some (.bl false)
  | .int _, .non => some (.bl false)
  | .str _, .non => some (.bl false)
  | .lst _, .non => some (.bl false)
  | .tup _, .non => some (.bl false)
  | .dct _, .non => some (.bl false)
  | .seq _, .non => some (.bl false)
  | .cls _, .non => some (.bl false)
  | .err _ _, .non => some (.bl false)
  | _, _ => none
def isntD (a b : D) : Option D := match isD a b with
  | some (.bl x) => some (.bl (!x))
  | _ => none
/-- one sign in a text -/
def inD : D → D → Option D
  | .str a, .str b => if a.cps.size = 1 then some (.bl (decide (a.cps.getD 0 0 ∈ b.cps.toList))) else none
  | _, _ => none
def ninD (a b : D) : Option D := match inD a b with
  | some (.bl x) => some (.bl (!x))
  | _ => none
/-! to the library's data, without dicts -/
mutual
def toP : D → Option PyData
  | .non => some .none
  | .bl b => some (.bool b)
  | .int i => some (.int i)
  | .str x => some (.str x)
  | .lst ds => (toPA ds).map .list
  | .tup ds => (toPA ds).map .tuple
  | .dct _ => none
  | .ref _ => none
  | .fn _ => none
  | .ty _ => none
  | .seq _ => none
  | .cls _ => none
  | .err _ _ => none
def toPA : List D → Option (List PyData)
  | [] => some []
  | d :: ds => (toP d).bind fun x => (toPA ds).map fun r => x :: r
end
def eqD0 (a b : D) : Option D := match toP a, toP b with
  | some x, some y => if SeqAt.shaped x = true ∧ SeqAt.shaped y = true then some (.bl (PyData.eqv x y)) else none
  | _, _ => none
def eqD (a b : D) : Option D := match a, b with
  | .str x, .str y => some (.bl (decide (x = y)))
  | .int x, .int y => some (.bl (decide (x = y)))
  | a, b => eqD0 a b
def neD (a b : D) : Option D := match eqD a b with
  | some (.bl x) => some (.bl (!x))
  | _ => none

section
variable {X : Cx}
mutual
theorem den_dp {K : PySem.W.Frag} {mg : Str → Option Value} {c : Cfg} : ∀ {d : D} {v : V} {x : PyData}, Den K mg c v d → toP d = some x → Dp K c.H v x
  | .non, _, _, h, e => by cases h; cases e; exact .non
  | .bl b, _, _, h, e => by cases h; cases e; exact .bl b
  | .int b, _, _, h, e => by cases h; cases e; exact .int b
  | .str b, _, _, h, e => by cases h; cases e; exact .str b
  | .lst ds, _, _, h, e => by
    cases h with
    | lst s t =>
      rw [toP] at e
      obtain ⟨xs, e1, rfl⟩ := mp e
      exact .lst s.get (den_dpA t e1)
  | .tup ds, _, _, h, e => by
    cases h with
    | tup s t =>
      rw [toP] at e
      obtain ⟨xs, e1, rfl⟩ := mp e
      exact .tup s.get (den_dpA t e1)
  | .dct _, _, _, _, e => by rw [toP] at e; cases e
  | .ref _, _, _, _, e => by rw [toP] at e; cases e
  | .fn _, _, _, _, e => by rw [toP] at e; cases e
  | .ty _, _, _, _, e => by rw [toP] at e; cases e
  | .seq _, _, _, _, e => by rw [toP] at e; cases e
  | .cls _, _, _, _, e => by rw [toP] at e; cases e
  | .err _ _, _, _, _, e => by rw [toP] at e; cases e
theorem den_dpA {K : PySem.W.Frag} {mg : Str → Option Value} {c : Cfg} : ∀ {ds : List D} {vs : List V} {xs : List PyData}, DenA K mg c vs ds → toPA ds = some xs → DpAll K c.H vs xs
  | [], _, _, h, e => by cases h; rw [toPA] at e; cases e; exact .nil
  | d :: ds, _, _, h, e => by
    cases h with
    | cons a b =>
      rw [toPA] at e
      obtain ⟨x, e1, e⟩ := bd e
      obtain ⟨xs, e2, rfl⟩ := mp e
      exact .cons (den_dp a e1) (den_dpA b e2)
end
theorem od_add : OpD X (binaryOp .Add) addD := by
  rintro pins s σ H x y v u Q I rx ry ⟨c, a, b, z, rfl, k, Da, Db, e, P⟩
  cases a <;> cases b <;> try (cases e)
  · cases Da; cases Db
    exact op_add pins s σ _ _ _ v u Q I rx ry ⟨_, _, rfl, rfl, P.here k (.int _)⟩
  · rename_i i j
    cases Da; cases Db
    have e' : (if i.length + j.length ≤ 1000000 then some (D.str (i ++ j)) else none) = some z := e
    by_cases l : i.length + j.length ≤ 1000000
    · rw [if_pos l] at e'; cases e'
      exact op_add_str pins s σ _ _ _ v u Q I rx ry ⟨_, _, rfl, rfl, Nat.le_trans l (by decide), P.here k (.str _)⟩
    · rw [if_neg l] at e'; cases e'
  · rename_i i j
    have e' : (if i.length + j.length ≤ 100000 then some (D.lst (i ++ j)) else none) = some z := e
    by_cases l : i.length + j.length ≤ 100000
    · rw [if_pos l] at e'; cases e'
      cases Da with
      | lst s1 t1 =>
        cases Db with
        | lst s2 t2 =>
          obtain ⟨z1, its, n, r, g⟩ := s1.2.ok I.hok
          obtain ⟨z2, its2, n2, r2, g2⟩ := s2.2.ok I.hok
          cases rx
          cases ry
          have q1 := r.length
          have q2 := r2.length
          have q3 := t1.length
          have q4 := t2.length
          refine PySem.P.add_list g g2 ?_ (by rw [List.size_toArray, List.size_toArray, sizeLine_eq]; omega)
          rw [show its.toArray ++ its2.toArray = (its ++ its2).toArray by simp]
          exact ⟨.ref _, _, I.lnew (t' := s.toks) (r.append r2) (by rw [List.length_append, sizeLine_eq]; omega), rfl, post_lst P k (t1.app t2) _ I.fresh⟩
    · rw [if_neg l] at e'; cases e'
  · rename_i i j
    have e' : (if i.length + j.length ≤ 100000 then some (D.tup (i ++ j)) else none) = some z := e
    by_cases l : i.length + j.length ≤ 100000
    · rw [if_pos l] at e'; cases e'
      cases Da with
      | tup s1 t1 =>
        cases Db with
        | tup s2 t2 =>
          refine op_catA pins s σ _ _ _ v u Q I rx ry ⟨_, _, _, _, rfl, rfl, s1.get, s2.get, by rw [t1.length, t2.length]; exact sz5 l, fun q => ?_, fun q1 q2 => ?_, fun q1 q2 => ?_⟩
          · have : i = [] := by have := t1.length; rw [q] at this; exact List.length_eq_zero_iff.mp this.symm
            subst this
            exact P.here k (.tup s2 t2)
          · have : j = [] := by have := t2.length; rw [q2] at this; exact List.length_eq_zero_iff.mp this.symm
            subst this
            rw [List.append_nil] at P
            exact P.here k (.tup s1 t1)
          · exact post_tup P k (t1.app t2)
    · rw [if_neg l] at e'; cases e'
theorem od_sub : OpD X (binaryOp .Sub) subD := by
  rintro pins s σ H x y v u Q I rx ry ⟨c, a, b, z, rfl, k, Da, Db, e, P⟩
  cases a <;> cases b <;> try (cases e)
  cases Da; cases Db
  exact op_sub pins s σ _ _ _ v u Q I rx ry ⟨_, _, rfl, rfl, P.here k (.int _)⟩
theorem od_mod : OpD X (binaryOp .Mod) modD := by
  rintro pins s σ H x y v u Q I rx ry ⟨c, a, b, z, rfl, k, Da, Db, e, P⟩
  cases a <;> cases b <;> try (cases e)
  rename_i i j
  cases Da; cases Db
  have e' : (if 0 < j then some (D.int (i % j)) else none) = some z := e
  by_cases l : 0 < j
  · rw [if_pos l] at e'; cases e'
    exact op_mod pins s σ _ _ _ v u Q I rx ry ⟨_, _, rfl, rfl, l, P.here k (.int _)⟩
  · rw [if_neg l] at e'; cases e'
theorem od_fdv : OpD X (binaryOp .FloorDiv) fdvD := by
  rintro pins s σ H x y v u Q I rx ry ⟨c, a, b, z, rfl, k, Da, Db, e, P⟩
  cases a <;> cases b <;> try (cases e)
  rename_i i j
  cases Da; cases Db
  have e' : (if 0 < j ∧ j < 1073741824 then some (D.int (i / j)) else none) = some z := e
  by_cases l : 0 < j ∧ j < 1073741824
  · rw [if_pos l] at e'; cases e'
    exact op_fdiv pins s σ _ _ _ v u Q I rx ry ⟨_, _, rfl, rfl, l, P.here k (.int _)⟩
  · rw [if_neg l] at e'; cases e'
theorem od_pow : OpD X (binaryOp .Pow) powD := by
  rintro pins s σ H x y v u Q I rx ry ⟨c, a, b, z, rfl, k, Da, Db, e, P⟩
  cases a <;> cases b <;> try (cases e)
  rename_i i j
  cases Da; cases Db
  have e' : (if 0 ≤ j ∧ j ≤ 1000000 ∧ i.natAbs < 2 ^ 64 then some (D.int (i ^ j.toNat)) else none) = some z := e
  by_cases l : 0 ≤ j ∧ j ≤ 1000000 ∧ i.natAbs < 2 ^ 64
  · rw [if_pos l] at e'; cases e'
    exact op_pow pins s σ _ _ _ v u Q I rx ry ⟨_, _, rfl, rfl, l, P.here k (.int _)⟩
  · rw [if_neg l] at e'; cases e'
theorem od_mul : OpD X (binaryOp .Mult) mulD := by
  rintro pins s σ H x y v u Q I rx ry ⟨c, a, b, z, rfl, k, Da, Db, e, P⟩
  cases a <;> cases b <;> try (cases e)
  · rename_i i j
    cases Da; cases Db
    have e' : (if i.natAbs < 2 ^ 63 ∨ j.natAbs < 2 ^ 63 then some (D.int (i * j)) else none) = some z := e
    by_cases l : i.natAbs < 2 ^ 63 ∨ j.natAbs < 2 ^ 63
    · rw [if_pos l] at e'; cases e'
      refine op_mul pins s σ _ _ _ v u Q I rx ry ⟨_, _, rfl, rfl, ?_, P.here k (.int _)⟩
      unfold CMul
      omega
    · rw [if_neg l] at e'; cases e'
  · rename_i a b
    cases Da; cases Db
    obtain ⟨t, rfl⟩ := (show ∃ t, v = Value.str a t from rx)
    obtain ⟨t', rfl⟩ := (show ∃ t, u = Value.int b t from ry)
    have e' : (if 1 ≤ b ∧ b ≤ 1000000 ∧ a.length * b.toNat ≤ 1000000 then some (D.str (if b = 1 ∨ a.length = 0 then a else smul a b.toNat)) else if b ≤ 0 ∧ -1000000 ≤ b then some (D.str Str.empty) else none) = some z := e
    by_cases l : 1 ≤ b ∧ b ≤ 1000000 ∧ a.length * b.toNat ≤ 1000000
    · rw [if_pos l] at e'; cases e'
      have h1 : (decide (b < -(2 ^ 63 : Int)) || decide (b ≥ 2 ^ 63)) = false := by
        rw [decide_eq_false (by omega), decide_eq_false (by omega)]; rfl
      have hb0 : ¬ b < 1 := by omega
      have hbn : ((b.toNat : Nat) : Int) = b := by omega
      refine PySem.P.mul_str h1 (fun _ q => ?_) (fun _ q => ?_) ?_
      · have : (a.length : Int) ≤ (2 ^ 63 - 1) / b := by
          rw [Int.le_ediv_iff_mul_le (by omega)]
          have h2 : ((a.length * b.toNat : Nat) : Int) ≤ 1000000 := by omega
          rw [Int.natCast_mul, hbn] at h2
          omega
        omega
      · have : ¬ a.length * b.toNat > sizeLine := by rw [sizeLine_eq]; omega
        exact decide_eq_false this
      · rw [if_neg hb0]
        by_cases q : b = 1 ∨ a.length = 0
        · have q' : (b == 1 || a.length == 0) = true := by simpa using q
          rw [if_pos q']
          rw [if_pos q] at P
          exact ⟨.str a, c.H, I, ⟨_, rfl⟩, P.here k (.str _)⟩
        · have q' : ¬ (b == 1 || a.length == 0) = true := by simpa using q
          rw [if_neg q']
          rw [if_neg q] at P
          refine ⟨?_, .str _, c.H, I.tok _, ⟨_, rfl⟩, P.here k (.str _)⟩
          show (smul a b.toNat).length ≤ sizeLine
          rw [smul_len, sizeLine_eq]
          have := l.2.2
          rw [Nat.mul_comm] at this
          omega
    · rw [if_neg l] at e'
      by_cases l2 : b ≤ 0 ∧ -1000000 ≤ b
      · rw [if_pos l2] at e'; cases e'
        exact PySem.P.mul_str_none (by omega) (by omega) ⟨.str _, c.H, I.tok _, ⟨_, rfl⟩, P.here k (.str _)⟩
      · rw [if_neg l2] at e'; cases e'
end
end M

namespace M
open PySem PySem.Spec L2 W2 RZ

section
variable {X : Cx}
theorem od_lt : OpD X (compareOp .Lt) ltD := by
  rintro pins s σ H x y v u Q I rx ry ⟨c, a, b, z, rfl, k, Da, Db, e, P⟩
  cases a <;> cases b <;> try (cases e)
  · cases Da; cases Db
    exact op_lt pins s σ _ _ _ v u Q I rx ry ⟨_, _, rfl, rfl, P.here k (.bl _)⟩
  · cases Da; cases Db
    exact op_lt_str pins s σ _ _ _ v u Q I rx ry ⟨_, _, rfl, rfl, P.here k (.bl _)⟩
theorem od_le : OpD X (compareOp .LtE) leD := by
  rintro pins s σ H x y v u Q I rx ry ⟨c, a, b, z, rfl, k, Da, Db, e, P⟩
  cases a <;> cases b <;> try (cases e)
  cases Da; cases Db
  exact op_le pins s σ _ _ _ v u Q I rx ry ⟨_, _, rfl, rfl, P.here k (.bl _)⟩
theorem od_gt : OpD X (compareOp .Gt) gtD := by
  rintro pins s σ H x y v u Q I rx ry ⟨c, a, b, z, rfl, k, Da, Db, e, P⟩
  cases a <;> cases b <;> try (cases e)
  · cases Da; cases Db
    exact op_gt pins s σ _ _ _ v u Q I rx ry ⟨_, _, rfl, rfl, P.here k (.bl _)⟩
  · cases Da; cases Db
    exact op_gt_str pins s σ _ _ _ v u Q I rx ry ⟨_, _, rfl, rfl, P.here k (.bl _)⟩
theorem od_ge : OpD X (compareOp .GtE) geD := by
  rintro pins s σ H x y v u Q I rx ry ⟨c, a, b, z, rfl, k, Da, Db, e, P⟩
  cases a <;> cases b <;> try (cases e)
  cases Da; cases Db
  exact op_ge pins s σ _ _ _ v u Q I rx ry ⟨_, _, rfl, rfl, P.here k (.bl _)⟩
theorem od_is : OpD X (compareOp .Is) isD := by
  rintro pins s σ H x y v u Q I rx ry ⟨c, a, b, z, rfl, k, Da, Db, e, P⟩
  cases a <;> cases b <;> first | (cases e; done) | skip
  all_goals cases Db
  all_goals cases e
  all_goals cases Da
  all_goals first
    | exact op_isBl pins s σ _ _ _ v u Q I rx ry ⟨_, _, rfl, rfl, P.here k (.bl _)⟩
    | exact op_isN pins s σ _ _ _ v u Q I rx ry ⟨rfl, P.here k (.bl _)⟩
theorem od_isnt : OpD X (compareOp .IsNot) isntD := by
  rintro pins s σ H x y v u Q I rx ry ⟨c, a, b, z, rfl, k, Da, Db, e, P⟩
  cases a <;> cases b <;> first | (cases e; done) | skip
  all_goals cases Db
  all_goals cases e
  all_goals cases Da
  all_goals first
    | exact op_notBl pins s σ _ _ _ v u Q I rx ry ⟨_, _, rfl, rfl, P.here k (.bl _)⟩
    | exact op_notN pins s σ _ _ _ v u Q I rx ry ⟨rfl, P.here k (.bl _)⟩
theorem one_sign {a : Str} (h : a.cps.size = 1) : a = ⟨#[a.cps.getD 0 0]⟩ := by
  obtain ⟨⟨l⟩⟩ := a
  match l, h with
  | [x], _ => rfl
theorem od_in : OpD X (compareOp .In) inD := by
  rintro pins s σ H x y v u Q I rx ry ⟨c, a, b, z, rfl, k, Da, Db, e, P⟩
  cases a <;> cases b <;> try (cases e)
  rename_i a b
  cases Da; cases Db
  have e' : (if a.cps.size = 1 then some (D.bl (decide (a.cps.getD 0 0 ∈ b.cps.toList))) else none) = some z := e
  by_cases l : a.cps.size = 1
  · rw [if_pos l] at e'; cases e'
    exact op_in_sign pins s σ _ _ _ v u Q I rx ry ⟨a.cps.getD 0 0, b, by rw [← one_sign l], rfl, P.here k (.bl _)⟩
  · rw [if_neg l] at e'; cases e'
theorem od_nin : OpD X (compareOp .NotIn) ninD := by
  rintro pins s σ H x y v u Q I rx ry ⟨c, a, b, z, rfl, k, Da, Db, e, P⟩
  unfold ninD at e
  cases a <;> cases b <;> try (cases e)
  rename_i a b
  cases Da; cases Db
  have e0 : inD (.str a) (.str b) = if a.cps.size = 1 then some (D.bl (decide (a.cps.getD 0 0 ∈ b.cps.toList))) else none := rfl
  rw [e0] at e
  by_cases l : a.cps.size = 1
  · rw [if_pos l] at e; cases e
    exact op_notIn_sign pins s σ _ _ _ v u Q I rx ry ⟨a.cps.getD 0 0, b, by rw [← one_sign l], rfl, P.here k (.bl _)⟩
  · rw [if_neg l] at e; cases e
theorem od_eq (hr : Rg X.A) : OpD X (compareOp .Eq) eqD := by
  rintro pins s σ H x y v u Q I rx ry ⟨c, a, b, z, rfl, k, Da, Db, e, P⟩
  unfold eqD at e
  split at e
  · cases Da; cases Db; cases e
    rename_i p q
    exact op_eq pins s σ _ _ _ v u Q I rx ry ⟨rfl, by rw [show decide (V.str p = V.str q) = decide (p = q) from decide_eq_decide.mpr ⟨fun h => V.str.inj h, fun h => by rw [h]⟩]; exact P.here k (.bl _)⟩
  · cases Da; cases Db; cases e
    rename_i p q
    exact op_eq pins s σ _ _ _ v u Q I rx ry ⟨rfl, by rw [show decide (V.int p = V.int q) = decide (p = q) from decide_eq_decide.mpr ⟨fun h => V.int.inj h, fun h => by rw [h]⟩]; exact P.here k (.bl _)⟩
  · unfold eqD0 at e
    split at e
    · rename_i p q h1 h2
      by_cases l : SeqAt.shaped p = true ∧ SeqAt.shaped q = true
      · rw [if_pos l] at e; cases e
        exact op_eqD hr.units pins s σ _ _ _ v u Q I rx ry ⟨_, _, den_dp Da h1, den_dp Db h2, l.1, l.2, P.here k (.bl _)⟩
      · rw [if_neg l] at e; cases e
    · cases e
theorem od_ne (hr : Rg X.A) : OpD X (compareOp .NotEq) neD := by
  rintro pins s σ H x y v u Q I rx ry ⟨c, a, b, z, rfl, k, Da, Db, e, P⟩
  unfold neD eqD at e
  split at e
  · rename_i t h0
    split at h0
    · cases Da; cases Db; cases h0; cases e
      rename_i p q
      exact op_ne pins s σ _ _ _ v u Q I rx ry ⟨rfl, by rw [show decide (V.str p = V.str q) = decide (p = q) from decide_eq_decide.mpr ⟨fun h => V.str.inj h, fun h => by rw [h]⟩]; exact P.here k (.bl _)⟩
    · cases Da; cases Db; cases h0; cases e
      rename_i p q
      exact op_ne pins s σ _ _ _ v u Q I rx ry ⟨rfl, by rw [show decide (V.int p = V.int q) = decide (p = q) from decide_eq_decide.mpr ⟨fun h => V.int.inj h, fun h => by rw [h]⟩]; exact P.here k (.bl _)⟩
    · unfold eqD0 at h0
      split at h0
      · rename_i p q h1 h2
        by_cases l : SeqAt.shaped p = true ∧ SeqAt.shaped q = true
        · rw [if_pos l] at h0; cases h0; cases e
          exact op_neD hr.units pins s σ _ _ _ v u Q I rx ry ⟨_, _, den_dp Da h1, den_dp Db h2, l.1, l.2, P.here k (.bl _)⟩
        · rw [if_neg l] at h0; cases h0
      · cases h0
  · cases e
end

/-! ### subscripts, slices -/
def ixD (S : Sto) : D → D → Option D
  | .lst xs, .int i => atI xs i
  | .tup xs, .int i => atI xs i
  | .seq xs, .int i => atI xs i
  | .str x, .int i => if x.length ≤ 1000000 then (atI x.cps.toList i).map fun c => .str ⟨#[c]⟩ else none
  | .ref j, .int i => match S[j]? with
    | some (.lst xs) => atI xs i
    | _ => none
  | _, _ => none
def mIx (f g : EvF) : EvF := fun ρ S => (f ρ S).bind fun x => (g ρ x.2).bind fun y => (ixD y.2 x.1 y.1).map fun z => (z, y.2)
def optI : Option D → Option (Option Int)
  | none => some none
  | some (.int i) => some (some i)
  | _ => none
abbrev EoF := En → Sto → Option (Option Int × Sto)
def mNoP : EoF := fun _ S => some (none, S)
def mP (f : EvF) : EoF := fun ρ S => (f ρ S).bind fun x => match x.1 with
  | .int i => some (some i, x.2)
  | _ => none
def cut {α : Type} (xs : List α) (lo hi : Option Int) : List α := (xs.drop (HT.sIx xs.length 0 lo)).take (HT.sIx xs.length xs.length hi - HT.sIx xs.length 0 lo)
def slD (S : Sto) (d : D) (lo hi : Option Int) : Option D := match d with
  | .lst xs => some (.lst (cut xs lo hi))
  | .seq xs => some (.lst (cut xs lo hi))
  | .tup xs => some (.tup (cut xs lo hi))
  | .str x => if x.length ≤ 1000000 then some (.str (cutS x lo hi)) else none
  | _ => none
def mSl (f : EvF) (l h : EoF) : EvF := fun ρ S => (f ρ S).bind fun x => (l ρ x.2).bind fun y => (h ρ y.2).bind fun z => (slD z.2 x.1 y.1 z.1).map fun w => (w, z.2)
section
variable {X : Cx} {e : Expr} {f g : EvF} {l h : EoF}
theorem atI_len {α β : Type} {xs : List α} {ys : List β} {i : Int} (hl : xs.length = ys.length) {d : β} (e : atI ys i = some d) : ∃ j, ixN ys.length i = some j ∧ ys[j]? = some d ∧ ∀ v, xs[j]? = some v → atI xs i = some v := by
  unfold atI at e
  obtain ⟨j, h1, h2⟩ := bd e
  refine ⟨j, h1, h2, fun v q => ?_⟩
  unfold atI
  rw [hl, h1]
  exact q
theorem den_at {K : PySem.W.Frag} {mg : Str → Option Value} {c : Cfg} {vs : List V} {ds : List D} {i : Int} {d : D} (t : DenA K mg c vs ds) (e : atI ds i = some d) : ∃ v, atI vs i = some v ∧ Den K mg c v d := by
  obtain ⟨j, h1, h2, h3⟩ := atI_len t.length e
  obtain ⟨v, q1, q2⟩ := t.get h2
  exact ⟨v, h3 v q1, q2⟩
theorem me_ix (hx : PE X e (tOp (rIx X.K) (tM X.K X.mg f) (tM X.K X.mg g))) : ME X e (mIx f g) := pe_imp hx <| by
  rintro σ H Q ⟨c, ρ, d, S', ⟨rfl, k, en⟩, q, p⟩
  obtain ⟨x, h1, q1⟩ := bd q
  clear q
  obtain ⟨y, h2, q2⟩ := bd q1
  clear q1
  obtain ⟨z, h3, q3⟩ := mp q2
  clear q2
  cases q3
  refine ⟨c, ρ, x.1, x.2, .of k en, h1, fun v c1 l1 k1 e1 D1 => ?_⟩
  refine ⟨c1, ρ, y.1, y.2, .of k1 (en.mono l1), by rw [e1]; exact h2, fun w c2 l2 k2 e2 D2 => ?_⟩
  have D1' := D1.mono l2
  have P := p.mono (l1.trans l2)
  rw [← e2] at P h3
  obtain ⟨x, S1⟩ := x
  obtain ⟨y, S2⟩ := y
  cases x <;> cases y <;> try (cases h3)
  · rename_i z i
    have h3' : (if z.length ≤ 1000000 then (atI z.cps.toList i).map fun c => D.str ⟨#[c]⟩ else none) = some d := h3
    by_cases lz : z.length ≤ 1000000
    · rw [if_pos lz] at h3'
      obtain ⟨ch, q1, rfl⟩ := mp h3'
      cases D1'; cases D2
      exact .inr (.inr ⟨_, _, _, rfl, rfl, Nat.le_trans lz (by decide), q1, P.here k2 (.str _)⟩)
    · rw [if_neg lz] at h3'; cases h3'
  · cases D2
    cases D1' with
    | lst s t =>
      obtain ⟨v, q1, q2⟩ := den_at t h3
      exact .inl ⟨_, _, _, _, rfl, rfl, s.get, q1, P.here k2 q2⟩
  · cases D2
    cases D1' with
    | tup s t =>
      obtain ⟨v, q1, q2⟩ := den_at t h3
      exact .inr (.inl ⟨_, _, _, _, rfl, rfl, s.get, q1, P.here k2 q2⟩)
  · rename_i j i
    cases D2
    cases D1' with
    | ref hj =>
      have h3' : (match c2.S[j]? with | some (.lst xs) => atI xs i | _ => none) = some d := h3
      split at h3'
      · rename_i xs hS
        obtain ⟨vs, hv, t⟩ := k2.at_ _ _ hS
        obtain ⟨v, q1, q2⟩ := den_at t h3'
        exact .inl ⟨_, _, _, _, rfl, rfl, .inl (.inl hv), q1, P.here k2 q2⟩
      · cases h3'
  · cases D2
    cases D1' with
    | seq s t =>
      obtain ⟨v, q1, q2⟩ := den_at t h3
      exact .inl ⟨_, _, _, _, rfl, rfl, s.get, q1, P.here k2 q2⟩
def tO (K : PySem.W.Frag) (mg : Str → Option Value) (f : EoF) : TO := fun σ H Q => ∃ c ρ o S', At K mg c ρ σ H ∧ f ρ c.S = some (o, S') ∧ ∀ c', Le c c' → Ok K mg c' → c'.S = S' → Q o c'.H
theorem po_imp {X : Cx} {e : Option Expr} {t t' : TO} (h : PO X e t) (w : ∀ σ H Q, t' σ H Q → t σ H Q) : PO X e t' :=
  ⟨fun pins s σ H Q I q => h.run pins s σ H Q I (w σ H Q q)⟩
theorem mo_none : PO X none (tO X.K X.mg mNoP) := po_imp po_none <| by
  rintro σ H Q ⟨c, ρ, d, S', ⟨rfl, k, en⟩, q, p⟩
  cases q
  exact p c (.refl c) k rfl
theorem mo_some (he : ME X e f) : PO X (some e) (tO X.K X.mg (mP f)) := po_imp (po_some he) <| by
  rintro σ H Q ⟨c, ρ, d, S', ⟨rfl, k, en⟩, q, p⟩
  obtain ⟨⟨x, S1⟩, h1, q⟩ := bd q
  refine ⟨c, ρ, x, S1, .of k en, h1, fun v c1 l1 k1 e1 D1 => ?_⟩
  cases x <;> try (cases q)
  cases D1
  exact ⟨_, rfl, p c1 l1 k1 e1⟩
theorem den_cut {K : PySem.W.Frag} {mg : Str → Option Value} {c : Cfg} {vs : List V} {ds : List D} {lo hi : Option Int} (t : DenA K mg c vs ds) : DenA K mg c (cutV vs lo hi) (cut ds lo hi) := by
  unfold cutV cut
  rw [t.length]
  exact (t.drop _).take _
def rSl3 (K : PySem.W.Frag) : V → Option Int → Option Int → Hp → VK → Prop := fun x lo hi H Q => (rSlL K x lo hi H Q ∨ rSlA K x lo hi H Q) ∨ rSlS x lo hi H Q
theorem sl3 : SlR X (rSl3 X.K) := (sl_list.or sl_tupA).or sl_str
theorem cut_all {α : Type} {xs : List α} {lo hi : Option Int} (h : HT.sIx xs.length 0 lo = 0 ∧ HT.sIx xs.length xs.length hi = xs.length) : cut xs lo hi = xs := by
  unfold cut
  rw [h.1, h.2, List.drop_zero, Nat.sub_zero, List.take_length]
theorem me_sl (hx : PE X e (tSl (rSl3 X.K) (tM X.K X.mg f) (tO X.K X.mg l) (tO X.K X.mg h))) : ME X e (mSl f l h) := pe_imp hx <| by
  rintro σ H Q ⟨c, ρ, d, S', ⟨rfl, k, en⟩, q, p⟩
  obtain ⟨⟨x, S1⟩, h1, q1⟩ := bd q
  clear q
  obtain ⟨⟨y, S2⟩, h2, q2⟩ := bd q1
  clear q1
  obtain ⟨⟨z, S3⟩, h3, q3⟩ := bd q2
  clear q2
  obtain ⟨w, h4, q4⟩ := mp q3
  clear q3
  cases q4
  refine ⟨c, ρ, x, S1, .of k en, h1, fun v c1 l1 k1 e1 D1 => ?_⟩
  refine ⟨c1, ρ, y, S2, .of k1 (en.mono l1), by rw [e1]; exact h2, fun c2 l2 k2 e2 => ?_⟩
  refine ⟨c2, ρ, z, S3, .of k2 (en.mono (l1.trans l2)), by rw [e2]; exact h3, fun c3 l3 k3 e3 => ?_⟩
  have DD := D1.mono (l2.trans l3)
  have P := p.mono ((l1.trans l2).trans l3)
  rw [← e3] at P
  cases x <;> try (cases h4)
  · rename_i s
    have h4' : (if s.length ≤ 1000000 then some (D.str (cutS s y z)) else none) = some d := h4
    by_cases ls : s.length ≤ 1000000
    · rw [if_pos ls] at h4'; cases h4'
      cases DD
      exact .inr ⟨_, rfl, Nat.le_trans ls (by decide), P.here k3 (.str _)⟩
    · rw [if_neg ls] at h4'; cases h4'
  · cases DD with
    | lst s t => exact .inl (.inl ⟨_, _, rfl, s.get, post_lst P k3 (den_cut t)⟩)
  · cases DD with
    | tup s t =>
      refine .inl (.inr ⟨_, _, rfl, s.get, fun q => ?_, fun q => post_tup P k3 (den_cut t)⟩)
      rw [t.length] at q
      rw [cut_all q] at P
      exact P.here k3 (.tup s t)
  · cases DD with
    | seq s t => exact .inl (.inl ⟨_, _, rfl, s.get, post_lst P k3 (den_cut t)⟩)
end

/-! ### calls of built-ins -/
abbrev CbF := Sto → List D → Option D
def rD (K : PySem.W.Frag) (mg : Str → Option Value) (op : CbF) : List V → Hp → VK → Prop := fun xs H Q => ∃ c ds z, c.H = H ∧ Ok K mg c ∧ DenA K mg c xs ds ∧ op c.S ds = some z ∧ Post K mg c c.S z Q
abbrev CallD (X : Cx) (f : Value) (op : CbF) : Prop := CallR X f (rD X.K X.mg op)
def mCb (op : CbF) (fa : EaF) : EvF := fun ρ S => (fa ρ S).bind fun x => (op x.2 x.1).map fun z => (z, x.2)
theorem me_cb {X : Cx} {e : Expr} {op : CbF} {fa : EaF} (h : PE X e (tCB (rD X.K X.mg op) (tAs X.K X.mg fa))) : ME X e (mCb op fa) := pe_imp h <| by
  rintro σ H Q ⟨c, ρ, d, S', ⟨rfl, k, en⟩, q, p⟩
  obtain ⟨⟨ds, S1⟩, h1, q⟩ := bd q
  obtain ⟨z, h2, q⟩ := mp q
  cases q
  refine ⟨c, ρ, ds, S1, .of k en, h1, fun vs c1 l1 k1 e1 D1 => ⟨c1, ds, d, rfl, k1, D1, by rw [e1]; exact h2, by rw [e1]; exact p.mono l1⟩⟩
def lenD : CbF := fun S ds => match ds with
  | [.str x] => if x.length ≤ 1000000 then some (.int x.length) else none
  | [.lst xs] => some (.int xs.length)
  | [.tup xs] => some (.int xs.length)
  | [.seq xs] => some (.int xs.length)
  | [.ref j] => match S[j]? with
    | some (.lst xs) => some (.int xs.length)
    | _ => none
  | _ => none
def absD : CbF := fun _ ds => match ds with
  | [.int i] => some (.int (if i < 0 then -i else i))
  | _ => none
def intD : CbF := fun _ ds => match ds with
  | [.int i] => some (.int i)
  | [.bl b] => some (.int (if b then 1 else 0))
  | _ => none
def intsOf : List D → Option (List Int)
  | [] => some []
  | .int i :: r => (intsOf r).map fun x => i :: x
  | _ => none
def sumD : CbF := fun _ ds => match ds with
  | [.lst xs] => (intsOf xs).map fun ns => .int ns.sum
  | _ => none
def max2D : CbF := fun _ ds => match ds with
  | [.int i, .int j] => some (.int (if j > i then j else i))
  | _ => none
def min2D : CbF := fun _ ds => match ds with
  | [.int i, .int j] => some (.int (if j < i then j else i))
  | _ => none
def listD : CbF := fun S ds => match ds with
  | [.lst xs] => some (.lst xs)
  | [.tup xs] => some (.lst xs)
  | [.seq xs] => some (.lst xs)
  | _ => none
def tupD : CbF := fun S ds => match ds with
  | [.lst xs] => some (.tup xs)
  | [.tup xs] => some (.tup xs)
  | _ => none
def isiD (d : D) (n : String) : Option Bool :=
  match d with
  | .fn _ => none
  | .ty _ => none
  | .seq _ => none
  | .cls _ => none
  | .ref _ => none
  | .err _ _ => none
  | d => if n = "int" then some (match d with | .int _ => true | .bl _ => true | _ => false)
    else if n = "bool" then some (match d with | .bl _ => true | _ => false)
    else if n = "str" then some (match d with | .str _ => true | _ => false)
    else if n = "tuple" then some (match d with | .tup _ => true | _ => false)
    else if n = "list" then some (match d with | .lst _ => true | _ => false)
    else if n = "dict" then some (match d with | .dct _ => true | _ => false)
    else none
def isD2 : CbF := fun _ ds => match ds with
  | [d, .ty n] => (isiD d n).map .bl
  | _ => none
/-- the same where a thing of the store may stand -/
def isR2 : CbF := fun S ds => match ds with
  | [.ref j, .ty n] => match S[j]? with
    | some (.lst _) => (isiD (.lst []) n).map .bl
    | some (.dct _) => (isiD (.dct []) n).map .bl
    | _ => none
  | [d, .ty n] => (isiD d n).map .bl
  | _ => none
section
variable {X : Cx}
theorem da1 {K : PySem.W.Frag} {mg : Str → Option Value} {c : Cfg} {xs : List V} {d : D} (h : DenA K mg c xs [d]) : ∃ x, xs = [x] ∧ Den K mg c x d := by
  cases h with
  | cons a b => cases b; exact ⟨_, rfl, a⟩
theorem da2 {K : PySem.W.Frag} {mg : Str → Option Value} {c : Cfg} {xs : List V} {d e : D} (h : DenA K mg c xs [d, e]) : ∃ x y, xs = [x, y] ∧ Den K mg c x d ∧ Den K mg c y e := by
  cases h with
  | cons a b =>
    obtain ⟨y, rfl, q⟩ := da1 b
    exact ⟨_, y, rfl, a, q⟩
theorem cd_len : CallD X (.builtin "len") lenD := by
  rintro pins s σ H xs us Q I r ⟨c, ds, z, rfl, k, D1, e, P⟩
  unfold lenD at e
  split at e
  · rename_i x
    obtain ⟨v, rfl, q⟩ := da1 D1
    cases q
    split at e
    · cases e
      rename_i l
      exact call_len_str pins s σ _ _ us Q I r ⟨_, rfl, Nat.le_trans l (by decide), P.here k (.int _)⟩
    · cases e
  · obtain ⟨v, rfl, q⟩ := da1 D1
    cases e
    cases q with
    | lst s1 t1 => exact call_len_seq pins s σ _ _ us Q I r ⟨_, _, rfl, .inl s1.get, by rw [t1.length]; exact P.here k (.int _)⟩
  · obtain ⟨v, rfl, q⟩ := da1 D1
    cases e
    cases q with
    | tup s1 t1 => exact call_len_seq pins s σ _ _ us Q I r ⟨_, _, rfl, .inr s1.get, by rw [t1.length]; exact P.here k (.int _)⟩
  · obtain ⟨v, rfl, q⟩ := da1 D1
    cases e
    cases q with
    | seq s1 t1 => exact call_len_seq pins s σ _ _ us Q I r ⟨_, _, rfl, .inl s1.get, by rw [t1.length]; exact P.here k (.int _)⟩
  · obtain ⟨v, rfl, q⟩ := da1 D1
    split at e
    · rename_i xs hS
      cases e
      cases q with
      | ref hj =>
        obtain ⟨vs, hv, t⟩ := k.at_ _ _ hS
        exact call_len_seq pins s σ _ _ us Q I r ⟨_, _, rfl, .inl (.inl (.inl hv)), by rw [t.length]; exact P.here k (.int _)⟩
    · cases e
  · cases e
theorem cd_abs : CallD X (.builtin "abs") absD := by
  rintro pins s σ H xs us Q I r ⟨c, ds, z, rfl, k, D1, e, P⟩
  unfold absD at e
  split at e
  · obtain ⟨v, rfl, q⟩ := da1 D1
    cases q
    cases e
    exact call_abs pins s σ _ _ us Q I r ⟨_, rfl, P.here k (.int _)⟩
  · cases e
theorem cd_int : CallD X (.type "int") intD := by
  rintro pins s σ H xs us Q I r ⟨c, ds, z, rfl, k, D1, e, P⟩
  unfold intD at e
  split at e
  · obtain ⟨v, rfl, q⟩ := da1 D1
    cases q
    cases e
    exact call_int1 pins s σ _ _ us Q I r (.inl ⟨_, rfl, P.here k (.int _)⟩)
  · obtain ⟨v, rfl, q⟩ := da1 D1
    cases q
    cases e
    exact call_int1 pins s σ _ _ us Q I r (.inr ⟨_, rfl, P.here k (.int _)⟩)
  · cases e
theorem den_ints {K : PySem.W.Frag} {mg : Str → Option Value} {c : Cfg} : ∀ {ds : List D} {vs : List V} {ns : List Int}, DenA K mg c vs ds → intsOf ds = some ns → vs = ns.map V.int
  | [], _, _, h, e => by cases h; cases e; rfl
  | d :: ds, _, _, h, e => by
    cases d <;> try (cases e)
    obtain ⟨x, h1, rfl⟩ := mp (show (intsOf ds).map _ = _ from e)
    cases h with
    | cons a b =>
      cases a
      rw [den_ints b h1]
      rfl
theorem cd_sum (hc : X.calm = true) : CallD X (.builtin "sum") sumD := by
  rintro pins s σ H xs us Q I r ⟨c, ds, z, rfl, k, D1, e, P⟩
  unfold sumD at e
  split at e
  · obtain ⟨v, rfl, q⟩ := da1 D1
    obtain ⟨ns, h1, rfl⟩ := mp e
    cases q with
    | lst s1 t1 =>
      have h2 := den_ints t1 h1
      subst h2
      exact cr_sum hc pins s σ _ _ us Q I r ⟨_, _, rfl, s1.get, P.here k (.int _)⟩
  · cases e
theorem cd_max2 (hc : X.calm = true) : CallD X (.builtin "max") max2D := by
  rintro pins s σ H xs us Q I r ⟨c, ds, z, rfl, k, D1, e, P⟩
  unfold max2D at e
  split at e
  · obtain ⟨v, w, rfl, q1, q2⟩ := da2 D1
    cases q1; cases q2
    cases e
    exact call_max2 hc pins s σ _ _ us Q I r ⟨_, _, rfl, P.here k (.int _)⟩
  · cases e
theorem cd_min2 (hc : X.calm = true) : CallD X (.builtin "min") min2D := by
  rintro pins s σ H xs us Q I r ⟨c, ds, z, rfl, k, D1, e, P⟩
  unfold min2D at e
  split at e
  · obtain ⟨v, w, rfl, q1, q2⟩ := da2 D1
    cases q1; cases q2
    cases e
    exact call_min2 hc pins s σ _ _ us Q I r ⟨_, _, rfl, P.here k (.int _)⟩
  · cases e
theorem cd_list : CallD X (.type "list") listD := by
  rintro pins s σ H xs us Q I r ⟨c, ds, z, rfl, k, D1, e, P⟩
  unfold listD at e
  split at e
  · obtain ⟨v, rfl, q⟩ := da1 D1
    cases e
    cases q with
    | lst s1 t1 => exact call_list_of pins s σ _ _ us Q I r ⟨_, _, rfl, .inl s1.get, post_lst P k t1⟩
  · obtain ⟨v, rfl, q⟩ := da1 D1
    cases e
    cases q with
    | tup s1 t1 => exact call_list_of pins s σ _ _ us Q I r ⟨_, _, rfl, .inr s1.get, post_lst P k t1⟩
  · obtain ⟨v, rfl, q⟩ := da1 D1
    cases e
    cases q with
    | seq s1 t1 => exact call_list_of pins s σ _ _ us Q I r ⟨_, _, rfl, .inl s1.get, post_lst P k t1⟩
  · cases e
theorem cd_tup : CallD X (.type "tuple") tupD := by
  rintro pins s σ H xs us Q I r ⟨c, ds, z, rfl, k, D1, e, P⟩
  unfold tupD at e
  split at e
  · obtain ⟨v, rfl, q⟩ := da1 D1
    cases e
    cases q with
    | lst s1 t1 => exact call_tuple_of pins s σ _ _ us Q I r ⟨_, _, rfl, .inl ⟨s1.get, post_tup P k t1⟩⟩
  · obtain ⟨v, rfl, q⟩ := da1 D1
    cases e
    cases q with
    | tup s1 t1 => exact call_tuple_of pins s σ _ _ us Q I r ⟨_, _, rfl, .inr ⟨s1.get, P.here k (.tup s1 t1)⟩⟩
  · cases e
theorem tyx_tup {K : PySem.W.Frag} {c : Cfg} {a : Addr} {xs : List V} (h : Tl K c a xs) : TyX K c.H (.ref a) (.type "tuple") := by
  rcases h with ⟨_, h | ⟨o, h⟩⟩ | h
  · exact .base (.tup h)
  · exact .fTuple h
  · rcases h with (h | ⟨o, h⟩) | ⟨o, its, n, h1, h2, _⟩
    · cases h
    · cases h
    · exact .kTuple h1 h2
theorem tyx_lst {K : PySem.W.Frag} {c : Cfg} {a : Addr} {xs : List V} (h : Ll c a xs) : TyX K c.H (.ref a) (.type "list") := by
  rcases h with ⟨_, h | ⟨o, h⟩⟩
  · exact .base (.lst h)
  · exact .base (.frz h)
theorem kit4 (t : String) (n : String) (ht : t = "NoneType" ∨ t = "bool" ∨ t = "int" ∨ t = "str" ∨ t = "list" ∨ t = "tuple" ∨ t = "dict") (hn : n = "int" ∨ n = "bool" ∨ n = "str" ∨ n = "tuple" ∨ n = "list" ∨ n = "dict") :
    kitB t n = some (t == n || (t == "bool" && n == "int")) := by
  rcases ht with rfl | rfl | rfl | rfl | rfl | rfl | rfl <;> rcases hn with rfl | rfl | rfl | rfl | rfl | rfl <;> decide +kernel
theorem den_ty {K : PySem.W.Frag} {mg : Str → Option Value} {c : Cfg} {v : V} {d : D} {n : String} {b : Bool} (k : Ok K mg c) (h : Den K mg c v d) (e : isiD d n = some b) : ∃ t, TyX K c.H v (.type t) ∧ kitB t n = some b := by
  have hn : n = "int" ∨ n = "bool" ∨ n = "str" ∨ n = "tuple" ∨ n = "list" ∨ n = "dict" := by
    unfold isiD at e
    split at e <;> try (cases e)
    repeat' (split at e)
    all_goals first | (cases e; done) | (simp_all; done)
  have go : ∀ t, (t = "NoneType" ∨ t = "bool" ∨ t = "int" ∨ t = "str" ∨ t = "list" ∨ t = "tuple" ∨ t = "dict") → TyX K c.H v (.type t) → b = (t == n || (t == "bool" && n == "int")) → ∃ t, TyX K c.H v (.type t) ∧ kitB t n = some b :=
    fun t ht ty hb => ⟨t, ty, by rw [kit4 t n ht hn, hb]⟩
  cases d with
  | non => cases h; exact go "NoneType" (by simp) (.base .non) (by rcases hn with rfl | rfl | rfl | rfl | rfl | rfl <;> simp [isiD] at e <;> (first | (rw [← e]; decide) | (rw [e]; decide)))
  | bl x => cases h; exact go "bool" (by simp) (.base (.bl x)) (by rcases hn with rfl | rfl | rfl | rfl | rfl | rfl <;> simp [isiD] at e <;> (first | (rw [← e]; decide) | (rw [e]; decide)))
  | int x => cases h; exact go "int" (by simp) (.base (.int x)) (by rcases hn with rfl | rfl | rfl | rfl | rfl | rfl <;> simp [isiD] at e <;> (first | (rw [← e]; decide) | (rw [e]; decide)))
  | str x => cases h; exact go "str" (by simp) (.base (.str x)) (by rcases hn with rfl | rfl | rfl | rfl | rfl | rfl <;> simp [isiD] at e <;> (first | (rw [← e]; decide) | (rw [e]; decide)))
  | lst x =>
    cases h with
    | lst s t => exact go "list" (by simp) (tyx_lst s) (by rcases hn with rfl | rfl | rfl | rfl | rfl | rfl <;> simp [isiD] at e <;> (first | (rw [← e]; decide) | (rw [e]; decide)))
  | tup x =>
    cases h with
    | tup s t => exact go "tuple" (by simp) (tyx_tup s) (by rcases hn with rfl | rfl | rfl | rfl | rfl | rfl <;> simp [isiD] at e <;> (first | (rw [← e]; decide) | (rw [e]; decide)))
  | dct x =>
    cases h with
    | dct n0 s t => exact go "dict" (by simp) (.base (.dK s)) (by rcases hn with rfl | rfl | rfl | rfl | rfl | rfl <;> simp [isiD] at e <;> (first | (rw [← e]; decide) | (rw [e]; decide)))
  | ref j => cases e
  | cls x => cases e
  | err x y => cases e
  | fn x => cases e
  | ty x => cases e
  | seq x => cases e
theorem isi_names {d : D} {n : String} {b : Bool} (e : isiD d n = some b) : n = "int" ∨ n = "bool" ∨ n = "str" ∨ n = "tuple" ∨ n = "list" ∨ n = "dict" := by
  unfold isiD at e
  split at e <;> try (cases e)
  repeat' (split at e)
  all_goals first | (cases e; done) | (simp_all; done)
theorem isi_lst {n : String} {b : Bool} (e : isiD (.lst []) n = some b) : kitB "list" n = some b := by
  have hn := isi_names e
  rw [kit4 "list" n (by simp) hn]
  rcases hn with rfl | rfl | rfl | rfl | rfl | rfl <;> simp [isiD] at e <;> (first | (rw [← e]; decide) | (rw [e]; decide))
theorem isi_dct {n : String} {b : Bool} (e : isiD (.dct []) n = some b) : kitB "dict" n = some b := by
  have hn := isi_names e
  rw [kit4 "dict" n (by simp) hn]
  rcases hn with rfl | rfl | rfl | rfl | rfl | rfl <;> simp [isiD] at e <;> (first | (rw [← e]; decide) | (rw [e]; decide))
theorem cd_isS : CallD X (.builtin "isinstance") isR2 := by
  rintro pins s σ H xs us Q I r ⟨c, ds, z, rfl, k, D1, e, P⟩
  unfold isR2 at e
  split at e
  · obtain ⟨v, w, rfl, q1, q2⟩ := da2 D1
    cases q2
    cases q1 with
    | ref hj =>
      split at e
      · rename_i xs hS
        obtain ⟨b, h1, rfl⟩ := mp e
        obtain ⟨vs, hv, _⟩ := k.at_ _ _ hS
        exact call_isi pins s σ _ _ us Q I r ⟨_, _, _, _, b, rfl, .ty _, .base (.lst hv), kit_ty (isi_lst h1), P.here k (.bl b)⟩
      · rename_i xs hS
        obtain ⟨b, h1, rfl⟩ := mp e
        obtain ⟨vs, hv, _⟩ := k.at_ _ _ hS
        exact call_isi pins s σ _ _ us Q I r ⟨_, _, _, _, b, rfl, .ty _, .base (.dK hv), kit_ty (isi_dct h1), P.here k (.bl b)⟩
      · cases e
  · obtain ⟨v, w, rfl, q1, q2⟩ := da2 D1
    obtain ⟨b, h1, rfl⟩ := mp e
    cases q2
    obtain ⟨t, ty, kb⟩ := den_ty k q1 h1
    exact call_isi pins s σ _ _ us Q I r ⟨_, _, _, _, b, rfl, .ty _, ty, kit_ty kb, P.here k (.bl b)⟩
  · cases e
theorem cd_isi : CallD X (.builtin "isinstance") isD2 := by
  rintro pins s σ H xs us Q I r ⟨c, ds, z, rfl, k, D1, e, P⟩
  unfold isD2 at e
  split at e
  · obtain ⟨v, w, rfl, q1, q2⟩ := da2 D1
    obtain ⟨b, h1, rfl⟩ := mp e
    cases q2
    obtain ⟨t, ty, kb⟩ := den_ty k q1 h1
    exact call_isi pins s σ _ _ us Q I r ⟨_, _, _, _, b, rfl, .ty _, ty, kit_ty kb, P.here k (.bl b)⟩
  · cases e
end
end M

namespace M
open PySem PySem.Spec L2 W2 RZ

def mNeg (f : EvF) : EvF := fun ρ S => (f ρ S).bind fun x => match x.1 with
  | .int i => some (.int (-i), x.2)
  | _ => none
/-- a text's method that judges it -/
def mMs (g : Str → Bool) (f : EvF) : EvF := fun ρ S => (f ρ S).bind fun x => match x.1 with
  | .str a => some (.bl (g a), x.2)
  | _ => none
def strsOf : List D → Option (List Str)
  | [] => some []
  | .str x :: r => (strsOf r).map fun y => x :: y
  | _ => none
def joinD (S : Sto) : D → D → Option D
  | .str a, .lst xs => (strsOf xs).bind fun ys => if (ys.map (·.length)).sum + ys.length * a.length ≤ 1000000 then some (.str (Txt.join a ys)) else none
  | _, _ => none
def mM1 (op : Sto → D → D → Option D) (f g : EvF) : EvF := fun ρ S => (f ρ S).bind fun x => (g ρ x.2).bind fun y => (op y.2 x.1 y.1).map fun z => (z, y.2)
section
variable {X : Cx} {e : Expr} {f g : EvF}
theorem me_neg (h : PE X e (tUn (rU fun i => .int (-i)) (tM X.K X.mg f))) : ME X e (mNeg f) := pe_imp h <| by
  rintro σ H Q ⟨c, ρ, d, S', ⟨rfl, k, en⟩, q, p⟩
  obtain ⟨⟨x, S1⟩, h1, q1⟩ := bd q
  refine ⟨c, ρ, x, S1, .of k en, h1, fun v c1 l1 k1 e1 D1 => ?_⟩
  cases x <;> try (cases q1)
  cases D1
  exact ⟨_, rfl, p _ c1 l1 k1 e1 (.int _)⟩
abbrev rMs (g : Str → Bool) : V → List V → Hp → VK → Prop := fun x xs H Q => ∃ a, x = .str a ∧ xs = [] ∧ True ∧ Q (.bl (g a)) H
theorem me_ms {g : Str → Bool} (h : PE X e (tBM0 X.K "str" (rMs g) (tM X.K X.mg f))) : ME X e (mMs g f) := pe_imp h <| by
  rintro σ H Q ⟨c, ρ, d, S', ⟨rfl, k, en⟩, q, p⟩
  obtain ⟨⟨x, S1⟩, h1, q1⟩ := bd q
  refine ⟨c, ρ, x, S1, .of k en, h1, fun v c1 l1 k1 e1 D1 => ?_⟩
  cases x <;> try (cases q1)
  cases D1
  exact ⟨rfl, _, rfl, rfl, trivial, p _ c1 l1 k1 e1 (.bl _)⟩
abbrev rJoin (K : PySem.W.Frag) : V → List V → Hp → VK → Prop := fun x xs H Q => ∃ a p, ∃ ys : List Str, x = .str a ∧ xs = [.ref p] ∧ (SqL K H p (ys.map V.str) ∨ SqT K H p (ys.map V.str)) ∧
      (ys.map (·.length)).sum + ys.length * a.length ≤ 16777216 ∧ Q (.str (Txt.join a ys)) H
theorem den_strs {K : PySem.W.Frag} {mg : Str → Option Value} {c : Cfg} : ∀ {ds : List D} {vs : List V} {ys : List Str}, DenA K mg c vs ds → strsOf ds = some ys → vs = ys.map V.str
  | [], _, _, h, e => by cases h; cases e; rfl
  | d :: ds, _, _, h, e => by
    cases d <;> try (cases e)
    obtain ⟨x, h1, rfl⟩ := mp (show (strsOf ds).map _ = _ from e)
    cases h with
    | cons a b =>
      cases a
      rw [den_strs b h1]
      rfl
theorem me_join (h : PE X e (tM1 (rJoin X.K) (tM X.K X.mg f) (tM X.K X.mg g))) : ME X e (mM1 joinD f g) := pe_imp h <| by
  rintro σ H Q ⟨c, ρ, d, S', ⟨rfl, k, en⟩, q, p⟩
  obtain ⟨⟨x, S1⟩, h1, q1⟩ := bd q
  obtain ⟨⟨y, S2⟩, h2, q2⟩ := bd q1
  obtain ⟨z, h3, q3⟩ := mp q2
  cases q3
  clear q q1 q2
  refine ⟨c, ρ, x, S1, .of k en, h1, fun v c1 l1 k1 e1 D1 => ?_⟩
  cases x <;> try (cases h3)
  cases y <;> try (cases h3)
  rename_i a xs
  obtain ⟨ys, h4, h5⟩ := bd (show (strsOf xs).bind _ = some d from h3)
  by_cases l : (ys.map (·.length)).sum + ys.length * a.length ≤ 1000000
  · rw [if_pos l] at h5
    cases h5
    cases D1
    refine ⟨⟨_, rfl⟩, c1, ρ, _, S2, .of k1 (en.mono l1), by rw [e1]; exact h2, fun w c2 l2 k2 e2 D2 => ?_⟩
    cases D2 with
    | lst s t =>
      have e3 := den_strs t h4
      subst e3
      exact ⟨_, _, ys, rfl, rfl, .inl s.get, Nat.le_trans l (by decide), p _ c2 (l1.trans l2) k2 e2 (.str _)⟩
  · rw [if_neg l] at h5; cases h5
end

/-! ### dicts -/
def dictD : CbF := fun _ ds => match ds with
  | [.lst []] => some (.dct [])
  | [.lst [.tup [.str k, d]]] => some (.dct [(.inr k, d)])
  | _ => none
def mD0 : EvF := fun _ S => some (.dct [], S)
section
variable {X : Cx} {e : Expr}
theorem post_dct {K : PySem.W.Frag} {mg : Str → Option Value} {c : Cfg} {ds : List (Key × D)} {vs : List (Key × V)} {Q : VK} (P : Post K mg c c.S (.dct ds) Q) (k : Ok K mg c) (q : DenK K mg c vs ds) : ∀ p, c.H p = none → Q (.ref p) (upd c.H p (.dK vs)) :=
  fun p h => P _ (c.lay p (.dK vs)) (lay_le h) (lay_ok k h) rfl (.dct (k.nB h) upd_same (q.mono (lay_le h)))
theorem me_d0 {pos : Pos} : ME X (.Dict [] [] pos) mD0 := pe_imp pe_dnewK <| by
  rintro σ H Q ⟨c, ρ, d, S', ⟨rfl, k, en⟩, q, p⟩
  cases q
  exact post_dct p k .nil
theorem cd_dict (hc : X.calm = true) : CallD X (.type "dict") dictD := by
  rintro pins s σ H xs us Q I r ⟨c, ds, z, rfl, k, D1, e, P⟩
  unfold dictD at e
  split at e
  · obtain ⟨v, rfl, q⟩ := da1 D1
    cases e
    cases q with
    | lst s1 t1 =>
      cases t1
      exact call_dictP hc pins s σ _ _ us Q I r ⟨_, [], [], rfl, s1.get, .nil, post_dct P k .nil⟩
  · obtain ⟨v, rfl, q⟩ := da1 D1
    cases e
    rename_i kk d
    cases q with
    | lst s1 t1 =>
      cases t1 with
      | cons a b =>
        cases b
        cases a with
        | @tup aT _ _ s2 t2 =>
          obtain ⟨x, y, rfl, q1, q2⟩ := da2 t2
          cases q1
          exact call_dictP hc pins s σ _ _ us Q I r ⟨_, [aT], [(.inr kk, y)], rfl, s1.get, .cons s2.get .nil, post_dct P k (.cons q2 .nil)⟩
  · cases e
end

/-! ### repr -/
def keyQ : Key → PyData
  | .inl i => .int i
  | .inr s => .str s
mutual
def toQ : D → Option PyData
  | .non => some .none
  | .bl b => some (.bool b)
  | .int i => some (.int i)
  | .str x => some (.str x)
  | .lst ds => (toQA ds).map .list
  | .tup ds => (toQA ds).map .tuple
  | .dct kvs => (toQK kvs).map .dict
  | .ref _ => none
  | .fn _ => none
  | .ty _ => none
  | .seq _ => none
  | .cls _ => none
  | .err _ _ => none
def toQA : List D → Option (List PyData)
  | [] => some []
  | d :: ds => (toQ d).bind fun x => (toQA ds).map fun r => x :: r
def toQK : List (Key × D) → Option (List (PyData × PyData))
  | [] => some []
  | (k, d) :: ds => (toQ d).bind fun x => (toQK ds).map fun r => (keyQ k, x) :: r
end
def fitB (d : PyData) : Bool := d.showable && d.leavesShort 50 && decide (d.depth ≤ 60) && decide (d.bulk ≤ 100000)
def reprD : CbF := fun _ ds => match ds with
  | [d] => (toQ d).bind fun p => if fitB p = true then some (.str p.shown) else none
  | _ => none
theorem pairs_reads {P : Program} {w : World} {h : Heap} : ∀ {es : List DictEntry} {vs : List (Key × Value)}, Pairs (mixKind P w) es vs →
    ReadsAll h (es.map (·.key)) (vs.map fun p => keyQ p.1) [] ∧ es.map (·.val) = vs.map (·.2)
  | _, _, .nil => ⟨.nil, rfl⟩
  | _, _, .cons (kv := kv) hk hv t => by
    obtain ⟨r, e⟩ := pairs_reads (h := h) t
    refine ⟨?_, by simp only [List.map_cons, hv, e]⟩
    rcases keyIs_shape hk with ⟨i, t, e1, e2⟩ | ⟨i, t, e1, e2⟩
    · rw [List.map_cons, List.map_cons, e2, e1]
      exact ReadsAll.cons (as := []) (Reads.int i t) r
    · rw [List.map_cons, List.map_cons, e2, e1]
      exact ReadsAll.cons (as := []) (Reads.str i t) r
section
variable {X : Cx} {pins : List (Addr × Obj)} {σ : L2.St} {s : Shared} {c : Cfg} {mg : Str → Option Value}
theorem keys_q : ∀ {kvs : List (Key × V)} {ds : List (Key × D)} {vs : List (Key × Value)} {ps : List (PyData × PyData)}, DenK X.K mg c kvs ds → KV kvs vs → toQK ds = some ps →
    vs.map (fun p => keyQ p.1) = ps.map (·.1)
  | [], _, _, _, h, r, e => by cases h; cases r; rw [toQK] at e; cases e; rfl
  | p :: kvs, _, _, _, h, r, e => by
    cases h with
    | cons h1 h2 =>
      cases r with
      | cons r1 r2 =>
        obtain ⟨r1, _⟩ := r1
        rw [toQK] at e
        obtain ⟨x, e1, e⟩ := bd e
        obtain ⟨xs, e2, rfl⟩ := mp e
        rw [List.map_cons, List.map_cons, keys_q h2 r2 e2, ← r1]
theorem sys_no {a : Addr} (I : Inv X pins σ c.H s) (hs : ∃ mm, X.base.Ns sysModules mm) {u : HO} (h : c.H a = some u) {as : List Addr} (k : sysModules ∉ as) : sysModules ∉ a :: as := fun q => by
  rcases List.mem_cons.mp q with e | e
  · obtain ⟨mm, o, es, ep, g, _⟩ := hs
    have := (I.bs _ _ g).2
    rw [e, h] at this
    cases this
  · exact k e
mutual
theorem den_reads (I : Inv X pins σ c.H s) (hs : ∃ mm, X.base.Ns sysModules mm) : ∀ {d : D} {v : V} {u : Value} {p : PyData}, Den X.K mg c v d → RelV v u → toQ d = some p → ∃ as, Reads s.heap u p as ∧ sysModules ∉ as
  | .non, _, _, _, h, r, e => by cases h; cases r; cases e; exact ⟨[], .none, List.not_mem_nil⟩
  | .bl b, _, _, _, h, r, e => by cases h; cases r; cases e; exact ⟨[], .bool b, List.not_mem_nil⟩
  | .int b, _, _, _, h, r, e => by cases h; obtain ⟨t, rfl⟩ := r; cases e; exact ⟨[], .int b t, List.not_mem_nil⟩
  | .str b, _, _, _, h, r, e => by cases h; obtain ⟨t, rfl⟩ := r; cases e; exact ⟨[], .str b t, List.not_mem_nil⟩
  | .lst ds, _, _, _, h, r, e => by
    rw [toQ] at e
    obtain ⟨xs, e1, rfl⟩ := mp e
    cases h with
    | lst s1 t1 =>
      cases r
      obtain ⟨its, rv, ⟨o, z, ho, hc, _, hd⟩, _⟩ := I.list s1.get
      obtain ⟨as, hr, k⟩ := den_readsA I hs t1 rv e1
      refine ⟨_, Reads.list ho hc hd hr, ?_⟩
      rcases s1.2 with s2 | ⟨ob, s2⟩
      · exact sys_no I hs s2 k
      · exact sys_no I hs s2 k
  | .tup ds, _, _, _, h, r, e => by
    rw [toQ] at e
    obtain ⟨xs, e1, rfl⟩ := mp e
    cases h with
    | tup s1 t1 =>
      cases r
      obtain ⟨its, rv, ⟨o, ho, hc, z, hd⟩, _⟩ := I.tuple s1.get
      obtain ⟨as, hr, k⟩ := den_readsA I hs t1 rv e1
      exact ⟨_, Reads.tuple ho hc hd hr, k⟩
  | .dct ds, _, _, _, h, r, e => by
    rw [toQ] at e
    obtain ⟨xs, e1, rfl⟩ := mp e
    cases h with
    | dct n s1 t1 =>
      cases r
      obtain ⟨_, hm, vs, kv, o, es, ep, ho, hx, hd, hes⟩ := dk_of I.hok s1
      obtain ⟨as, hr, k⟩ := den_readsK I hs t1 kv e1
      obtain ⟨_, hp, _⟩ := hes
      obtain ⟨r1, e2⟩ := pairs_reads (h := s.heap) hp
      rw [← e2] at hr
      rw [keys_q t1 kv e1] at r1
      exact ⟨_, Reads.dict ho hx.1 hd r1 hr, sys_no I hs s1 (by simpa using k)⟩
  | .ref _, _, _, _, _, _, e => by rw [toQ] at e; cases e
  | .fn _, _, _, _, _, _, e => by rw [toQ] at e; cases e
  | .ty _, _, _, _, _, _, e => by rw [toQ] at e; cases e
  | .seq _, _, _, _, _, _, e => by rw [toQ] at e; cases e
  | .cls _, _, _, _, _, _, e => by rw [toQ] at e; cases e
  | .err _ _, _, _, _, _, _, e => by rw [toQ] at e; cases e
theorem den_readsA (I : Inv X pins σ c.H s) (hs : ∃ mm, X.base.Ns sysModules mm) : ∀ {ds : List D} {vs : List V} {us : List Value} {ps : List PyData}, DenA X.K mg c vs ds → Vals vs us → toQA ds = some ps → ∃ as, ReadsAll s.heap us ps as ∧ sysModules ∉ as
  | [], _, _, _, h, r, e => by cases h; cases r; rw [toQA] at e; cases e; exact ⟨[], .nil, List.not_mem_nil⟩
  | d :: ds, _, _, _, h, r, e => by
    rw [toQA] at e
    obtain ⟨x, e1, e⟩ := bd e
    obtain ⟨xs, e2, rfl⟩ := mp e
    cases h with
    | cons h1 h2 =>
      cases r with
      | cons r1 r2 =>
        obtain ⟨as, q1, k1⟩ := den_reads I hs h1 r1 e1
        obtain ⟨bs, q2, k2⟩ := den_readsA I hs h2 r2 e2
        exact ⟨_, ReadsAll.cons q1 q2, fun q => (List.mem_append.mp q).elim k1 k2⟩
theorem den_readsK (I : Inv X pins σ c.H s) (hs : ∃ mm, X.base.Ns sysModules mm) : ∀ {ds : List (Key × D)} {vs : List (Key × V)} {us : List (Key × Value)} {ps : List (PyData × PyData)}, DenK X.K mg c vs ds → KV vs us → toQK ds = some ps →
    ∃ as, ReadsAll s.heap (us.map (·.2)) (ps.map (·.2)) as ∧ sysModules ∉ as
  | [], _, _, _, h, r, e => by cases h; cases r; rw [toQK] at e; cases e; exact ⟨[], .nil, List.not_mem_nil⟩
  | (_, d) :: ds, _, _, _, h, r, e => by
    rw [toQK] at e
    obtain ⟨x, e1, e⟩ := bd e
    obtain ⟨xs, e2, rfl⟩ := mp e
    cases h with
    | cons h1 h2 =>
      cases r with
      | cons r1 r2 =>
        obtain ⟨as, q1, k1⟩ := den_reads I hs h1 r1.2 e1
        obtain ⟨bs, q2, k2⟩ := den_readsK I hs h2 r2 e2
        exact ⟨_, ReadsAll.cons q1 q2, fun q => (List.mem_append.mp q).elim k1 k2⟩
end
end
theorem fit_len {d : PyData} (h1 : d.leavesShort 50 = true) (h2 : d.bulk ≤ 100000) : d.shown.length ≤ sizeLine := by
  have a := PyData.shown_le_bulk 50 (by decide) d h1
  have b : (50 + 2) * d.bulk ≤ 52 * 100000 := Nat.mul_le_mul (by decide) h2
  rw [sizeLine_eq]
  omega
theorem cd_repr {X : Cx} (hr : Rg X.A) (hs : ∃ mm, X.base.Ns sysModules mm) : CallD X (.builtin "repr") reprD := by
  rintro pins s σ H xs us Q I r ⟨c, ds, z, rfl, k, D1, e, P⟩
  unfold reprD at e
  split at e
  · obtain ⟨v, rfl, q⟩ := da1 D1
    obtain ⟨p, h1, e⟩ := bd e
    by_cases F : fitB p = true
    · rw [if_pos F] at e
      cases e
      unfold fitB at F
      simp only [Bool.and_eq_true, decide_eq_true_eq] at F
      obtain ⟨⟨⟨f1, f2⟩, f3⟩, f4⟩ := F
      have hz := fit_len f2 f4
      obtain ⟨u, rfl, r1⟩ := vals1 r
      obtain ⟨as, R, ns⟩ := den_reads I hs q r1 h1
      have P' := P.here k (.str _)
      have hu := hr.un
      cases R with
      | none => exact PySem.P.repr_of_none ⟨.str _, c.H, I.tok _, ⟨_, rfl⟩, P'⟩
      | bool b =>
        refine PySem.P.repr_of_bool ⟨.str _, c.H, I.tok _, ⟨_, rfl⟩, ?_⟩
        cases b <;> exact P'
      | int i t => exact PySem.P.repr_of_int (by simpa [PyData.showable] using f1) ⟨.str _, c.H, I.tok _, ⟨_, rfl⟩, P'⟩
      | str x t => exact PySem.P.repr_of_str ⟨.str _, c.H, I.tok _, ⟨_, rfl⟩, P'⟩ hz
      | list g1 g2 g3 g4 => exact repr_of_reads' (Reads.list g1 g2 g3 g4) f1 (fun _ => ns) hr.g (by omega) (fun _ _ e => e) (fun h' t tk k => ⟨.str _, c.H, I.kept k, ⟨_, rfl⟩, P'⟩) hz
      | tuple g1 g2 g3 g4 => exact repr_of_reads' (Reads.tuple g1 g2 g3 g4) f1 (fun _ => ns) hr.g (by omega) (fun _ _ e => e) (fun h' t tk k => ⟨.str _, c.H, I.kept k, ⟨_, rfl⟩, P'⟩) hz
      | dict g1 g2 g3 g4 g5 => exact repr_of_reads' (Reads.dict g1 g2 g3 g4 g5) f1 (fun _ => ns) hr.g (by omega) (fun _ _ e => e) (fun h' t tk k => ⟨.str _, c.H, I.kept k, ⟨_, rfl⟩, P'⟩) hz
    · rw [if_neg F] at e; cases e
  · cases e
end M

namespace W2
open PySem PySem.Spec PyProof.Rows L2

/-! ### the law's own call -/
section
variable {P : Program} {w : World} {K : PySem.W.Frag} {mg mb : Str → Option Value} {k : Nat} {fa a : Addr}
  {fd : FuncData} {x : Str} {sp : Sp} {s₁ : Shared} {vs : List Value} {ns : List Int}
def LawEnd (s₁ : Shared) : Result → Shared → Prop := fun r s' =>
  r = .ok (.ret (.bool true)) ∧ OldK s₁.heap s'.heap ∧ s'.os = s₁.os ∧ AllBare s'.gens
theorem law_core (H : Hp) (hO : Only H) (hS : SqL K H a (ns.map V.int)) (hok : HOk P w H s₁.heap)
    (hA : ∀ b, H b ≠ none → b = a) (hK : H a ≠ none → K.lookup a = none)
    (KX : K.In s₁.heap) (hns : s₁.heap.Ns mainGlobals mg) (hb : s₁.heap.Ns builtinsNs mb)
    (hbb : ∀ x : Str, x ≠ "__name__" → mb x = bootBuiltins x) (hlim : s₁.heap.NoLimit) (hg : s₁.gens = #[])
    (ha : s₁.heap.get? a = some { cls := .type "list", data := .seq vs.toArray })
    (hr : Room k callerA)
    (hsy : ∃ mm, s₁.heap.Ns sysModules mm)
    (F : ∀ base : Heap, K.In base → base.Ns mainGlobals mg → (∃ mm, base.Ns sysModules mm) → FnG P w K mg base k fa fd [x] sp)
    (hbind : ∀ (s : Shared) (u : Value), BindsTo s fd ⟨[u], []⟩ [(x, u)])
    (hsp : ∀ H : Hp, Only H → SqL K H a (ns.map V.int) → sp [.ref a] H (fun v _ => v = .bl true) E0) :
    codeAny (model P w) callerA (.call (.ref fa) ⟨[.ref a], []⟩) (LawEnd s₁) s₁ := by
  have none_of : ∀ {b : Addr} {o : Obj}, s₁.heap.get? b = some o → (b = a → False) → H b = none := by
    intro b o _ n
    cases q : H b with
    | none => rfl
    | some u => exact (n (hA b (by rw [q]; exact fun z => nomatch z))).elim
  have nsK : ∀ {b : Addr} {m : Str → Option Value}, s₁.heap.Ns b m → (hidT s₁.heap H).Ns b m := by
    rintro b m ⟨o, es, ep, e, d, r⟩
    refine ⟨o, es, ep, hidT_get e (none_of e fun q => ?_), d, r⟩
    rw [q, ha] at e
    cases e
    cases d
  have hKb : K.In (hidT s₁.heap H) := by
    intro b o e
    refine hidT_get (KX b o e) ?_
    cases q : H b with
    | none => rfl
    | some u =>
      have z := hA b (by rw [q]; exact fun z => nomatch z)
      rw [z] at e q
      rw [hK (by rw [q]; exact fun z => nomatch z)] at e
      cases e
  have hM : Mod K mg (hidT s₁.heap H) := by
    obtain ⟨mc, h1, h2⟩ := hlim
    exact ⟨hKb, nsK hns, ⟨mb, nsK hb, hbb⟩, ⟨mc, nsK h1, h2⟩⟩
  have e0 : Env0 P w K mg (hidT s₁.heap H) callerA [] s₁ H := by
    refine ⟨rfl, hM, fun b o e => of_hidT e, Nat.le_of_eq (hidT_size _ _), trivial, ?_, hok, .of_eq hg⟩
    intro b hb
    cases hb
  have run := (F _ hKb (nsK hns) (hsy.elim fun mm h => ⟨mm, nsK h⟩)).run callerA [] s₁ H ⟨[.ref a], []⟩ [.ref a] [.ref a] _ _ ⟨hr, rfl⟩ e0
    (hbind s₁ (.ref a)) (.cons rfl .nil) (hsp H hO hS)
  refine codeAny_mono run fun r s' h => ?_
  match r, h with
  | .error e, h =>
    obtain ⟨_, _, _, _, _, _, _, _, _, _, _, _, z⟩ := h
    exact (show False from z).elim
  | .ok (.ret u), h =>
    obtain ⟨v, H', os, bare, un, hok', r', q⟩ := h
    cases (show v = .bl true from q)
    cases (show u = Value.bool true from r')
    refine ⟨rfl, OldK.of_keep fun b o e => ?_, os, bare⟩
    rcases hO b with z | ⟨ob, xs, z⟩
    · exact un.keep b o e z (fun z => nomatch z) (fun z => nomatch z)
    · obtain ⟨e1, _⟩ := hok b _ z
      obtain ⟨e2, _⟩ := hok' b _ (un.frzs b ob _ z)
      rw [e1] at e
      cases e
      exact e2
theorem law_G (KX : K.In s₁.heap) (hns : s₁.heap.Ns mainGlobals mg) (hb : s₁.heap.Ns builtinsNs mb)
    (hbb : ∀ x : Str, x ≠ "__name__" → mb x = bootBuiltins x) (hlim : s₁.heap.NoLimit) (hg : s₁.gens = #[])
    (ha : s₁.heap.get? a = some { cls := .type "list", data := .seq vs.toArray }) (hi : IntsAre vs ns)
    (hl : ns.length ≤ sizeLine) (hr : Room k callerA)
    (hsy : ∃ mm, s₁.heap.Ns sysModules mm)
    (F : ∀ base : Heap, K.In base → base.Ns mainGlobals mg → (∃ mm, base.Ns sysModules mm) → FnG P w K mg base k fa fd [x] sp)
    (hbind : ∀ (s : Shared) (u : Value), BindsTo s fd ⟨[u], []⟩ [(x, u)])
    (hsp : ∀ H : Hp, Only H → SqL K H a (ns.map V.int) → sp [.ref a] H (fun v _ => v = .bl true) E0) :
    codeAny (model P w) callerA (.call (.ref fa) ⟨[.ref a], []⟩) (LawEnd s₁) s₁ := by
  have rv := vals_ints hi
  have lenV := hi.length
  cases hk : K.lookup a with
  | some o =>
    have e := KX a o hk
    rw [ha] at e
    cases e
    refine law_core (ns := ns) (mb := mb) (vs := vs) (fun _ => none) (fun _ => .inl rfl) ?_ (fun b u z => nomatch z) (fun b z => (z rfl).elim)
      (fun z => (z rfl).elim) KX hns hb hbb hlim hg ha hr hsy F hbind hsp
    exact .inr ⟨_, vs.toArray, _, hk, rfl, rfl, rfl, by rw [List.size_toArray, lenV]; exact hl, by simpa using rv⟩
  | none =>
    let u : HO := .frz { cls := .type "list", data := .seq vs.toArray } (.lst (ns.map V.int))
    have at_a : (fun b => if b = a then some u else none : Hp) a = some u := if_pos rfl
    have off : ∀ b, b ≠ a → (fun b => if b = a then some u else none : Hp) b = none := fun b n => if_neg n
    refine law_core (ns := ns) (mb := mb) (vs := vs) (fun b => if b = a then some u else none) (fun b => ?_) (.inl (.inr ⟨_, at_a⟩)) (fun b z q => ?_)
      (fun b z => ?_) (fun _ => hk) KX hns hb hbb hlim hg ha hr hsy F hbind hsp
    · by_cases n : b = a
      · exact .inr ⟨_, _, if_pos n⟩
      · exact .inl (off b n)
    · by_cases n : b = a
      · cases n
        rw [at_a] at q
        cases q
        exact ⟨ha, by rw [List.length_map]; exact hl, vs, _, rv, ha⟩
      · rw [off b n] at q
        cases q
    · by_cases n : b = a
      · exact n
      · exact (z (off b n)).elim
end
theorem walk_G {l : PySem.W.OpenLaw} {n k : Nat} {q : Program} {loose : List Str}
    {XP : (Str → Option Value) → Heap → Prop} {YP : World → Heap → Prop} {d : DefRec}
    {K : Params → PySem.W.Frag} {sp : World → Sp} {x : Str}
    (hn : l.most = some n) (hq : importsNone q = true) (hn2 : n ≤ sizeLine) (hdf : d.params.defaults = []) (hr : Room k callerA)
    (hY : ∀ (w : World) (h : Heap), YP w h → (K w.params).In h)
    (F : ∀ (w : World) (mg : Str → Option Value) (fa : Addr) (h : Heap), (K w.params).In h →
      h.Ns mainGlobals mg → mg d.name = some (.ref fa) →
      ∃ fd : FuncData, (∀ (s : Shared) (u : Value), BindsTo s fd ⟨[u], []⟩ [(x, u)]) ∧
        ∀ base : Heap, (K w.params).In base → base.Ns mainGlobals mg → (∃ mm, base.Ns sysModules mm) →
          FnG l.prog w (K w.params) mg base k fa fd [x] (sp w))
    (hsp : ∀ (w : World) (H : Hp) (a : Addr) (ns : List Int), ns.length ≤ n → Only H →
      SqL (K w.params) H a (ns.map V.int) → sp w [.ref a] H (fun v _ => v = .bl true) E0) :
    PySem.W.WalkO q loose XP YP l.row.toRowW d [] (fun f vs => PySem.call f vs) := by
  apply Att.attach_call hn hdf
  intro w s₀ s₁ mg mb fa o pm cd doc a vs ns G Y ho hd hcd hmg hobj hints hlen hg
  obtain ⟨fd, hb, hF⟩ := F w mg fa _ (hY w _ Y) G.T.g hmg
  exact law_G (hY w _ Y) G.T.g G.T.b G.T.builtins G.T.nolimit hg hobj hints (Nat.le_trans hlen hn2) hr (let ⟨mm, h, _⟩ := (G.T.seer hq).mods; ⟨mm, h⟩) hF hb
    fun H hO hS => hsp w H a ns hlen hO hS
end W2

namespace M
open PySem PySem.Spec L2 W2 RZ

/-! ### a def called by its one parameter's name -/
structure CalK (P : Program) (w : World) (K : PySem.W.Frag) (mg : Str → Option Value) (base : Heap) (k : Nat) (x p : Str) (F : Fn) : Prop where
  ex : ∃ (f : Addr) (fd : FuncData), mg x = some (.ref f) ∧ PySem.W.keepIn K (.ref f) = true ∧ (∀ (s : Shared) (u : Value), BindsTo s fd ⟨[], [(p, u)]⟩ [(p, u)]) ∧ FnG P w K mg base k f fd [p] (spM K mg 1 F)
def mKw (F : Fn) (f : EvF) : EvF := fun ρ S => (f ρ S).bind fun x => F [x.1] x.2
section
variable {X : Cx} {pos p kpos : Pos} {e : Expr} {es : List Expr} {f : EvF} {fa : EaF} {k np i : Nat} {x y : Str} {F : Fn}
theorem me_kw (C : CalK X.prog X.w X.K X.mg X.base k x y F) (hr : Rm k X.A) (hg : Gl X x) (he : ME X e f)
    (hall : (backToKw pos (keywordEach [⟨some y, e, kpos⟩] X.env)).all (·.1.isSome) = true := by rfl) (hks : (backToKw pos (keywordEach [⟨some y, e, kpos⟩] X.env)).filterMap (·.1) = [y] := by rfl)
    (hdb : (x == ("__debug__" : Str)) = false := by decide) (hpl : ((backTo pos (starEach [] X.env)).any (·.1) || (backToKw pos (keywordEach [⟨some y, e, kpos⟩] X.env)).any (·.1.isNone)) = false := by rfl) :
    ME X (.Call (.Name x p) [] [⟨some y, e, kpos⟩] pos) (mKw F f) := by
  obtain ⟨fa, fd, hm, hk, hb, G⟩ := C.ex
  constructor
  rintro pins s σ H Q I ⟨c, ρ, d, S', ⟨rfl, k, en⟩, q, P⟩
  obtain ⟨z, h1, q1⟩ := bd q
  refine wpAny_Call_Name_kw (ld_glob I hg hm ?_ hdb)
  refine PySem.W.callWith_KW0 (h₀ := X.base) I.ok.mod.kin hk hall ?_ hpl
  refine thn ((pk_cons he pk_nil).run pos pins s σ c.H (fun vs H' => spM X.K X.mg 1 F vs H' Q E0) I ?_) ?_
  · refine ⟨c, ρ, z.1, z.2, .of k en, h1, fun v c1 l1 k1 e1 D1 => ⟨rfl, c1, [z.1], d, S', rfl, k1, .cons D1 .nil, by rw [e1]; exact q1, P.mono l1⟩⟩
  · rintro ws s2 ⟨zs, H2, I2, rz, hsp⟩
    refine ⟨I2.kIn, ?_⟩
    rw [hks]
    have hl := hsp.1
    match zs, rz, hl with
    | [zv], rz, _ =>
      obtain ⟨u, rfl, r1⟩ := vals1 rz
      refine wpAny_call (codeAny_mono (run_X (us := [u]) (vs := [zv]) (ar := ⟨[], [(y, u)]⟩) G hr takes_none5 (hb s2 u) I2 rz hsp) fun r s' hq => ?_)
      match r, hq with
      | .error _, hq => exact hq
      | .ok (.ret u), hq => exact hq
/-- a local name that holds a def of one parameter -/
def mHeld (i : Nat) (tbl : Str → Option Fn) (fa : EaF) : EvF := fun ρ S => match ρ[i]? with
  | some (some (.fn x)) => match tbl x with
    | some F => (fa ρ S).bind fun a => F a.1 a.2
    | none => none
  | _ => none
theorem me_held {tbl : Str → Option Fn} (C : ∀ z F, tbl z = some F → Cal X.prog X.w X.K X.mg X.base k z np F) (hr : Rm k X.A) (hN : X.N[i]? = some x) (hv : Vis X.env.scope x) (ha : MA X (e :: es) fa) (hn : ∀ ρ S ds S', fa ρ S = some (ds, S') → ds.length = np)
    (hdb : (x == ("__debug__" : Str)) = false := by decide) (hcd : (x == ("__classdict__" : Str)) = false := by decide)
    (he : starEach (e :: es) X.env = (false, eval e X.env) :: starEach es X.env := by rfl) (hpl : (backTo pos (starEach es X.env)).any (·.1) = false := by rfl) :
    ME X (.Call (.Name x p) (e :: es) [] pos) (mHeld i tbl fa) := by
  constructor
  rintro pins s σ H Q I ⟨c, ρ, d, S', ⟨rfl, k, en⟩, q, P⟩
  unfold mHeld at q
  split at q
  · rename_i z hz
    split at q
    · rename_i F hF
      obtain ⟨⟨ds, S1⟩, h1, q1⟩ := bd q
      obtain ⟨f, fd, ps, hm, hk, hb, G, hl⟩ := (C z F hF).ex
      obtain ⟨v, h2, h3⟩ := en.get i _ hz
      cases h3 with
      | fn hm2 =>
        rw [hm] at hm2
        cases hm2
        refine wpAny_Call_Name_kw (thn ((pe_var (pos := p) hN hv hdb hcd).run pins s σ c.H (fun v H1 => v = .ref f ∧ H1 = c.H) I ⟨.ref f, h2, rfl, rfl⟩) ?_)
        rintro u s1 ⟨v, H1, I1, r1, rfl, rfl⟩
        cases r1
        refine PySem.W.callWith_K (h₀ := X.base) I.ok.mod.kin hk ?_ he hpl
        refine thn (ha.run pos pins s1 σ c.H (fun vs H2 => spM X.K X.mg np F vs H2 Q E0) I1 ⟨c, ρ, ds, S1, .of k en, h1, fun vs c1 l1 k1 e1 D1 => ?_⟩) ?_
        · exact ⟨by rw [D1.length]; exact hn _ _ _ _ h1, c1, ds, d, S', rfl, k1, D1, by rw [e1]; exact q1, P.mono l1⟩
        · rintro us s2 ⟨vs, H2, I2, r, q⟩
          exact ⟨I2.kIn, run_G G hr hb I2 r q⟩
    · cases q
  · cases q
end

section
variable {X : Cx} {pos : Pos} {x : Str}
theorem me_ty (n : String) (hg : Gl X x) (hm : X.mg x = none) (hv : bootBuiltins x = some (.type n)) (hn : x ≠ "__name__" := by decide) (hd : (x == ("__debug__" : Str)) = false := by decide) : ME X (.Name x pos) (mC (.ty n)) :=
  me_c (pe_bltn (v := .ty n) (u := .type n) hg hm hv rfl hn hd) fun _ => .ty n
theorem me_gint {i : Int} {t : Tok} (hg : Gl X x) (hm : X.mg x = some (.int i t)) (hd : (x == ("__debug__" : Str)) = false := by decide) : ME X (.Name x pos) (mC (.int i)) := me_c (pe_glob (v := .int i) hg hm ⟨t, rfl⟩ hd) fun _ => .int i
theorem me_gref {a : Addr} {d : D} (hg : Gl X x) (hm : X.mg x = some (.ref a)) (q : ∀ c, Den X.K X.mg c (.ref a) d) (hd : (x == ("__debug__" : Str)) = false := by decide) : ME X (.Name x pos) (mC d) := me_c (pe_glob (v := .ref a) hg hm rfl hd) q
end

/-! ### from the text's facts -/
theorem cal_mk {P : Program} {w : World} {K : PySem.W.Frag} {mg : Str → Option Value} {base : Heap} {x : Str} {st : Stmt} {f : Addr} {fd : FuncData} {ps : List Str} {k np : Nat} {F : Fn} (Z : Fun K x x st f fd) (m : mg x = some (.ref f)) (b : Binds K fd ps [])
    (hl : ps.length = np) (G : FnG P w K mg base k f fd ps (spM K mg ps.length F)) : Cal P w K mg base k x np F := by
  subst hl
  exact ⟨⟨f, fd, ps, m, Z.kp, b, G, rfl⟩⟩
theorem calK_mk {P : Program} {w : World} {K : PySem.W.Frag} {mg : Str → Option Value} {base : Heap} {x p : Str} {st : Stmt} {f : Addr} {fd : FuncData} {k : Nat} {F : Fn} (Z : Fun K x x st f fd) (m : mg x = some (.ref f))
    (b : ∀ (s : Shared) (u : Value), BindsTo s fd ⟨[], [(p, u)]⟩ [(p, u)]) (G : FnG P w K mg base k f fd [p] (spM K mg 1 F)) : CalK P w K mg base k x p F := ⟨⟨f, fd, m, Z.kp, b, G⟩⟩
/-- a tuple of the written part that holds defs -/
theorem den_fns {K : PySem.W.Frag} {mg : Str → Option Value} {c : Cfg} {a : Addr} {od : Option Addr} {n : Nat} {sl : Array (Option Value)} {fs : List Addr} {xs : List Str} (hk : K.lookup a = some ⟨.type "tuple", od, .seq (fs.map Value.ref).toArray n, sl⟩) (hz : fs.length ≤ 1000)
    (h : Paired (fun f x => mg x = some (.ref f)) fs xs) : Den K mg c (.ref a) (.tup (xs.map .fn)) := by
  refine .tup (xs := fs.map V.ref) (.inr (.inr ⟨_, (fs.map Value.ref).toArray, n, hk, rfl, rfl, by simpa using Nat.le_trans hz (by decide), ?_⟩)) ?_
  · rw [List.toList_toArray]
    clear hk hz h
    induction fs with
    | nil => exact .nil
    | cons f fs ih => exact .cons rfl ih
  · clear hk hz
    induction h with
    | nil => exact .nil
    | cons h t ih => exact .cons (.fn h) ih
/-- the law's promise: whatever the script -/
def spLaw (K : PySem.W.Frag) (mg : Str → Option Value) (F : Fn) : Sp := spM K mg 1 F
theorem law_sp {K : PySem.W.Frag} {mg : Str → Option Value} {F : Fn} {H : Hp} {a : Addr} {ns : List Int} (ho : Only H) (hS : SqL K H a (ns.map V.int)) (hF : ∃ S', F [.seq (ns.map .int)] [] = some (.bl true, S')) : spM K mg 1 F [.ref a] H (fun v _ => v = .bl true) E0 := by
  obtain ⟨S', hF⟩ := hF
  have none0 : ∀ j : Nat, ¬ j < ([] : Sto).length := fun j => Nat.not_lt_zero j
  have nB : ¬ (Cfg.mk (fun _ => 0) [] (fun _ => False) H).B a := fun q => q.elim (fun ⟨j, h, _⟩ => none0 j h) id
  refine ⟨rfl, ⟨fun _ => 0, [], fun _ => False, H⟩, [.seq (ns.map .int)], .bl true, S', rfl, ⟨fun j xs h => by simp at h, fun i j h => absurd h (none0 i), fun a h => h.elim⟩, .cons (.seq (xs := ns.map V.int) ?_ ?_) .nil, hF, fun v c' l k e D1 => by cases D1; rfl⟩
  · rcases hS with h | h
    · exact .inl ⟨nB, h⟩
    · exact .inr (.inr h)
  · clear hS hF nB
    induction ns with
    | nil => exact .nil
    | cons n ns ih => exact .cons (.int n) ih
end M

namespace M
open PySem PySem.Spec L2 W2 RZ

/-! ### all, a tuple many times -/
def blsOf : List D → Option (List Bool)
  | [] => some []
  | .bl b :: r => (blsOf r).map fun x => b :: x
  | _ => none
def allD : CbF := fun _ ds => match ds with
  | [.lst xs] => (blsOf xs).map fun bs => .bl (bs.all id)
  | _ => none
section
variable {X : Cx}
theorem den_bls {K : PySem.W.Frag} {mg : Str → Option Value} {c : Cfg} : ∀ {ds : List D} {vs : List V} {bs : List Bool}, DenA K mg c vs ds → blsOf ds = some bs → vs = bs.map V.bl
  | [], _, _, h, e => by cases h; cases e; rfl
  | d :: ds, _, _, h, e => by
    cases d <;> try (cases e)
    obtain ⟨x, h1, rfl⟩ := mp (show (blsOf ds).map _ = _ from e)
    cases h with
    | cons a b =>
      cases a
      rw [den_bls b h1]
      rfl
theorem cd_all (hc : X.calm = true) : CallD X (.builtin "all") allD := by
  rintro pins s σ H xs us Q I r ⟨c, ds, z, rfl, k, D1, e, P⟩
  unfold allD at e
  split at e
  · obtain ⟨v, rfl, q⟩ := da1 D1
    obtain ⟨bs, h1, rfl⟩ := mp e
    cases q with
    | lst s1 t1 =>
      have h2 := den_bls t1 h1
      subst h2
      exact cr_all hc pins s σ _ _ us Q I r ⟨_, _, rfl, s1.get, P.here k (.bl _)⟩
  · cases e
def mulT : D → D → Option D
  | .tup xs, .int k => if xs ≠ [] ∧ 2 ≤ k ∧ k ≤ 1000 ∧ xs.length ≤ 1000 then some (.tup (List.replicate k.toNat xs).flatten) else none
  | _, _ => none
theorem den_rep {K : PySem.W.Frag} {mg : Str → Option Value} {c : Cfg} {vs : List V} {ds : List D} (h : DenA K mg c vs ds) : ∀ n, DenA K mg c (List.replicate n vs).flatten (List.replicate n ds).flatten
  | 0 => .nil
  | n + 1 => by
    rw [List.replicate_succ, List.replicate_succ, List.flatten_cons, List.flatten_cons]
    exact h.app (den_rep h n)
theorem od_mulT : OpD X (binaryOp .Mult) mulT := by
  rintro pins s σ H x y v u Q I rx ry ⟨c, a, b, z, rfl, k, Da, Db, e, P⟩
  cases a <;> cases b <;> try (cases e)
  rename_i xs j
  have e' : (if xs ≠ [] ∧ 2 ≤ j ∧ j ≤ 1000 ∧ xs.length ≤ 1000 then some (D.tup (List.replicate j.toNat xs).flatten) else none) = some z := e
  by_cases l : xs ≠ [] ∧ 2 ≤ j ∧ j ≤ 1000 ∧ xs.length ≤ 1000
  · rw [if_pos l] at e'; cases e'
    cases Da with
    | tup s1 t1 =>
      cases Db
      have hl := t1.length
      refine op_repT pins s σ _ _ _ v u Q I rx ry ⟨_, _, _, rfl, rfl, s1.get, fun q => ?_, l.2.1, l.2.2.1, by rw [hl]; exact l.2.2.2, post_tup P k (den_rep t1 _)⟩
      rw [q] at hl
      exact l.1 (List.length_eq_zero_iff.mp hl.symm)
  · rw [if_neg l] at e'; cases e'

/-! ### a dict of the top with text keys -/
abbrev Kvs := List (Str × D)
def lkD : Kvs → Str → Option D
  | [], _ => none
  | (k, d) :: r, z => if k = z then some d else lkD r z
def lkV : List (Str × Value) → Str → Option Value
  | [], _ => none
  | (k, d) :: r, z => if k = z then some d else lkV r z
/-- its entries, as written -/
def Ents (l : List DictEntry) (ps : List (Str × Value)) : Prop := Paired (fun e p => ∃ t, e.key = .str p.1 t ∧ e.val = p.2) l ps
theorem ents_find {z : Str} : ∀ {l : List DictEntry} {ps : List (Str × Value)}, Ents l ps → (l.find? (·.key.isStr z)).map (·.val) = lkV ps z ∧ l.any (·.refKey) = false
  | _, _, .nil => ⟨rfl, rfl⟩
  | e :: l, p :: ps, .cons ⟨t, h1, h2⟩ r => by
    obtain ⟨i1, i2⟩ := ents_find (z := z) r
    constructor
    · rw [List.find?_cons]
      have q : e.key.isStr z = (p.1 == z) := by rw [h1]; rfl
      rw [q]
      unfold lkV
      by_cases y : p.1 = z
      · rw [if_pos y, show (p.1 == z) = true by simpa using y]
        simp [h2]
      · rw [if_neg y, show (p.1 == z) = false by simpa using y]
        exact i1
    · rw [List.any_cons, i2]
      have : e.refKey = false := by unfold DictEntry.refKey; rw [h1]
      rw [this]; rfl
theorem ns_of {K : PySem.W.Frag} {a : Addr} {es : Array DictEntry} {n : Nat} {ps : List (Str × Value)} (hl : K.lookup a = some ⟨.type "dict", none, .dict es n, #[]⟩) (h : Ents es.toList ps) (z : Str) : PySem.W.nsIn K a z = some (lkV ps z) := by
  obtain ⟨h1, h2⟩ := ents_find (z := z) h
  unfold PySem.W.nsIn
  rw [hl]
  dsimp only
  cases e : es.toList.find? (·.key.isStr z) with
  | none =>
    rw [e] at h1
    rw [h2, ← h1]
    rfl
  | some x =>
    rw [e] at h1
    rw [← h1]
    rfl
structure Tab (w : World) (K : PySem.W.Frag) (mg : Str → Option Value) (x : Str) (kvs : Kvs) : Prop where
  ex : ∃ a es n, mg x = some (.ref a) ∧ KDict K w a es n ∧ ∀ z, ∃ r, PySem.W.nsIn K a z = some r ∧ match lkD kvs z with
    | none => r = none
    | some d => ∃ u v, r = some u ∧ RelV v u ∧ ∀ c, Den K mg c v d
theorem tab_mk {w : World} {K : PySem.W.Frag} {mg : Str → Option Value} {x : Str} {a : Addr} {es : Array DictEntry} {n : Nat} {ps : List (Str × Value)} {kvs : Kvs} (hm : mg x = some (.ref a)) (hl : K.lookup a = some ⟨.type "dict", none, .dict es n, #[]⟩)
    (hk : PySem.W.KeysLit w.params es.toList) (lo : (a == sysModules) = false) (he : Ents es.toList ps) (hp : Paired (fun p q => p.1 = q.1 ∧ ∃ v, RelV v p.2 ∧ ∀ c, Den K mg c v q.2) ps kvs) : Tab w K mg x kvs := by
  refine ⟨a, es, n, hm, ⟨hl, hk, lo⟩, fun z => ⟨_, ns_of hl he z, ?_⟩⟩
  clear he hl hm hk
  induction hp with
  | nil => rfl
  | cons h t ih =>
    rename_i p q ps kvs
    obtain ⟨h1, v, h2, h3⟩ := h
    unfold lkD lkV
    by_cases y : q.1 = z
    · rw [if_pos y, if_pos (h1.trans y)]
      exact ⟨_, v, rfl, h2, h3⟩
    · rw [if_neg y, if_neg (fun q => y (h1.symm.trans q))]
      exact ih
def inKd (kvs : Kvs) : D → Option D
  | .str z => some (.bl (lkD kvs z).isSome)
  | _ => none
def ninKd (kvs : Kvs) : D → Option D
  | .str z => some (.bl (!(lkD kvs z).isSome))
  | _ => none
def ixKd (kvs : Kvs) : D → Option D
  | .str z => lkD kvs z
  | _ => none
def mU (op : D → Option D) (f : EvF) : EvF := fun ρ S => (f ρ S).bind fun x => (op x.1).map fun z => (z, x.2)
variable {pos p : Pos} {e : Expr} {f : EvF} {kvs : Kvs} {x : Str}
theorem rD_go {a : Addr} {op : D → Option D} {r : Option Value → Bool} (ht : ∀ z, ∃ r, PySem.W.nsIn X.K a z = some r ∧ match lkD kvs z with
    | none => r = none
    | some d => ∃ u v, r = some u ∧ RelV v u ∧ ∀ c, Den X.K X.mg c v d)
    (hr : ∀ z, op (.str z) = some (.bl (r ((lkD kvs z).map fun _ => Value.none)))) (hs : ∀ d y, op d = some y → ∃ z, d = .str z) (hr2 : ∀ u w, r (some u) = r (some w)) {σ : L2.St} {H : Hp} {Q : VK} (h : tM X.K X.mg (mU op f) σ H Q) :
    tOp (fun x y H Q => ∃ (z : Str) (r' : Option Value), x = .str z ∧ y = .ref a ∧ PySem.W.nsIn X.K a z = some r' ∧ Q (.bl (r r')) H) (tM X.K X.mg f) (tC (.ref a)) σ H Q := by
  obtain ⟨c, ρ, d, S', ⟨rfl, k, en⟩, q, p⟩ := h
  obtain ⟨⟨y, S1⟩, h1, q⟩ := bd q
  obtain ⟨z, h2, q⟩ := mp q
  cases q
  refine ⟨c, ρ, y, S1, .of k en, h1, fun v c1 l1 k1 e1 D1 => ?_⟩
  obtain ⟨w, rfl⟩ := hs _ _ h2
  cases D1
  obtain ⟨r', g1, g2⟩ := ht w
  refine ⟨w, r', rfl, rfl, g1, ?_⟩
  have h2' := (hr w).symm.trans h2
  cases h2'
  have : r r' = r ((lkD kvs w).map fun _ => Value.none) := by
    cases e : lkD kvs w with
    | none =>
      rw [e] at g2
      cases g2
      rfl
    | some d =>
      rw [e] at g2
      obtain ⟨u, v, rfl, _, _⟩ := g2
      exact hr2 _ _
  rw [this]
  exact p _ c1 l1 k1 e1 (.bl _)
theorem isS1 {kvs : Kvs} : ∀ d y, inKd kvs d = some y → ∃ z, d = .str z := by
  intro d y h
  cases d <;> first | exact ⟨_, rfl⟩ | cases h
theorem isS2 {kvs : Kvs} : ∀ d y, ninKd kvs d = some y → ∃ z, d = .str z := by
  intro d y h
  cases d <;> first | exact ⟨_, rfl⟩ | cases h
theorem me_inKd (T : Tab X.w X.K X.mg x kvs) (hg : Gl X x) (he : ME X e f) (hd : (x == ("__debug__" : Str)) = false := by decide) (hm : behindInMarks .In (.Name x p) = false := by rfl) : ME X (.Compare e [.In] [.Name x p] pos) (mU (inKd kvs) f) := by
  obtain ⟨a, es, n, hmg, kd, ht⟩ := T.ex
  exact pe_imp (pe_cmpR (op_in_kd kd) he (pe_glob (v := .ref a) hg hmg rfl hd) hm) fun _ _ _ => rD_go ht (r := Option.isSome) (fun z => by show some _ = _; rw [Option.isSome_map]) isS1 (fun _ _ => rfl)
theorem me_ninKd (T : Tab X.w X.K X.mg x kvs) (hg : Gl X x) (he : ME X e f) (hd : (x == ("__debug__" : Str)) = false := by decide) (hm : behindInMarks .NotIn (.Name x p) = false := by rfl) : ME X (.Compare e [.NotIn] [.Name x p] pos) (mU (ninKd kvs) f) := by
  obtain ⟨a, es, n, hmg, kd, ht⟩ := T.ex
  exact pe_imp (pe_cmpR (op_notIn_kd kd) he (pe_glob (v := .ref a) hg hmg rfl hd) hm) fun _ _ _ => rD_go ht (r := fun o => !o.isSome) (fun z => by show some _ = _; rw [Option.isSome_map]) isS2 (fun _ _ => rfl)
theorem mt_inKd (T : Tab X.w X.K X.mg x kvs) (hg : Gl X x) (he : ME X e f) (hd : (x == ("__debug__" : Str)) = false := by decide) (hm : behindInMarks .In (.Name x p) = false := by rfl) : MT X (.Compare e [.In] [.Name x p] pos) (mTv (mU (inKd kvs) f)) := by
  obtain ⟨a, es, n, hmg, kd, ht⟩ := T.ex
  exact mt_of (pt_cmpR (op_in_kd kd) he (pe_glob (v := .ref a) hg hmg rfl hd) hm) fun _ _ _ => rD_go ht (r := Option.isSome) (fun z => by show some _ = _; rw [Option.isSome_map]) isS1 (fun _ _ => rfl)
theorem mt_ninKd (T : Tab X.w X.K X.mg x kvs) (hg : Gl X x) (he : ME X e f) (hd : (x == ("__debug__" : Str)) = false := by decide) (hm : behindInMarks .NotIn (.Name x p) = false := by rfl) : MT X (.Compare e [.NotIn] [.Name x p] pos) (mTv (mU (ninKd kvs) f)) := by
  obtain ⟨a, es, n, hmg, kd, ht⟩ := T.ex
  exact mt_of (pt_cmpR (op_notIn_kd kd) he (pe_glob (v := .ref a) hg hmg rfl hd) hm) fun _ _ _ => rD_go ht (r := fun o => !o.isSome) (fun z => by show some _ = _; rw [Option.isSome_map]) isS2 (fun _ _ => rfl)
end
end M

namespace M
open PySem L2
/-! what a mirror gives, told by what is wanted of it -/
def wp {α : Type} (o : Option α) (Q : α → Prop) : Prop := ∃ a, o = some a ∧ Q a
section
variable {α β : Type} {Q : β → Prop} {R : α → Prop}
theorem wp_some {a : α} : wp (some a) R ↔ R a := ⟨fun ⟨_, h, q⟩ => by cases h; exact q, fun q => ⟨a, rfl, q⟩⟩
theorem wp_none : wp (none : Option α) R ↔ False := ⟨fun ⟨_, h, _⟩ => (by cases h), False.elim⟩
theorem wp_bind {o : Option α} {f : α → Option β} : wp (o.bind f) Q ↔ wp o fun a => wp (f a) Q := by
  cases o with
  | none => simp [wp]
  | some a => simp [wp]
theorem wp_map {o : Option α} {f : α → β} : wp (o.map f) Q ↔ wp o fun a => Q (f a) := by
  cases o with
  | none => simp [wp]
  | some a => simp [wp]
theorem wp_mono {o : Option α} {R' : α → Prop} (h : wp o R) (w : ∀ a, R a → R' a) : wp o R' := let ⟨a, e, q⟩ := h; ⟨a, e, w a q⟩
theorem wp_ite {c : Prop} [Decidable c] {a b : Option α} : wp (if c then a else b) R ↔ (if c then wp a R else wp b R) := by split <;> rfl
end
def bK {α : Type} (d : D) (a b : Option α) : Option α := match d with
  | .bl true => a
  | .bl false => b
  | _ => none
theorem w_bK {α : Type} {b : Bool} {x y : Option α} {Q : α → Prop} : wp (bK (.bl b) x y) Q ↔ if b = true then wp x Q else wp y Q := by cases b <;> rfl
section
variable {ρ : En} {S : Sto} {Q : D × Sto → Prop} {B : Bool × Sto → Prop} {L : List D × Sto → Prop} {O : Out × Sto → Prop} {f g h : EvF} {t u : EtF} {fa : EaF} {s1 s2 : StF}
theorem w_var {i : Nat} : wp (mVar i ρ S) Q ↔ wp (ρ[i]?) fun o => wp o fun d => Q (d, S) := by unfold mVar; rw [wp_bind]; simp only [wp_map]
theorem w_c {d : D} : wp (mC d ρ S) Q ↔ Q (d, S) := wp_some
theorem w_bin {op : D → D → Option D} : wp (mBin op f g ρ S) Q ↔ wp (f ρ S) fun x => wp (g ρ x.2) fun y => wp (op x.1 y.1) fun z => Q (z, y.2) := by unfold mBin; simp only [wp_bind, wp_map]
theorem w_and : wp (mAnd f g ρ S) Q ↔ wp (f ρ S) fun x => wp (bK x.1 (g ρ x.2) (some (.bl false, x.2))) Q := by unfold mAnd; simp only [wp_bind] <;> exact Iff.rfl
theorem w_or : wp (mOr f g ρ S) Q ↔ wp (f ρ S) fun x => wp (bK x.1 (some (.bl true, x.2)) (g ρ x.2)) Q := by unfold mOr; simp only [wp_bind] <;> exact Iff.rfl
theorem w_not : wp (mNot f ρ S) Q ↔ wp (f ρ S) fun x => wp (match x.1 with | .bl b => some (.bl (!b), x.2) | _ => none) Q := by unfold mNot; simp only [wp_bind] <;> exact Iff.rfl
theorem w_if : wp (mIf t f g ρ S) Q ↔ wp (t ρ S) fun b => if b.1 = true then wp (f ρ b.2) Q else wp (g ρ b.2) Q := by unfold mIf; simp only [wp_bind, wp_ite]
theorem w_nil : wp (mNil ρ S) L ↔ L ([], S) := wp_some
theorem w_cons : wp (mCons f fa ρ S) L ↔ wp (f ρ S) fun x => wp (fa ρ x.2) fun y => L (x.1 :: y.1, y.2) := by unfold mCons; simp only [wp_bind, wp_map]
theorem w_tup : wp (mTup fa ρ S) Q ↔ wp (fa ρ S) fun x => x.1.length ≤ 100000 ∧ Q (.tup x.1, x.2) := by
  unfold mTup; simp only [wp_bind]
  refine ⟨fun h => wp_mono h fun a q => ?_, fun h => wp_mono h fun a q => ?_⟩
  · split at q
    · rw [wp_some] at q; exact ⟨by assumption, q⟩
    · rw [wp_none] at q; exact q.elim
  · rw [if_pos q.1, wp_some]; exact q.2
theorem w_lst : wp (mLst fa ρ S) Q ↔ wp (fa ρ S) fun x => x.1.length ≤ 100000 ∧ Q (.lst x.1, x.2) := by
  unfold mLst; simp only [wp_bind]
  refine ⟨fun h => wp_mono h fun a q => ?_, fun h => wp_mono h fun a q => ?_⟩
  · split at q
    · rw [wp_some] at q; exact ⟨by assumption, q⟩
    · rw [wp_none] at q; exact q.elim
  · rw [if_pos q.1, wp_some]; exact q.2
theorem w_new : wp (mNew fa ρ S) Q ↔ wp (fa ρ S) fun x => x.1.length ≤ 100000 ∧ Q (.ref x.2.length, x.2 ++ [.lst x.1]) := by
  unfold mNew; simp only [wp_bind]
  refine ⟨fun h => wp_mono h fun a q => ?_, fun h => wp_mono h fun a q => ?_⟩
  · split at q
    · rw [wp_some] at q; exact ⟨by assumption, q⟩
    · rw [wp_none] at q; exact q.elim
  · rw [if_pos q.1, wp_some]; exact q.2
theorem w_tv : wp (mTv f ρ S) B ↔ wp (f ρ S) fun x => wp (match x.1 with | .bl b => some (b, x.2) | _ => none) B := by unfold mTv; simp only [wp_bind] <;> exact Iff.rfl
theorem w_tand : wp (mTand t u ρ S) B ↔ wp (t ρ S) fun x => if x.1 = true then wp (u ρ x.2) B else B (false, x.2) := by unfold mTand; simp only [wp_bind, wp_ite, wp_some]
theorem w_tor : wp (mTor t u ρ S) B ↔ wp (t ρ S) fun x => if x.1 = true then B (true, x.2) else wp (u ρ x.2) B := by unfold mTor; simp only [wp_bind, wp_ite, wp_some]
theorem w_tnot : wp (mTnot t ρ S) B ↔ wp (t ρ S) fun x => B (!x.1, x.2) := by unfold mTnot; simp only [wp_map]
theorem w_chain {op op' : D → D → Option D} : wp (mChain op op' f g h ρ S) Q ↔ wp (f ρ S) fun x => wp (g ρ x.2) fun y => wp (op x.1 y.1) fun z =>
    wp (bK z ((h ρ y.2).bind fun w => (op' y.1 w.1).map fun z => (z, w.2)) (some (.bl false, y.2))) Q := by unfold mChain; simp only [wp_bind] <;> exact Iff.rfl
theorem w_call {F : Fn} : wp (mCall F fa ρ S) Q ↔ wp (fa ρ S) fun x => wp (F x.1 x.2) Q := by unfold mCall; simp only [wp_bind] <;> exact Iff.rfl
theorem w_kw {F : Fn} : wp (mKw F f ρ S) Q ↔ wp (f ρ S) fun x => wp (F [x.1] x.2) Q := by unfold mKw; simp only [wp_bind] <;> exact Iff.rfl
theorem w_cb {op : CbF} : wp (mCb op fa ρ S) Q ↔ wp (fa ρ S) fun x => wp (op x.2 x.1) fun z => Q (z, x.2) := by unfold mCb; simp only [wp_bind, wp_map]
theorem w_ix : wp (mIx f g ρ S) Q ↔ wp (f ρ S) fun x => wp (g ρ x.2) fun y => wp (ixD y.2 x.1 y.1) fun z => Q (z, y.2) := by unfold mIx; simp only [wp_bind, wp_map]
theorem w_nop {O : Option Int × Sto → Prop} : wp (mNoP ρ S) O ↔ O (none, S) := wp_some
theorem w_p {O : Option Int × Sto → Prop} : wp (mP f ρ S) O ↔ wp (f ρ S) fun x => wp (match x.1 with | .int i => some (some i, x.2) | _ => none) O := by unfold mP; simp only [wp_bind] <;> exact Iff.rfl
theorem w_sl {l h : EoF} : wp (mSl f l h ρ S) Q ↔ wp (f ρ S) fun x => wp (l ρ x.2) fun y => wp (h ρ y.2) fun z => wp (slD z.2 x.1 y.1 z.1) fun w => Q (w, z.2) := by unfold mSl; simp only [wp_bind, wp_map]
theorem w_neg : wp (mNeg f ρ S) Q ↔ wp (f ρ S) fun x => wp (match x.1 with | .int i => some (.int (-i), x.2) | _ => none) Q := by unfold mNeg; simp only [wp_bind] <;> exact Iff.rfl
theorem w_ms {k : Str → Bool} : wp (mMs k f ρ S) Q ↔ wp (f ρ S) fun x => wp (match x.1 with | .str a => some (.bl (k a), x.2) | _ => none) Q := by unfold mMs; simp only [wp_bind] <;> exact Iff.rfl
theorem w_m1 {op : Sto → D → D → Option D} : wp (mM1 op f g ρ S) Q ↔ wp (f ρ S) fun x => wp (g ρ x.2) fun y => wp (op y.2 x.1 y.1) fun z => Q (z, y.2) := by unfold mM1; simp only [wp_bind, wp_map]
theorem w_d0 : wp (mD0 ρ S) Q ↔ Q (.dct [], S) := wp_some
theorem w_ret : wp (mRet f ρ S) O ↔ wp (f ρ S) fun x => O (.rt x.1, x.2) := by unfold mRet; simp only [wp_map]
theorem w_skip : wp (mSkip ρ S) O ↔ O (.nx ρ, S) := wp_some
theorem w_drop : wp (mDrop f ρ S) O ↔ wp (f ρ S) fun x => O (.nx ρ, x.2) := by unfold mDrop; simp only [wp_map]
theorem w_asg {tg : TgF} : wp (mAsg f tg ρ S) O ↔ wp (f ρ S) fun x => wp (tg ρ x.1) fun r => O (.nx r, x.2) := by unfold mAsg; simp only [wp_bind, wp_map]
theorem w_par {is : List Nat} : wp (mPar is fa ρ S) O ↔ wp (fa ρ S) fun x => wp (setAll is x.1 ρ) fun r => O (.nx r, x.2) := by unfold mPar; simp only [wp_bind, wp_map]
theorem w_ifs : wp (mIfS t s1 s2 ρ S) O ↔ wp (t ρ S) fun b => if b.1 = true then wp (s1 ρ b.2) O else wp (s2 ρ b.2) O := by unfold mIfS; simp only [wp_bind, wp_ite]
theorem w_seq : wp (mSeq s1 s2 ρ S) O ↔ wp (s1 ρ S) fun x => wp (match x.1 with | .nx r => s2 r x.2 | o => some (o, x.2)) O := by unfold mSeq; simp only [wp_bind] <;> exact Iff.rfl
theorem w_seti {o i : EvF} : wp (mSetI f o i ρ S) O ↔ wp (f ρ S) fun x => wp (o ρ x.2) fun y => wp (i ρ y.2) fun z => wp (match y.1, z.1 with | .ref j, .int n => (stSet z.2 j n x.1).map fun S' => (Out.nx ρ, S') | _, _ => none) O := by
  unfold mSetI; simp only [wp_bind] <;> exact Iff.rfl
theorem w_for {sr : SrF} {tg : TgF} : wp (mFor sr tg s1 ρ S) O ↔ wp (sr ρ S) fun x => wp (loop tg s1 x.1 ρ x.2) O := by unfold mFor; simp only [wp_bind] <;> exact Iff.rfl
theorem w_lc {sr : SrF} {j : Nat} {tt : EtF} {te : EvF} : wp (mLc sr j tt te ρ S) Q ↔ wp (sr ρ S) fun x => wp (mapL te tt j (ρ.set j none) x.1 x.2) fun r => r.1.length ≤ 100000 ∧ Q (.lst r.1, r.2) := by
  unfold mLc; simp only [wp_bind]
  refine ⟨fun h => wp_mono h fun a q => wp_mono q fun b q => ?_, fun h => wp_mono h fun a q => wp_mono q fun b q => ?_⟩
  · split at q
    · rw [wp_some] at q; exact ⟨by assumption, q⟩
    · rw [wp_none] at q; exact q.elim
  · rw [if_pos q.1, wp_some]; exact q.2
theorem w_sr : wp (sR fa ρ S) L ↔ wp (fa ρ S) fun x => wp (match x.1 with | [.int n] => if n ≤ 1000000 ∧ -1000000 ≤ n then some (upto n.toNat, x.2) else none | _ => none) L := by unfold sR; simp only [wp_bind] <;> exact Iff.rfl
theorem w_sl' : wp (sL f ρ S) L ↔ wp (f ρ S) fun x => wp (match x.1 with | .lst ds => some (ds, x.2) | _ => none) L := by unfold sL; simp only [wp_bind] <;> exact Iff.rfl
theorem w_st : wp (sT f ρ S) L ↔ wp (f ρ S) fun x => wp (match x.1 with | .tup ds => some (ds, x.2) | _ => none) L := by unfold sT; simp only [wp_bind] <;> exact Iff.rfl
theorem w_ss : wp (sS f ρ S) L ↔ wp (f ρ S) fun x => wp (match x.1 with | .str z => some (z.cps.toList.map fun c => .str ⟨#[c]⟩, x.2) | _ => none) L := by unfold sS; simp only [wp_bind] <;> exact Iff.rfl
theorem w_sz : wp (sZ fa ρ S) L ↔ wp (fa ρ S) fun x => wp (match x.1 with | [.tup as, .tup bs] => some (List.zipWith (fun a b => D.tup [a, b]) as bs, x.2) | _ => none) L := by unfold sZ; simp only [wp_bind] <;> exact Iff.rfl
theorem w_yes : wp (mYes ρ S) B ↔ B (true, S) := wp_some
theorem w_def {n : Nat} {ds : List D} : wp (mDef n s1 ds S) Q ↔ wp (s1 (ds.map some ++ List.replicate (n - ds.length) none) S) fun x => wp (match x.1 with | .rt d => some (d, x.2) | .nx _ => some (.non, x.2) | _ => none) Q := by
  unfold mDef; simp only [wp_bind] <;> exact Iff.rfl
theorem w_held {i : Nat} {tbl : Str → Option Fn} {x : Str} {F : Fn} (h1 : ρ[i]? = some (some (.fn x))) (h2 : tbl x = some F) : wp (mHeld i tbl fa ρ S) Q ↔ wp (fa ρ S) fun a => wp (F a.1 a.2) Q := by
  unfold mHeld; rw [h1]; simp only [h2, wp_bind]
end
/-- a loop by an invariant over (what is left, the names, the store) -/
theorem wp_loop {tg : TgF} {g : StF} {O : Out × Sto → Prop} (W : List D → En → Sto → Prop) (hd : ∀ ρ S, W [] ρ S → O (.nx ρ, S))
    (hs : ∀ d ds ρ S, W (d :: ds) ρ S → wp (tg ρ d) fun ρ1 => wp (g ρ1 S) fun x => match x.1 with
      | .nx r => W ds r x.2
      | .ct r => W ds r x.2
      | .bk r => O (.nx r, x.2)
      | .rt v => O (.rt v, x.2)) : ∀ (ds : List D) (ρ : En) (S : Sto), W ds ρ S → wp (loop tg g ds ρ S) O
  | [], ρ, S, w => wp_some.mpr (hd ρ S w)
  | d :: ds, ρ, S, w => by
    unfold loop
    rw [wp_bind]
    refine wp_mono (hs d ds ρ S w) fun ρ1 q => ?_
    rw [wp_bind]
    refine wp_mono q fun x q => ?_
    obtain ⟨x, S1⟩ := x
    cases x with
    | nx r => exact wp_loop W hd hs ds r S1 q
    | ct r => exact wp_loop W hd hs ds r S1 q
    | bk r => exact wp_some.mpr q
    | rt v => exact wp_some.mpr q
/-- a comprehension by an invariant over (what is left, what is made, the store) -/
theorem wp_mapL {te : EvF} {tt : EtF} {j : Nat} {ρ : En} {L : List D × Sto → Prop} (W : List D → List D → Sto → Prop) (hd : ∀ as S, W [] as S → L (as, S))
    (hs : ∀ d ds as S, W (d :: ds) as S → wp (tt (ρ.set j (some d)) S) fun b => if b.1 = true then wp (te (ρ.set j (some d)) b.2) fun y => W ds (as ++ [y.1]) y.2 else W ds as b.2) :
    ∀ (ds as : List D) (S : Sto), W ds as S → wp (mapL te tt j ρ ds S) fun r => L (as ++ r.1, r.2)
  | [], as, S, w => wp_some.mpr (by simpa using hd as S w)
  | d :: ds, as, S, w => by
    unfold mapL
    rw [wp_bind]
    refine wp_mono (hs d ds as S w) fun b q => ?_
    rw [wp_ite]
    by_cases z : b.1 = true
    · rw [if_pos z] at q ⊢
      rw [wp_bind]
      refine wp_mono q fun y q => ?_
      rw [wp_map]
      refine wp_mono (wp_mapL W hd hs ds (as ++ [y.1]) y.2 q) fun r q => ?_
      simpa using q
    · rw [if_neg z] at q ⊢
      exact wp_mapL W hd hs ds as b.2 q
section
variable {a b : Int} {p q : Bool} {x y : Str} {xs ys : List D} {S : Sto}
theorem e_addI : addD (.int a) (.int b) = some (.int (a + b)) := rfl
theorem e_addT : addD (.tup xs) (.tup ys) = if xs.length + ys.length ≤ 100000 then some (.tup (xs ++ ys)) else none := rfl
theorem e_addL : addD (.lst xs) (.lst ys) = if xs.length + ys.length ≤ 100000 then some (.lst (xs ++ ys)) else none := rfl
theorem e_addS : addD (.str x) (.str y) = if x.length + y.length ≤ 1000000 then some (.str (x ++ y)) else none := rfl
theorem e_subI : subD (.int a) (.int b) = some (.int (a - b)) := rfl
theorem e_mulI : mulD (.int a) (.int b) = if a.natAbs < 2 ^ 63 ∨ b.natAbs < 2 ^ 63 then some (.int (a * b)) else none := rfl
theorem e_modI : modD (.int a) (.int b) = if 0 < b then some (.int (a % b)) else none := rfl
theorem e_fdvI : fdvD (.int a) (.int b) = if 0 < b ∧ b < 1073741824 then some (.int (a / b)) else none := rfl
theorem e_powI : powD (.int a) (.int b) = if 0 ≤ b ∧ b ≤ 1000000 ∧ a.natAbs < 2 ^ 64 then some (.int (a ^ b.toNat)) else none := rfl
theorem e_ltI : ltD (.int a) (.int b) = some (.bl (decide (a < b))) := rfl
theorem e_leI : leD (.int a) (.int b) = some (.bl (decide (a ≤ b))) := rfl
theorem e_gtI : gtD (.int a) (.int b) = some (.bl (decide (b < a))) := rfl
theorem e_geI : geD (.int a) (.int b) = some (.bl (decide (b ≤ a))) := rfl
theorem e_ltS : ltD (.str x) (.str y) = some (.bl (decide (x.cps.toList < y.cps.toList))) := rfl
theorem e_gtS : gtD (.str x) (.str y) = some (.bl (decide (y.cps.toList < x.cps.toList))) := rfl
theorem e_isB : isD (.bl p) (.bl q) = some (.bl (decide (p = q))) := rfl
theorem e_int : intD S [.int a] = some (.int a) := rfl
theorem e_abs : absD S [.int a] = some (.int (if a < 0 then -a else a)) := rfl
theorem e_max : max2D S [.int a, .int b] = some (.int (if b > a then b else a)) := rfl
theorem e_min : min2D S [.int a, .int b] = some (.int (if b < a then b else a)) := rfl
theorem e_lenT : lenD S [.tup xs] = some (.int xs.length) := rfl
theorem e_lenL : lenD S [.lst xs] = some (.int xs.length) := rfl
theorem e_lenQ : lenD S [.seq xs] = some (.int xs.length) := rfl
theorem e_lenS : lenD S [.str x] = if x.length ≤ 1000000 then some (.int x.length) else none := rfl
theorem e_ixT : ixD S (.tup xs) (.int a) = atI xs a := rfl
theorem e_ixL : ixD S (.lst xs) (.int a) = atI xs a := rfl
theorem e_ixQ : ixD S (.seq xs) (.int a) = atI xs a := rfl
theorem e_ixS : ixD S (.str x) (.int a) = if x.length ≤ 1000000 then (atI x.cps.toList a).map fun c => .str ⟨#[c]⟩ else none := rfl
theorem e_slT {lo hi : Option Int} : slD S (.tup xs) lo hi = some (.tup (cut xs lo hi)) := rfl
theorem e_slL {lo hi : Option Int} : slD S (.lst xs) lo hi = some (.lst (cut xs lo hi)) := rfl
theorem e_slQ {lo hi : Option Int} : slD S (.seq xs) lo hi = some (.lst (cut xs lo hi)) := rfl
theorem e_listT : listD S [.tup xs] = some (.lst xs) := rfl
theorem e_listL : listD S [.lst xs] = some (.lst xs) := rfl
theorem e_isi {d : D} {n : String} : isD2 S [d, .ty n] = (isiD d n).map .bl := rfl
theorem e_eqI : eqD (.int a) (.int b) = some (.bl (decide (a = b))) := rfl
theorem e_eqS : eqD (.str x) (.str y) = some (.bl (decide (x = y))) := rfl
theorem e_neI : neD (.int a) (.int b) = some (.bl (!decide (a = b))) := rfl
theorem e_neS : neD (.str x) (.str y) = some (.bl (!decide (x = y))) := rfl
end
theorem itp {c A B : Prop} [Decidable c] (h : c) (a : A) : if c then A else B := by rw [if_pos h]; exact a
theorem itn {c A B : Prop} [Decidable c] (h : ¬ c) (b : B) : if c then A else B := by rw [if_neg h]; exact b
theorem it2 {c A B : Prop} [Decidable c] (a : c → A) (b : ¬ c → B) : if c then A else B := by
  by_cases h : c
  · exact itp h (a h)
  · exact itn h (b h)
theorem wp_of {α : Type} {o : Option α} {a : α} {R : α → Prop} (h : o = some a) (q : R a) : wp o R := ⟨a, h, q⟩
end M

namespace M
open PySem L2
/-! ### texts -/
def low (c : Nat) : Bool := decide (97 ≤ c) && decide (c ≤ 122)
def sgn (c : Nat) : Bool := decide (32 ≤ c) && decide (c ≤ 126)
theorem tab128 : ((List.range 128).all fun c => (Unicode.isPrintable c == sgn c) && (Unicode.isAlpha c == (low c || (decide (65 ≤ c) && decide (c ≤ 90)))) && (Unicode.isLower c == low c) && (Unicode.isUpper c == (decide (65 ≤ c) && decide (c ≤ 90))) && !Unicode.isTitle c) = true := by decide +kernel
theorem tab {c : Nat} (h : c < 128) : Unicode.isPrintable c = sgn c ∧ Unicode.isAlpha c = (low c || (decide (65 ≤ c) && decide (c ≤ 90))) ∧ Unicode.isLower c = low c ∧ Unicode.isUpper c = (decide (65 ≤ c) && decide (c ≤ 90)) ∧ Unicode.isTitle c = false := by
  have q := List.all_eq_true.mp tab128 c (List.mem_range.mpr h)
  simp only [Bool.and_eq_true, beq_iff_eq, Bool.not_eq_true'] at q
  exact ⟨q.1.1.1.1, q.1.1.1.2, q.1.1.2, q.1.2, q.2⟩
theorem arr_all {p : Nat → Bool} {x : Str} : x.cps.all p = x.cps.toList.all p := by rw [Array.all_toList]
theorem arr_any {p : Nat → Bool} {x : Str} : x.cps.any p = x.cps.toList.any p := by rw [Array.any_toList]
/-- is_text's two judgements together -/
theorem ascii_print (x : Str) : (Txt.isascii x && Txt.isprintable x) = x.cps.toList.all sgn := by
  unfold Txt.isascii Txt.isprintable
  rw [arr_all, arr_all]
  induction x.cps.toList with
  | nil => rfl
  | cons c l ih =>
    rw [List.all_cons, List.all_cons, List.all_cons, ← ih]
    by_cases h : c < 128
    · rw [(tab h).1]
      simp [h]
      cases sgn c <;> simp
    · have : sgn c = false := by unfold sgn; simp; omega
      simp [h, this]
theorem isascii_ok {x : Str} (h : x.cps.toList.all sgn = true) : Txt.isascii x = true ∧ Txt.isprintable x = true := by
  rw [← ascii_print] at h
  simpa using h
def nameB (x : Str) : Bool := decide (1 ≤ x.length) && decide (x.length ≤ 8) && x.cps.toList.all low
theorem low_sgn {l : List Nat} (h : l.all low = true) : l.all sgn = true := by
  rw [List.all_eq_true] at h ⊢
  intro c hc
  have := h c hc
  unfold low at this
  unfold sgn
  simp at this ⊢
  omega
/-- is_alpha and is_lower of a text of signs below 128 -/
theorem alpha_lower (x : Str) (h : x.cps.toList.all sgn = true) : (Txt.isalpha x && Txt.islower x) = (decide (1 ≤ x.length) && x.cps.toList.all low) := by
  unfold Txt.isalpha Txt.islower
  rw [arr_all, arr_any, arr_any]
  have hl : x.length = x.cps.toList.length := by simp [Str.length]
  rw [hl]
  generalize x.cps.toList = l at h
  have small : ∀ c ∈ l, c < 128 := fun c hc => by
    have := List.all_eq_true.mp h c hc
    unfold sgn at this
    simp at this
    omega
  rw [Bool.eq_iff_iff]
  simp only [Bool.and_eq_true, decide_eq_true_eq, List.all_eq_true, List.any_eq_true, Bool.not_eq_true', List.any_eq_false, Bool.or_eq_true, not_or]
  constructor
  · rintro ⟨⟨h1, h2⟩, ⟨c, hc, h3⟩, h4⟩
    refine ⟨by omega, fun d hd => ?_⟩
    have t := tab (small d hd)
    have a := h2 d hd
    have b := h4 d hd
    rw [t.2.1] at a
    rw [t.2.2.2.1] at b
    cases e : low d with
    | true => rfl
    | false =>
      rw [e] at a
      simp at a b
      omega
  · rintro ⟨h1, h2⟩
    refine ⟨⟨by omega, fun d hd => ?_⟩, ?_, fun d hd => ?_⟩
    · rw [(tab (small d hd)).2.1, h2 d hd]; rfl
    · match l, h1 with
      | c :: l, _ => exact ⟨c, List.mem_cons_self, by rw [(tab (small c List.mem_cons_self)).2.2.1]; exact h2 c List.mem_cons_self⟩
    · have t := tab (small d hd)
      have a := h2 d hd
      unfold low at a
      simp at a
      rw [t.2.2.2.1, t.2.2.2.2]
      simp
      omega
theorem lt_space (c : Nat) : (decide ((⟨#[c]⟩ : Str).cps.toList < (" " : Str).cps.toList)) = decide (c < 32) := by
  have : (" " : Str).cps.toList = [32] := by decide +kernel
  rw [this]
  simp [List.cons_lt_cons_iff]
theorem gt_tilde (c : Nat) : (decide (("~" : Str).cps.toList < (⟨#[c]⟩ : Str).cps.toList)) = decide (126 < c) := by
  have : ("~" : Str).cps.toList = [126] := by decide +kernel
  rw [this]
  simp [List.cons_lt_cons_iff]
theorem lt_space' (c : Nat) : ([c] < (" " : Str).cps.toList) = (c < 32) := by
  have : (" " : Str).cps.toList = [32] := by decide +kernel
  rw [this]
  simp [List.cons_lt_cons_iff]
theorem gt_tilde' (c : Nat) : (("~" : Str).cps.toList < [c]) = (126 < c) := by
  have : ("~" : Str).cps.toList = [126] := by decide +kernel
  rw [this]
  simp [List.cons_lt_cons_iff]
theorem in_letters (c : Nat) : decide ((⟨#[c]⟩ : Str).cps.getD 0 0 ∈ ("abcdefghijklmnopqrstuvwxyz" : Str).cps.toList) = low c := by
  have : ("abcdefghijklmnopqrstuvwxyz" : Str).cps.toList = List.range' 97 26 := by decide +kernel
  rw [this]
  unfold low
  rw [Bool.eq_iff_iff]
  simp [List.mem_range'_1]
  omega
end M

namespace M
open PySem L2
/-! ### plain data and its measure -/
def szKey : Key → Nat
  | .inl _ => 0
  | .inr s => s.length
mutual
def szD : D → Nat
  | .str x => x.length
  | .lst ds => szA ds
  | .tup ds => szA ds
  | .dct kvs => szK kvs
  | _ => 0
def szA : List D → Nat
  | [] => 0
  | d :: ds => szD d + 1 + szA ds
def szK : List (Key × D) → Nat
  | [] => 0
  | (k, d) :: r => szKey k + szD d + 2 + szK r
end
mutual
def dpD : D → Nat
  | .lst ds => dpA ds + 1
  | .tup ds => dpA ds + 1
  | .dct kvs => dpK kvs + 1
  | _ => 0
def dpA : List D → Nat
  | [] => 0
  | d :: ds => max (dpD d) (dpA ds)
def dpK : List (Key × D) → Nat
  | [] => 0
  | (_, d) :: r => max (max 0 (dpD d)) (dpK r)
end
def okS (x : Str) : Bool := x.cps.toList.all fun c => decide (c < 1114112)
def okKey : Key → Bool
  | .inl i => decide (i.natAbs < 10 ^ 40)
  | .inr s => okS s
mutual
def okD : D → Bool
  | .non => true
  | .bl _ => true
  | .int i => decide (i.natAbs < 10 ^ 40)
  | .str x => okS x && decide (x.length ≤ 100000)
  | .lst ds => okA ds
  | .tup ds => okA ds
  | .dct kvs => okK kvs
  | _ => false
def okA : List D → Bool
  | [] => true
  | d :: ds => okD d && okA ds
def okK : List (Key × D) → Bool
  | [] => true
  | (k, d) :: r => okKey k && okD d && okK r
end
theorem int_small {i : Int} (h : i.natAbs < 10 ^ 40) : (PyData.shown (.int i)).length ≤ 50 ∧ i.natAbs.log2 < 1920 := by
  constructor
  · have e := int_text_length_le10 (k := 40) (by decide) h
    show (Str.ofString (toString i)).length ≤ 50
    rw [ofString_length]
    omega
  · have : i.natAbs < 2 ^ 1920 := Nat.lt_of_lt_of_le h (by decide)
    by_cases z : i.natAbs = 0
    · rw [z]; decide
    · exact (Nat.log2_lt z).mpr this
theorem str_small {x : Str} (h : okS x = true) : (x.cps.toList.all fun c => decide (c < 16 ^ 8)) = true := by
  unfold okS at h
  rw [List.all_eq_true] at h ⊢
  intro c hc
  have := h c hc
  simp at this ⊢
  omega
mutual
theorem ok_toQ : ∀ d : D, okD d = true → ∃ p, toQ d = some p ∧ p.showable = true ∧ p.leavesShort 50 = true ∧ p.depth = dpD d ∧ p.bulk = szD d
  | .non, _ => ⟨.none, by rw [toQ], by rw [PyData.showable], by rw [PyData.leavesShort], by rw [PyData.depth, dpD] <;> simp, by rw [PyData.bulk, szD] <;> simp⟩
  | .bl b, _ => ⟨.bool b, by rw [toQ], by rw [PyData.showable], by rw [PyData.leavesShort], by rw [PyData.depth, dpD] <;> simp, by rw [PyData.bulk, szD] <;> simp⟩
  | .int i, h => by
    rw [okD] at h
    obtain ⟨h1, h2⟩ := int_small (of_decide_eq_true h)
    exact ⟨.int i, by rw [toQ], by rw [PyData.showable]; exact decide_eq_true h2, by rw [PyData.leavesShort]; exact decide_eq_true h1, by rw [PyData.depth, dpD] <;> simp, by rw [PyData.bulk, szD] <;> simp⟩
  | .str x, h => by
    rw [okD, Bool.and_eq_true] at h
    exact ⟨.str x, by rw [toQ], by rw [PyData.showable], by rw [PyData.leavesShort]; exact str_small h.1, by rw [PyData.depth, dpD] <;> simp, by rw [PyData.bulk, szD]; rfl⟩
  | .lst ds, h => by
    rw [okD] at h
    obtain ⟨ps, h1, h2, h3, h4, h5⟩ := ok_toQA ds h
    exact ⟨.list ps, by rw [toQ, h1]; rfl, by rw [PyData.showable]; exact h2, by rw [PyData.leavesShort]; exact h3, by rw [PyData.depth, dpD, h4], by rw [PyData.bulk, szD, h5]⟩
  | .tup ds, h => by
    rw [okD] at h
    obtain ⟨ps, h1, h2, h3, h4, h5⟩ := ok_toQA ds h
    exact ⟨.tuple ps, by rw [toQ, h1]; rfl, by rw [PyData.showable]; exact h2, by rw [PyData.leavesShort]; exact h3, by rw [PyData.depth, dpD, h4], by rw [PyData.bulk, szD, h5]⟩
  | .dct ds, h => by
    rw [okD] at h
    obtain ⟨ps, h1, h2, h3, h4, h5⟩ := ok_toQK ds h
    exact ⟨.dict ps, by rw [toQ, h1]; rfl, by rw [PyData.showable]; exact h2, by rw [PyData.leavesShort]; exact h3, by rw [PyData.depth, dpD, h4], by rw [PyData.bulk, szD, h5]⟩
  | .ref _, h => by simp [okD] at h
  | .fn _, h => by simp [okD] at h
  | .ty _, h => by simp [okD] at h
  | .seq _, h => by simp [okD] at h
theorem ok_toQA : ∀ ds : List D, okA ds = true → ∃ ps, toQA ds = some ps ∧ PyData.showableAll ps = true ∧ PyData.leavesShortAll 50 ps = true ∧ PyData.depthAll ps = dpA ds ∧ PyData.bulkAll ps = szA ds
  | [], _ => ⟨[], by rw [toQA], by rw [PyData.showableAll], by rw [PyData.leavesShortAll], by rw [PyData.depthAll, dpA], by rw [PyData.bulkAll, szA]⟩
  | d :: ds, h => by
    rw [okA, Bool.and_eq_true] at h
    obtain ⟨p, a1, a2, a3, a4, a5⟩ := ok_toQ d h.1
    obtain ⟨ps, b1, b2, b3, b4, b5⟩ := ok_toQA ds h.2
    exact ⟨p :: ps, by rw [toQA, a1, b1]; rfl, by rw [PyData.showableAll, a2, b2]; rfl, by rw [PyData.leavesShortAll, a3, b3]; rfl, by rw [PyData.depthAll, dpA, a4, b4], by rw [PyData.bulkAll, szA, a5, b5]⟩
theorem ok_toQK : ∀ ds : List (Key × D), okK ds = true → ∃ ps, toQK ds = some ps ∧ PyData.showableKv ps = true ∧ PyData.leavesShortKv 50 ps = true ∧ PyData.depthKv ps = dpK ds ∧ PyData.bulkKv ps = szK ds
  | [], _ => ⟨[], by rw [toQK], by rw [PyData.showableKv], by rw [PyData.leavesShortKv], by rw [PyData.depthKv, dpK], by rw [PyData.bulkKv, szK]⟩
  | (k, d) :: ds, h => by
    rw [okK, Bool.and_eq_true, Bool.and_eq_true] at h
    obtain ⟨p, a1, a2, a3, a4, a5⟩ := ok_toQ d h.1.2
    obtain ⟨ps, b1, b2, b3, b4, b5⟩ := ok_toQK ds h.2
    have hk : (keyQ k).showable = true ∧ (keyQ k).leavesShort 50 = true ∧ (keyQ k).depth = 0 ∧ (keyQ k).bulk = szKey k := by
      cases k with
      | inl i =>
        obtain ⟨h1, h2⟩ := int_small (of_decide_eq_true h.1.1)
        exact ⟨by rw [keyQ, PyData.showable]; exact decide_eq_true h2, by rw [keyQ, PyData.leavesShort]; exact decide_eq_true h1, by rw [keyQ, PyData.depth] <;> simp, by rw [keyQ, PyData.bulk, szKey] <;> simp⟩
      | inr s => exact ⟨by rw [keyQ, PyData.showable], by rw [keyQ, PyData.leavesShort]; exact str_small h.1.1, by rw [keyQ, PyData.depth] <;> simp, by rw [keyQ, PyData.bulk, szKey]; rfl⟩
    obtain ⟨k1, k2, k3, k4⟩ := hk
    exact ⟨(keyQ k, p) :: ps, by rw [toQK, a1, b1]; rfl, by rw [PyData.showableKv, k1, a2, b2]; rfl, by rw [PyData.leavesShortKv, k2, a3, b3]; rfl, by rw [PyData.depthKv, dpK, k3, a4, b4], by rw [PyData.bulkKv, szK, k4, a5, b5]⟩
end
/-- small plain data: at most so deep, so large -/
def Sm (d : D) (dp n : Nat) : Prop := okD d = true ∧ dpD d ≤ dp ∧ szD d ≤ n
def SmA (ds : List D) (dp n : Nat) : Prop := okA ds = true ∧ dpA ds ≤ dp ∧ szA ds ≤ n
theorem Sm.mono {d : D} {p q n m : Nat} (h : Sm d p n) (a : p ≤ q) (b : n ≤ m) : Sm d q m := ⟨h.1, Nat.le_trans h.2.1 a, Nat.le_trans h.2.2 b⟩
theorem e_repr {S : Sto} {d : D} (h : Sm d 60 100000) : ∃ x, reprD S [d] = some (.str x) := by
  obtain ⟨p, a1, a2, a3, a4, a5⟩ := ok_toQ d h.1
  refine ⟨p.shown, ?_⟩
  have : fitB p = true := by
    unfold fitB
    rw [a2, a3, a4, a5, decide_eq_true h.2.1, decide_eq_true h.2.2]
    rfl
  show (toQ d).bind _ = _
  rw [a1]
  show (if fitB p = true then _ else _) = _
  rw [if_pos this]
theorem okA_app : ∀ {xs ys : List D}, okA (xs ++ ys) = (okA xs && okA ys)
  | [], ys => by rw [List.nil_append, okA]; rfl
  | x :: xs, ys => by rw [List.cons_append, okA, okA, okA_app, Bool.and_assoc]
theorem szA_app : ∀ {xs ys : List D}, szA (xs ++ ys) = szA xs + szA ys
  | [], ys => by rw [List.nil_append, szA]; omega
  | x :: xs, ys => by rw [List.cons_append, szA, szA, szA_app]; omega
theorem dpA_app : ∀ {xs ys : List D}, dpA (xs ++ ys) = max (dpA xs) (dpA ys)
  | [], ys => by rw [List.nil_append, dpA]; omega
  | x :: xs, ys => by rw [List.cons_append, dpA, dpA, dpA_app]; omega
theorem SmA.app {xs ys : List D} {p q n m : Nat} (a : SmA xs p n) (b : SmA ys q m) : SmA (xs ++ ys) (max p q) (n + m) := by
  have := a.2; have := b.2
  exact ⟨by rw [okA_app, a.1, b.1]; rfl, by rw [dpA_app]; omega, by rw [szA_app]; omega⟩
theorem SmA.take {xs : List D} {p n : Nat} (k : Nat) (h : SmA xs p n) : SmA (xs.take k) p n := by
  have e := List.take_append_drop k xs
  have h1 := h.1; have h2 := h.2
  rw [← e] at h1 h2
  rw [okA_app, Bool.and_eq_true] at h1
  rw [dpA_app, szA_app] at h2
  exact ⟨h1.1, by omega, by omega⟩
theorem SmA.drop {xs : List D} {p n : Nat} (k : Nat) (h : SmA xs p n) : SmA (xs.drop k) p n := by
  have e := List.take_append_drop k xs
  have h1 := h.1; have h2 := h.2
  rw [← e] at h1 h2
  rw [okA_app, Bool.and_eq_true] at h1
  rw [dpA_app, szA_app] at h2
  exact ⟨h1.2, by omega, by omega⟩
theorem SmA.cut {xs : List D} {p n : Nat} {lo hi : Option Int} (h : SmA xs p n) : SmA (cut xs lo hi) p n := (h.drop _).take _
theorem SmA.one {d : D} {p n : Nat} (h : Sm d p n) : SmA [d] p (n + 1) := by
  have := h.2
  exact ⟨by rw [okA, h.1, okA]; rfl, by rw [dpA, dpA]; omega, by rw [szA, szA]; omega⟩
theorem SmA.tup {ds : List D} {p n : Nat} (h : SmA ds p n) : Sm (.tup ds) (p + 1) n := ⟨by rw [okD]; exact h.1, by rw [dpD]; have := h.2.1; omega, by rw [szD]; exact h.2.2⟩
theorem SmA.lst {ds : List D} {p n : Nat} (h : SmA ds p n) : Sm (.lst ds) (p + 1) n := ⟨by rw [okD]; exact h.1, by rw [dpD]; have := h.2.1; omega, by rw [szD]; exact h.2.2⟩
theorem Sm.tupA {ds : List D} {p n : Nat} (h : Sm (.tup ds) (p + 1) n) : SmA ds p n := by
  obtain ⟨h1, h2, h3⟩ := h
  rw [okD] at h1; rw [dpD] at h2; rw [szD] at h3
  exact ⟨h1, by omega, h3⟩
theorem Sm.dct1 {d : D} {p n : Nat} {s : Str} (h : Sm d p n) (hs : okS s = true) : Sm (.dct [(.inr s, d)]) (p + 1) (n + s.length + 2) := by
  have := h.2
  exact ⟨by rw [okD, okK, okK, h.1, okKey, hs]; rfl, by rw [dpD, dpK, dpK]; omega, by rw [szD, szK, szK, szKey]; omega⟩
theorem okA_get : ∀ {xs : List D} {i : Nat} {d : D}, okA xs = true → xs[i]? = some d → okD d = true
  | [], _, _, _, e => by simp at e
  | x :: xs, 0, _, h, e => by
    rw [okA, Bool.and_eq_true] at h
    simp at e; subst e; exact h.1
  | x :: xs, i + 1, _, h, e => by
    rw [okA, Bool.and_eq_true] at h
    exact okA_get h.2 (by simpa using e)
theorem SmA.cons {d : D} {ds : List D} {p n m : Nat} (a : Sm d p n) (b : SmA ds p m) : SmA (d :: ds) p (n + 1 + m) := by
  have := a.2; have := b.2
  exact ⟨by rw [okA, a.1, b.1]; rfl, by rw [dpA]; omega, by rw [szA]; omega⟩
theorem SmA.nil {p n : Nat} : SmA [] p n := ⟨by rw [okA], by rw [dpA]; omega, by rw [szA]; omega⟩
theorem SmA.mono {ds : List D} {p q n m : Nat} (h : SmA ds p n) (a : p ≤ q) (b : n ≤ m) : SmA ds q m := ⟨h.1, Nat.le_trans h.2.1 a, Nat.le_trans h.2.2 b⟩
end M

namespace M
open PySem PySem.Spec L2 W2 RZ
section
variable {X : Cx} {pos p : Pos} {e : Expr} {f : EvF} {kvs : Kvs} {x : Str}
theorem ix_kd {d : Addr} {es : Array DictEntry} {n : Nat} (D : KDict X.K X.w d es n) : IxR X (fun x y H Q => ∃ (z : Str) (u0 : Value) (v0 : V), x = .ref d ∧ y = .str z ∧ PySem.W.nsIn X.K d z = some (some u0) ∧ RelV v0 u0 ∧ Q v0 H) := by
  intro value slice pins s σ H x y v u Q I rx ry h hs
  obtain ⟨z, u0, v0, rfl, rfl, e, r, q⟩ := h
  cases rx
  obtain ⟨t, rfl⟩ := ry
  have hm := PySem.W.mapOf_K (prog := X.prog) I.kIn D.at_ D.lit
  exact PyProof.Rows.tail_any hm.typeIs slot_dict_getitem.lookup (wpAny_getItem_of (PySem.strKind_is X.prog X.w z t) hm (PySem.W.find_K D.at_ e) ⟨v0, H, I.tok _, r, q⟩) hs
theorem me_ixKd (T : Tab X.w X.K X.mg x kvs) (hg : Gl X x) (he : ME X e f) (hs : PlainIx e) (hd : (x == ("__debug__" : Str)) = false := by decide) : ME X (.Subscript (.Name x p) e pos) (mU (ixKd kvs) f) := by
  obtain ⟨a, es, n, hmg, kd, ht⟩ := T.ex
  refine pe_imp (pe_ix (ix_kd kd) (pe_glob (v := .ref a) hg hmg rfl hd) he hs) ?_
  rintro σ H Q ⟨c, ρ, d, S', ⟨rfl, k, en⟩, q, p⟩
  obtain ⟨⟨y, S1⟩, h1, q⟩ := bd q
  obtain ⟨z, h2, q⟩ := mp q
  cases q
  refine ⟨c, ρ, y, S1, .of k en, h1, fun v c1 l1 k1 e1 D1 => ?_⟩
  cases y <;> try (cases h2)
  rename_i w q0
  cases D1
  obtain ⟨r', g1, g2⟩ := ht w
  have h2' : lkD kvs w = some d := h2
  rw [h2'] at g2
  obtain ⟨u, v0, rfl, g3, g4⟩ := g2
  exact ⟨w, u, v0, rfl, rfl, g1, g3, p _ c1 l1 k1 e1 (g4 c1)⟩
/-- a tuple of the top -/
theorem den_ktup {K : PySem.W.Frag} {mg : Str → Option Value} {c : Cfg} {a : Addr} {od : Option Addr} {n : Nat} {sl : Array (Option Value)} {us : List Value} {xs : List V} {ds : List D} (hk : K.lookup a = some ⟨.type "tuple", od, .seq us.toArray n, sl⟩) (hz : us.length ≤ 1000)
    (h : Vals xs us) (hd : DenA K mg c xs ds) : Den K mg c (.ref a) (.tup ds) :=
  .tup (xs := xs) (.inr (.inr ⟨_, us.toArray, n, hk, rfl, rfl, by rw [List.size_toArray, sizeLine_eq]; omega, by rw [List.toList_toArray]; exact h⟩)) hd

/-! ### a dict is no text -/
theorem str_eq_declines_dict (b : Str) (u : Tok) (l : Addr) (c : Value) (es : Array DictEntry) (n : Nat) (dd : Option Addr) (sl : Array (Option Value)) :
    Meets (Builtin.«str.__eq__» ⟨[.str b u, .ref l], []⟩) (fun _ R s => s.heap.get? l = some { cls := c, dict := dd, data := .dict es n, slots := sl } ∧ R (.ok (.ret .notImplemented)) s) :=
  .of_wp fun prog w A R s h => by obtain ⟨hp, g, d, tk, os⟩ := s; obtain ⟨hl, h⟩ := h; wp_walk using wpAny_load hl; exact ⟨_, rfl, h⟩
theorem rc_dict_str {A : Around} {s : Shared} {a : Addr} {es : Array DictEntry} {n : Nat} {b : Str} {u : Tok} {dd : Option Addr} {sl : Array (Option Value)} (h : s.heap.get? a = some { cls := .type "dict", dict := dd, data := .dict es n, slots := sl }) (hu : A.units < cLine)
    (prog : Program) (w : World) (E : Value → Shared → Prop) (Q : Value → Shared → Prop) (q : Q (.bool false) s) : wpAny (model prog w) A (richCompare .Eq (.ref a) (.str b u)) Q E s := by
  have ty : s.TypeIs (.ref a) "dict" := ⟨_, h, rfl⟩
  refine PySem.SeqAt.rc_eq_decline_or (k := false) ty (typeIs_str s b u) (by decide) PySem.F.sub_str_dict PySem.F.slot_dict_eq PySem.F.slot_str_eq_refl ?_
    (fun _ hq => call_meets PySem.F.slot_str_eq_refl (typeIs_str s b u) PySem.F.entry_str_eq (PySem.F.args_str_eq_2 _ _) (str_eq_declines_dict b u a (.type "dict") es n dd sl) ⟨h, hq⟩)
    (fun _ hq => wpAny_of_eq (rfl : isSame (.ref a) (.str b u) = pure false) hq) (.inr hu) q
  intro Q q
  refine wpAny_call_entry PySem.F.slot_dict_eq ty PySem.F.entry_dict_eq ?_ (PySem.F.args_dict_eq_2 _ _)
  show wpAny _ _ (Builtin.Dict.dictSlotArgs "__eq__" ⟨[.ref a, .str b u], []⟩ >>= _) _ _ s
  refine wpAny_bind ?_
  unfold Builtin.Dict.dictSlotArgs
  refine wpAny_bind (wpAny_notOrdered_dict ty ?_)
  show wpAny _ _ (pure (Value.ref a, Value.str b u)) _ _ s
  refine wpAny_pure ?_
  refine wpAny_bind (wpAny_isInstance (T := "str") (typeIs_str s b u) PySem.F.sub_str_dict ?_)
  simp only [Bool.not_false, if_true]
  refine wpAny_bind (wpAny_rule ?_)
  exact wpAny_pure ⟨_, rfl, q⟩
/-- == with a text on the right -/
def eqE : D → D → Option D := fun a b => match b with
  | .str y => (match a with
    | .str x => some (.bl (decide (x = y)))
    | .non => some (.bl false)
    | .bl _ => some (.bl false)
    | .int _ => some (.bl false)
    | .lst _ => some (.bl false)
    | .tup _ => some (.bl false)
    | .dct _ => some (.bl false)
    | _ => none)
  | _ => eqD a b
theorem od_eqE (hr : Rg X.A) : OpD X (compareOp .Eq) eqE := by
  rintro pins s σ H x y v u Q I rx ry ⟨c, a, b, z, rfl, k, Da, Db, e, P⟩
  have hu := hr.units
  unfold eqE at e
  split at e
  · rename_i y
    split at e
    · exact od_eq hr pins s σ _ _ _ v u Q I rx ry ⟨c, _, _, z, rfl, k, Da, Db, e, P⟩
    · cases e; cases Db; cases Da
      exact op_eq pins s σ _ _ _ v u Q I rx ry ⟨rfl, P.here k (.bl _)⟩
    · cases e; cases Db; cases Da
      exact op_eq pins s σ _ _ _ v u Q I rx ry ⟨rfl, P.here k (.bl _)⟩
    · cases e; cases Db; cases Da
      exact op_eq pins s σ _ _ _ v u Q I rx ry ⟨rfl, P.here k (.bl _)⟩
    · cases e; cases Db
      cases Da with
      | lst s1 t1 =>
        cases rx
        obtain ⟨t, rfl⟩ := ry
        obtain ⟨its, rv, hl, _⟩ := I.list s1.get
        exact PySem.SeqAt.RcAt.list_str _ _ hl.isList (by omega) _ _ _ _ ⟨.bl false, c.H, I, rfl, P.here k (.bl _)⟩
    · cases e; cases Db
      cases Da with
      | tup s1 t1 =>
        cases rx
        obtain ⟨t, rfl⟩ := ry
        obtain ⟨its, rv, hl, _⟩ := I.tuple s1.get
        exact PySem.SeqAt.RcAt.tuple_str _ _ hl (by omega) _ _ _ _ ⟨.bl false, c.H, I, rfl, P.here k (.bl _)⟩
    · cases e; cases Db
      cases Da with
      | dct n s1 t1 =>
        cases rx
        obtain ⟨t, rfl⟩ := ry
        obtain ⟨_, hm, vs, kv, o, es, ep, ho, hx, hd, hes⟩ := dk_of I.hok s1
        obtain ⟨oc, od, dt, sl⟩ := o
        have h1 : oc = .type "dict" := hx.1
        have h2 : dt = .dict es ep := hd
        subst h1 h2
        exact rc_dict_str ho (by omega) _ _ _ _ ⟨.bl false, c.H, I, rfl, P.here k (.bl _)⟩
    · cases e
  · exact od_eq hr pins s σ _ _ _ v u Q I rx ry ⟨c, _, _, z, rfl, k, Da, Db, e, P⟩
def strB (d : D) (x : Str) : Bool := match d with
  | .str y => decide (y = x)
  | _ => false
theorem e_eqE {d : D} {x : Str} (h : okD d = true) : eqE d (.str x) = some (.bl (strB d x)) := by
  cases d <;> first | rfl | (exfalso; simp [okD] at h; done)
end
end M

namespace M
open PySem PySem.Spec L2 W2 RZ
/-- no fuel is left -/
def fn0 : Fn := fun _ _ => none
theorem cal_none {P : Program} {w : World} {K : PySem.W.Frag} {mg : Str → Option Value} {base : Heap} {x : Str} {st : Stmt} {f : Addr} {fd : FuncData} {ps : List Str} {k np : Nat} (Z : Fun K x x st f fd) (m : mg x = some (.ref f)) (b : Binds K fd ps [])
    (hl : ps.length = np) : Cal P w K mg base k x np fn0 := by
  subst hl
  exact ⟨⟨f, fd, ps, m, Z.kp, b, ⟨fun vs H Q E h => h.1, fun A o s H ar us vs Q E hr he hb hv h => by
    obtain ⟨_, c, ds, d, S', _, _, _, e, _⟩ := h
    cases e⟩, rfl⟩⟩
theorem mu_def {op : D → Option D} {f : EvF} {ρ : En} {S : Sto} : mU op f ρ S = (f ρ S).bind fun x => (op x.1).map fun z => (z, x.2) := rfl
end M

namespace M
open PySem PySem.Spec L2 W2 RZ
/-- a list against an empty one -/
def eqNil : D → D → Option D
  | .lst xs, .lst [] => some (.bl xs.isEmpty)
  | _, _ => none
def neNil (a b : D) : Option D := match eqNil a b with
  | some (.bl x) => some (.bl (!x))
  | _ => none
section
variable {X : Cx}
theorem od_eqNil (hr : Rg X.A) : OpD X (compareOp .Eq) eqNil := by
  rintro pins s σ H x y v u Q I rx ry ⟨c, a, b, z, rfl, k, Da, Db, e, P⟩
  have hu := hr.units
  unfold eqNil at e
  split at e
  · rename_i xs
    cases xs with
    | nil =>
      cases e
      refine od_eq hr pins s σ _ _ _ v u Q I rx ry ⟨c, .lst [], .lst [], _, rfl, k, Da, Db, ?_, P⟩
      have h : SeqAt.shaped (.list []) = true := by decide +kernel
      show eqD0 (.lst []) (.lst []) = _
      unfold eqD0
      rw [toP, toPA]
      show (if SeqAt.shaped (.list []) = true ∧ SeqAt.shaped (.list []) = true then some (D.bl (PyData.eqv (.list []) (.list []))) else none) = _
      rw [if_pos ⟨h, h⟩, PyData.eqv, PyData.eqvAll]
      rfl
    | cons d ds =>
      cases e
      cases Da with
      | lst s1 t1 =>
        cases Db with
        | lst s2 t2 =>
          cases rx
          cases ry
          obtain ⟨its, rv, hl, _⟩ := I.list s1.get
          obtain ⟨its2, rv2, hl2, _⟩ := I.list s2.get
          have l1 := rv.length; have l2 := rv2.length; have l3 := t1.length; have l4 := t2.length
          refine PySem.SeqAt.eq_list_lengthsAt hl.isList hl2.isList ?_ (by omega) ⟨.bl false, c.H, I, rfl, P.here k (.bl _)⟩
          simp only [List.size_toArray, bne_iff_ne, ne_eq]
          simp only [List.length_cons, List.length_nil] at l3 l4
          omega
  · cases e
end
end M

namespace M
open PySem PySem.Spec L2 W2 RZ

/-! ### while, with so much fuel -/
def whl (t : EtF) (g : StF) : Nat → StF
  | 0, _, _ => none
  | n + 1, ρ, S => (t ρ S).bind fun b => if b.1 = true then (g ρ b.2).bind fun x => match x.1 with
      | .nx ρ' => whl t g n ρ' x.2
      | .ct ρ' => whl t g n ρ' x.2
      | .bk ρ' => some (.nx ρ', x.2)
      | .rt d => some (.rt d, x.2)
    else some (.nx ρ, b.2)
def mWhile (n : Nat) (t : EtF) (g : StF) : StF := whl t g n
section
variable {X : Cx} {st : Stmt} {t : EtF} {g : StF}
theorem ms_while (n : Nat) (h : PS X st (tWhile (tT X.K X.mg t) (tS X.K X.mg g))) : MS X st (mWhile n t g) := ps_imp h <| by
  rintro Dd σ H ⟨c, ρ, o, S', ⟨rfl, k, en⟩, q, p⟩
  refine ⟨fun m σ H => ∃ c2 ρ2, At X.K X.mg c2 ρ2 σ H ∧ Le c c2 ∧ whl t g m ρ2 c2.S = some (o, S'), ⟨n, c, ρ, ⟨rfl, k, en⟩, .refl c, q⟩, ?_⟩
  rintro m σ1 H1 ⟨c1, ρ1, ⟨rfl, k1, en1⟩, l1, q1⟩
  cases m with
  | zero => cases q1
  | succ m =>
    obtain ⟨⟨b, S1⟩, h1, q2⟩ := bd q1
    refine ⟨c1, ρ1, b, S1, .of k1 en1, h1, fun c2 l2 k2 e2 => ?_⟩
    cases b with
    | false =>
      cases q2
      exact p c2 (l1.trans l2) k2 e2 _ (en1.mono l2)
    | true =>
      obtain ⟨⟨x, S3⟩, h3, q3⟩ := bd (show (g ρ1 S1).bind _ = some (o, S') from q2)
      refine ⟨fun σ4 H4 => ∃ c2 ρ2, At X.K X.mg c2 ρ2 σ4 H4 ∧ Le c c2 ∧ whl t g m ρ2 c2.S = some (o, S'), fun σ4 H4 z => ⟨m, Nat.lt_succ_self m, z⟩, ?_⟩
      refine ⟨c2, ρ1, x, S3, .of k2 (en1.mono l2), by rw [e2]; exact h3, fun c3 l3 k3 e3 => ?_⟩
      cases x with
      | nx ρ' => exact fun σ4 en4 => ⟨c3, ρ', .of k3 en4, (l1.trans l2).trans l3, by rw [e3]; exact q3⟩
      | ct ρ' => exact fun σ4 en4 => ⟨c3, ρ', .of k3 en4, (l1.trans l2).trans l3, by rw [e3]; exact q3⟩
      | bk ρ' =>
        cases q3
        exact p c3 ((l1.trans l2).trans l3) k3 e3
      | rt d =>
        cases q3
        exact p c3 ((l1.trans l2).trans l3) k3 e3
end

/-! ### lists of the store -/
def stLst (S : Sto) (j : Nat) : Option (List D) := match S[j]? with
  | some (.lst xs) => some xs
  | _ => none
theorem stLst_eq {S : Sto} {j : Nat} {xs : List D} (h : stLst S j = some xs) : S[j]? = some (.lst xs) := by
  unfold stLst at h
  split at h
  · cases h; assumption
  · cases h
/-- x.append(e) -/
def mApp (f g : EvF) : EvF := fun ρ S => (f ρ S).bind fun x => match x.1 with
  | .ref j => (stLst x.2 j).bind fun _ => (g ρ x.2).bind fun y => (stLst y.2 j).bind fun xs => if xs.length < 100000 then some (.non, y.2.set j (.lst (xs ++ [y.1]))) else none
  | _ => none
def mExt (f g : EvF) : EvF := fun ρ S => (f ρ S).bind fun x => match x.1 with
  | .ref j => (stLst x.2 j).bind fun _ => (g ρ x.2).bind fun y => match y.1 with
    | .lst zs => (stLst y.2 j).bind fun xs => if xs.length + zs.length < 100000 then some (.non, y.2.set j (.lst (xs ++ zs))) else none
    | _ => none
  | _ => none
def mPop (f : EvF) : EvF := fun ρ S => (f ρ S).bind fun x => match x.1 with
  | .ref j => (stLst x.2 j).bind fun xs => (xs[xs.length - 1]?).map fun d => (d, x.2.set j (.lst xs.dropLast))
  | _ => none
theorem DenA.dropLast {K : PySem.W.Frag} {mg : Str → Option Value} {c : Cfg} {ds : List D} {vs : List V} (h : DenA K mg c vs ds) : DenA K mg c vs.dropLast ds.dropLast := by
  rw [List.dropLast_eq_take, List.dropLast_eq_take, h.length]
  exact h.take _
theorem post_put {K : PySem.W.Frag} {mg : Str → Option Value} {c : Cfg} {j : Nat} {vs : List V} {ds : List D} {d : D} {v : V} {Q : VK} (P : Post K mg c (c.S.set j (.lst ds)) d Q) (k : Ok K mg c) (hj : j < c.S.length) (h : DenA K mg c vs ds) (q : Den K mg c v d) : Q v (upd c.H (c.π j) (.lst vs)) :=
  P v (c.put j (.lst vs) (.lst ds)) (put_le hj) (put_ok k hj ⟨_, upd_same, h.mono (put_le hj)⟩) rfl (q.mono (put_le hj))
section
variable {X : Cx} {e : Expr} {f g : EvF}
theorem ty_lst {K : PySem.W.Frag} {H : Hp} {a : Addr} {xs : List V} (h : H a = some (.lst xs)) : tyV K "list" (.ref a) H := .inl ⟨rfl, xs, .inl (.inl h)⟩
theorem one_arg {g : EvF} {ρ : En} {S : Sto} {y : D × Sto} (h : g ρ S = some y) : mCons g mNil ρ S = some ([y.1], y.2) := by
  unfold mCons mNil
  rw [h]
  rfl
theorem ty_ref {K : PySem.W.Frag} {mg : Str → Option Value} {c : Cfg} {j : Nat} {xs : List D} (k : Ok K mg c) (h : stLst c.S j = some xs) : tyV K "list" (.ref (c.π j)) c.H := by
  obtain ⟨vs, hv, _⟩ := k.at_ _ _ (stLst_eq h)
  exact ty_lst hv
theorem me_app (h : PE X e (tBM X.K "list" rAppend (tM X.K X.mg f) (tAs X.K X.mg (mCons g mNil)))) : ME X e (mApp f g) := pe_imp h <| by
  rintro σ H Q ⟨c, ρ, d, S', ⟨rfl, k, en⟩, q, p⟩
  obtain ⟨⟨x, S1⟩, h1, q2⟩ := bd q
  clear q
  refine ⟨c, ρ, x, S1, .of k en, h1, fun v c1 l1 k1 e1 D1 => ?_⟩
  cases x <;> try (cases q2)
  rename_i j
  obtain ⟨ys, h0, q2⟩ := bd (show (stLst S1 j).bind _ = some (d, S') from q2)
  obtain ⟨⟨y, S2⟩, h2, q2⟩ := bd q2
  obtain ⟨xs, h3, q3⟩ := bd q2
  by_cases z : xs.length < 100000
  · rw [if_pos z] at q3
    cases q3
    cases D1 with
    | ref hj =>
      refine ⟨ty_ref k1 (by rw [e1]; exact h0), c1, ρ, _, _, .of k1 (en.mono l1), by rw [e1]; exact one_arg h2, fun vs c2 l2 k2 e2 D2 => ?_⟩
      cases D2 with
      | cons a b =>
        cases b
        subst e2
        have hj2 : j < c2.S.length := lt_of_get (stLst_eq h3)
        obtain ⟨ws, hw, dw⟩ := k2.at_ _ _ (stLst_eq h3)
        refine ⟨_, ws, _, rfl, rfl, by rw [← l2.pi j hj]; exact hw, by rw [dw.length, sizeLine_eq]; omega, ?_⟩
        rw [← l2.pi j hj]
        exact post_put (p.mono (l1.trans l2)) k2 hj2 (dw.app (.cons a .nil)) .non
  · rw [if_neg z] at q3; cases q3
theorem me_pop (h : PE X e (tBM0 X.K "list" rPop (tM X.K X.mg f))) : ME X e (mPop f) := pe_imp h <| by
  rintro σ H Q ⟨c, ρ, d, S', ⟨rfl, k, en⟩, q, p⟩
  obtain ⟨⟨x, S1⟩, h1, q2⟩ := bd q
  clear q
  refine ⟨c, ρ, x, S1, .of k en, h1, fun v c1 l1 k1 e1 D1 => ?_⟩
  cases x <;> try (cases q2)
  rename_i j
  obtain ⟨xs, h0, q2⟩ := bd (show (stLst S1 j).bind _ = some (d, S') from q2)
  obtain ⟨y, h2, q2⟩ := mp q2
  cases q2
  cases D1 with
  | ref hj =>
    subst e1
    obtain ⟨ws, hw, dw⟩ := k1.at_ _ _ (stLst_eq h0)
    obtain ⟨u, hu, du⟩ := dw.get h2
    exact ⟨ty_ref k1 h0, _, ws, u, rfl, rfl, hw, by rw [dw.length]; exact hu, post_put (p.mono l1) k1 hj dw.dropLast du⟩
/-- list.extend by a list that is read -/
def rExtR : V → List V → Hp → VK → Prop := fun x vs H Q => ∃ l b xs zs, x = .ref l ∧ vs = [.ref b] ∧ H l = some (.lst xs) ∧ Rd H b (.lst zs) ∧ xs.length + zs.length ≤ sizeLine ∧ Q .non (upd H l (.lst (xs ++ zs)))
theorem mt_extR : MtM X "list.extend" rExtR := by
  intro pins s σ H x vs v us Q I rx rv h
  obtain ⟨l, b, xs, zs, rfl, rfl, hH, hB, hz, q⟩ := h
  cases rx
  obtain ⟨u, rfl, ru⟩ := rv.one
  cases ru
  obtain ⟨z, its, n, r, hl, e⟩ := I.lstM hH
  obtain ⟨z2, its2, n2, r2, e2⟩ := hB.ok I.hok
  have hl2 := r2.length
  have hsz : its.toArray.size + its2.toArray.size ≤ sizeLine := by rw [List.size_toArray, List.size_toArray]; omega
  have hlong : ¬ (!its.toArray.isEmpty && Builtin.List.listTooLong (its.toArray.size + its2.toArray.size)) = true := by
    rw [notLongL hsz, Bool.and_false]
    exact Bool.false_ne_true
  refine call_meets F.slot_list_extend ⟨_, e, rfl⟩ F.entry_list_extend (F.args_list_extend_2 _ _)
    (AutoSeq1.list_extend_list_list_0 l its.toArray n b its2.toArray n2 hlong (by rw [List.size_toArray]; omega) (by omega)) ⟨e, e2, ?_⟩
  refine ⟨.non, _, I.lset (its' := its ++ its2) hH e (by simp) (r.append r2) ?_, rfl, q⟩
  rw [List.length_append]
  omega
theorem me_ext (h : PE X e (tBM X.K "list" rExtR (tM X.K X.mg f) (tAs X.K X.mg (mCons g mNil)))) : ME X e (mExt f g) := pe_imp h <| by
  rintro σ H Q ⟨c, ρ, d, S', ⟨rfl, k, en⟩, q, p⟩
  obtain ⟨⟨x, S1⟩, h1, q2⟩ := bd q
  clear q
  refine ⟨c, ρ, x, S1, .of k en, h1, fun v c1 l1 k1 e1 D1 => ?_⟩
  cases x <;> try (cases q2)
  rename_i j
  obtain ⟨ys, h0, q2⟩ := bd (show (stLst S1 j).bind _ = some (d, S') from q2)
  obtain ⟨⟨y, S2⟩, h2, q2⟩ := bd q2
  cases y <;> try (cases q2)
  rename_i zs
  obtain ⟨xs, h3, q3⟩ := bd (show (stLst S2 j).bind _ = some (d, S') from q2)
  by_cases z : xs.length + zs.length < 100000
  · rw [if_pos z] at q3
    cases q3
    cases D1 with
    | ref hj =>
      refine ⟨ty_ref k1 (by rw [e1]; exact h0), c1, ρ, _, _, .of k1 (en.mono l1), by rw [e1]; exact one_arg h2, fun vs c2 l2 k2 e2 D2 => ?_⟩
      cases D2 with
      | cons a b =>
        cases b
        cases a with
        | lst s1 t1 =>
          subst e2
          have hj2 : j < c2.S.length := lt_of_get (stLst_eq h3)
          obtain ⟨ws, hw, dw⟩ := k2.at_ _ _ (stLst_eq h3)
          refine ⟨_, _, ws, _, rfl, rfl, by rw [← l2.pi j hj]; exact hw, s1.2, by rw [dw.length, t1.length, sizeLine_eq]; omega, ?_⟩
          rw [← l2.pi j hj]
          exact post_put (p.mono (l1.trans l2)) k2 hj2 (dw.app t1) .non
  · rw [if_neg z] at q3; cases q3
end

/-! ### a fresh list that will change; a list's truth; tuple of such a list -/
/-- list(x), a new thing of the store -/
def mNewC (op : CbF) (fa : EaF) : EvF := fun ρ S => (fa ρ S).bind fun x => (op x.2 x.1).bind fun z => match z with
  | .lst ds => some (.ref x.2.length, x.2 ++ [.lst ds])
  | _ => none
section
variable {X : Cx} {e : Expr} {f g : EvF} {fa : EaF}
theorem listD_inv {S : Sto} {ds zs : List D} (h : listD S ds = some (.lst zs)) : ds = [.lst zs] ∨ ds = [.tup zs] ∨ ds = [.seq zs] := by
  unfold listD at h
  split at h
  · cases h; exact .inl rfl
  · cases h; exact .inr (.inl rfl)
  · cases h; exact .inr (.inr rfl)
  · cases h
theorem me_listN (h : PE X e (tCB (fun xs H Q => ∃ a zs, xs = [.ref a] ∧ (SqL X.K H a zs ∨ SqT X.K H a zs) ∧ ∀ p, H p = none → Q (.ref p) (upd H p (.lst zs))) (tAs X.K X.mg fa))) : ME X e (mNewC listD fa) := pe_imp h <| by
  rintro σ H Q ⟨c, ρ, d, S', ⟨rfl, k, en⟩, q, p⟩
  obtain ⟨⟨ds, S1⟩, h1, q1⟩ := bd q
  obtain ⟨z, h2, q2⟩ := bd q1
  clear q q1
  obtain ⟨zs, rfl⟩ : ∃ zs, z = .lst zs := by
    cases z <;> first | exact ⟨_, rfl⟩ | cases q2
  cases q2
  refine ⟨c, ρ, ds, S1, .of k en, h1, fun vs c1 l1 k1 e1 D1 => ?_⟩
  subst e1
  have go : ∀ {ws : List V} {b : Addr}, DenA X.K X.mg c1 ws zs → (SqL X.K c1.H b ws ∨ SqT X.K c1.H b ws) → ∃ a us, [V.ref b] = [.ref a] ∧ (SqL X.K c1.H a us ∨ SqT X.K c1.H a us) ∧ ∀ p, c1.H p = none → Q (.ref p) (upd c1.H p (.lst us)) :=
    fun t s => ⟨_, _, rfl, s, fun a ha => post_new (ob := .lst _) (p.mono l1) k1 ha (upd_keep ha) ⟨_, upd_same, t.mono (new_le ha (upd_keep ha))⟩⟩
  rcases listD_inv h2 with rfl | rfl | rfl
  · obtain ⟨v, rfl, q1⟩ := da1 D1
    cases q1 with
    | lst s1 t1 => exact go t1 (.inl s1.get)
  · obtain ⟨v, rfl, q1⟩ := da1 D1
    cases q1 with
    | tup s1 t1 => exact go t1 (.inr s1.get)
  · obtain ⟨v, rfl, q1⟩ := da1 D1
    cases q1 with
    | seq s1 t1 => exact go t1 (.inl s1.get)
/-- the truth of a list, a tuple, a text, None -/
def truD (S : Sto) : D → Option Bool
  | .bl b => some b
  | .non => some false
  | .lst ds => some (!ds.isEmpty)
  | .tup ds => some (!ds.isEmpty)
  | .str x => if x.length ≤ 1000000 then some ((x.length : Int) != 0) else none
  | .int i => some (i != 0)
  | .ref j => (stLst S j).map fun xs => !xs.isEmpty
  | _ => none
def mTr (f : EvF) : EtF := fun ρ S => (f ρ S).bind fun x => (truD x.2 x.1).map fun b => (b, x.2)
theorem mt_tru (h : ME X e f) (he : ∀ whole, isTrue e X.env whole = (do let v ← whole; standAt e.pos; holding [v] (truthy v)) := by intro _; rfl) : MT X e (mTr f) := pt_imp (pt_truth h he) <| by
  rintro σ H Q ⟨c, ρ, d, S', ⟨rfl, k, en⟩, q, p⟩
  obtain ⟨⟨x, S1⟩, h1, q1⟩ := bd q
  obtain ⟨b, h2, q2⟩ := mp q1
  clear q q1
  obtain ⟨rfl, rfl⟩ : d = b ∧ S' = S1 := by cases q2; exact ⟨rfl, rfl⟩
  clear q2
  refine ⟨c, ρ, x, S', .of k en, h1, fun v c1 l1 k1 e1 D1 => ⟨d, ?_, p c1 l1 k1 e1⟩⟩
  cases x <;> try (cases h2)
  · cases D1; rfl
  · cases D1; rfl
  · cases D1; rfl
  · rename_i x
    have h2' : (if x.length ≤ 1000000 then some ((x.length : Int) != 0) else none) = some d := h2
    by_cases z : x.length ≤ 1000000
    · rw [if_pos z] at h2'
      cases h2'
      cases D1
      exact ⟨Nat.le_trans z (by decide), rfl⟩
    · rw [if_neg z] at h2'; cases h2'
  · cases D1 with
    | lst s t => exact .inl ⟨_, s.get, by have := t.length; cases t <;> rfl⟩
  · cases D1 with
    | tup s t => exact .inr (.inl ⟨_, s.get, by cases t <;> rfl⟩)
  · rename_i j
    cases D1 with
    | ref hj =>
      subst e1
      obtain ⟨xs, h3, h4⟩ := mp (show (stLst c1.S j).map _ = some d from h2)
      obtain ⟨ws, hw, dw⟩ := k1.at_ _ _ (stLst_eq h3)
      subst h4
      exact .inl ⟨ws, .inl (.inl hw), by cases dw <;> rfl⟩
/-- tuple(x), x a list of the store too -/
def tupR : CbF := fun S ds => match ds with
  | [.ref j] => (stLst S j).map .tup
  | ds => tupD S ds
theorem cd_tupR : CallD X (.type "tuple") tupR := by
  rintro pins s σ H xs us Q I r ⟨c, ds, z, rfl, k, D1, e, P⟩
  unfold tupR at e
  split at e
  · obtain ⟨v, rfl, q⟩ := da1 D1
    obtain ⟨zs, h1, rfl⟩ := mp e
    cases q with
    | ref hj =>
      obtain ⟨ws, hw, dw⟩ := k.at_ _ _ (stLst_eq h1)
      exact call_tuple_of pins s σ _ _ us Q I r ⟨_, _, rfl, .inl ⟨.inl (.inl hw), post_tup P k dw⟩⟩
  · exact cd_tup pins s σ _ _ us Q I r ⟨c, _, z, rfl, k, D1, e, P⟩
end
end M

namespace M
open PySem PySem.Spec L2 W2 RZ

/-! ### methods of texts -/
/-- one text in, a text out -/
def mS1 (g : Str → Str → Str) (f h : EvF) : EvF := fun ρ S => (f ρ S).bind fun x => match x.1 with
  | .str a => (h ρ x.2).bind fun y => match y.1 with
    | .str b => if a.length ≤ 1000000 then some (.str (g a b), y.2) else none
    | _ => none
  | _ => none
abbrev rS1 (g : Str → Str → Str) : V → List V → Hp → VK → Prop := fun x xs H Q => ∃ a b, x = .str a ∧ xs = [.str b] ∧ a.length ≤ sizeLine ∧ Q (.str (g a b)) H
section
variable {X : Cx} {e : Expr} {f h : EvF}
theorem me_s1 {g : Str → Str → Str} (he : PE X e (tBM X.K "str" (rS1 g) (tM X.K X.mg f) (tAs X.K X.mg (mCons h mNil)))) : ME X e (mS1 g f h) := pe_imp he <| by
  rintro σ H Q ⟨c, ρ, d, S', ⟨rfl, k, en⟩, q, p⟩
  obtain ⟨⟨x, S1⟩, h1, q2⟩ := bd q
  clear q
  refine ⟨c, ρ, x, S1, .of k en, h1, fun v c1 l1 k1 e1 D1 => ?_⟩
  cases x <;> try (cases q2)
  rename_i a
  obtain ⟨⟨y, S2⟩, h2, q2⟩ := bd (show (h ρ S1).bind _ = some (d, S') from q2)
  cases y <;> try (cases q2)
  rename_i b
  have q3 : (if a.length ≤ 1000000 then some (D.str (g a b), S2) else none) = some (d, S') := q2
  by_cases z : a.length ≤ 1000000
  · rw [if_pos z] at q3
    cases q3
    cases D1
    refine ⟨rfl, c1, ρ, _, _, .of k1 (en.mono l1), by rw [e1]; exact one_arg h2, fun vs c2 l2 k2 e2 D2 => ?_⟩
    obtain ⟨w, rfl, dw⟩ := da1 D2
    cases dw
    exact ⟨a, b, rfl, rfl, Nat.le_trans z (by decide), p _ c2 (l1.trans l2) k2 e2 (.str _)⟩
  · rw [if_neg z] at q3; cases q3
def strD : CbF := fun _ ds => match ds with
  | [.int i] => if i.natAbs.log2 < 1920 then some (.str (Str.ofString (toString i))) else none
  | _ => none
theorem cd_str : CallD X (.type "str") strD := by
  rintro pins s σ H xs us Q I r ⟨c, ds, z, rfl, k, D1, e, P⟩
  unfold strD at e
  split at e
  · rename_i i
    split at e
    · rename_i hl
      obtain ⟨v, rfl, q⟩ := da1 D1
      cases q
      cases e
      exact call_str_int pins s σ _ _ us Q I r ⟨i, rfl, hl, P.here k (.str _)⟩
    · cases e
  · cases e
/-- int of a text -/
def intS : CbF := fun _ ds => match ds with
  | [.str a] => if a.length ≤ 640 then (PySem.intText? a).map .int else none
  | _ => none
theorem cd_intS : CallD X (.type "int") intS := by
  rintro pins s σ H xs us Q I r ⟨c, ds, z, rfl, k, D1, e, P⟩
  unfold intS at e
  split at e
  · rename_i a
    split at e
    · rename_i hl
      obtain ⟨v, rfl, q⟩ := da1 D1
      cases q
      obtain ⟨n, h1, rfl⟩ := mp e
      exact call_int_str pins s σ _ _ us Q I r ⟨a, n, rfl, h1, hl, P.here k (.int _)⟩
    · cases e
  · cases e
end

/-! ### replace: a token must be out -/
abbrev MET (X : Cx) (e : Expr) (f : EvF) : Prop := PET X e (tM X.K X.mg f)
abbrev MAT (X : Cx) (es : List Expr) (f : EaF) : Prop := PAT X es (tAs X.K X.mg f)
abbrev MSsT (X : Cx) (st : List Stmt) (g : StF) : Prop := PSsT X st (tS X.K X.mg g)
def mRepl (y z : Str) (f : EvF) : EvF := fun ρ S => (f ρ S).bind fun x => match x.1 with
  | .str a => if a.length + (a.length + 1) * z.length ≤ 16777216 then some (.str (Txt.replace a y z), x.2) else none
  | _ => none
section
variable {X : Cx} {e : Expr} {f h : EvF} {y z : Str} {j k : Nat} {c0 c1 apos pos : Pos}
theorem repl_go {σ : L2.St} {H : Hp} {Q : VK} (q : tM X.K X.mg (mRepl y z f) σ H Q) : CwR.tReplC (tM X.K X.mg f) y z σ H Q := by
  obtain ⟨c, ρ, d, S', ⟨rfl, k, en⟩, q, p⟩ := q
  obtain ⟨⟨x, S1⟩, h1, q2⟩ := bd q
  clear q
  refine ⟨c, ρ, x, S1, .of k en, h1, fun v c1 l1 k1 e1 D1 => ?_⟩
  cases x <;> try (cases q2)
  rename_i a
  have q3 : (if a.length + (a.length + 1) * z.length ≤ 16777216 then some (D.str (Txt.replace a y z), S1) else none) = some (d, S') := q2
  by_cases w : a.length + (a.length + 1) * z.length ≤ 16777216
  · rw [if_pos w] at q3
    cases q3
    cases D1
    exact ⟨a, rfl, w, p _ c1 l1 k1 e1 (.str _)⟩
  · rw [if_neg w] at q3; cases q3
theorem met_imp {t t' : TE} (h : PET X e t) (w : ∀ σ H Q, t' σ H Q → t σ H Q) : PET X e t' := fun pins s σ H Q h0 I q => h pins s σ H Q h0 I (w σ H Q q)
theorem met_repl (ho : MET X e f) (hyz : (y == z) = false := by decide)
    (hst : starEach [.Constant (.str y) j c0, .Constant (.str z) k c1] X.env = [(false, eval (.Constant (.str y) j c0) X.env), (false, eval (.Constant (.str z) k c1) X.env)] := by rfl)
    (hbase : attributeBase e "replace" X.env (eval e X.env) = eval e X.env := by rfl) (hline : (apos.endLine == pos.line) = true := by rfl) :
    MET X (.Call (.Attribute e "replace" apos) [.Constant (.str y) j c0, .Constant (.str z) k c1] [] pos) (mRepl y z f) := met_imp (CwR.pet_replT ho hyz hst hbase hline) fun _ _ _ => repl_go
theorem met_of (h : ME X e f) : MET X e f := CwR.PET.of h
/-- "x" + e -/
theorem me_binC {q : Str} {e : Expr} (h : MET X e f) : ME X (.BinOp (.Constant (.str q) j c0) .Add e pos) (mBin addD (mC (.str q)) f) := by
  refine pe_imp (t := tOp (r2 X.K X.mg addD) (tM X.K X.mg (mC (.str q))) (tM X.K X.mg f)) ⟨fun pins s σ H Q I hq => ?_⟩ fun _ _ _ => op_go
  refine wpAny_BinOp (wpAny_mono (PySem.wpAny_toks (?c : wpAny (model X.prog X.w) X.A (eval (.Constant (.str q) j c0) X.env) (fun v s' => s.toks + 1 ≤ s'.toks ∧ EP X pins σ (fun x H1 => (tM X.K X.mg f) σ H1 fun y H2 => (r2 X.K X.mg addD) x y H2 Q) v s') X.xe s)) (fun v s1 q => ?_) fun _ _ z => z.2)
  case c =>
    obtain ⟨c, ρ, d, S', ⟨rfl, k, en⟩, q2, p⟩ := hq
    cases q2
    exact Calls.Constant_str ⟨Nat.le_refl _, .str q, c.H, I.tok _, ⟨_, rfl⟩, p.here k (.str q)⟩
  · obtain ⟨_, hk, x, H1, I1, r1, q1⟩ := q
    exact thn (h pins s1 σ H1 _ (by omega) I1 q1) fun u s2 ⟨y, H2, I2, r2, q2⟩ => od_add pins s2 σ H2 x y v u Q I2 r1 r2 q2
theorem mat_nil : MAT X [] mNil := fun pos pins s σ H Q _ I h => (ma_nil (X := X)).run pos pins s σ H Q I h
theorem mat_cons {es : List Expr} {fa : EaF} (ha : MET X e f) (hr : MAT X es fa) (hs : starEach (e :: es) X.env = (false, eval e X.env) :: starEach es X.env := by rfl) : MAT X (e :: es) (mCons f fa) := by
  have a := pat_cons ha hr hs
  intro pos pins s σ H Q h0 I h
  refine a pos pins s σ H Q h0 I ?_
  obtain ⟨c, ρ, d, S', ⟨rfl, k, en⟩, q, p⟩ := h
  obtain ⟨⟨x, S1⟩, h1, q⟩ := bd q
  obtain ⟨y, h2, q⟩ := mp q
  cases q
  refine ⟨c, ρ, x, S1, .of k en, h1, fun v c1 l1 k1 e1 D1 => ?_⟩
  refine ⟨c1, ρ, y.1, y.2, .of k1 (en.mono l1), by rw [e1]; exact h2, fun vs c2 l2 k2 e2 D2 => ?_⟩
  exact p _ c2 (l1.trans l2) k2 e2 (.cons (D1.mono l2) D2)
theorem met_lst {es : List Expr} {fa : EaF} (h : MAT X es fa) : MET X (.List es pos) (mLst fa) := met_imp (pet_lst h) <| by
  rintro σ H Q ⟨c, ρ, d, S', ⟨rfl, k, en⟩, q, p⟩
  obtain ⟨⟨x, S1⟩, h1, q⟩ := bd q
  by_cases z : x.length ≤ 100000
  · rw [if_pos z] at q
    cases q
    refine ⟨c, ρ, x, S1, .of k en, h1, fun vs c1 l1 k1 e1 D1 => ⟨by rw [D1.length]; exact sz5 z, ?_⟩⟩
    exact post_lst (by rw [e1]; exact p.mono l1) k1 D1
  · rw [if_neg z] at q
    cases q
theorem msst_ret (h : MET X e f) : MSsT X [.Return (some e) pos] (mRet f) := by
  have a := CwR.psst_one (CwR.pst_ret h (pos := pos))
  intro pins s σ H D h0 I hq
  refine a pins s σ H D h0 I ?_
  obtain ⟨c, ρ, o, S', ⟨rfl, k, en⟩, q, p⟩ := hq
  obtain ⟨x, h1, q⟩ := mp q
  cases q
  exact ⟨c, ρ, x.1, x.2, .of k en, h1, fun v c1 l1 k1 e1 D1 => p c1 l1 k1 e1 v D1⟩
/-- if e == "x": a token is out in both ways -/
theorem ms_ifC {a : Expr} {fa : EvF} {g h : StF} {op : D → D → Option D} {o : CmpOp} {q : Str} {cp cpos ipos : Pos} {body orelse : List Stmt} (ho : OpD X (compareOp o) op) (ha : ME X a fa) (hm : behindInMarks o (.Constant (.str q) j cp) = false) (hb : MSsT X body g) (he : MSs X orelse h) :
    MS X (.If (.Compare a [o] [.Constant (.str q) j cp] cpos) body orelse ipos) (mIfS (mTv (mBin op fa (mC (.str q)))) g h) := by
  constructor
  rintro pins s σ H D I ⟨c, ρ, ou, S', ⟨rfl, k, en⟩, hq, p⟩
  obtain ⟨⟨b, S1⟩, h1, hq⟩ := bd hq
  obtain ⟨⟨w, S2⟩, h2, h3⟩ := bd h1
  obtain ⟨x, g1, g2⟩ := bd h2
  obtain ⟨y, g3, g4⟩ := bd g2
  obtain ⟨z, g5, g6⟩ := mp g4
  cases g3
  cases g6
  have h3' : w = .bl b ∧ x.2 = S1 := by
    cases w <;> try (cases h3)
    exact ⟨rfl, rfl⟩
  obtain ⟨rfl, rfl⟩ := h3'
  refine wpAny_If (wpAny_isTrue_Compare1 (thn (ha.run pins s σ c.H (fun v H1 => ∃ c1, c1.H = H1 ∧ Le c c1 ∧ Ok X.K X.mg c1 ∧ c1.S = x.2 ∧ Den X.K X.mg c1 v x.1) I ⟨c, ρ, x.1, x.2, .of k en, g1, fun v c1 l1 k1 e1 D1 => ⟨c1, rfl, l1, k1, e1, D1⟩⟩) fun v s1 hx => ?_) hm)
  obtain ⟨xv, H1, I1, r1, c1, rfl, l1, k1, e1, D1⟩ := hx
  refine Calls.Constant_str (wpAny_mono (PySem.wpAny_toks (ho pins { s1 with toks := s1.toks + 1 } σ c1.H xv (.str q) v (.str q s1.toks) (fun v H2 => ∃ c2, c2.H = H2 ∧ Le c1 c2 ∧ Ok X.K X.mg c2 ∧ c2.S = x.2 ∧ v = .bl b) (I1.tok _) r1 ⟨_, rfl⟩ ⟨c1, x.1, .str q, .bl b, rfl, k1, D1, .str q, g5, fun v c2 l2 k2 e2 D2 => ⟨c2, rfl, l2, k2, e2.trans e1, by cases D2; rfl⟩⟩)) (fun u s2 hz => ?_) fun _ _ z => z.2)
  obtain ⟨hk, _, H2, I2, r2, c2, rfl, l2, k2, e2, rfl⟩ := hz
  cases r2
  have hk' : 1 ≤ s2.toks := by
    have : s1.toks + 1 ≤ s2.toks := hk
    omega
  refine wpAny_truthy_bool ?_
  cases b with
  | true => exact hb pins s2 σ c2.H D hk' I2 ⟨c2, ρ, ou, S', .of k2 (en.mono (l1.trans l2)), by rw [e2]; exact hq, fun c3 l3 => p c3 ((l1.trans l2).trans l3)⟩
  | false => exact he.run pins s2 σ c2.H D I2 ⟨c2, ρ, ou, S', .of k2 (en.mono (l1.trans l2)), by rw [e2]; exact hq, fun c3 l3 => p c3 ((l1.trans l2).trans l3)⟩
end
end M

namespace M
open PySem PySem.Spec L2 W2 RZ

/-! ### x in a list, a tuple -/
def memD (ds : List D) : D → Option Bool
  | .str x => (strsOf ds).map fun ys => decide (x ∈ ys)
  | .int i => (intsOf ds).map fun ns => decide (i ∈ ns)
  | _ => none
def seqOf : D → Option (List D)
  | .lst ds => some ds
  | .tup ds => some ds
  | _ => none
def inQ (a b : D) : Option D := (seqOf b).bind fun ds => (memD ds a).map .bl
def ninQ (a b : D) : Option D := (seqOf b).bind fun ds => (memD ds a).map fun x => .bl (!x)
theorem inV_str {x : Str} : ∀ ys : List Str, inV (.str x) (ys.map V.str) = decide (x ∈ ys)
  | [] => rfl
  | y :: ys => by
    have ih := inV_str (x := x) ys
    show (eqV (.str y) (.str x) || inV (.str x) (ys.map V.str)) = _
    rw [ih]
    by_cases h : x = y
    · subst h; simp [eqV]
    · have : (y == x) = false := by simpa using fun e => h e.symm
      simp [eqV, this, h]
theorem inV_int {x : Int} : ∀ ys : List Int, inV (.int x) (ys.map V.int) = decide (x ∈ ys)
  | [] => rfl
  | y :: ys => by
    have ih := inV_int (x := x) ys
    show (eqV (.int y) (.int x) || inV (.int x) (ys.map V.int)) = _
    rw [ih]
    by_cases h : x = y
    · subst h; simp [eqV]
    · have : (y == x) = false := by simpa using fun e => h e.symm
      simp [eqV, this, h]
theorem flat_str (ys : List Str) : (ys.map V.str).all flatV = true := by
  rw [List.all_eq_true]; intro v hv; obtain ⟨y, _, rfl⟩ := List.mem_map.mp hv; rfl
theorem flat_int (ys : List Int) : (ys.map V.int).all flatV = true := by
  rw [List.all_eq_true]; intro v hv; obtain ⟨y, _, rfl⟩ := List.mem_map.mp hv; rfl
theorem mem_go {K : PySem.W.Frag} {mg : Str → Option Value} {c : Cfg} {x : V} {a : D} {vs : List V} {ds : List D} {b : Bool} (Da : Den K mg c x a) (t : DenA K mg c vs ds) (e : memD ds a = some b) : flatV x = true ∧ vs.all flatV = true ∧ inV x vs = b := by
  cases a <;> try (cases e)
  · obtain ⟨ns, h1, rfl⟩ := mp (show (intsOf ds).map _ = some b from e)
    cases Da
    rw [den_ints t h1]
    exact ⟨rfl, flat_int ns, inV_int ns⟩
  · obtain ⟨ns, h1, rfl⟩ := mp (show (strsOf ds).map _ = some b from e)
    cases Da
    rw [den_strs t h1]
    exact ⟨rfl, flat_str ns, inV_str ns⟩
section
variable {X : Cx}
theorem seq_go {K : PySem.W.Frag} {mg : Str → Option Value} {c : Cfg} {y : V} {b : D} {ds : List D} (Db : Den K mg c y b) (h : seqOf b = some ds) : ∃ p vs, y = .ref p ∧ (SqL K c.H p vs ∨ SqT K c.H p vs) ∧ DenA K mg c vs ds := by
  cases b <;> try (cases h)
  · cases Db with
    | lst s t => exact ⟨_, _, rfl, .inl s.get, t⟩
  · cases Db with
    | tup s t => exact ⟨_, _, rfl, .inr s.get, t⟩
theorem od_inQ : OpD X (compareOp .In) inQ := by
  rintro pins s σ H x y v u Q I rx ry ⟨c, a, b, z, rfl, k, Da, Db, e, P⟩
  obtain ⟨ds, h1, e⟩ := bd e
  obtain ⟨r, h2, rfl⟩ := mp e
  obtain ⟨p, vs, rfl, hs, t⟩ := seq_go Db h1
  obtain ⟨f1, f2, f3⟩ := mem_go Da t h2
  exact op_in_seq pins s σ _ _ _ v u Q I rx ry ⟨p, vs, rfl, hs, f1, f2, by rw [if_neg (by decide), f3]; exact P.here k (.bl _)⟩
theorem od_ninQ : OpD X (compareOp .NotIn) ninQ := by
  rintro pins s σ H x y v u Q I rx ry ⟨c, a, b, z, rfl, k, Da, Db, e, P⟩
  obtain ⟨ds, h1, e⟩ := bd e
  obtain ⟨r, h2, rfl⟩ := mp e
  obtain ⟨p, vs, rfl, hs, t⟩ := seq_go Db h1
  obtain ⟨f1, f2, f3⟩ := mem_go Da t h2
  exact op_notIn_seq pins s σ _ _ _ v u Q I rx ry ⟨p, vs, rfl, hs, f1, f2, by rw [if_pos rfl, f3]; exact P.here k (.bl _)⟩
end

/-! ### a list as a target -/
def gL (is : List Nat) : TgF := fun ρ d => match d with
  | .lst ds => setAll is ds ρ
  | _ => none
theorem mg_lst {X : Cx} {pos : Pos} {es : List Expr} {n : Nat} {is : List Nat} (hl : PG X (.Tuple es n pos) (gLst X.K is.length (gsA is))) : MG X (.Tuple es n pos) (gL is) := pg_imp hl <| by
  rintro v σ H Q ⟨c, ρ, d, ρ', ⟨rfl, k, en⟩, D1, q, p⟩
  cases d <;> try (cases q)
  cases D1 with
  | lst s t =>
    have q' : setAll is _ ρ = some ρ' := q
    have l := setAll_len q'
    exact ⟨_, _, rfl, s.get, t.length.trans l, t.length.trans l, p _ (setAll_en en t q')⟩
/-- a + b of lists, a new thing of the store -/
def mAddN (f g : EvF) : EvF := fun ρ S => (f ρ S).bind fun x => (g ρ x.2).bind fun y => match x.1, y.1 with
  | .lst a, .lst b => if a.length + b.length ≤ 100000 then some (.ref y.2.length, y.2 ++ [.lst (a ++ b)]) else none
  | _, _ => none
theorem me_addN {X : Cx} {a b : Expr} {f g : EvF} {pos : Pos} (ha : ME X a f) (hb : ME X b g) : ME X (.BinOp a .Add b pos) (mAddN f g) := by
  have ho : OpR X (binaryOp .Add) (fun x y H Q => ∃ (p q : Addr) (xs ys : List V), x = .ref p ∧ y = .ref q ∧ Rd H p (.lst xs) ∧ Rd H q (.lst ys) ∧ xs.length + ys.length ≤ sizeLine ∧ ∀ a, H a = none → Q (.ref a) (upd H a (.lst (xs ++ ys)))) := by
    rintro pins s σ H x y v u Q I rx ry ⟨p, q, xs, ys, rfl, rfl, h1, h2, hz, P⟩
    obtain ⟨z1, its, n, r, g1⟩ := h1.ok I.hok
    obtain ⟨z2, its2, n2, r2, g2⟩ := h2.ok I.hok
    cases rx
    cases ry
    have q1 := r.length
    have q2 := r2.length
    refine PySem.P.add_list g1 g2 ?_ (by rw [List.size_toArray, List.size_toArray]; omega)
    rw [show its.toArray ++ its2.toArray = (its ++ its2).toArray by simp]
    exact ⟨.ref _, _, I.lnew (t' := s.toks) (r.append r2) (by rw [List.length_append]; omega), rfl, P _ I.fresh⟩
  refine pe_imp (pe_op ho ha hb) ?_
  rintro σ H Q ⟨c, ρ, d, S', ⟨rfl, k, en⟩, q, p⟩
  obtain ⟨⟨x, S1⟩, h1, q1⟩ := bd q
  obtain ⟨⟨y, S2⟩, h2, q2⟩ := bd q1
  clear q q1
  refine ⟨c, ρ, x, S1, .of k en, h1, fun v c1 l1 k1 e1 D1 => ⟨c1, ρ, y, S2, .of k1 (en.mono l1), by rw [e1]; exact h2, fun w c2 l2 k2 e2 D2 => ?_⟩⟩
  cases x <;> try (cases q2)
  cases y <;> try (cases q2)
  rename_i xs ys
  have q3 : (if xs.length + ys.length ≤ 100000 then some (D.ref S2.length, S2 ++ [Ob.lst (xs ++ ys)]) else none) = some (d, S') := q2
  by_cases z : xs.length + ys.length ≤ 100000
  · rw [if_pos z] at q3
    cases q3
    subst e2
    cases D1.mono l2 with
    | lst s1 t1 =>
      cases D2 with
      | lst s2 t2 =>
        exact ⟨_, _, _, _, rfl, rfl, s1.2, s2.2, by rw [t1.length, t2.length]; exact sz5 z, fun a ha => post_new (ob := .lst _) (p.mono (l1.trans l2)) k2 ha (upd_keep ha) ⟨_, upd_same, (t1.app t2).mono (new_le ha (upd_keep ha))⟩⟩
  · rw [if_neg z] at q3; cases q3

/-! ### dicts with keys that are ints and texts -/
section
variable {α : Type}
def gv (kvs : List (Key × α)) (k : Key) : Option α := (kvs.find? fun kv => decide (kv.1 = k)).map (·.2)
def gput (kvs : List (Key × α)) (k : Key) (v : α) : List (Key × α) :=
  if (kvs.any fun kv => decide (kv.1 = k)) = true then kvs.map (fun kv => if kv.1 = k then (kv.1, v) else kv) else kvs ++ [(k, v)]
def gmerge (kvs more : List (Key × α)) : List (Key × α) := more.foldl (fun acc kv => gput acc kv.1 kv.2) kvs
end
def keyOf : D → Option Key
  | .int i => some (.inl i)
  | .str x => some (.inr x)
  | _ => none
def dctOf (S : Sto) : D → Option (List (Key × D))
  | .dct kvs => some kvs
  | .ref j => match S[j]? with
    | some (.dct kvs) => some kvs
    | _ => none
  | _ => none
section
variable {K : PySem.W.Frag} {mg : Str → Option Value} {c : Cfg}
theorem den_gv {k : Key} : ∀ {ds : List (Key × D)} {vs : List (Key × V)}, DenK K mg c vs ds → match gv ds k with
    | some d => ∃ v, valV vs k = some v ∧ Den K mg c v d
    | none => valV vs k = none
  | [], _, h => by cases h; rfl
  | (j, d) :: ds, _, h => by
    cases h with
    | @cons _ v vs _ _ a b =>
      have ih := den_gv (k := k) b
      by_cases e : j = k
      · have h1 : gv ((j, d) :: ds) k = some d := by simp [gv, List.find?_cons, e]
        have h2 : valV ((j, v) :: vs) k = some v := by simp [valV, List.find?_cons, e]
        rw [h1]
        exact ⟨v, h2, a⟩
      · have h1 : gv ((j, d) :: ds) k = gv ds k := by simp [gv, List.find?_cons, e]
        have h2 : valV ((j, v) :: vs) k = valV vs k := by simp [valV, List.find?_cons, e]
        rw [h1, h2]
        exact ih
theorem denK_app : ∀ {ds es : List (Key × D)} {vs ws : List (Key × V)}, DenK K mg c vs ds → DenK K mg c ws es → DenK K mg c (vs ++ ws) (ds ++ es)
  | [], _, _, _, h, q => by cases h; exact q
  | _ :: _, _, _, _, h, q => by
    cases h with
    | cons a b => exact .cons a (denK_app b q)
theorem denK_any {k : Key} : ∀ {ds : List (Key × D)} {vs : List (Key × V)}, DenK K mg c vs ds → (vs.any fun kv => decide (kv.1 = k)) = ds.any fun kv => decide (kv.1 = k)
  | [], _, h => by cases h; rfl
  | _ :: _, _, h => by
    cases h with
    | cons a b => rw [List.any_cons, List.any_cons, denK_any b]
theorem denK_map {k : Key} {v : V} {d : D} (q : Den K mg c v d) : ∀ {ds : List (Key × D)} {vs : List (Key × V)}, DenK K mg c vs ds → DenK K mg c (vs.map fun kv => if kv.1 = k then (kv.1, v) else kv) (ds.map fun kv => if kv.1 = k then (kv.1, d) else kv)
  | [], _, h => by cases h; exact .nil
  | (j, _) :: _, _, h => by
    cases h with
    | cons a b =>
      rw [List.map_cons, List.map_cons]
      by_cases e : j = k
      · rw [if_pos e, if_pos e]; exact .cons q (denK_map q b)
      · rw [if_neg e, if_neg e]; exact .cons a (denK_map q b)
theorem denK_put {k : Key} {v : V} {d : D} {ds : List (Key × D)} {vs : List (Key × V)} (h : DenK K mg c vs ds) (q : Den K mg c v d) : DenK K mg c (putK vs k v) (gput ds k d) := by
  unfold putK gput
  rw [denK_any h]
  split
  · exact denK_map q h
  · exact denK_app h (.cons q .nil)
theorem denK_merge : ∀ {es ds : List (Key × D)} {ws vs : List (Key × V)}, DenK K mg c ws es → DenK K mg c vs ds → DenK K mg c (mergeK vs ws) (gmerge ds es)
  | [], _, _, _, h, q => by cases h; exact q
  | _ :: _, _, _, _, h, q => by
    cases h with
    | @cons kk _ _ _ _ a b =>
      have z := denK_merge b (denK_put (k := kk) q a)
      exact z
theorem dct_go (k : Ok K mg c) {x : V} {a : D} {kvs : List (Key × D)} (Da : Den K mg c x a) (h : dctOf c.S a = some kvs) : ∃ p vs, x = .ref p ∧ c.H p = some (.dK vs) ∧ DenK K mg c vs kvs := by
  cases a <;> try (cases h)
  · cases Da with
    | dct n s t => exact ⟨_, _, rfl, s, t⟩
  · rename_i j
    have h' : (match c.S[j]? with | some (.dct kvs) => some kvs | _ => none) = some kvs := h
    split at h'
    · rename_i hS
      cases h'
      obtain ⟨vs, hv, t⟩ := k.at_ _ _ hS
      cases Da with
      | ref hj => exact ⟨_, _, rfl, hv, t⟩
    · cases h'
theorem key_go {y : V} {b : D} {k : Key} (Db : Den K mg c y b) (h : keyOf b = some k) : y = kV k := by
  cases b <;> cases h <;> cases Db <;> rfl
end
def mDGet (f g : EvF) : EvF := fun ρ S => (f ρ S).bind fun x => (g ρ x.2).bind fun y => (dctOf y.2 x.1).bind fun kvs => (keyOf y.1).bind fun k => (gv kvs k).map fun d => (d, y.2)
def mDIn (g f : EvF) : EvF := fun ρ S => (g ρ S).bind fun y => (f ρ y.2).bind fun x => (dctOf x.2 x.1).bind fun kvs => (keyOf y.1).map fun k => (.bl (gv kvs k).isSome, x.2)
def mDGet2 (f g h : EvF) : EvF := fun ρ S => (f ρ S).bind fun x => (dctOf x.2 x.1).bind fun _ => (g ρ x.2).bind fun y => (h ρ y.2).bind fun z => (dctOf z.2 x.1).bind fun kvs => (keyOf y.1).map fun k => ((gv kvs k).getD z.1, z.2)
section
variable {X : Cx} {e : Expr} {f g h : EvF}
theorem me_dget (he : PE X e (tDGet (tM X.K X.mg f) (tM X.K X.mg g))) : ME X e (mDGet f g) := pe_imp he <| by
  rintro σ H Q ⟨c, ρ, d, S', ⟨rfl, k, en⟩, q, p⟩
  obtain ⟨⟨x, S1⟩, h1, q⟩ := bd q
  obtain ⟨⟨y, S2⟩, h2, q⟩ := bd q
  obtain ⟨kvs, h3, q⟩ := bd q
  obtain ⟨kk, h4, q⟩ := bd q
  obtain ⟨w, h5, q⟩ := mp q
  cases q
  refine ⟨c, ρ, x, S1, .of k en, h1, fun v c1 l1 k1 e1 D1 => ⟨c1, ρ, y, S2, .of k1 (en.mono l1), by rw [e1]; exact h2, fun u c2 l2 k2 e2 D2 => ?_⟩⟩
  subst e2
  obtain ⟨pp, vs, rfl, hv, t⟩ := dct_go k2 (D1.mono l2) h3
  have a := den_gv (k := kk) t
  rw [h5] at a
  obtain ⟨wv, g1, g2⟩ := a
  have ky := key_go D2 h4
  subst ky
  exact ⟨pp, wv, rfl, by rw [← g1]; exact .k hv, p.mono (l1.trans l2) |>.here k2 g2⟩
theorem me_din {pos : Pos} {ek ed : Expr} (hr : X.A.units + 1 < cLine) (hk : ME X ek g) (hd : ME X ed f) (hm : behindInMarks .In ed = false := by rfl) : ME X (.Compare ek [.In] [ed] pos) (mDIn g f) := by
  have go : ∀ σ H Q, tM X.K X.mg (mDIn g f) σ H Q → tDIn (tM X.K X.mg g) (tM X.K X.mg f) σ H Q := by
    rintro σ H Q ⟨c, ρ, d, S', ⟨rfl, k, en⟩, q, p⟩
    obtain ⟨⟨y, S1⟩, h1, q⟩ := bd q
    obtain ⟨⟨x, S2⟩, h2, q⟩ := bd q
    obtain ⟨kvs, h3, q⟩ := bd q
    obtain ⟨kk, h4, q⟩ := mp q
    cases q
    refine ⟨c, ρ, y, S1, .of k en, h1, fun v c1 l1 k1 e1 D1 => ⟨c1, ρ, x, S2, .of k1 (en.mono l1), by rw [e1]; exact h2, fun u c2 l2 k2 e2 D2 => ?_⟩⟩
    subst e2
    obtain ⟨pp, vs, rfl, hv, t⟩ := dct_go k2 D2 h3
    have a := den_gv (k := kk) t
    have ky := key_go D1 h4
    subst ky
    refine ⟨pp, valV vs kk, rfl, .k hv, ?_⟩
    have : (valV vs kk).isSome = (gv kvs kk).isSome := by
      cases eg : gv kvs kk with
      | none => rw [eg] at a; rw [a]; rfl
      | some w => rw [eg] at a; obtain ⟨wv, g1, _⟩ := a; rw [g1]; rfl
    rw [this]
    exact p.mono (l1.trans l2) |>.here k2 (.bl _)
  refine pe_imp ⟨fun pins s σ H Q I hq => ?_⟩ go
  exact wpAny_Compare1 ((pc_din hr hk hd).run pins s σ H Q I hq) hm
theorem me_dget2 (he : PE X e (tDGet2 (tM X.K X.mg f) (tM X.K X.mg g) (tM X.K X.mg h))) : ME X e (mDGet2 f g h) := pe_imp he <| by
  rintro σ H Q ⟨c, ρ, d, S', ⟨rfl, k, en⟩, q, p⟩
  obtain ⟨⟨x, S1⟩, h1, q⟩ := bd q
  obtain ⟨_, h0, q⟩ := bd q
  obtain ⟨⟨y, S2⟩, h2, q⟩ := bd q
  obtain ⟨⟨z, S3⟩, h3, q⟩ := bd q
  obtain ⟨kvs, h4, q⟩ := bd q
  obtain ⟨kk, h5, q⟩ := mp q
  cases q
  refine ⟨c, ρ, x, S1, .of k en, h1, fun v c1 l1 k1 e1 D1 => ?_⟩
  subst e1
  obtain ⟨pp, vs0, rfl, hv0, t0⟩ := dct_go k1 D1 h0
  refine ⟨pp, rfl, .inl ⟨vs0, .inl hv0⟩, c1, ρ, y, S2, .of k1 (en.mono l1), h2, fun u c2 l2 k2 e2 D2 => ⟨c2, ρ, z, S3, .of k2 (en.mono (l1.trans l2)), by rw [e2]; exact h3, fun w c3 l3 k3 e3 D3 => ?_⟩⟩
  subst e3
  obtain ⟨pp', vs, e4, hv, t⟩ := dct_go k3 (D1.mono (l2.trans l3)) h4
  cases e4
  have a := den_gv (k := kk) t
  have ky := key_go D2 h5
  subst ky
  refine ⟨valV vs kk, .k hv, ?_⟩
  have P := p.mono ((l1.trans l2).trans l3)
  revert a P
  cases gv kvs kk with
  | none => intro a P; rw [a]; exact P.here k3 D3
  | some w' =>
    intro a P
    obtain ⟨wv, g1, g2⟩ := a
    rw [g1]
    exact P.here k3 g2
end
/-- dict(pairs) -/
def prsOf : List D → Option (List (Key × D))
  | [] => some []
  | .tup [a, d] :: r => (keyOf a).bind fun k => (prsOf r).map fun y => (k, d) :: y
  | _ => none
theorem prs_go {K : PySem.W.Frag} {mg : Str → Option Value} {c : Cfg} : ∀ {ds : List D} {vs : List V} {kvs : List (Key × D)}, DenA K mg c vs ds → prsOf ds = some kvs → ∃ (ps : List Addr) (ws : List (Key × V)), vs = ps.map V.ref ∧ Paired (fun p kv => SqT K c.H p [kV kv.1, kv.2]) ps ws ∧ DenK K mg c ws kvs
  | [], _, _, h, e => by cases h; cases e; exact ⟨[], [], rfl, .nil, .nil⟩
  | d :: ds, _, _, h, e => by
    unfold prsOf at e
    split at e
    · rename_i h0; cases h0
    · rename_i a d r h0
      cases h0
      obtain ⟨k, h1, e⟩ := bd e
      obtain ⟨y, h2, rfl⟩ := mp e
      cases h with
      | cons q t =>
        obtain ⟨ps, ws, rfl, r1, r2⟩ := prs_go t h2
        cases q with
        | @tup p _ _ s1 t1 =>
          obtain ⟨x1, x2, rfl, q1, q2⟩ := da2 t1
          have := key_go q1 h1
          subst this
          exact ⟨p :: ps, (k, x2) :: ws, rfl, .cons s1.get r1, .cons q2 r2⟩
    · cases e
def dictP : CbF := fun _ ds => match ds with
  | [.lst xs] => (prsOf xs).map fun kvs => .dct (gmerge [] kvs)
  | _ => none
section
variable {X : Cx} {e : Expr} {f g h : EvF} {fa : EaF}
theorem cd_dictP (hc : X.calm = true) : CallD X (.type "dict") dictP := by
  rintro pins s σ H xs us Q I r ⟨c, ds, z, rfl, k, D1, e, P⟩
  unfold dictP at e
  split at e
  · obtain ⟨v, rfl, q⟩ := da1 D1
    obtain ⟨kvs, h1, rfl⟩ := mp e
    cases q with
    | lst s1 t1 =>
      obtain ⟨ps, ws, rfl, r1, r2⟩ := prs_go t1 h1
      exact call_dictP hc pins s σ _ _ us Q I r ⟨_, ps, ws, rfl, s1.get, r1, post_dct P k (denK_merge r2 .nil)⟩
  · cases e
/-- dict(pairs), a new thing of the store -/
def mDictN (fa : EaF) : EvF := fun ρ S => (fa ρ S).bind fun x => (dictP x.2 x.1).bind fun z => match z with
  | .dct kvs => some (.ref x.2.length, x.2 ++ [.dct kvs])
  | _ => none
theorem me_dictN (he : PE X e (tCB (fun xs H Q => ∃ (a : Addr) (ps : List Addr) (kvs : List (Key × V)), xs = [.ref a] ∧ SqL X.K H a (ps.map V.ref) ∧ Paired (fun p kv => SqT X.K H p [kV kv.1, kv.2]) ps kvs ∧
    ∀ p, H p = none → Q (.ref p) (upd H p (.dK (mergeK [] kvs)))) (tAs X.K X.mg fa))) : ME X e (mDictN fa) := pe_imp he <| by
  rintro σ H Q ⟨c, ρ, d, S', ⟨rfl, k, en⟩, q, p⟩
  obtain ⟨⟨ds, S1⟩, h1, q1⟩ := bd q
  obtain ⟨z, h2, q2⟩ := bd q1
  clear q q1
  refine ⟨c, ρ, ds, S1, .of k en, h1, fun vs c1 l1 k1 e1 D1 => ?_⟩
  subst e1
  have h3 : ∃ xs kvs, ds = [.lst xs] ∧ prsOf xs = some kvs ∧ z = .dct (gmerge [] kvs) := by
    have h2' : dictP c1.S ds = some z := h2
    unfold dictP at h2'
    split at h2'
    · obtain ⟨kvs, a, b⟩ := mp h2'
      exact ⟨_, kvs, rfl, a, b.symm⟩
    · cases h2'
  obtain ⟨xs, kvs, rfl, h4, rfl⟩ := h3
  cases q2
  obtain ⟨v, rfl, q⟩ := da1 D1
  cases q with
  | lst s1 t1 =>
    obtain ⟨ps, ws, rfl, r1, r2⟩ := prs_go t1 h4
    exact ⟨_, ps, ws, rfl, s1.get, r1, fun a ha => post_new (ob := .dct _) (p.mono l1) k1 ha (upd_keep ha) ⟨_, upd_same, (denK_merge r2 .nil).mono (new_le ha (upd_keep ha))⟩⟩
end
end M

namespace M
open PySem PySem.Spec L2 W2 RZ

/-! ### targets that change the store -/
abbrev TgSF := En → Sto → D → Option (En × Sto)
def tGS (K : PySem.W.Frag) (mg : Str → Option Value) (g : TgSF) : TG := fun v σ H Q => ∃ c ρ d ρ' S', At K mg c ρ σ H ∧ Den K mg c v d ∧ g ρ c.S d = some (ρ', S') ∧ ∀ c', Le c c' → Ok K mg c' → c'.S = S' → ∀ σ', EnD K mg c' σ' ρ' → Q σ' c'.H
/-- d[k] = .. of a dict of the store -/
def gSD (fo fi : EvF) : TgSF := fun ρ S d => (fo ρ S).bind fun x => (fi ρ x.2).bind fun y => match x.1 with
  | .ref j => (dctOf y.2 (.ref j)).bind fun kvs => (keyOf y.1).bind fun k => if kvs.length < 100000 then some (ρ, y.2.set j (.dct (gput kvs k d))) else none
  | _ => none
def foldG : List TgSF → List D → En → Sto → Option (En × Sto)
  | [], [], ρ, S => some (ρ, S)
  | g :: gs, d :: ds, ρ, S => (g ρ S d).bind fun x => foldG gs ds x.1 x.2
  | _, _, _, _ => none
def tGsS (K : PySem.W.Frag) (mg : Str → Option Value) (gs : List TgSF) : TGs := fun vs σ H Q => ∃ c ρ ds ρ' S', At K mg c ρ σ H ∧ DenA K mg c vs ds ∧ foldG gs ds ρ c.S = some (ρ', S') ∧ ∀ c', Le c c' → Ok K mg c' → c'.S = S' → ∀ σ', EnD K mg c' σ' ρ' → Q σ' c'.H
def gTS (gs : List TgSF) : TgSF := fun ρ S d => match d with
  | .tup ds => if ds.length = gs.length then foldG gs ds ρ S else none
  | _ => none
def mAsgS (f : EvF) (g : TgSF) : StF := fun ρ S => (f ρ S).bind fun x => (g ρ x.2 x.1).map fun r => (.nx r.1, r.2)
section
variable {X : Cx} {st : Stmt} {e : Expr} {f fo fi : EvF} {g : TgSF} {gs : List TgSF} {es : List Expr} {pos : Pos}
def rSetD : TSet := fun o i v H Q => ∃ a H', o = .ref a ∧ DPut H a i v H' ∧ Q H'
theorem set_dict (hu : X.A.units + 1 < cLine) : PSet X rSetD := by
  rintro pins s σ H o i v ov iv u Q I ro ri rv ⟨a, H', rfl, g, q⟩
  cases ro
  exact d_setItem hu I g ri rv fun s' I' => ⟨H', I', q⟩
abbrev MGS (X : Cx) (e : Expr) (g : TgSF) : Prop := PG X e (tGS X.K X.mg g)
theorem denK_len {K : PySem.W.Frag} {mg : Str → Option Value} {c : Cfg} : ∀ {ds : List (Key × D)} {vs : List (Key × V)}, DenK K mg c vs ds → vs.length = ds.length := fun h => h.length
theorem mgs_sub (h : PG X e (gSub (tM X.K X.mg fo) (tM X.K X.mg fi) rSetD)) : MGS X e (gSD fo fi) := pg_imp h <| by
  rintro v σ H Q ⟨c, ρ, d, ρ', S', ⟨rfl, k, en⟩, D0, q, p⟩
  obtain ⟨⟨x, S1⟩, h1, q1⟩ := bd q
  obtain ⟨⟨y, S2⟩, h2, q2⟩ := bd q1
  clear q q1
  cases x <;> try (cases q2)
  rename_i j
  obtain ⟨kvs, h3, q3⟩ := bd (show (dctOf S2 (.ref j)).bind _ = some (ρ', S') from q2)
  obtain ⟨kk, h4, q⟩ := bd q3
  clear q2 q3
  refine ⟨c, ρ, _, S1, .of k en, h1, fun u c1 l1 k1 e1 D1 => ⟨c1, ρ, y, S2, .of k1 (en.mono l1), by rw [e1]; exact h2, fun w c2 l2 k2 e2 D2 => ?_⟩⟩
  by_cases z : kvs.length < 100000
  · rw [if_pos z] at q
    cases q
    subst e2
    have ky := key_go D2 h4
    subst ky
    have hS : c2.S[j]? = some (.dct kvs) := by
      have h3' : (match c2.S[j]? with | some (.dct kvs) => some kvs | _ => none) = some kvs := h3
      split at h3'
      · cases h3'; assumption
      · cases h3'
    have hj := lt_of_get hS
    obtain ⟨vs, hv, t⟩ := k2.at_ _ _ hS
    cases D1.mono l2 with
    | ref _ =>
      refine ⟨_, _, rfl, .k hv (by rw [t.length, sizeLine_eq]; omega), ?_⟩
      have D0' := D0.mono (l1.trans l2)
      have t' := denK_put (k := kk) t D0'
      have le := put_le (c := c2) hj (o := .dK (putK vs kk v)) (ob := .dct (gput kvs kk d))
      exact p (c2.put j (.dK (putK vs kk v)) (.dct (gput kvs kk d))) ((l1.trans l2).trans le) (put_ok k2 hj ⟨_, upd_same, t'.mono le⟩) rfl _ (en.mono ((l1.trans l2).trans le))
  · rw [if_neg z] at q; cases q
theorem mgss_nil : PGs X [] (tGsS X.K X.mg []) := pgs_imp pgs_nil <| by
  rintro v σ H Q ⟨c, ρ, ds, ρ', S', ⟨rfl, k, en⟩, D0, q, p⟩
  cases D0 with
  | nil => cases q; exact ⟨rfl, p c (.refl c) k rfl _ en⟩
  | cons a b => cases q
theorem mgss_cons (h : PGs X es (gCons (tGS X.K X.mg g) (tGsS X.K X.mg gs))) : PGs X es (tGsS X.K X.mg (g :: gs)) := pgs_imp h <| by
  rintro v σ H Q ⟨c, ρ, ds, ρ', S', ⟨rfl, k, en⟩, D0, q, p⟩
  cases D0 with
  | nil => cases q
  | @cons v vs d ds a b =>
    obtain ⟨⟨ρ1, S1⟩, h1, h2⟩ := bd (show (g ρ c.S d).bind _ = some (ρ', S') from q)
    refine ⟨v, vs, rfl, c, ρ, d, ρ1, S1, .of k en, a, h1, fun c1 l1 k1 e1 σ1 en1 => ?_⟩
    exact ⟨c1, ρ1, ds, ρ', S', .of k1 en1, b.mono l1, by rw [e1]; exact h2, fun c2 l2 => p c2 (l1.trans l2)⟩
theorem foldG_len : ∀ {gs : List TgSF} {ds : List D} {ρ : En} {S : Sto} {x : En × Sto}, foldG gs ds ρ S = some x → ds.length = gs.length
  | [], [], _, _, _, _ => rfl
  | _ :: gs, _ :: ds, _, _, _, h => by
    obtain ⟨x, _, h2⟩ := bd (show (Option.bind _ _) = some _ from h)
    simp [foldG_len (gs := gs) (ds := ds) h2]
  | [], _ :: _, _, _, _, h => by cases h
  | _ :: _, [], _, _, _, h => by cases h
theorem mgs_tup {n m : Nat} (hl : PG X (.Tuple es n pos) (gTup X.K gs.length (tGsS X.K X.mg gs))) : MGS X (.Tuple es n pos) (gTS gs) := pg_imp hl <| by
  rintro v σ H Q ⟨c, ρ, d, ρ', S', ⟨rfl, k, en⟩, D1, q, p⟩
  cases d <;> try (cases q)
  rename_i ds
  have q' : (if ds.length = gs.length then foldG gs ds ρ c.S else none) = some (ρ', S') := q
  by_cases z : ds.length = gs.length
  · rw [if_pos z] at q'
    cases D1 with
    | tup s t => exact ⟨_, _, rfl, s.get, t.length.trans z, c, ρ, ds, ρ', S', .of k en, t, q', p⟩
  · rw [if_neg z] at q'; cases q'
theorem ms_asgS (hs : PS X st (tAsg (tM X.K X.mg f) (tGS X.K X.mg g))) : MS X st (mAsgS f g) := ps_imp hs <| by
  rintro Dd σ H ⟨c, ρ, o, S', ⟨rfl, k, en⟩, q, p⟩
  obtain ⟨⟨x, S1⟩, h1, q⟩ := bd q
  obtain ⟨⟨ρ1, S2⟩, h2, q⟩ := mp q
  cases q
  refine ⟨c, ρ, x, S1, .of k en, h1, fun v c1 l1 k1 e1 D1 => ?_⟩
  exact ⟨c1, ρ, x, ρ1, S2, .of k1 (en.mono l1), D1, by rw [e1]; exact h2, fun c2 l2 k2 e2 σ2 en2 => p c2 (l1.trans l2) k2 e2 σ2 en2⟩
end

/-! ### repr of long texts, of lists of the store -/
def fitL (d : PyData) : Bool := d.showable && d.leavesShort 50000 && decide (d.depth ≤ 60) && decide (d.bulk ≤ 300)
def showD (d : D) : Option D := (toQ d).bind fun p => if fitB p = true ∨ fitL p = true then some (.str p.shown) else none
def reprR : CbF := fun S ds => match ds with
  | [.ref j] => (stLst S j).bind fun xs => showD (.lst xs)
  | [d] => showD d
  | _ => none
theorem fitL_len {d : PyData} (h1 : d.leavesShort 50000 = true) (h2 : d.bulk ≤ 300) : d.shown.length ≤ sizeLine := by
  have a := PyData.shown_le_bulk 50000 (by decide) d h1
  have b : (50000 + 2) * d.bulk ≤ 50002 * 300 := Nat.mul_le_mul (by decide) h2
  rw [sizeLine_eq]
  omega
theorem fit_go {p : PyData} (h : fitB p = true ∨ fitL p = true) : p.showable = true ∧ p.depth ≤ 60 ∧ p.shown.length ≤ sizeLine := by
  rcases h with F | F
  · unfold fitB at F
    simp only [Bool.and_eq_true, decide_eq_true_eq] at F
    obtain ⟨⟨⟨f1, f2⟩, f3⟩, f4⟩ := F
    exact ⟨f1, f3, fit_len f2 f4⟩
  · unfold fitL at F
    simp only [Bool.and_eq_true, decide_eq_true_eq] at F
    obtain ⟨⟨⟨f1, f2⟩, f3⟩, f4⟩ := F
    exact ⟨f1, f3, fitL_len f2 f4⟩
theorem cd_reprR {X : Cx} (hr : Rg X.A) (hs : ∃ mm, X.base.Ns sysModules mm) : CallD X (.builtin "repr") reprR := by
  rintro pins s σ H xs us Q I r ⟨c, ds, z, rfl, k, D1, e, P⟩
  have hu := hr.un
  unfold reprR at e
  split at e
  · obtain ⟨v, rfl, q⟩ := da1 D1
    obtain ⟨zs, h0, e⟩ := bd e
    obtain ⟨p, h1, e⟩ := bd (show (toQ (.lst zs)).bind _ = some z from e)
    by_cases F : fitB p = true ∨ fitL p = true
    · rw [if_pos F] at e
      cases e
      obtain ⟨f1, f3, hz⟩ := fit_go F
      obtain ⟨u, rfl, r1⟩ := vals1 r
      have P' := P.here k (.str _)
      cases q with
      | ref hj =>
        cases r1
        obtain ⟨vs, hv, t⟩ := k.at_ _ _ (stLst_eq h0)
        rw [toQ] at h1
        obtain ⟨ys, g1, rfl⟩ := mp h1
        obtain ⟨its, rv, ⟨o, w, ho, hc, _, hd⟩, _⟩ := I.list (.inl (.inl hv))
        obtain ⟨as, hra, kk⟩ := den_readsA I hs t rv g1
        exact repr_of_reads' (Reads.list ho hc hd hra) f1 (fun _ => sys_no I hs hv kk) hr.g (by omega) (fun _ _ e => e) (fun h' t tk k => ⟨.str _, c.H, I.kept k, ⟨_, rfl⟩, P'⟩) hz
    · rw [if_neg F] at e; cases e
  · obtain ⟨v, rfl, q⟩ := da1 D1
    obtain ⟨p, h1, e⟩ := bd (show (toQ _).bind _ = some z from e)
    by_cases F : fitB p = true ∨ fitL p = true
    · rw [if_pos F] at e
      cases e
      obtain ⟨f1, f3, hz⟩ := fit_go F
      obtain ⟨u, rfl, r1⟩ := vals1 r
      obtain ⟨as, R, ns⟩ := den_reads I hs q r1 h1
      have P' := P.here k (.str _)
      cases R with
      | none => exact PySem.P.repr_of_none ⟨.str _, c.H, I.tok _, ⟨_, rfl⟩, P'⟩
      | bool b =>
        refine PySem.P.repr_of_bool ⟨.str _, c.H, I.tok _, ⟨_, rfl⟩, ?_⟩
        cases b <;> exact P'
      | int i t => exact PySem.P.repr_of_int (by simpa [PyData.showable] using f1) ⟨.str _, c.H, I.tok _, ⟨_, rfl⟩, P'⟩
      | str x t => exact PySem.P.repr_of_str ⟨.str _, c.H, I.tok _, ⟨_, rfl⟩, P'⟩ hz
      | list g1 g2 g3 g4 => exact repr_of_reads' (Reads.list g1 g2 g3 g4) f1 (fun _ => ns) hr.g (by omega) (fun _ _ e => e) (fun h' t tk k => ⟨.str _, c.H, I.kept k, ⟨_, rfl⟩, P'⟩) hz
      | tuple g1 g2 g3 g4 => exact repr_of_reads' (Reads.tuple g1 g2 g3 g4) f1 (fun _ => ns) hr.g (by omega) (fun _ _ e => e) (fun h' t tk k => ⟨.str _, c.H, I.kept k, ⟨_, rfl⟩, P'⟩) hz
      | dict g1 g2 g3 g4 g5 => exact repr_of_reads' (Reads.dict g1 g2 g3 g4 g5) f1 (fun _ => ns) hr.g (by omega) (fun _ _ e => e) (fun h' t tk k => ⟨.str _, c.H, I.kept k, ⟨_, rfl⟩, P'⟩) hz
    · rw [if_neg F] at e; cases e
  · cases e
end M

namespace M
open PySem PySem.Spec L2 W2 RZ

/-! ### what may raise -/
inductive OX where
  | nx (ρ : En) | rt (d : D) | bk (ρ : En) | ct (ρ : En) | ex (cn : Str) (fs : Fs) (ρ : En)
inductive RX (α : Type) where
  | ok (a : α) | ex (cn : Str) (fs : Fs)
abbrev SxF := En → Sto → Option (OX × Sto)
abbrev RxF (α : Type) := En → Sto → Option (RX α × Sto)
def ErX (c : Cfg) (od : Option Addr) (vs : List (Str × V)) : Prop := match od with
  | none => vs = []
  | some dd => ¬ c.B dd ∧ c.H dd = some (.xd vs)
section
variable (K : PySem.W.Frag) (mg : Str → Option Value)
def ExTo (c : Cfg) (cn : Str) (fs : Fs) (E : XK) : Prop := ∀ C od vs, mg cn = some (.ref C) → ErX c od vs → DenF K mg c vs fs → E (.ref C) od c.H
/-- what is wanted behind f -/
def RunX {α β : Type} (R : Cfg → β → α → Prop) (c : Cfg) (o : Option (RX α × Sto)) (Q : β → Hp → Prop) (E : XK) : Prop := ∃ r S', o = some (r, S') ∧ ∀ c', Le c c' → Ok K mg c' → c'.S = S' → match r with
  | .ok a => ∀ v, R c' v a → Q v c'.H
  | .ex cn fs => ExTo K mg c' cn fs E
def tMx (W : WX) (f : RxF D) : TE := fun σ H Q => ∃ c ρ, At K mg c ρ σ H ∧ RunX K mg (Den K mg) c (f ρ c.S) Q fun cls d H' => W cls d σ H'
def tAx (W : WX) (f : RxF (List D)) : TA := fun σ H Q => ∃ c ρ, At K mg c ρ σ H ∧ RunX K mg (DenA K mg) c (f ρ c.S) Q fun cls d H' => W cls d σ H'
def tTx (W : WX) (f : RxF Bool) : TT := fun σ H Q => ∃ c ρ, At K mg c ρ σ H ∧ RunX K mg (fun _ b a => b = a) c (f ρ c.S) Q fun cls d H' => W cls d σ H'
def OxTo (W : WX) (Dd : Ends) (c' : Cfg) : OX → Prop
  | .nx ρ' => ∀ σ', EnD K mg c' σ' ρ' → Dd.nx σ' c'.H
  | .rt d => ∀ v, Den K mg c' v d → Dd.rt v c'.H
  | .bk ρ' => ∀ σ', EnD K mg c' σ' ρ' → Dd.bk σ' c'.H
  | .ct ρ' => ∀ σ', EnD K mg c' σ' ρ' → Dd.ct σ' c'.H
  | .ex cn fs ρ' => ∀ σ', EnD K mg c' σ' ρ' → ExTo K mg c' cn fs fun cls d H' => W cls d σ' H'
def tSx (W : WX) (g : SxF) : TS := fun Dd σ H => ∃ c ρ o S', At K mg c ρ σ H ∧ g ρ c.S = some (o, S') ∧ ∀ c', Le c c' → Ok K mg c' → c'.S = S' → OxTo K mg W Dd c' o
end
section
variable {K : PySem.W.Frag} {mg : Str → Option Value} {c c' : Cfg} {α β : Type} {R : Cfg → β → α → Prop} {Q : β → Hp → Prop} {E : XK}
theorem RunX.mono {r : RX α} {S' : Sto} (h : ∀ c', Le c c' → Ok K mg c' → c'.S = S' → match r with
  | .ok a => ∀ v, R c' v a → Q v c'.H
  | .ex cn fs => ExTo K mg c' cn fs E) (l : Le c c') (o : Option (RX α × Sto)) (e : o = some (r, S')) : RunX K mg R c' o Q E := ⟨r, S', e, fun c2 l2 => h c2 (l.trans l2)⟩
end
abbrev MX (X : Cx) (W : WX) (st : Stmt) (g : SxF) : Prop := PS X st (tSx X.K X.mg W g)
abbrev MXs (X : Cx) (W : WX) (st : List Stmt) (g : SxF) : Prop := PSs X st (tSx X.K X.mg W g)
abbrev MEx (X : Cx) (W : WX) (e : Expr) (f : RxF D) : Prop := PE X e (tMx X.K X.mg W f)
abbrev MAx (X : Cx) (W : WX) (es : List Expr) (f : RxF (List D)) : Prop := PA X es (tAx X.K X.mg W f)
abbrev MTx (X : Cx) (W : WX) (e : Expr) (f : RxF Bool) : Prop := PT X e (tTx X.K X.mg W f)
def xo {α : Type} (f : En → Sto → Option (α × Sto)) : RxF α := fun ρ S => (f ρ S).map fun x => (.ok x.1, x.2)
def outX : Out → OX
  | .nx ρ => .nx ρ
  | .rt d => .rt d
  | .bk ρ => .bk ρ
  | .ct ρ => .ct ρ
def lx (g : StF) : SxF := fun ρ S => (g ρ S).map fun x => (outX x.1, x.2)
def bx {α β : Type} (o : Option (RX α × Sto)) (f : α → Sto → Option (RX β × Sto)) : Option (RX β × Sto) := o.bind fun x => match x.1 with
  | .ok a => f a x.2
  | .ex cn fs => some (.ex cn fs, x.2)
def sxR {α : Type} (ρ : En) (o : Option (RX α × Sto)) (f : α → Sto → Option (OX × Sto)) : Option (OX × Sto) := o.bind fun x => match x.1 with
  | .ok a => f a x.2
  | .ex cn fs => some (.ex cn fs ρ, x.2)
def mxCons (f : RxF D) (g : RxF (List D)) : RxF (List D) := fun ρ S => bx (f ρ S) fun x S1 => bx (g ρ S1) fun y S2 => some (.ok (x :: y), S2)
def mxCallM (F : Fn) (fa : RxF (List D)) : RxF D := fun ρ S => bx (fa ρ S) fun x S1 => (F x S1).map fun y => (.ok y.1, y.2)
def mxBin (op : D → D → Option D) (f g : RxF D) : RxF D := fun ρ S => bx (f ρ S) fun x S1 => bx (g ρ S1) fun y S2 => (op x y).map fun z => (.ok z, S2)
def mxTv (f : RxF D) : RxF Bool := fun ρ S => bx (f ρ S) fun x S1 => match x with
  | .bl b => some (.ok b, S1)
  | _ => none
def mxRet (f : RxF D) : SxF := fun ρ S => sxR ρ (f ρ S) fun d S1 => some (.rt d, S1)
def mxDrop (f : RxF D) : SxF := fun ρ S => sxR ρ (f ρ S) fun d S1 => some (.nx ρ, S1)
def mxAsg (f : RxF D) (g : TgF) : SxF := fun ρ S => sxR ρ (f ρ S) fun d S1 => (g ρ d).map fun ρ' => (.nx ρ', S1)
def mxIf (t : RxF Bool) (g h : SxF) : SxF := fun ρ S => sxR ρ (t ρ S) fun b S1 => if b = true then g ρ S1 else h ρ S1
def mxSeq (g h : SxF) : SxF := fun ρ S => (g ρ S).bind fun x => match x.1 with
  | .nx ρ' => h ρ' x.2
  | o => some (o, x.2)
section
variable {X : Cx} {W : WX} {pos p : Pos} {e a b : Expr} {es : List Expr} {st : Stmt} {rest : List Stmt} {f f' : RxF D} {fa : RxF (List D)} {t : RxF Bool} {g h : SxF}
theorem xo_run {α β : Type} {K : PySem.W.Frag} {mg : Str → Option Value} {c : Cfg} {R : Cfg → β → α → Prop} {o : Option (α × Sto)} {Q : β → Hp → Prop} {E : XK} (h : RunX K mg R c (o.map fun x => (.ok x.1, x.2)) Q E) : ∃ a S', o = some (a, S') ∧ ∀ c', Le c c' → Ok K mg c' → c'.S = S' → ∀ v, R c' v a → Q v c'.H := by
  obtain ⟨r, S', h1, h2⟩ := h
  obtain ⟨x, h3, h4⟩ := mp h1
  cases h4
  exact ⟨x.1, x.2, h3, h2⟩
theorem mex_of {f : EvF} (h : ME X e f) : MEx X W e (xo f) := pe_imp h <| by
  rintro σ H Q ⟨c, ρ, hA, hR⟩
  obtain ⟨d, S', h1, h2⟩ := xo_run hR
  exact ⟨c, ρ, d, S', hA, h1, fun v c1 l k e D1 => h2 c1 l k e v D1⟩
theorem max_of {f : EaF} (h : MA X es f) : MAx X W es (xo f) := pa_imp h <| by
  rintro σ H Q ⟨c, ρ, hA, hR⟩
  obtain ⟨d, S', h1, h2⟩ := xo_run hR
  exact ⟨c, ρ, d, S', hA, h1, fun v c1 l k e D1 => h2 c1 l k e v D1⟩
theorem mtx_of {f : EtF} (h : MT X e f) : MTx X W e (xo f) := pt_imp h <| by
  rintro σ H Q ⟨c, ρ, hA, hR⟩
  obtain ⟨d, S', h1, h2⟩ := xo_run hR
  exact ⟨c, ρ, d, S', hA, h1, fun c1 l k e => h2 c1 l k e d rfl⟩
theorem mx_of {g : StF} (h : MS X st g) : MX X W st (lx g) := ps_imp h <| by
  rintro Dd σ H ⟨c, ρ, o, S', hA, hq, p⟩
  obtain ⟨⟨x, S1⟩, h1, h2⟩ := mp hq
  cases h2
  refine ⟨c, ρ, x, S1, hA, h1, fun c1 l k e => ?_⟩
  have q := p c1 l k e
  cases x <;> exact q
/-- a piece that may raise, then what is done with its value -/
theorem bx_run {α β γ δ : Type} {K : PySem.W.Frag} {mg : Str → Option Value} {c : Cfg} {R : Cfg → β → α → Prop} {R' : Cfg → δ → γ → Prop} {o : Option (RX α × Sto)} {f : α → Sto → Option (RX γ × Sto)} {Q : β → Hp → Prop} {Q' : δ → Hp → Prop} {E : XK}
    (h : RunX K mg R' c (bx o f) Q' E) (w : ∀ a c1 v, Le c c1 → Ok K mg c1 → R c1 v a → RunX K mg R' c1 (f a c1.S) Q' E → Q v c1.H) : RunX K mg R c o Q E := by
  obtain ⟨r, S', h1, h2⟩ := h
  obtain ⟨⟨x, S1⟩, h3, h4⟩ := bd h1
  refine ⟨x, S1, h3, fun c1 l k e => ?_⟩
  cases x with
  | ok a => exact fun v rv => w a c1 v l k rv ⟨r, S', by rw [e]; exact h4, fun c2 l2 => h2 c2 (l.trans l2)⟩
  | ex cn fs =>
    cases h4
    exact h2 c1 l k e
theorem max_cons (ha : MEx X W e f) (hr : MAx X W es fa) (hs : starEach (e :: es) X.env = (false, eval e X.env) :: starEach es X.env := by rfl) : MAx X W (e :: es) (mxCons f fa) := pa_imp (pa_cons ha hr hs) <| by
  rintro σ H Q ⟨c, ρ, ⟨rfl, k, en⟩, R⟩
  refine ⟨c, ρ, .of k en, bx_run R fun d c1 v l1 k1 D1 R1 => ⟨c1, ρ, .of k1 (en.mono l1), bx_run R1 fun ds c2 vs l2 k2 D2 R2 => ?_⟩⟩
  obtain ⟨r, S', h1, h2⟩ := R2
  cases h1
  exact h2 c2 (.refl _) k2 rfl _ (.cons (D1.mono l2) D2)
theorem mex_bin {o : Operator} {op : D → D → Option D} (ho : OpD X (binaryOp o) op) (ha : MEx X W a f) (hb : MEx X W b f') : MEx X W (.BinOp a o b pos) (mxBin op f f') := pe_imp (pe_op ho ha hb) <| by
  rintro σ H Q ⟨c, ρ, ⟨rfl, k, en⟩, R⟩
  refine ⟨c, ρ, .of k en, bx_run R fun d c1 v l1 k1 D1 R1 => ⟨c1, ρ, .of k1 (en.mono l1), bx_run R1 fun d2 c2 w l2 k2 D2 R2 => ?_⟩⟩
  obtain ⟨r, S', h1, h2⟩ := R2
  obtain ⟨z, h3, h4⟩ := mp h1
  cases h4
  exact ⟨c2, d, d2, z, rfl, k2, D1.mono l2, D2, h3, fun v c3 l3 k3 e3 D3 => h2 c3 l3 k3 e3 v D3⟩
theorem mtx_cmp {o : CmpOp} {op : D → D → Option D} (ho : OpD X (compareOp o) op) (ha : MEx X W a f) (hb : MEx X W b f') (hm : behindInMarks o b = false) : MTx X W (.Compare a [o] [b] pos) (mxTv (mxBin op f f')) := pt_imp (pt_cmpR ho ha hb hm) <| by
  rintro σ H Q ⟨c, ρ, ⟨rfl, k, en⟩, R⟩
  refine ⟨c, ρ, .of k en, ?_⟩
  refine bx_run (R' := fun (_ : Cfg) (b a : Bool) => b = a) (Q' := Q) (R := Den X.K X.mg) (Q := fun v H1 => (tMx X.K X.mg W f') σ H1 fun w H2 => (r2 X.K X.mg op) v w H2 fun x H' => ∃ k, x = .bl k ∧ Q k H') (f := fun x S1 => bx (bx (f' ρ S1) fun y S2 => (op x y).map fun z => (.ok z, S2)) fun z S2 => match z with | .bl b => some (.ok b, S2) | _ => none) (o := f ρ c.S) ?_ fun d c1 v l1 k1 D1 R1 => ?_
  · obtain ⟨r, S', h1, h2⟩ := R
    refine ⟨r, S', ?_, h2⟩
    rw [← h1]
    unfold mxTv mxBin bx
    cases f ρ c.S with
    | none => rfl
    | some x =>
      obtain ⟨x, S1⟩ := x
      cases x <;> rfl
  · refine ⟨c1, ρ, .of k1 (en.mono l1), ?_⟩
    refine bx_run (R' := fun (_ : Cfg) (b a : Bool) => b = a) (Q' := Q) (R := Den X.K X.mg) (f := fun y S2 => bx ((op d y).map fun z => (.ok z, S2)) fun z S2 => match z with | .bl b => some (.ok b, S2) | _ => none) (o := f' ρ c1.S) ?_ fun d2 c2 w l2 k2 D2 R2 => ?_
    · obtain ⟨r, S', h1, h2⟩ := R1
      refine ⟨r, S', ?_, h2⟩
      rw [← h1]
      unfold bx
      cases f' ρ c1.S with
      | none => rfl
      | some x =>
        obtain ⟨x, S1⟩ := x
        cases x <;> rfl
    · obtain ⟨r, S', h1, h2⟩ := R2
      obtain ⟨⟨z, S3⟩, h3, h4⟩ := bd h1
      obtain ⟨zz, h5, h6⟩ := mp h3
      cases h6
      refine ⟨c2, d, d2, zz, rfl, k2, D1.mono l2, D2, h5, fun v3 c3 l3 k3 e3 D3 => ?_⟩
      cases zz <;> try (cases h4)
      cases D3
      exact ⟨_, rfl, h2 c3 l3 k3 e3 _ rfl⟩
theorem sx_run {α β : Type} {K : PySem.W.Frag} {mg : Str → Option Value} {c : Cfg} {ρ : En} {σ : L2.St} {W : WX} {R : Cfg → β → α → Prop} {o : Option (RX α × Sto)} {f : α → Sto → Option (OX × Sto)} {Q : β → Hp → Prop} {ou : OX} {S' : Sto} {Dd : Ends} (en : EnD K mg c σ ρ)
    (h1 : sxR ρ o f = some (ou, S')) (h2 : ∀ c', Le c c' → Ok K mg c' → c'.S = S' → OxTo K mg W Dd c' ou) (w : ∀ a c1 v, Le c c1 → Ok K mg c1 → R c1 v a → f a c1.S = some (ou, S') → Q v c1.H) : RunX K mg R c o Q fun cls d H' => W cls d σ H' := by
  obtain ⟨⟨x, S1⟩, h3, h4⟩ := bd h1
  refine ⟨x, S1, h3, fun c1 l k e => ?_⟩
  cases x with
  | ok a => exact fun v rv => w a c1 v l k rv (by rw [e]; exact h4)
  | ex cn fs =>
    cases h4
    exact h2 c1 l k e σ (en.mono l)
theorem mx_ret (he : MEx X W e f) : MX X W (.Return (some e) pos) (mxRet f) := ps_imp (ps_ret he) <| by
  rintro Dd σ H ⟨c, ρ, o, S', ⟨rfl, k, en⟩, q, p⟩
  refine ⟨c, ρ, .of k en, sx_run en q p fun d c1 v l1 k1 D1 h => ?_⟩
  cases h
  exact p c1 l1 k1 rfl v D1
theorem mx_drop (hs : PS X st (tDrop (tMx X.K X.mg W f))) : MX X W st (mxDrop f) := ps_imp hs <| by
  rintro Dd σ H ⟨c, ρ, o, S', ⟨rfl, k, en⟩, q, p⟩
  refine ⟨c, ρ, .of k en, sx_run en q p fun d c1 v l1 k1 D1 h => ?_⟩
  cases h
  exact p c1 l1 k1 rfl _ (en.mono l1)
theorem mx_asg {tg : TgF} (hs : PS X st (tAsg (tMx X.K X.mg W f) (tG X.K X.mg tg))) : MX X W st (mxAsg f tg) := ps_imp hs <| by
  rintro Dd σ H ⟨c, ρ, o, S', ⟨rfl, k, en⟩, q, p⟩
  refine ⟨c, ρ, .of k en, sx_run en q p fun d c1 v l1 k1 D1 h => ?_⟩
  obtain ⟨ρ', h2, h3⟩ := mp h
  cases h3
  exact ⟨c1, ρ, d, ρ', .of k1 (en.mono l1), D1, h2, fun σ' en' => p c1 l1 k1 rfl σ' en'⟩
theorem mx_if {c : Expr} {sts : List Stmt} (ht : MTx X W c t) (h1 : MXs X W rest g) (h2 : MXs X W sts h) : MX X W (.If c rest sts pos) (mxIf t g h) := ps_imp (ps_if ht h1 h2) <| by
  rintro Dd σ H ⟨c, ρ, o, S', ⟨rfl, k, en⟩, q, p⟩
  refine ⟨c, ρ, .of k en, sx_run (R := fun (_ : Cfg) (b a : Bool) => b = a) en q p fun b c1 v l1 k1 D1 h => ?_⟩
  have D2 : v = b := D1
  subst D2
  cases v with
  | true => exact ⟨c1, ρ, o, S', .of k1 (en.mono l1), h, fun c2 l2 => p c2 (l1.trans l2)⟩
  | false => exact ⟨c1, ρ, o, S', .of k1 (en.mono l1), h, fun c2 l2 => p c2 (l1.trans l2)⟩
theorem mxs_nil : MXs X W [] (lx mSkip) := pss_imp pss_nil <| by
  rintro Dd σ H ⟨c, ρ, o, S', ⟨rfl, k, en⟩, q, p⟩
  cases q
  exact p c (.refl c) k rfl _ en
theorem mxs_one (h : MX X W st g) : MXs X W [st] g := pss_one h
theorem mxs_cons (h1 : MX X W st g) (h2 : MXs X W rest h) : MXs X W (st :: rest) (mxSeq g h) := pss_imp (pss_cons h1 h2) <| by
  rintro Dd σ H ⟨c, ρ, o, S', ⟨rfl, k, en⟩, q, p⟩
  obtain ⟨⟨x, S1⟩, h1, q⟩ := bd q
  refine ⟨c, ρ, x, S1, .of k en, h1, fun c1 l1 k1 e1 => ?_⟩
  cases x with
  | nx ρ' =>
    intro σ' en'
    exact ⟨c1, ρ', o, S', .of k1 en', by rw [e1]; exact q, fun c2 l2 => p c2 (l1.trans l2)⟩
  | rt d => cases q; exact p c1 l1 k1 e1
  | bk ρ' => cases q; exact p c1 l1 k1 e1
  | ct ρ' => cases q; exact p c1 l1 k1 e1
  | ex cn fs ρ' => cases q; exact p c1 l1 k1 e1
theorem mxs_of {g : StF} (h : MSs X rest g) : MXs X W rest (lx g) := pss_imp h <| by
  rintro Dd σ H ⟨c, ρ, o, S', hA, hq, p⟩
  obtain ⟨⟨x, S1⟩, h1, h2⟩ := mp hq
  cases h2
  refine ⟨c, ρ, x, S1, hA, h1, fun c1 l k e => ?_⟩
  have q := p c1 l k e
  cases x <;> exact q
end
end M

namespace M
open PySem PySem.Spec L2 W2 RZ

/-! ### defs that errors may leave -/
abbrev FnR := List D → Sto → Option (RX D × Sto)
def mxDef (n : Nat) (g : SxF) : FnR := fun ds S => (g (ds.map some ++ List.replicate (n - ds.length) none) S).bind fun x => match x.1 with
  | .rt d => some (.ok d, x.2)
  | .nx _ => some (.ok .non, x.2)
  | .ex cn fs _ => some (.ex cn fs, x.2)
  | _ => none
def spX (K : PySem.W.Frag) (mg : Str → Option Value) (np : Nat) (F : FnR) : Sp := fun vs H Q E => vs.length = np ∧ ∃ c ds, c.H = H ∧ Ok K mg c ∧ DenA K mg c vs ds ∧ RunX K mg (Den K mg) c (F ds c.S) Q E
structure CalX (P : Program) (w : World) (K : PySem.W.Frag) (mg : Str → Option Value) (base : Heap) (k : Nat) (x : Str) (np : Nat) (F : FnR) : Prop where
  ex : ∃ (f : Addr) (fd : FuncData) (ps : List Str), mg x = some (.ref f) ∧ PySem.W.keepIn K (.ref f) = true ∧ Binds K fd ps [] ∧ FnX P w K mg base k f fd ps (spX K mg np F) ∧ ps.length = np
structure CalXK (P : Program) (w : World) (K : PySem.W.Frag) (mg : Str → Option Value) (base : Heap) (k : Nat) (x p : Str) (F : FnR) : Prop where
  ex : ∃ (f : Addr) (fd : FuncData), mg x = some (.ref f) ∧ PySem.W.keepIn K (.ref f) = true ∧ (∀ (s : Shared) (u : Value), BindsTo s fd ⟨[], [(p, u)]⟩ [(p, u)]) ∧ FnX P w K mg base k f fd [p] (spX K mg 1 F)
section
variable {P : Program} {w : World} {K : PySem.W.Frag} {mg : Str → Option Value} {base : Heap}
theorem defX_ok {x qual : Str} {st : Stmt} {f : Addr} {fd : FuncData} {N ps : List Str} {k : Nat} {g : SxF} (F : Fun K x qual st f fd) (S : FnScope N ps (defScope st))
    (body : ∀ (c : Value) (A : Around) (o : List Env) (s : Shared) (H : Hp) (E : XK), Rm k (A.deeper (PyProof.Rows.envOfC qual (defScope st) s.heap.objs.size f c)) → MXs (cxOf (L2.CX P w) P w K mg base N qual (defScope st) f c A o s H E) (fun cls d _ H' => E cls d H') (defBody st) g) :
    FnX P w K mg base (k + 1) f fd ps (spX K mg ps.length (mxDef N.length g)) := by
  refine fnX_of F S (fun vs H Q E h => h.1) fun c A o s H vs Q E hr h => ⟨_, body c A o s H E hr, ?_⟩
  obtain ⟨hl, cf, ds, rfl, k, D1, r, S', e, p⟩ := h
  obtain ⟨⟨x, S1⟩, h1, q⟩ := bd e
  refine ⟨cf, _, x, S1, .of k (start_en D1), h1, fun c1 l1 k1 e1 => ?_⟩
  cases x with
  | nx ρ' =>
    cases q
    exact fun σ' en' => p c1 l1 k1 e1 _ .non
  | rt d' =>
    cases q
    exact fun v D2 => p c1 l1 k1 e1 v D2
  | bk ρ' => cases q
  | ct ρ' => cases q
  | ex cn fs ρ' =>
    cases q
    exact fun σ' en' => p c1 l1 k1 e1
theorem CalX.mono {k j : Nat} {x : Str} {np : Nat} {F : FnR} (h : CalX P w K mg base k x np F) (l : k ≤ j) : CalX P w K mg base j x np F := by
  obtain ⟨f, fd, ps, a, b, c, d, e⟩ := h.ex
  exact ⟨f, fd, ps, a, b, c, d.mono l, e⟩
theorem calX_mk {x : Str} {st : Stmt} {f : Addr} {fd : FuncData} {ps : List Str} {k np : Nat} {F : FnR} (Z : Fun K x x st f fd) (m : mg x = some (.ref f)) (b : Binds K fd ps []) (hl : ps.length = np) (G : FnX P w K mg base k f fd ps (spX K mg ps.length F)) : CalX P w K mg base k x np F := by
  subst hl
  exact ⟨⟨f, fd, ps, m, Z.kp, b, G, rfl⟩⟩
theorem calXK_mk {x p : Str} {st : Stmt} {f : Addr} {fd : FuncData} {k : Nat} {F : FnR} (Z : Fun K x x st f fd) (m : mg x = some (.ref f)) (b : ∀ (s : Shared) (u : Value), BindsTo s fd ⟨[], [(p, u)]⟩ [(p, u)]) (G : FnX P w K mg base k f fd [p] (spX K mg 1 F)) : CalXK P w K mg base k x p F := ⟨⟨f, fd, m, Z.kp, b, G⟩⟩
/-- where it raises nothing it is a def like the others -/
def okF (F : FnR) : Fn := fun ds S => (F ds S).bind fun x => match x.1 with
  | .ok d => some (d, x.2)
  | _ => none
theorem spX_ok {np : Nat} {F : FnR} {vs : List V} {H : Hp} {Q : VK} {E E' : XK} (h : spM K mg np (okF F) vs H Q E) : spX K mg np F vs H Q E' := by
  obtain ⟨hl, c, ds, d, S', e, k, D1, q, P⟩ := h
  obtain ⟨⟨r, S1⟩, h1, h2⟩ := bd q
  refine ⟨hl, c, ds, e, k, D1, r, S1, h1, fun c1 l1 k1 e1 => ?_⟩
  cases r with
  | ok a =>
    cases h2
    exact fun v D2 => P v c1 l1 k1 e1 D2
  | ex cn fs => cases h2
theorem fnX_toOk {k : Nat} {f : Addr} {fd : FuncData} {ps : List Str} {np : Nat} {F : FnR} (G : FnX P w K mg base k f fd ps (spX K mg np F)) : FnG P w K mg base k f fd ps (spM K mg np (okF F)) :=
  ⟨fun vs H Q E h => G.len vs H Q E (spX_ok h), fun A o s H ar us vs Q E hr he hb hv h => G.run A o s H ar us vs Q E hr he hb hv (spX_ok h)⟩
theorem CalX.ok {k : Nat} {x : Str} {np : Nat} {F : FnR} (h : CalX P w K mg base k x np F) : Cal P w K mg base k x np (okF F) := by
  obtain ⟨f, fd, ps, a, b, c, d, e⟩ := h.ex
  exact ⟨f, fd, ps, a, b, c, fnX_toOk d, e⟩
theorem CalXK.ok {k : Nat} {x p : Str} {F : FnR} (h : CalXK P w K mg base k x p F) : CalK P w K mg base k x p (okF F) := by
  obtain ⟨f, fd, a, b, c, d⟩ := h.ex
  exact ⟨f, fd, a, b, c, fnX_toOk d⟩
end
def mxCall (F : FnR) (fa : RxF (List D)) : RxF D := fun ρ S => bx (fa ρ S) fun ds S1 => F ds S1
def mxKw (F : FnR) (f : EvF) : RxF D := fun ρ S => (f ρ S).bind fun x => F [x.1] x.2
def LenX (n : Nat) (fa : RxF (List D)) : Prop := ∀ ρ S ds S', fa ρ S = some (.ok ds, S') → ds.length = n
theorem lenx_of {n : Nat} {fa : EaF} (h : ∀ ρ S ds S', fa ρ S = some (ds, S') → ds.length = n) : LenX n (xo fa) := by
  intro ρ S ds S' q
  obtain ⟨x, h1, h2⟩ := mp q
  cases h2
  exact h _ _ _ _ h1
theorem lenx_cons {n : Nat} {f : RxF D} {fa : RxF (List D)} (h : LenX n fa) : LenX (n + 1) (mxCons f fa) := by
  intro ρ S ds S' q
  obtain ⟨⟨x, S1⟩, h1, q⟩ := bd q
  cases x with
  | ex cn fs => cases q
  | ok a =>
    obtain ⟨⟨y, S2⟩, h2, q⟩ := bd (show (fa ρ S1).bind _ = some _ from q)
    cases y with
    | ex cn fs => cases q
    | ok b =>
      cases q
      simp [h _ _ _ _ h2]
section
variable {X : Cx} {W : WX} {pos p kpos : Pos} {e : Expr} {es : List Expr} {f : EvF} {fa : RxF (List D)} {k np : Nat} {x y : Str}
theorem mex_call {F : FnR} (C : CalX X.prog X.w X.K X.mg X.base k x np F) (hr : Rm k X.A) (tk : Takes X W) (hg : Gl X x) (ha : MAx X W (e :: es) fa) (hn : LenX np fa)
    (hdb : (x == ("__debug__" : Str)) = false := by decide) (he : starEach (e :: es) X.env = (false, eval e X.env) :: starEach es X.env := by rfl) (hpl : (backTo pos (starEach es X.env)).any (·.1) = false := by rfl) :
    MEx X W (.Call (.Name x p) (e :: es) [] pos) (mxCall F fa) := by
  obtain ⟨f, fd, ps, hm, hk, hb, G, hl⟩ := C.ex
  refine pe_imp (pe_X G hr tk hg hm hk hb ha hdb he hpl) ?_
  rintro σ H Q ⟨c, ρ, ⟨rfl, k, en⟩, r, S', h1, h2⟩
  obtain ⟨⟨ds, S1⟩, h3, h4⟩ := bd h1
  refine ⟨c, ρ, .of k en, ds, S1, h3, fun c1 l1 k1 e1 => ?_⟩
  cases ds with
  | ok ds => exact fun vs D1 => ⟨by rw [D1.length]; exact hn _ _ _ _ h3, c1, ds, rfl, k1, D1, r, S', by rw [e1]; exact h4, fun c2 l2 => h2 c2 (l1.trans l2)⟩
  | ex cn fs =>
    cases h4
    exact h2 c1 l1 k1 e1
theorem mex_callM {F : Fn} (C : Cal X.prog X.w X.K X.mg X.base k x np F) (hr : Rm k X.A) (tk : Takes X W) (hg : Gl X x) (ha : MAx X W (e :: es) fa) (hn : LenX np fa)
    (hdb : (x == ("__debug__" : Str)) = false := by decide) (he : starEach (e :: es) X.env = (false, eval e X.env) :: starEach es X.env := by rfl) (hpl : (backTo pos (starEach es X.env)).any (·.1) = false := by rfl) :
    MEx X W (.Call (.Name x p) (e :: es) [] pos) (mxCallM F fa) := by
  obtain ⟨f, fd, ps, hm, hk, hb, G, hl⟩ := C.ex
  refine pe_imp (pe_X G hr tk hg hm hk hb ha hdb he hpl) ?_
  rintro σ H Q ⟨c, ρ, ⟨rfl, k, en⟩, r, S', h1, h2⟩
  obtain ⟨⟨ds, S1⟩, h3, h4⟩ := bd h1
  refine ⟨c, ρ, .of k en, ds, S1, h3, fun c1 l1 k1 e1 => ?_⟩
  cases ds with
  | ok ds =>
    obtain ⟨z, h5, h6⟩ := mp h4
    cases h6
    exact fun vs D1 => ⟨by rw [D1.length]; exact hn _ _ _ _ h3, c1, ds, z.1, z.2, rfl, k1, D1, by rw [e1]; exact h5, fun v c2 l2 k2 e2 D2 => h2 c2 (l1.trans l2) k2 e2 v D2⟩
  | ex cn fs =>
    cases h4
    exact h2 c1 l1 k1 e1
theorem mex_kw {F : FnR} (C : CalXK X.prog X.w X.K X.mg X.base k x y F) (hr : Rm k X.A) (tk : Takes X W) (hg : Gl X x) (he : ME X e f)
    (hall : (backToKw pos (keywordEach [⟨some y, e, kpos⟩] X.env)).all (·.1.isSome) = true := by rfl) (hks : (backToKw pos (keywordEach [⟨some y, e, kpos⟩] X.env)).filterMap (·.1) = [y] := by rfl)
    (hdb : (x == ("__debug__" : Str)) = false := by decide) (hpl : ((backTo pos (starEach [] X.env)).any (·.1) || (backToKw pos (keywordEach [⟨some y, e, kpos⟩] X.env)).any (·.1.isNone)) = false := by rfl) :
    MEx X W (.Call (.Name x p) [] [⟨some y, e, kpos⟩] pos) (mxKw F f) := by
  obtain ⟨fa, fd, hm, hk, hb, G⟩ := C.ex
  constructor
  rintro pins s σ H Q I ⟨c, ρ, ⟨rfl, k, en⟩, r, S', h1, h2⟩
  obtain ⟨z, h3, h4⟩ := bd h1
  refine wpAny_Call_Name_kw (ld_glob I hg hm ?_ hdb)
  refine PySem.W.callWith_KW0 (h₀ := X.base) I.ok.mod.kin hk hall ?_ hpl
  refine thn ((pk_cons he pk_nil).run pos pins s σ c.H (fun vs H' => spX X.K X.mg 1 F vs H' Q fun cls d H' => W cls d σ H') I ?_) ?_
  · refine ⟨c, ρ, z.1, z.2, .of k en, h3, fun v c1 l1 k1 e1 D1 => ⟨rfl, c1, [z.1], rfl, k1, .cons D1 .nil, r, S', by rw [e1]; exact h4, fun c2 l2 => h2 c2 (l1.trans l2)⟩⟩
  · rintro ws s2 ⟨zs, H2, I2, rz, hsp⟩
    refine ⟨I2.kIn, ?_⟩
    rw [hks]
    have hl := hsp.1
    match zs, rz, hl with
    | [zv], rz, _ =>
      obtain ⟨u, rfl, r1⟩ := vals1 rz
      refine wpAny_call (codeAny_mono (run_X (us := [u]) (vs := [zv]) (ar := ⟨[], [(y, u)]⟩) G hr tk (hb s2 u) I2 rz hsp) fun r s' hq => ?_)
      match r, hq with
      | .error _, hq => exact hq
      | .ok (.ret u), hq => exact hq
end

/-! ### an error's class with one field -/
def spI (C : Addr) (f : Str) : Sp := fun vs H Q _ => ∃ a y, vs = [.ref a, y] ∧ H a = some (exo a C none) ∧ ∀ dx, H dx = none → dx ≠ a → Q .non (upd (upd H dx (exd dx [(f, y)])) a (exo a C (some dx)))
structure Er1 (P : Program) (w : World) (K : PySem.W.Frag) (mg : Str → Option Value) (base : Heap) (cn f : Str) : Prop where
  ex : ∃ (C fI : Addr) (fd : FuncData), mg cn = some (.ref C) ∧ ErC K C ∧ PySem.W.findIn K (.ref C) "__init__" = some (some (.ref fI)) ∧ PySem.W.typeIn K (.ref fI) = some (.type "function") ∧ FnX P w K mg base 1 fI fd ["self", f] (spI C f) ∧ Binds K fd ["self", f] []
theorem init_ok {P : Program} {w : World} {K : PySem.W.Frag} {mg : Str → Option Value} {base : Heap} {x qual : Str} {st : Stmt} {fI C : Addr} {fd : FuncData} {f : Str} {p1 p2 p3 p4 : Pos} (Z : Fun K x qual st fI fd) (S : FnScope ["self", f] ["self", f] (defScope st))
    (hb : defBody st = [.Assign [.Attribute (.Name "self" p1) f p2] (.Name f p3) p4]) (T : ErC K C) (hno : PySem.W.findIn K (.ref C) f = some none) (hfd : (f == ("__debug__" : Str)) = false := by decide) (hcd : (f == ("__classdict__" : Str)) = false := by decide)
    (v1 : Vis (defScope st) "self" := by first | exact Or.inl rfl | exact Or.inr (Or.inl rfl)) (v2 : Vis (defScope st) f := by first | exact Or.inl rfl | exact Or.inr (Or.inl rfl)) : FnX P w K mg base 1 fI fd ["self", f] (spI C f) := by
  refine fnX_of Z S (fun vs H Q E h => ?_) fun c A o s H vs Q E hr h => ?_
  · obtain ⟨a, y, rfl, _⟩ := h; rfl
  · rw [hb]
    refine ⟨_, pss_one (ps_er (pe_var (i := 0) rfl v1 (by decide) (by decide)) (pe_var (i := 1) rfl v2 hfd hcd)), ?_⟩
    obtain ⟨a, y, rfl, ha, hq⟩ := h
    refine ⟨y, rfl, .ref a, rfl, a, C, rfl, T, hno, .inl ⟨ha, fun dx n ne => ?_⟩⟩
    exact hq dx n ne
def mxRaise (cn f : Str) (fe : EvF) : SxF := fun ρ S => (fe ρ S).map fun x => (.ex cn [(f, x.1)] ρ, x.2)
theorem mx_raise {X : Cx} {W : WX} {pos p cpos : Pos} {e : Expr} {fe : EvF} {cn f : Str} (hc : X.calm = true) (tk : Takes X W) (C : Er1 X.prog X.w X.K X.mg X.base cn f) (hr : Rm 2 X.A) (hg : Gl X cn) (ha : ME X e fe)
    (hdb : (cn == ("__debug__" : Str)) = false := by decide) (he : starEach [e] X.env = (false, eval e X.env) :: starEach [] X.env := by rfl) (hpl : (backTo cpos (starEach [] X.env)).any (·.1) = false := by rfl) :
    MX X W (.Raise (some (.Call (.Name cn p) [e] [] cpos)) none pos) (mxRaise cn f fe) := by
  obtain ⟨C, fI, fd, hm, T, iC, tI, F, hb⟩ := C.ex
  refine ps_imp (ps_raise hc tk (pmk_er T iC tI F hr hb hg hm (ma_cons ha ma_nil he) hdb he hpl)) ?_
  rintro Dd σ H ⟨c, ρ, o, S', ⟨rfl, k, en⟩, q, P⟩
  obtain ⟨⟨d, S1⟩, h1, h2⟩ := mp q
  cases h2
  refine ⟨c, ρ, [d], S1, .of k en, one_arg h1, fun vs c1 l1 k1 e1 D1 => ?_⟩
  obtain ⟨v, rfl, D2⟩ := da1 D1
  refine ⟨by show (1 : Nat) ≤ 1000; decide, fun a na => ⟨a, v, rfl, upd_same, fun dx nd ne => ?_⟩⟩
  have nd1 : c1.H dx = none := by rw [upd_ne ne] at nd; exact nd
  have ne' : a ≠ dx := fun z => ne z.symm
  refine ⟨rfl, dx, [(f, v)], upd_same, by rw [upd_ne ne, upd_same], nd1, ?_⟩
  have eH : upd (del (upd (upd (upd c1.H a (exo a C none)) dx (exd dx [(f, v)])) a (exo a C (some dx))) a) dx (.xd [(f, v)]) = upd c1.H dx (.xd [(f, v)]) := by
    funext b
    by_cases hb : b = dx
    · subst hb; rw [upd_same, upd_same]
    · rw [upd_ne hb, upd_ne hb]
      by_cases ha : b = a
      · subst ha; rw [del_same, na]
      · rw [del_ne ha, upd_ne ha, upd_ne hb, upd_ne ha]
  rw [eH]
  have k2 := lay_ok (o := .xd [(f, v)]) k1 nd1
  have l2 := lay_le (c := c1) (o := .xd [(f, v)]) nd1
  refine P (c1.lay dx (.xd [(f, v)])) (l1.trans l2) k2 e1 σ (en.mono (l1.trans l2)) C (some dx) [(f, v)] hm ⟨?_, upd_same⟩ (.cons (D2.mono l2) .nil)
  exact k1.nB nd1

/-! ### try -/
structure HdM where
  sb : Str → Option Bool
  i : Option Nat
  h : StF
def setE (ρ : En) (d : D) : Option Nat → En
  | none => ρ
  | some i => ρ.set i (some d)
def clrE (ρ : En) : Option Nat → En
  | none => ρ
  | some i => ρ.set i none
def outC (i : Option Nat) : Out → OX
  | .nx ρ => .nx (clrE ρ i)
  | .rt d => .rt d
  | .bk ρ => .bk (clrE ρ i)
  | .ct ρ => .ct (clrE ρ i)
def handle : List HdM → Str → Fs → SxF
  | [], cn, fs, ρ, S => some (.ex cn fs ρ, S)
  | l :: r, cn, fs, ρ, S => (l.sb cn).bind fun b => if b = true then (l.h (setE ρ (.err cn fs) l.i) S).map fun x => (outC l.i x.1, x.2) else handle r cn fs ρ S
def mxTry (g : SxF) (hs : List HdM) : SxF := fun ρ S => (g ρ S).bind fun x => match x.1 with
  | .ex cn fs ρ' => handle hs cn fs ρ' x.2
  | o => some (o, x.2)
def clfs (K : PySem.W.Frag) (mg : Str → Option Value) : List HdM → List Value → List ClF
  | l :: r, cv :: cs => ⟨cv, l.i, fun _ _ => tS K mg l.h⟩ :: clfs K mg r cs
  | _, _ => []
/-- what a clause's class says of the classes that may come -/
def SubOk (K : PySem.W.Frag) (mg : Str → Option Value) (sb : Str → Option Bool) (cv : Value) : Prop := ∀ cn b C, sb cn = some b → mg cn = some (.ref C) → PySem.W.exmOne K (.ref C) cv = some b
inductive SubAll (K : PySem.W.Frag) (mg : Str → Option Value) : List HdM → List Value → Prop
  | nil : SubAll K mg [] []
  | cons {sb : Str → Option Bool} {i : Option Nat} {h : StF} {r : List HdM} {cv : Value} {cs : List Value} : SubOk K mg sb cv → SubAll K mg r cs → SubAll K mg (⟨sb, i, h⟩ :: r) (cv :: cs)
theorem handle_go {K : PySem.W.Frag} {mg : Str → Option Value} {W : WX} {Dd : Ends} {c : Cfg} {cn : Str} {fs : Fs} {ρ : En} {σ : L2.St} {C : Addr} {od : Option Addr} {vs : List (Str × V)} {o : OX} {S' : Sto} (k : Ok K mg c) (en : EnD K mg c σ ρ) (hm : mg cn = some (.ref C)) (hx : ErX c od vs) (hd : DenF K mg c vs fs)
    (p : ∀ c', Le c c' → Ok K mg c' → c'.S = S' → OxTo K mg W Dd c' o) : ∀ (hs : List HdM) (cvs : List Value), SubAll K mg hs cvs → handle hs cn fs ρ c.S = some (o, S') → wClF K W Dd (clfs K mg hs cvs) (.ref C) od σ c.H
  | [], [], _, e => by
    cases e
    exact p c (.refl c) k rfl σ en C od vs hm hx hd
  | ⟨sb, hi, h⟩ :: r, cv :: cs, .cons hs hr, e => by
    obtain ⟨b, h1, h2⟩ := bd (show (sb cn).bind _ = some (o, S') from e)
    refine ⟨b, hs cn b C h1 hm, fun hb a oe na hz hf => ?_, fun hb => ?_⟩
    · subst hb
      obtain ⟨⟨x, S1⟩, h3, h4⟩ := mp (show (h (setE ρ (.err cn fs) hi) c.S).map _ = some (o, S') from h2)
      cases h4
      have le := lay_le (c := c) (o := EO a oe) na
      have k2 := lay_ok (o := EO a oe) k na
      have D1 : Den K mg (c.lay a (EO a oe)) (.ref a) (.err cn fs) := by
        refine .err (C := C) (od := od) (vs := vs) (k.nB na) hm (.inr ⟨oe, _, upd_same, hz, hf⟩) ?_ (DenF.mono le hd)
        cases od with
        | none => exact hx
        | some dd => exact ⟨hx.1, .inr ((upd_ne (ne_of_none hx.2 na)).trans hx.2)⟩
      have en2 : EnD K mg (c.lay a (EO a oe)) (setF σ a hi) (setE ρ (.err cn fs) hi) := by
        cases hi with
        | none => exact en.mono le
        | some i => exact (en.mono le).set D1
      show tS K mg h (dropF Dd hi) (setF σ a hi) (upd c.H a (EO a oe))
      refine ⟨c.lay a (EO a oe), _, x, S1, .of k2 en2, h3, fun c3 l3 k3 e3 => ?_⟩
      have q := p c3 (le.trans l3) k3 e3
      cases hi with
      | none => cases x <;> exact q
      | some i =>
        cases x with
        | nx ρ' => exact fun σ' en' => q _ en'.clear
        | rt d => exact q
        | bk ρ' => exact fun σ' en' => q _ en'.clear
        | ct ρ' => exact fun σ' en' => q _ en'.clear
    · subst hb
      exact handle_go k en hm hx hd p r cs hr h2
theorem mx_try {X : Cx} {W : WX} {body : List Stmt} {h₀ : ExceptHandler} {hds : List ExceptHandler} {pos : Pos} {g : SxF} {hs : List HdM} (cvs : List Value) (h1 : X.stack = X.env :: X.outer) (h2 : X.env.frame = some X.env.locals) (h3 : X.N.Nodup) (tk : Takes X W)
    (hb : ∀ (W' : WX) (pn : List (Addr × Obj)) (xe : Value → Shared → Prop), Takes (X.tr pn xe) W' → MXs (X.tr pn xe) W' body g) (hh : ClsOkF X (h₀ :: hds) (clfs X.K X.mg hs cvs)) (hsub : SubAll X.K X.mg hs cvs) : MX X W (.Try body (h₀ :: hds) [] [] pos) (mxTry g hs) := by
  refine ps_imp (ps_tryF (tb := fun W' => tSx X.K X.mg W' g) h1 h2 h3 tk (fun W' pn xe t _ => hb W' pn xe t) hh) ?_
  rintro Dd σ H ⟨c, ρ, o, S', hA, e, p⟩
  obtain ⟨⟨x, S1⟩, q1, q2⟩ := bd e
  refine ⟨c, ρ, x, S1, hA, q1, fun c1 l1 k1 e1 => ?_⟩
  cases x with
  | nx ρ' => cases q2; exact p c1 l1 k1 e1
  | rt d => cases q2; exact p c1 l1 k1 e1
  | bk ρ' => cases q2; exact p c1 l1 k1 e1
  | ct ρ' => cases q2; exact p c1 l1 k1 e1
  | ex cn fs ρ' =>
    intro σ' en' C od vs hm hx hd
    subst e1
    exact handle_go k1 en' hm hx hd (fun c2 l2 => p c2 (l1.trans l2)) hs cvs hsub q2
/-- a try that lets nothing out, among what raises nothing -/
def quS (g : SxF) : StF := fun ρ S => (g ρ S).bind fun x => match x.1 with
  | .nx ρ => some (.nx ρ, x.2)
  | .rt d => some (.rt d, x.2)
  | .bk ρ => some (.bk ρ, x.2)
  | .ct ρ => some (.ct ρ, x.2)
  | .ex _ _ _ => none
theorem ms_quS {X : Cx} {st : Stmt} {g : SxF} (h : MX X (fun _ _ _ _ => False) st g) : MS X st (quS g) := ps_imp h <| by
  rintro Dd σ H ⟨c, ρ, o, S', hA, e, p⟩
  obtain ⟨⟨x, S1⟩, q1, q2⟩ := bd e
  refine ⟨c, ρ, x, S1, hA, q1, fun c1 l1 k1 e1 => ?_⟩
  cases x with
  | nx ρ' => cases q2; exact p c1 l1 k1 e1
  | rt d => cases q2; exact p c1 l1 k1 e1
  | bk ρ' => cases q2; exact p c1 l1 k1 e1
  | ct ρ' => cases q2; exact p c1 l1 k1 e1
  | ex cn fs ρ' => cases q2

/-- what is known of an error's class -/
structure ErF (K : PySem.W.Frag) (mg : Str → Option Value) (cn f : Str) (C : Addr) : Prop where
  m : mg cn = some (.ref C)
  xf : XfC K C
  no : PySem.W.findIn K (.ref C) f = some none
  me : PySem.W.exmOne K (.ref C) (.ref C) = some true
def sbSelf (cn : Str) : Str → Option Bool := fun x => if x = cn then some true else none
theorem subOk_self {K : PySem.W.Frag} {mg : Str → Option Value} {cn f : Str} {C : Addr} (F : ErF K mg cn f C) : SubOk K mg (sbSelf cn) (.ref C) := by
  intro x b C' h hm
  unfold sbSelf at h
  split at h
  · rename_i e
    subst e
    cases h
    rw [F.m] at hm
    cases hm
    exact F.me
  · cases h
theorem names_of {X : Cx} {cn f : Str} {C : Addr} (F : ErF X.K X.mg cn f C) (hg : Gl X cn) (hd : (cn == ("__debug__" : Str)) = false := by decide) : Names X cn (.ref C) := ⟨hg, hd, .inl F.m⟩
/-! ### a field of an error -/
def mAttr (cns : List Str) (n : Str) (f : EvF) : EvF := fun ρ S => (f ρ S).bind fun x => match x.1 with
  | .err cn fs => if cn ∈ cns then (fs.lookup n).map fun d => (d, x.2) else none
  | _ => none
theorem attr_self {K : PySem.W.Frag} {mg : Str → Option Value} {cn f : Str} {C : Addr} (F : ErF K mg cn f C) : ∀ x ∈ [cn], ∀ C', mg x = some (.ref C') → XfC K C' ∧ PySem.W.findIn K (.ref C') f = some none := by
  intro x hx C' hm
  rw [List.mem_singleton.mp hx, F.m] at hm
  cases hm
  exact ⟨F.xf, F.no⟩
theorem me_attr {X : Cx} {e : Expr} {f : EvF} {cns : List Str} {n : Str} {pos : Pos} (T : ∀ cn ∈ cns, ∀ C, X.mg cn = some (.ref C) → XfC X.K C ∧ PySem.W.findIn X.K (.ref C) n = some none) (he : ME X e f) (hb : attributeBase e n X.env (eval e X.env) = eval e X.env := by rfl) :
    ME X (.Attribute e n pos) (mAttr cns n f) := by
  constructor
  rintro pins s σ H Q I ⟨c, ρ, d, S', ⟨rfl, k, en⟩, q, P⟩
  obtain ⟨⟨x, S1⟩, h1, h2⟩ := bd q
  clear q
  cases x <;> try (cases h2)
  rename_i cn fs
  have h3 : (if cn ∈ cns then (fs.lookup n).map fun d => (d, S1) else none) = some (d, S') := h2
  by_cases z : cn ∈ cns
  · rw [if_pos z] at h3
    obtain ⟨d', h4, h5⟩ := mp h3
    cases h5
    refine attr_of hb (thn (he.run pins s σ c.H (fun v H1 => ∃ c1, c1.H = H1 ∧ Le c c1 ∧ Ok X.K X.mg c1 ∧ c1.S = S' ∧ Den X.K X.mg c1 v (.err cn fs)) I ⟨c, ρ, _, S', .of k en, h1, fun v c1 l1 k1 e1 D1 => ⟨c1, rfl, l1, k1, e1, D1⟩⟩) fun u s1 hh => ?_)
    obtain ⟨x, H1, I1, rx, c1, rfl, l1, k1, e1, D1⟩ := hh
    cases D1 with
    | @err a C od vs _ _ nb hm ea ed q =>
      obtain rfl : u = Value.ref a := rx
      obtain ⟨T1, hno⟩ := T cn z C hm
      have hv := DenF.get (n := n) q
      rw [h4] at hv
      obtain ⟨v, l, dv⟩ := hv
      cases od with
      | none => cases ed; cases l
      | some dd =>
        obtain ⟨ndd, ed⟩ := ed
        obtain ⟨mA, hns, hr⟩ : ∃ mA, s1.heap.Ns1 dd mA ∧ ∀ g, RelO (vs.lookup g) (mA g) := by
          rcases ed with ed | ed
          · exact exd_at I1.hok ed
          · exact (show ObjOk X.prog X.w c1.H s1.heap dd (.xd vs) from I1.hok dd _ ed)
        obtain ⟨oe, ha, hz1, hz2, fl, hd⟩ : ∃ oe, s1.heap.get? a = some oe ∧ oe.cls = .ref C ∧ oe.dict = some dd ∧ ∃ w, oe.data = .fields w := by
          rcases ea with ea | ⟨oe, u, ea, hz, hf⟩
          · obtain ⟨t1, ho⟩ := exo_at I1.hok ea
            exact ⟨_, ho, rfl, rfl, _, rfl⟩
          · exact ⟨oe, (I1.hok a _ ea).1, hz.1, hz.2, hf⟩
        obtain ⟨od, ho, hl⟩ := lookIn_ns hns
        have hrn := hr n
        rw [l] at hrn
        obtain ⟨u, hu, ru⟩ := RelO.some_of (v := v) (o := mA n) hrn
        have J : PySem.W.InstAt s1.heap a oe C (some od) := ⟨ha, hz1, by unfold PySem.W.notCls; rw [hd] <;> rfl, by rw [hz2]; exact ho⟩
        exact HandSPX.exc_get I1.kIn J T1.ga T1.gg T1.exC (PySem.W.findObj_own T1.hdC hno rfl (by rw [hl, hu])) (handed_of ru) ⟨v, c1.H, I1.tok _, ru, P v c1 l1 k1 e1 dv⟩
  · rw [if_neg z] at h3; cases h3
theorem _root_.W2.Rg.u1 {A : Around} (h : Rg A) : A.units + 1 < cLine := by have := h.un; omega
end M

namespace M
open PySem PySem.Spec L2 W2 RZ
/-- is True, is False of anything -/
def isE : D → D → Option D := fun a b => match b with
  | .bl y => (match a with
    | .bl x => some (.bl (decide (x = y)))
    | .non => some (.bl false)
    | .int _ => some (.bl false)
    | .str _ => some (.bl false)
    | _ => none)
  | _ => isD a b
theorem od_isE {X : Cx} : OpD X (compareOp .Is) isE := by
  rintro pins s σ H x y v u Q I rx ry ⟨c, a, b, z, rfl, k, Da, Db, e, P⟩
  unfold isE at e
  split at e
  · split at e
    · exact od_is pins s σ _ _ _ v u Q I rx ry ⟨c, _, _, z, rfl, k, Da, Db, e, P⟩
    · cases e; cases Db; cases Da; cases rx; cases ry
      exact PySem.wpAny_is_other rfl (fun q => by cases q) ⟨.bl false, c.H, I, rfl, P.here k (.bl _)⟩
    · cases e; cases Db; cases Da; cases ry
      obtain ⟨t, rfl⟩ := rx
      exact PySem.wpAny_is_other rfl (fun q => by cases q) ⟨.bl false, c.H, I, rfl, P.here k (.bl _)⟩
    · cases e; cases Db; cases Da; cases ry
      obtain ⟨t, rfl⟩ := rx
      exact PySem.wpAny_is_other rfl (fun q => by cases q) ⟨.bl false, c.H, I, rfl, P.here k (.bl _)⟩
    · cases e
  · exact od_is pins s σ _ _ _ v u Q I rx ry ⟨c, _, _, z, rfl, k, Da, Db, e, P⟩
section
variable {X : Cx} {f g : EvF}
theorem mt_din {pos : Pos} {ek ed : Expr} (hr : X.A.units + 1 < cLine) (hk : ME X ek g) (hd : ME X ed f) (hm : behindInMarks .In ed = false := by rfl) : MT X (.Compare ek [.In] [ed] pos) (mTv (mDIn g f)) := by
  have go : ∀ σ H Q, tM X.K X.mg (mDIn g f) σ H Q → tDIn (tM X.K X.mg g) (tM X.K X.mg f) σ H Q := by
    rintro σ H Q ⟨c, ρ, d, S', ⟨rfl, k, en⟩, q, p⟩
    obtain ⟨⟨y, S1⟩, h1, q⟩ := bd q
    obtain ⟨⟨x, S2⟩, h2, q⟩ := bd q
    obtain ⟨kvs, h3, q⟩ := bd q
    obtain ⟨kk, h4, q⟩ := mp q
    cases q
    refine ⟨c, ρ, y, S1, .of k en, h1, fun v c1 l1 k1 e1 D1 => ⟨c1, ρ, x, S2, .of k1 (en.mono l1), by rw [e1]; exact h2, fun u c2 l2 k2 e2 D2 => ?_⟩⟩
    subst e2
    obtain ⟨pp, vs, rfl, hv, t⟩ := dct_go k2 D2 h3
    have a := den_gv (k := kk) t
    have ky := key_go D1 h4
    subst ky
    refine ⟨pp, valV vs kk, rfl, .k hv, ?_⟩
    have : (valV vs kk).isSome = (gv kvs kk).isSome := by
      cases eg : gv kvs kk with
      | none => rw [eg] at a; rw [a]; rfl
      | some w => rw [eg] at a; obtain ⟨wv, g1, _⟩ := a; rw [g1]; rfl
    rw [this]
    exact p.mono (l1.trans l2) |>.here k2 (.bl _)
  exact mt_of (pt_cmp (pc_din hr hk hd) hm) go
end
end M

namespace M
open PySem PySem.Spec L2 W2 RZ
theorem FnG.imp {P : Program} {w : World} {K : PySem.W.Frag} {mg : Str → Option Value} {base : Heap} {k : Nat} {f : Addr} {fd : FuncData} {ps : List Str} {sp sp' : Sp} (F : FnG P w K mg base k f fd ps sp)
    (h : ∀ vs H Q E, sp' vs H Q E → sp vs H Q E0) : FnG P w K mg base k f fd ps sp' :=
  ⟨fun vs H Q E q => F.len vs H Q E0 (h _ _ _ _ q), fun A o s H ar us vs Q E hr he hb hv hs => codeAny_mono (F.run A o s H ar us vs Q E0 hr he hb hv (h _ _ _ _ hs)) fun r s' q => by
    match r, q with
    | .ok (.ret _), q => exact q
    | .error e, q =>
      obtain ⟨_, _, _, _, _, _, _, _, _, _, _, _, z⟩ := q
      exact (show False from z).elim⟩
/-- the promise that the law's own call rests on -/
def spEnd (K : PySem.W.Frag) : Sp := fun vs H Q _ => ∃ (a : Addr) (ns : List Int), vs = [.ref a] ∧ SqL K H a (ns.map V.int) ∧ ns.length ≤ 63 ∧ ∀ H', Q (.bl true) H'
theorem end_sp {K : PySem.W.Frag} {mg : Str → Option Value} {F : Fn} (hF : ∀ ns : List Int, ns.length ≤ 63 → ∃ S', F [.seq (ns.map .int)] [] = some (.bl true, S')) {vs : List V} {H : Hp} {Q : VK} {E : XK} (h : spEnd K vs H Q E) : spM K mg 1 F vs H Q E0 := by
  obtain ⟨a, ns, rfl, hS, hl, q⟩ := h
  obtain ⟨S', hF⟩ := hF ns hl
  have none0 : ∀ j : Nat, ¬ j < ([] : Sto).length := fun j => Nat.not_lt_zero j
  have nB : ¬ (Cfg.mk (fun _ => 0) [] (fun _ => False) H).B a := fun q => q.elim (fun ⟨j, h, _⟩ => none0 j h) id
  refine ⟨rfl, ⟨fun _ => 0, [], fun _ => False, H⟩, [.seq (ns.map .int)], .bl true, S', rfl, ⟨fun j xs h => by simp at h, fun i j h => absurd h (none0 i), fun a h => h.elim⟩, .cons (.seq (xs := ns.map V.int) ?_ ?_) .nil, hF, fun v c' l k e D1 => by cases D1; exact q _⟩
  · rcases hS with h | h
    · exact .inl ⟨nB, h⟩
    · exact .inr (.inr h)
  · clear hS hF nB hl
    induction ns with
    | nil => exact .nil
    | cons n ns ih => exact .cons (.int n) ih
theorem walk_end {l : PySem.W.OpenLaw} {k : Nat} {q : Program} {loose : List Str} {XP : (Str → Option Value) → Heap → Prop} {YP : World → Heap → Prop} {d : DefRec} {K : Params → PySem.W.Frag} {x : Str} {F : Fn}
    (hn : l.most = some 63) (hq : PyProof.Rows.importsNone q = true) (hdf : d.params.defaults = []) (hr : Room k callerA) (hY : ∀ (w : World) (h : Heap), YP w h → (K w.params).In h)
    (hF : ∀ ns : List Int, ns.length ≤ 63 → ∃ S', F [.seq (ns.map .int)] [] = some (.bl true, S'))
    (Z : ∀ (w : World) (mg : Str → Option Value) (fa : Addr) (h : Heap), (K w.params).In h → h.Ns mainGlobals mg → mg d.name = some (.ref fa) →
      ∃ fd : FuncData, (∀ (s : Shared) (u : Value), BindsTo s fd ⟨[u], []⟩ [(x, u)]) ∧ ∀ base : Heap, (K w.params).In base → base.Ns mainGlobals mg → (∃ mm, base.Ns sysModules mm) → FnG l.prog w (K w.params) mg base k fa fd [x] (spM (K w.params) mg 1 F)) :
    PySem.W.WalkO q loose XP YP l.row.toRowW d [] (fun f vs => PySem.call f vs) := by
  refine walk_G (n := 63) (k := k) (x := x) (sp := fun w => spEnd (K w.params)) hn hq (by decide) hdf hr hY (fun w mg fa h a b c => ?_) fun w H a ns hl ho hS => ⟨a, ns, rfl, hS, hl, fun _ => rfl⟩
  obtain ⟨fd, hb, G⟩ := Z w mg fa h a b c
  exact ⟨fd, hb, fun base x1 x2 x3 => FnG.imp (G base x1 x2 x3) fun vs H Q E q => end_sp hF q⟩
end M

namespace M
open PySem L2
section
variable {a b c d e f g h : D} {xs : List D}
theorem at0 : atI (a :: xs) 0 = some a := atI_nat (j := 0) rfl
theorem at1 : atI (a :: b :: xs) 1 = some b := atI_nat (j := 1) rfl
theorem at2 : atI (a :: b :: c :: xs) 2 = some c := atI_nat (j := 2) rfl
theorem at3 : atI (a :: b :: c :: d :: xs) 3 = some d := atI_nat (j := 3) rfl
theorem at4 : atI (a :: b :: c :: d :: e :: xs) 4 = some e := atI_nat (j := 4) rfl
theorem at5 : atI (a :: b :: c :: d :: e :: f :: xs) 5 = some f := atI_nat (j := 5) rfl
theorem at6 : atI (a :: b :: c :: d :: e :: f :: g :: xs) 6 = some g := atI_nat (j := 6) rfl
theorem at7 : atI (a :: b :: c :: d :: e :: f :: g :: h :: xs) 7 = some h := atI_nat (j := 7) rfl
end
def iI : D → Bool
  | .int _ => true
  | .bl _ => true
  | _ => false
def iB : D → Bool
  | .bl _ => true
  | _ => false
def iS : D → Bool
  | .str _ => true
  | _ => false
def iT : D → Bool
  | .tup _ => true
  | _ => false
def sg (c : Nat) : D := .str ⟨#[c]⟩
theorem mapL_filter {te : EvF} {tt : EtF} {j : Nat} {ρ : En} {S : Sto} {p : Nat → Bool} : ∀ cs : List Nat, (∀ c ∈ cs, tt (ρ.set j (some (sg c))) S = some (p c, S) ∧ te (ρ.set j (some (sg c))) S = some (sg c, S)) →
    mapL te tt j ρ (cs.map sg) S = some ((cs.filter p).map sg, S)
  | [], _ => rfl
  | c :: cs, hh => by
    obtain ⟨h1, h2⟩ := hh c List.mem_cons_self
    have ih := mapL_filter cs fun x hx => hh x (List.mem_cons_of_mem _ hx)
    rw [List.map_cons]
    unfold mapL
    rw [h1]
    show (if p c = true then _ else _) = _
    cases e : p c with
    | true =>
      rw [if_pos rfl, h2]
      show Option.map _ (mapL te tt j ρ (cs.map sg) S) = _
      rw [ih, List.filter_cons, e]
      rfl
    | false =>
      rw [if_neg (by simp), List.filter_cons, e]
      exact ih
theorem toPA_sg : ∀ cs : List Nat, toPA (cs.map sg) = some (cs.map fun c => PyData.str ⟨#[c]⟩)
  | [] => by rw [List.map_nil, toPA]; rfl
  | c :: cs => by
    rw [List.map_cons, toPA, toPA_sg cs]
    show (toP (.str ⟨#[c]⟩)).bind _ = _
    rw [toP]
    rfl
theorem lay_sg : ∀ {cs : List Nat}, (∀ c ∈ cs, c < 1114112) → PyData.canLayAll0 (cs.map fun c => PyData.str ⟨#[c]⟩) = true ∧ PyData.depthAll (cs.map fun c => PyData.str ⟨#[c]⟩) = 0
  | [], _ => ⟨by rw [List.map_nil, PyData.canLayAll0], by rw [List.map_nil, PyData.depthAll]⟩
  | c :: cs, h => by
    obtain ⟨h1, h2⟩ := lay_sg fun x hx => h x (List.mem_cons_of_mem _ hx)
    have hc := h c List.mem_cons_self
    refine ⟨?_, ?_⟩
    · rw [List.map_cons, PyData.canLayAll0, h1, PyData.canLay0]
      simp [PyData.strOk, hc]
    · rw [List.map_cons, PyData.depthAll, h2, PyData.depth] <;> simp
theorem eq_nil {cs : List Nat} (h : ∀ c ∈ cs, c < 1114112) : eqD (.lst (cs.map sg)) (.lst []) = some (.bl cs.isEmpty) := by
  show eqD0 _ _ = _
  unfold eqD0
  rw [toP, toPA_sg, toP, toPA]
  obtain ⟨h1, h2⟩ := lay_sg h
  have s1 : SeqAt.shaped (.list (cs.map fun c => PyData.str ⟨#[c]⟩)) = true := by
    unfold SeqAt.shaped
    rw [PyData.canLay0, h1, PyData.depth, h2]
    rfl
  have s2 : SeqAt.shaped (.list []) = true := by decide +kernel
  show (if SeqAt.shaped (.list _) = true ∧ SeqAt.shaped (.list []) = true then some (D.bl (PyData.eqv (.list _) (.list []))) else none) = _
  rw [if_pos ⟨s1, s2⟩]
  cases cs with
  | nil => rw [List.map_nil, PyData.eqv, PyData.eqvAll]; rfl
  | cons c cs => rw [List.map_cons, PyData.eqv, PyData.eqvAll]; rfl
theorem e_ninS {x y : Str} : ninD (.str x) (.str y) = if x.cps.size = 1 then some (.bl (!decide (x.cps.getD 0 0 ∈ y.cps.toList))) else none := by
  unfold ninD
  show (match (if x.cps.size = 1 then some (D.bl (decide (x.cps.getD 0 0 ∈ y.cps.toList))) else none) with | some (.bl x) => some (D.bl (!x)) | _ => none) = _
  split <;> rename_i h <;> split at h <;> simp_all
theorem filter_empty {p : Nat → Bool} {cs : List Nat} : (cs.filter p).isEmpty = cs.all fun c => !p c := by
  induction cs with
  | nil => rfl
  | cons c cs ih =>
    rw [List.filter_cons, List.all_cons, ← ih]
    cases p c <;> simp
end M

namespace M
open PySem L2
theorem atI_mem {α : Type} {xs : List α} {r : Int} (h0 : 0 ≤ r) (h1 : r < xs.length) : ∃ d, atI xs r = some d ∧ d ∈ xs := by
  obtain ⟨n, rfl⟩ := Int.eq_ofNat_of_zero_le h0
  have hn : n < xs.length := by omega
  exact ⟨xs[n], atI_nat (List.getElem?_eq_getElem hn), List.getElem_mem hn⟩
theorem wp_at {α : Type} {xs : List α} {r : Int} {Q : α → Prop} (h0 : 0 ≤ r) (h1 : r < xs.length) (h : ∀ d ∈ xs, Q d) : wp (atI xs r) Q := by
  obtain ⟨d, e, m⟩ := atI_mem h0 h1
  exact ⟨d, e, h d m⟩
theorem app_list (a b : Str) : (a ++ b).cps.toList = a.cps.toList ++ b.cps.toList := by
  show (a.cps ++ b.cps).toList = _
  simp
theorem join_empty : ∀ ys : List Str, (Txt.join ("" : Str) ys).cps.toList = (ys.map fun y => y.cps.toList).flatten := by
  intro ys
  rw [show Txt.join ("" : Str) ys = Str.join ("" : Str) ys from TL.join_eq _ _]
  induction ys with
  | nil => rfl
  | cons x r ih =>
    cases r with
    | nil => simp [Str.join]
    | cons z r =>
      show (x ++ ("" : Str) ++ Str.join ("" : Str) (z :: r)).cps.toList = _
      rw [app_list, app_list, ih]
      have : ("" : Str).cps.toList = [] := by decide +kernel
      rw [this]
      simp
theorem strsOf_map : ∀ cs : List Nat, strsOf (cs.map sg) = some (cs.map fun c => (⟨#[c]⟩ : Str))
  | [] => rfl
  | c :: cs => by
    show (strsOf (cs.map sg)).map _ = _
    rw [strsOf_map cs]
    rfl
theorem join_sg (cs : List Nat) : (Txt.join ("" : Str) (cs.map fun c => (⟨#[c]⟩ : Str))).cps.toList = cs := by
  rw [join_empty, List.map_map]
  induction cs with
  | nil => rfl
  | cons c cs ih =>
    rw [List.map_cons, List.flatten_cons, ih]
    rfl
theorem e_join {S : Sto} {cs : List Nat} (h : cs.length ≤ 1000000) : ∃ x, joinD S (.str "") (.lst (cs.map sg)) = some (.str x) ∧ x.cps.toList = cs := by
  refine ⟨Txt.join ("" : Str) (cs.map fun c => (⟨#[c]⟩ : Str)), ?_, join_sg cs⟩
  show (strsOf (cs.map sg)).bind _ = _
  rw [strsOf_map]
  have e : ((cs.map fun c => (⟨#[c]⟩ : Str)).map (·.length)).sum = cs.length := by
    rw [List.map_map]
    clear h
    induction cs with
    | nil => rfl
    | cons c cs ih =>
      rw [List.map_cons, List.sum_cons, ih]
      show 1 + cs.length = cs.length + 1
      omega
  have e2 : ("" : Str).length = 0 := by decide +kernel
  show (if _ then _ else _) = _
  rw [if_pos]
  rw [e, e2]
  omega
theorem foldl_app_list : ∀ (l : List (Array Nat)) (a : Array Nat), (l.foldl (· ++ ·) a).toList = a.toList ++ (l.map (·.toList)).flatten
  | [], a => by simp
  | x :: l, a => by
    rw [List.foldl_cons, foldl_app_list l]
    simp
theorem smul_list (x : Str) (n : Nat) : (smul x n).cps.toList = (List.replicate n x.cps.toList).flatten := by
  show ((List.replicate n x.cps).foldl (· ++ ·) #[]).toList = _
  rw [foldl_app_list]
  simp [List.map_replicate]
theorem len_list (x : Str) : x.length = x.cps.toList.length := by simp [Str.length]
theorem e_mulS {a : Str} {b : Int} (h1 : 1 ≤ b) (h2 : b ≤ 1000000) (h3 : a.length * b.toNat ≤ 1000000) : ∃ x, mulD (.str a) (.int b) = some (.str x) ∧ x.cps.toList = (List.replicate b.toNat a.cps.toList).flatten := by
  have e : mulD (.str a) (.int b) = if 1 ≤ b ∧ b ≤ 1000000 ∧ a.length * b.toNat ≤ 1000000 then some (.str (if b = 1 ∨ a.length = 0 then a else smul a b.toNat)) else if b ≤ 0 ∧ -1000000 ≤ b then some (.str Str.empty) else none := rfl
  rw [e, if_pos ⟨h1, h2, h3⟩]
  refine ⟨_, rfl, ?_⟩
  by_cases z : b = 1 ∨ a.length = 0
  · rw [if_pos z]
    rcases z with z | z
    · rw [z]; simp
    · have : a.cps.toList = [] := by
        rw [len_list] at z
        exact List.length_eq_zero_iff.mp z
      rw [this]
      simp
  · rw [if_neg z, smul_list]
theorem flat_all {p : Nat → Bool} {l : List Nat} (n : Nat) (h : l.all p = true) : (List.replicate n l).flatten.all p = true := by
  induction n with
  | zero => rfl
  | succ n ih => rw [List.replicate_succ, List.flatten_cons, List.all_append, h, ih]; rfl
theorem flat_len {l : List Nat} (n : Nat) : (List.replicate n l).flatten.length = n * l.length := by
  induction n with
  | zero => simp
  | succ n ih => rw [List.replicate_succ, List.flatten_cons, List.length_append, ih, Nat.add_mul]; omega
theorem okS_of {x : Str} (h : x.cps.toList.all sgn = true) : okS x = true := by
  unfold okS
  rw [List.all_eq_true] at h ⊢
  intro c hc
  have := h c hc
  unfold sgn at this
  simp at this ⊢
  omega
end M

namespace M
open PySem L2
section
variable {ρ : En} {S : Sto} {Q : D × Sto → Prop} {B : Bool × Sto → Prop} {O : Out × Sto → Prop} {f g h : EvF} {t : EtF} {fa : EaF} {s1 s2 : StF}
theorem w_app : wp (mApp f g ρ S) Q ↔ wp (f ρ S) fun x => wp (match x.1 with
  | .ref j => (stLst x.2 j).bind fun _ => (g ρ x.2).bind fun y => (stLst y.2 j).bind fun xs => if xs.length < 100000 then some (.non, y.2.set j (.lst (xs ++ [y.1]))) else none
  | _ => none) Q := by unfold mApp; rw [wp_bind] <;> exact Iff.rfl
theorem w_ext : wp (mExt f g ρ S) Q ↔ wp (f ρ S) fun x => wp (match x.1 with
  | .ref j => (stLst x.2 j).bind fun _ => (g ρ x.2).bind fun y => match y.1 with
    | .lst zs => (stLst y.2 j).bind fun xs => if xs.length + zs.length < 100000 then some (.non, y.2.set j (.lst (xs ++ zs))) else none
    | _ => none
  | _ => none) Q := by unfold mExt; rw [wp_bind] <;> exact Iff.rfl
theorem w_pop : wp (mPop f ρ S) Q ↔ wp (f ρ S) fun x => wp (match x.1 with
  | .ref j => (stLst x.2 j).bind fun xs => (xs[xs.length - 1]?).map fun d => (d, x.2.set j (.lst xs.dropLast))
  | _ => none) Q := by unfold mPop; rw [wp_bind] <;> exact Iff.rfl
theorem w_tr : wp (mTr f ρ S) B ↔ wp (f ρ S) fun x => wp (truD x.2 x.1) fun b => B (b, x.2) := by unfold mTr; simp only [wp_bind, wp_map]
theorem w_newc {op : CbF} : wp (mNewC op fa ρ S) Q ↔ wp (fa ρ S) fun x => wp (op x.2 x.1) fun z => wp (match z with
  | .lst ds => some (.ref x.2.length, x.2 ++ [.lst ds])
  | _ => none) Q := by unfold mNewC; simp only [wp_bind] <;> exact Iff.rfl
theorem w_s1 {k : Str → Str → Str} : wp (mS1 k f h ρ S) Q ↔ wp (f ρ S) fun x => wp (match x.1 with
  | .str a => (h ρ x.2).bind fun y => match y.1 with
    | .str b => if a.length ≤ 1000000 then some (.str (k a b), y.2) else none
    | _ => none
  | _ => none) Q := by unfold mS1; rw [wp_bind] <;> exact Iff.rfl
theorem w_repl {y z : Str} : wp (mRepl y z f ρ S) Q ↔ wp (f ρ S) fun x => wp (match x.1 with
  | .str a => if a.length + (a.length + 1) * z.length ≤ 16777216 then some (.str (Txt.replace a y z), x.2) else none
  | _ => none) Q := by unfold mRepl; rw [wp_bind] <;> exact Iff.rfl
theorem w_mu {op : D → Option D} : wp (mU op f ρ S) Q ↔ wp (f ρ S) fun x => wp (op x.1) fun z => Q (z, x.2) := by unfold mU; simp only [wp_bind, wp_map]
theorem w_addn : wp (mAddN f g ρ S) Q ↔ wp (f ρ S) fun x => wp (g ρ x.2) fun y => wp (match x.1, y.1 with
  | .lst a, .lst b => if a.length + b.length ≤ 100000 then some (.ref y.2.length, y.2 ++ [.lst (a ++ b)]) else none
  | _, _ => none) Q := by unfold mAddN; simp only [wp_bind] <;> exact Iff.rfl
theorem w_dget : wp (mDGet f g ρ S) Q ↔ wp (f ρ S) fun x => wp (g ρ x.2) fun y => wp (dctOf y.2 x.1) fun kvs => wp (keyOf y.1) fun k => wp (gv kvs k) fun d => Q (d, y.2) := by unfold mDGet; simp only [wp_bind, wp_map]
theorem w_din : wp (mDIn g f ρ S) Q ↔ wp (g ρ S) fun y => wp (f ρ y.2) fun x => wp (dctOf x.2 x.1) fun kvs => wp (keyOf y.1) fun k => Q (.bl (gv kvs k).isSome, x.2) := by unfold mDIn; simp only [wp_bind, wp_map]
theorem w_dget2 : wp (mDGet2 f g h ρ S) Q ↔ wp (f ρ S) fun x => wp (dctOf x.2 x.1) fun _ => wp (g ρ x.2) fun y => wp (h ρ y.2) fun z => wp (dctOf z.2 x.1) fun kvs => wp (keyOf y.1) fun k => Q ((gv kvs k).getD z.1, z.2) := by unfold mDGet2; simp only [wp_bind, wp_map]
theorem w_dictn : wp (mDictN fa ρ S) Q ↔ wp (fa ρ S) fun x => wp (dictP x.2 x.1) fun z => wp (match z with
  | .dct kvs => some (.ref x.2.length, x.2 ++ [.dct kvs])
  | _ => none) Q := by unfold mDictN; simp only [wp_bind] <;> exact Iff.rfl
theorem w_asgs {g : TgSF} : wp (mAsgS f g ρ S) O ↔ wp (f ρ S) fun x => wp (g ρ x.2 x.1) fun r => O (.nx r.1, r.2) := by unfold mAsgS; simp only [wp_bind, wp_map]
theorem w_attr {cns : List Str} {n : Str} : wp (mAttr cns n f ρ S) Q ↔ wp (f ρ S) fun x => wp (match x.1 with
  | .err cn fs => if cn ∈ cns then (fs.lookup n).map fun d => (d, x.2) else none
  | _ => none) Q := by unfold mAttr; rw [wp_bind] <;> exact Iff.rfl
/-! ### what may raise -/
section
variable {α β : Type} {W : RX β × Sto → Prop} {V : RX α × Sto → Prop} {P : OX × Sto → Prop} {g1 g2 : SxF} {fx fy : RxF D} {ax : RxF (List D)} {tx : RxF Bool}
theorem w_xo {u : En → Sto → Option (α × Sto)} : wp (xo u ρ S) V ↔ wp (u ρ S) fun x => V (.ok x.1, x.2) := by unfold xo; simp only [wp_map]
theorem w_lx : wp (lx s1 ρ S) P ↔ wp (s1 ρ S) fun x => P (outX x.1, x.2) := by unfold lx; simp only [wp_map]
theorem w_bx {o : Option (RX α × Sto)} {k : α → Sto → Option (RX β × Sto)} : wp (bx o k) W ↔ wp o fun x => wp (match x.1 with
  | .ok a => k a x.2
  | .ex cn fs => some (.ex cn fs, x.2)) W := by unfold bx; rw [wp_bind] <;> exact Iff.rfl
theorem w_sxr {o : Option (RX α × Sto)} {k : α → Sto → Option (OX × Sto)} : wp (sxR ρ o k) P ↔ wp o fun x => wp (match x.1 with
  | .ok a => k a x.2
  | .ex cn fs => some (.ex cn fs ρ, x.2)) P := by unfold sxR; rw [wp_bind] <;> exact Iff.rfl
theorem w_xdef {n : Nat} {ds : List D} {W : RX D × Sto → Prop} : wp (mxDef n g1 ds S) W ↔ wp (g1 (ds.map some ++ List.replicate (n - ds.length) none) S) fun x => wp (match x.1 with
  | .rt d => some (.ok d, x.2)
  | .nx _ => some (.ok .non, x.2)
  | .ex cn fs _ => some (.ex cn fs, x.2)
  | _ => none) W := by unfold mxDef; simp only [wp_bind] <;> exact Iff.rfl
theorem w_xseq : wp (mxSeq g1 g2 ρ S) P ↔ wp (g1 ρ S) fun x => wp (match x.1 with | .nx r => g2 r x.2 | o => some (o, x.2)) P := by unfold mxSeq; simp only [wp_bind] <;> exact Iff.rfl
theorem w_xraise {cn n : Str} : wp (mxRaise cn n f ρ S) P ↔ wp (f ρ S) fun x => P (.ex cn [(n, x.1)] ρ, x.2) := by unfold mxRaise; simp only [wp_map]
theorem w_xtry {hs : List HdM} : wp (mxTry g1 hs ρ S) P ↔ wp (g1 ρ S) fun x => wp (match x.1 with
  | .ex cn fs r => handle hs cn fs r x.2
  | o => some (o, x.2)) P := by unfold mxTry; simp only [wp_bind] <;> exact Iff.rfl
theorem w_qus : wp (quS g1 ρ S) O ↔ wp (g1 ρ S) fun x => wp (match x.1 with
  | .nx ρ => some (.nx ρ, x.2)
  | .rt d => some (.rt d, x.2)
  | .bk ρ => some (.bk ρ, x.2)
  | .ct ρ => some (.ct ρ, x.2)
  | .ex _ _ _ => none) O := by unfold quS; simp only [wp_bind] <;> exact Iff.rfl
theorem w_okf {F : FnR} {ds : List D} : wp (okF F ds S) Q ↔ wp (F ds S) fun x => wp (match x.1 with
  | .ok d => some (d, x.2)
  | _ => none) Q := by unfold okF; simp only [wp_bind] <;> exact Iff.rfl
theorem w_xkw {F : FnR} {W : RX D × Sto → Prop} : wp (mxKw F f ρ S) W ↔ wp (f ρ S) fun x => wp (F [x.1] x.2) W := by unfold mxKw; simp only [wp_bind] <;> exact Iff.rfl
end
/-- a while by an invariant and a measure -/
theorem wp_whl {t : EtF} {g : StF} {O : Out × Sto → Prop} (W : Nat → En → Sto → Prop)
    (hs : ∀ m ρ S, W m ρ S → wp (t ρ S) fun b => if b.1 = true then 0 < m ∧ wp (g ρ b.2) fun x => match x.1 with
      | .nx r => ∃ m', m' < m ∧ W m' r x.2
      | .ct r => ∃ m', m' < m ∧ W m' r x.2
      | .bk r => O (.nx r, x.2)
      | .rt v => O (.rt v, x.2) else O (.nx ρ, b.2)) : ∀ (n m : Nat) (ρ : En) (S : Sto), m < n → W m ρ S → wp (whl t g n ρ S) O
  | 0, m, ρ, S, l, w => absurd l (Nat.not_lt_zero m)
  | n + 1, m, ρ, S, l, w => by
    unfold whl
    rw [wp_bind]
    refine wp_mono (hs m ρ S w) fun b q => ?_
    rw [wp_ite]
    by_cases z : b.1 = true
    · rw [if_pos z] at q ⊢
      rw [wp_bind]
      refine wp_mono q.2 fun x q2 => ?_
      obtain ⟨x, S1⟩ := x
      cases x with
      | nx r =>
        obtain ⟨m', hm, w'⟩ := q2
        exact wp_whl W hs n m' r S1 (by omega) w'
      | ct r =>
        obtain ⟨m', hm, w'⟩ := q2
        exact wp_whl W hs n m' r S1 (by omega) w'
      | bk r => exact wp_some.mpr q2
      | rt v => exact wp_some.mpr q2
    · rw [if_neg z] at q ⊢
      exact wp_some.mpr q
theorem stLst_of {S : Sto} {j : Nat} {xs : List D} (h : S[j]? = some (.lst xs)) : stLst S j = some xs := by unfold stLst; rw [h]
end
end M

namespace M
open PySem PySem.Spec L2 W2 RZ

/-! ### a statement that is never reached -/
def mNone : StF := fun _ _ => none
theorem ms_none {X : Cx} {st : Stmt} : MS X st mNone := ⟨fun pins s σ H D I q => by
  obtain ⟨c, ρ, o, S', _, q, _⟩ := q
  cases q⟩

/-! ### lists, also of the store -/
def lsOf (S : Sto) : D → Option (List D)
  | .lst xs => some xs
  | .ref j => stLst S j
  | _ => none
def sqOf (S : Sto) : D → Option (List D)
  | .lst xs => some xs
  | .tup xs => some xs
  | .ref j => stLst S j
  | _ => none
theorem stLst_get {S : Sto} {j : Nat} {xs : List D} (h : stLst S j = some xs) : S[j]? = some (.lst xs) := by
  unfold stLst at h
  split at h
  · cases h; assumption
  · cases h
section
variable {K : PySem.W.Frag} {mg : Str → Option Value} {c : Cfg}
theorem den_ls (k : Ok K mg c) {v : V} {d : D} {xs : List D} (D1 : Den K mg c v d) (h : lsOf c.S d = some xs) : ∃ a vs, v = .ref a ∧ Rd c.H a (.lst vs) ∧ DenA K mg c vs xs := by
  cases d <;> try (cases h)
  · cases D1 with
    | lst s t => exact ⟨_, _, rfl, s.2, t⟩
  · rename_i j
    cases D1 with
    | ref hj =>
      obtain ⟨vs, hv, t⟩ := k.at_ _ _ (stLst_get h)
      exact ⟨_, _, rfl, .inl hv, t⟩
end

/-! ### what two values give, by the store -/
def r2S (K : PySem.W.Frag) (mg : Str → Option Value) (op : Sto → D → D → Option D) : R2 := fun x y H Q => ∃ c a b z, c.H = H ∧ Ok K mg c ∧ Den K mg c x a ∧ Den K mg c y b ∧ op c.S a b = some z ∧ Post K mg c c.S z Q
abbrev OpS (X : Cx) (fn : Value → Value → Sem Value) (op : Sto → D → D → Option D) : Prop := OpR X fn (r2S X.K X.mg op)
def mBinS (op : Sto → D → D → Option D) (f g : EvF) : EvF := fun ρ S => (f ρ S).bind fun x => (g ρ x.2).bind fun y => (op y.2 x.1 y.1).map fun z => (z, y.2)
section
variable {X : Cx} {a b : Expr} {f g : EvF} {pos : Pos} {op : Sto → D → D → Option D}
theorem opS_go {σ : L2.St} {H : Hp} {Q : VK} (q : tM X.K X.mg (mBinS op f g) σ H Q) : tOp (r2S X.K X.mg op) (tM X.K X.mg f) (tM X.K X.mg g) σ H Q := by
  obtain ⟨c, ρ, d, S', ⟨rfl, k, en⟩, q, p⟩ := q
  obtain ⟨x, h1, q⟩ := bd q
  obtain ⟨y, h2, q⟩ := bd q
  obtain ⟨z, h3, q⟩ := mp q
  cases q
  refine ⟨c, ρ, x.1, x.2, .of k en, h1, fun v c1 l1 k1 e1 D1 => ?_⟩
  refine ⟨c1, ρ, y.1, y.2, .of k1 (en.mono l1), by rw [e1]; exact h2, fun w c2 l2 k2 e2 D2 => ?_⟩
  exact ⟨c2, x.1, y.1, d, rfl, k2, D1.mono l2, D2, by rw [e2]; exact h3, by rw [e2]; exact p.mono (l1.trans l2)⟩
theorem me_binS {o : Operator} (ho : OpS X (binaryOp o) op) (ha : ME X a f) (hb : ME X b g) : ME X (.BinOp a o b pos) (mBinS op f g) :=
  pe_imp (pe_op ho ha hb) fun _ _ _ => opS_go
theorem me_cmpS {o : CmpOp} (ho : OpS X (compareOp o) op) (ha : ME X a f) (hb : ME X b g) (hm : behindInMarks o b = false) : ME X (.Compare a [o] [b] pos) (mBinS op f g) :=
  pe_imp (pe_cmpR ho ha hb hm) fun _ _ _ => opS_go
theorem mt_cmpS {o : CmpOp} (ho : OpS X (compareOp o) op) (ha : ME X a f) (hb : ME X b g) (hm : behindInMarks o b = false) : MT X (.Compare a [o] [b] pos) (mTv (mBinS op f g)) :=
  mt_of (pt_cmpR ho ha hb hm) fun _ _ _ => opS_go
end
/-- + of lists, one of which may be a thing of the store -/
def addS (S : Sto) (a b : D) : Option D := (lsOf S a).bind fun xs => (lsOf S b).bind fun ys => if xs.length + ys.length ≤ 100000 then some (.lst (xs ++ ys)) else none
theorem od_addS {X : Cx} : OpS X (binaryOp .Add) addS := by
  rintro pins s σ H x y v u Q I rx ry ⟨c, a, b, z, rfl, k, Da, Db, e, P⟩
  unfold addS at e
  obtain ⟨i, h1, e⟩ := bd e
  obtain ⟨j, h2, e⟩ := bd e
  by_cases l : i.length + j.length ≤ 100000
  · rw [if_pos l] at e; cases e
    obtain ⟨p1, vs1, rfl, s1, t1⟩ := den_ls k Da h1
    obtain ⟨p2, vs2, rfl, s2, t2⟩ := den_ls k Db h2
    obtain ⟨z1, its, n, r, g⟩ := s1.ok I.hok
    obtain ⟨z2, its2, n2, r2, g2⟩ := s2.ok I.hok
    cases rx
    cases ry
    have q1 := r.length
    have q2 := r2.length
    have q3 := t1.length
    have q4 := t2.length
    refine PySem.P.add_list g g2 ?_ (by rw [List.size_toArray, List.size_toArray, sizeLine_eq]; omega)
    rw [show its.toArray ++ its2.toArray = (its ++ its2).toArray by simp]
    exact ⟨.ref _, _, I.lnew (t' := s.toks) (r.append r2) (by rw [List.length_append, sizeLine_eq]; omega), rfl, post_lst P k (t1.app t2) _ I.fresh⟩
  · rw [if_neg l] at e; cases e

/-! ### equality that looks into the store -/
mutual
def toPS (S : Sto) : D → Option PyData
  | .non => some .none
  | .bl b => some (.bool b)
  | .int i => some (.int i)
  | .str x => some (.str x)
  | .lst ds => (toPSA S ds).map .list
  | .tup ds => (toPSA S ds).map .tuple
  | .ref j => (stLst S j).bind fun ds => (toPA ds).map .list
  | .dct _ => none
  | .fn _ => none
  | .ty _ => none
  | .seq _ => none
  | .cls _ => none
  | .err _ _ => none
def toPSA (S : Sto) : List D → Option (List PyData)
  | [] => some []
  | d :: ds => (toPS S d).bind fun x => (toPSA S ds).map fun r => x :: r
end
section
variable {X : Cx}
mutual
theorem den_dpS {K : PySem.W.Frag} {mg : Str → Option Value} {c : Cfg} (k : Ok K mg c) : ∀ {d : D} {v : V} {x : PyData}, Den K mg c v d → toPS c.S d = some x → Dp K c.H v x
  | .non, _, _, h, e => by cases h; rw [toPS] at e; cases e; exact .non
  | .bl b, _, _, h, e => by cases h; rw [toPS] at e; cases e; exact .bl b
  | .int b, _, _, h, e => by cases h; rw [toPS] at e; cases e; exact .int b
  | .str b, _, _, h, e => by cases h; rw [toPS] at e; cases e; exact .str b
  | .lst ds, _, _, h, e => by
    cases h with
    | lst s t =>
      rw [toPS] at e
      obtain ⟨xs, e1, rfl⟩ := mp e
      exact .lst s.get (den_dpSA k t e1)
  | .tup ds, _, _, h, e => by
    cases h with
    | tup s t =>
      rw [toPS] at e
      obtain ⟨xs, e1, rfl⟩ := mp e
      exact .tup s.get (den_dpSA k t e1)
  | .ref j, _, _, h, e => by
    rw [toPS] at e
    obtain ⟨ds, e0, e⟩ := bd e
    obtain ⟨xs, e1, rfl⟩ := mp e
    cases h with
    | ref hj =>
      obtain ⟨vs, hv, t⟩ := k.at_ _ _ (stLst_get e0)
      exact .lst (.inl (.inl hv)) (den_dpA t e1)
  | .dct _, _, _, _, e => by rw [toPS] at e; cases e
  | .fn _, _, _, _, e => by rw [toPS] at e; cases e
  | .ty _, _, _, _, e => by rw [toPS] at e; cases e
  | .seq _, _, _, _, e => by rw [toPS] at e; cases e
  | .cls _, _, _, _, e => by rw [toPS] at e; cases e
  | .err _ _, _, _, _, e => by rw [toPS] at e; cases e
theorem den_dpSA {K : PySem.W.Frag} {mg : Str → Option Value} {c : Cfg} (k : Ok K mg c) : ∀ {ds : List D} {vs : List V} {xs : List PyData}, DenA K mg c vs ds → toPSA c.S ds = some xs → DpAll K c.H vs xs
  | [], _, _, h, e => by cases h; rw [toPSA] at e; cases e; exact .nil
  | d :: ds, _, _, h, e => by
    cases h with
    | cons a b =>
      rw [toPSA] at e
      obtain ⟨x, e1, e⟩ := bd e
      obtain ⟨xs, e2, rfl⟩ := mp e
      exact .cons (den_dpS k a e1) (den_dpSA k b e2)
end
def eqS (S : Sto) (a b : D) : Option D := (toPS S a).bind fun x => (toPS S b).bind fun y => if SeqAt.shaped x = true ∧ SeqAt.shaped y = true then some (.bl (PyData.eqv x y)) else none
def neS (S : Sto) (a b : D) : Option D := (toPS S a).bind fun x => (toPS S b).bind fun y => if SeqAt.shaped x = true ∧ SeqAt.shaped y = true then some (.bl (!PyData.eqv x y)) else none
theorem od_eqS (hr : Rg X.A) : OpS X (compareOp .Eq) eqS := by
  rintro pins s σ H x y v u Q I rx ry ⟨c, a, b, z, rfl, k, Da, Db, e, P⟩
  unfold eqS at e
  obtain ⟨p, h1, e⟩ := bd e
  obtain ⟨q, h2, e⟩ := bd e
  by_cases l : SeqAt.shaped p = true ∧ SeqAt.shaped q = true
  · rw [if_pos l] at e; cases e
    exact op_eqD hr.units pins s σ _ _ _ v u Q I rx ry ⟨_, _, den_dpS k Da h1, den_dpS k Db h2, l.1, l.2, P.here k (.bl _)⟩
  · rw [if_neg l] at e; cases e
theorem od_neS (hr : Rg X.A) : OpS X (compareOp .NotEq) neS := by
  rintro pins s σ H x y v u Q I rx ry ⟨c, a, b, z, rfl, k, Da, Db, e, P⟩
  unfold neS at e
  obtain ⟨p, h1, e⟩ := bd e
  obtain ⟨q, h2, e⟩ := bd e
  by_cases l : SeqAt.shaped p = true ∧ SeqAt.shaped q = true
  · rw [if_pos l] at e; cases e
    exact op_neD hr.units pins s σ _ _ _ v u Q I rx ry ⟨_, _, den_dpS k Da h1, den_dpS k Db h2, l.1, l.2, P.here k (.bl _)⟩
  · rw [if_neg l] at e; cases e
end

/-! ### isinstance with two classes -/
def tyN (S : Sto) : D → Option String
  | .non => some "NoneType"
  | .bl _ => some "bool"
  | .int _ => some "int"
  | .str _ => some "str"
  | .lst _ => some "list"
  | .tup _ => some "tuple"
  | .dct _ => some "dict"
  | .ref j => match S[j]? with
    | some (.lst _) => some "list"
    | some (.dct _) => some "dict"
    | _ => none
  | _ => none
def Seven (t : String) : Prop := t = "NoneType" ∨ t = "bool" ∨ t = "int" ∨ t = "str" ∨ t = "list" ∨ t = "tuple" ∨ t = "dict"
theorem den_tyN {K : PySem.W.Frag} {mg : Str → Option Value} {c : Cfg} {v : V} {d : D} {t : String} (k : Ok K mg c) (h : Den K mg c v d) (e : tyN c.S d = some t) : TyX K c.H v (.type t) ∧ Seven t := by
  cases d with
  | non => cases h; cases e; exact ⟨.base .non, by simp [Seven]⟩
  | bl x => cases h; cases e; exact ⟨.base (.bl x), by simp [Seven]⟩
  | int x => cases h; cases e; exact ⟨.base (.int x), by simp [Seven]⟩
  | str x => cases h; cases e; exact ⟨.base (.str x), by simp [Seven]⟩
  | lst x => cases e; cases h with | lst s u => exact ⟨tyx_lst s, by simp [Seven]⟩
  | tup x => cases e; cases h with | tup s u => exact ⟨tyx_tup s, by simp [Seven]⟩
  | dct x => cases e; cases h with | dct n s u => exact ⟨.base (.dK s), by simp [Seven]⟩
  | ref j =>
    cases h with
    | ref hj =>
      have e' : (match c.S[j]? with | some (.lst _) => some "list" | some (.dct _) => some "dict" | _ => none) = some t := e
      clear e
      split at e'
      · rename_i xs hS
        cases e'
        obtain ⟨vs, hv, _⟩ := k.at_ _ _ hS
        exact ⟨.base (.lst hv), by simp [Seven]⟩
      · rename_i xs hS
        cases e'
        obtain ⟨vs, hv, _⟩ := k.at_ _ _ hS
        exact ⟨.base (.dK hv), by simp [Seven]⟩
      · cases e'
  | fn x => cases e
  | ty x => cases e
  | seq x => cases e
  | cls x => cases e
  | err x y => cases e
theorem kit_lt {K : PySem.W.Frag} {t : String} (h : Seven t) : PySem.W.kitAny K (.type t) [.type "list", .type "tuple"] = some (t == "list" || t == "tuple") := by
  have go : ∀ p q, kitB t "list" = some p → kitB t "tuple" = some q → PySem.W.kitAny K (.type t) [.type "list", .type "tuple"] = some (p || q) := by
    intro p q h1 h2
    refine kitAny_cons (kit_ty h1) (fun hp => ?_) fun hp => by rw [hp]; rfl
    refine kitAny_cons (kit_ty h2) (fun hq => ?_) fun hq => by rw [hq, Bool.or_true]
    rw [hp, hq]
    exact kitAny_nil
  rcases h with rfl | rfl | rfl | rfl | rfl | rfl | rfl <;> exact go _ _ (by decide +kernel) (by decide +kernel)
def mIsLT (f : EvF) : EvF := fun ρ S => (f ρ S).bind fun x => (tyN x.2 x.1).map fun t => (.bl (t == "list" || t == "tuple"), x.2)
theorem me_isLT {X : Cx} {e : Expr} {f : EvF} {n : Nat} {p p1 p2 tp pos : Pos} (hg : Gl X "isinstance") (hm : X.mg "isinstance" = none) (hl : Gl X "list") (ml : X.mg "list" = none) (ht : Gl X "tuple") (mt : X.mg "tuple" = none) (he : ME X e f)
    (n1 : starEach [e, .Tuple [.Name "list" p1, .Name "tuple" p2] n tp] X.env = (false, eval e X.env) :: starEach [.Tuple [.Name "list" p1, .Name "tuple" p2] n tp] X.env := by rfl)
    (n2 : (backTo pos (starEach [.Tuple [.Name "list" p1, .Name "tuple" p2] n tp] X.env)).any (·.1) = false := by rfl) :
    ME X (.Call (.Name "isinstance" p) [e, .Tuple [.Name "list" p1, .Name "tuple" p2] n tp] [] pos) (mIsLT f) := by
  have b1 : PE X (.Name "list" p1) (tC (.ty "list")) := pe_bltn (v := .ty "list") (u := .type "list") hl ml (by decide +kernel) rfl (by decide) (by decide)
  have b2 : PE X (.Name "tuple" p2) (tC (.ty "tuple")) := pe_bltn (v := .ty "tuple") (u := .type "tuple") ht mt (by decide +kernel) rfl (by decide) (by decide)
  refine pe_imp (pe_callB call_isiT hg hm PyProof.Rows.boot_isinstance (pa_cons he (pa_cons (pe_tup (pa_cons b1 (pa_cons b2 pa_nil))) pa_nil) n1) (by decide) (by decide) n1 n2) ?_
  rintro σ H Q ⟨c, ρ, d, S', ⟨rfl, k, en⟩, q, P⟩
  obtain ⟨⟨x, S1⟩, h1, q⟩ := bd q
  obtain ⟨t, h2, q⟩ := mp q
  cases q
  refine ⟨c, ρ, x, S1, .of k en, h1, fun v c1 l1 k1 e1 D1 => ⟨by show 2 ≤ sizeLine; rw [sizeLine_eq]; omega, fun T hT => ?_⟩⟩
  have lw := lay_le (o := .tup [.ty "list", .ty "tuple"]) hT
  have k2 := lay_ok (o := .tup [.ty "list", .ty "tuple"]) k1 hT
  obtain ⟨ty, sv⟩ := den_tyN k2 (D1.mono lw) (show tyN c1.S x = some t by rw [e1]; exact h2)
  exact ⟨v, T, [.ty "list", .ty "tuple"], .type t, [.type "list", .type "tuple"], _, rfl, upd_same, .cons (.ty _) (.cons (.ty _) .nil), ty, kit_lt sv, P _ (c1.lay T (.tup [.ty "list", .ty "tuple"])) (l1.trans lw) k2 e1 (.bl _)⟩

/-! ### slices of what may lie in the store -/
def mSlR (f : EvF) (l h : EoF) : EvF := fun ρ S => (f ρ S).bind fun x => (l ρ x.2).bind fun y => (h ρ y.2).bind fun z => (lsOf z.2 x.1).map fun w => (.lst (cut w y.1 z.1), z.2)
theorem me_slR {X : Cx} {e : Expr} {f : EvF} {l h : EoF} (hx : PE X e (tSl (rSl3 X.K) (tM X.K X.mg f) (tO X.K X.mg l) (tO X.K X.mg h))) : ME X e (mSlR f l h) := pe_imp hx <| by
  rintro σ H Q ⟨c, ρ, d, S', ⟨rfl, k, en⟩, q, p⟩
  obtain ⟨⟨x, S1⟩, h1, q⟩ := bd q
  obtain ⟨⟨y, S2⟩, h2, q⟩ := bd q
  obtain ⟨⟨z, S3⟩, h3, q⟩ := bd q
  obtain ⟨w, h4, q⟩ := mp q
  cases q
  refine ⟨c, ρ, x, S1, .of k en, h1, fun v c1 l1 k1 e1 D1 => ⟨c1, ρ, y, S2, .of k1 (en.mono l1), by rw [e1]; exact h2, fun c2 l2 k2 e2 => ?_⟩⟩
  refine ⟨c2, ρ, z, S3, .of k2 (en.mono (l1.trans l2)), by rw [e2]; exact h3, fun c3 l3 k3 e3 => ?_⟩
  have P := p.mono ((l1.trans l2).trans l3)
  subst e3
  obtain ⟨a, vs, rfl, s, t⟩ := den_ls k3 (D1.mono (l2.trans l3)) h4
  exact .inl (.inl ⟨a, vs, rfl, .inl s, post_lst P k3 (den_cut t)⟩)

/-! ### zfill -/
def mZf (f h : EvF) : EvF := fun ρ S => (f ρ S).bind fun x => match x.1 with
  | .str a => (h ρ x.2).bind fun y => match y.1 with
    | .int i => if i ≤ 1000000 ∧ -1000000 ≤ i then some (.str (Txt.zfill a i), y.2) else none
    | _ => none
  | _ => none
theorem padOk {i : Int} (h : i ≤ 1000000 ∧ -1000000 ≤ i) : PadOk i = true := by
  unfold PadOk fitsSsize Builtin.Str.tooLong
  simp only [Bool.and_eq_true, Bool.not_eq_true', decide_eq_true_eq, Bool.or_eq_false_iff, decide_eq_false_iff_not, sizeLine_eq]
  omega
theorem me_zf {X : Cx} {e : Expr} {f h : EvF} (he : PE X e (tBM X.K "str" (fun x xs H Q => ∃ (a : Str) (i : Int), x = .str a ∧ xs = [.int i] ∧ PadOk i = true ∧ Q (.str (Txt.zfill a i)) H) (tM X.K X.mg f) (tAs X.K X.mg (mCons h mNil)))) : ME X e (mZf f h) := pe_imp he <| by
  rintro σ H Q ⟨c, ρ, d, S', ⟨rfl, k, en⟩, q, p⟩
  obtain ⟨⟨x, S1⟩, h1, q2⟩ := bd q
  clear q
  refine ⟨c, ρ, x, S1, .of k en, h1, fun v c1 l1 k1 e1 D1 => ?_⟩
  cases x <;> try (cases q2)
  rename_i a
  obtain ⟨⟨y, S2⟩, h2, q2⟩ := bd (show (h ρ S1).bind _ = some (d, S') from q2)
  cases y <;> try (cases q2)
  rename_i b
  have q3 : (if b ≤ 1000000 ∧ -1000000 ≤ b then some (D.str (Txt.zfill a b), S2) else none) = some (d, S') := q2
  by_cases z : b ≤ 1000000 ∧ -1000000 ≤ b
  · rw [if_pos z] at q3
    cases q3
    cases D1
    refine ⟨rfl, c1, ρ, _, _, .of k1 (en.mono l1), by rw [e1]; exact one_arg h2, fun vs c2 l2 k2 e2 D2 => ?_⟩
    obtain ⟨w, rfl, dw⟩ := da1 D2
    cases dw
    exact ⟨a, b, rfl, rfl, padOk z, p _ c2 (l1.trans l2) k2 e2 (.str _)⟩
  · rw [if_neg z] at q3; cases q3

/-! ### a walk over a list, a tuple or a thing of the store, which must stay while it is walked -/
def holdsG (g : Option Nat) (ds : List D) (S : Sto) : Prop := match g with
  | none => True
  | some j => S[j]? = some (.lst ds)
def EnumG (K : PySem.W.Frag) (mg : Str → Option Value) (c : Cfg) (J : It) (ds : List D) (g : Option Nat) : Prop := ∀ i c1, Lw c c1 → Ok K mg c1 → holdsG g ds c1.S →
  (∀ d, ds[i]? = some d → J.go i c1.H ∧ ∀ x H', J.yld i c1.H x H' → ∃ c2, c2.H = H' ∧ Le c1 c2 ∧ Ok K mg c2 ∧ c2.S = c1.S ∧ Den K mg c2 x d) ∧ (ds.length ≤ i → J.stop i c1.H)
abbrev SqF := En → Sto → Option ((List D × Option Nat) × Sto)
def tIG (K : PySem.W.Frag) (mg : Str → Option Value) (f : SqF) : TI := fun σ H R => ∃ c ρ ds g S', At K mg c ρ σ H ∧ f ρ c.S = some ((ds, g), S') ∧ ∀ J c1, Le c c1 → Ok K mg c1 → c1.S = S' → EnumG K mg c1 J ds g → R J c1.H
abbrev MIG (X : Cx) (tg it : Expr) (f : SqF) : Prop := PI X tg it (tIG X.K X.mg f)
def sQ (f : EvF) : SqF := fun ρ S => (f ρ S).bind fun x => match x.1 with
  | .lst ds => some ((ds, none), x.2)
  | .tup ds => some ((ds, none), x.2)
  | .ref j => (stLst x.2 j).map fun ds => ((ds, some j), x.2)
  | _ => none
/-- what is walked is a list or a tuple -/
def iSq (K : PySem.W.Frag) (tl : TE) : TI := fun σ H R => tl σ H fun x H1 => (∃ a, x = .ref a ∧ (∃ xs, SqL K H1 a xs) ∧ R (Itl K a) H1) ∨ (∃ a, x = .ref a ∧ (∃ xs, SqT K H1 a xs) ∧ R (Itt K a) H1)
theorem pi_sq {X : Cx} {tg l : Expr} {tl : TE} (hl : PE X l tl) : PI X tg l (iSq X.K tl) := ⟨fun pins s σ H R I h => thn (hl.run pins s σ H _ I h) fun v s1 w => by
  obtain ⟨x, H1, I1, r1, w⟩ := w
  have fp : ∀ b ∈ [s1.heap.objs.size], FpOk X pins H1 b := fun b hb => by
    rw [List.mem_singleton.mp hb]
    exact I1.fpOk (Nat.le_refl _) (I1.hok.fresh (Nat.le_refl _))
  rcases w with ⟨a, rfl, ⟨xs, hq⟩, q⟩ | ⟨a, rfl, ⟨xs, hq⟩, q⟩
  · cases r1
    obtain ⟨ys, rv, p, _⟩ := I1.list hq
    exact wpAny_pyIter_list p.isList ⟨s1.heap.objs.size, [s1.heap.objs.size], _, _, H1, rfl, I1.kept (t' := s1.toks) fun b o e => Heap.get?_push_of_some _ e, turn_list a _, ⟨_, Heap.get?_push_size _ rfl, rfl, rfl⟩, fp, q⟩
  · cases r1
    obtain ⟨ys, rv, p, _⟩ := I1.tuple hq
    exact wpAny_pyIter_tuple (show s1.heap.IsTuple a ys.toArray from p) ⟨s1.heap.objs.size, [s1.heap.objs.size], _, _, H1, rfl, I1.kept (t' := s1.toks) fun b o e => Heap.get?_push_of_some _ e, turn_tuple a _, ⟨_, Heap.get?_push_size _ rfl, rfl, rfl⟩, fp, q⟩⟩
section
variable {X : Cx} {tg it : Expr} {f : EvF}
theorem enumG_of {K : PySem.W.Frag} {mg : Str → Option Value} {c : Cfg} {J : It} {ds : List D} (h : Enum K mg c J ds) : EnumG K mg c J ds none := fun i c1 l k _ => h i c1 l k
theorem enumG_ref {K : PySem.W.Frag} {mg : Str → Option Value} {c : Cfg} {j : Nat} {ds : List D} (hj : j < c.S.length) : EnumG K mg c (Itl K (c.π j)) ds (some j) := by
  intro i c1 l k hg
  obtain ⟨vs, hv, t⟩ := k.at_ _ _ (show c1.S[j]? = some (.lst ds) from hg)
  rw [l.pi j hj] at hv
  have s1 : SqL K c1.H (c.π j) vs := .inl (.inl hv)
  refine ⟨fun d e => ?_, fun h => ⟨vs, s1, by rw [t.length]; exact h⟩⟩
  obtain ⟨v, h1, h2⟩ := t.get e
  refine ⟨⟨vs, v, s1, h1⟩, ?_⟩
  rintro x H' ⟨rfl, q⟩
  have w := q vs s1
  rw [h1] at w
  cases w
  exact ⟨c1, rfl, .refl _, k, rfl, h2⟩
theorem mi_sq (h : PI X tg it (iSq X.K (tM X.K X.mg f))) : MIG X tg it (sQ f) := pi_imp h <| by
  rintro σ H R ⟨c, ρ, ds, g, S', ⟨rfl, k, en⟩, q, p⟩
  obtain ⟨⟨x, S1⟩, h1, q⟩ := bd q
  refine ⟨c, ρ, x, S1, .of k en, h1, fun v c1 l1 k1 e1 D1 => ?_⟩
  cases x <;> try (cases q)
  · cases D1 with
    | lst s t => exact .inl ⟨_, rfl, ⟨_, s.get⟩, p _ c1 l1 k1 e1 (enumG_of (enum_l (.inl s) t))⟩
  · cases D1 with
    | tup s t => exact .inr ⟨_, rfl, ⟨_, s.get⟩, p _ c1 l1 k1 e1 (enumG_of (enum_t s t))⟩
  · rename_i j
    obtain ⟨xs, h2, q⟩ := mp (show (stLst S1 j).map _ = some ((ds, g), S') from q)
    cases q
    cases D1 with
    | ref hj =>
      obtain ⟨vs, hv, t⟩ := k1.at_ _ _ (show c1.S[j]? = some (.lst ds) by rw [e1]; exact stLst_get h2)
      exact .inl ⟨_, rfl, ⟨_, .inl (.inl hv)⟩, p _ c1 l1 k1 e1 (enumG_ref hj)⟩
end
open Classical in
noncomputable def loopG (tg : TgF) (gd : StF) (all : List D) (g : Option Nat) : List D → StF
  | [], ρ, S => if holdsG g all S then some (.nx ρ, S) else none
  | d :: ds, ρ, S => if holdsG g all S then (tg ρ d).bind fun ρ1 => (gd ρ1 S).bind fun x => match x.1 with
    | .nx ρ' => loopG tg gd all g ds ρ' x.2
    | .ct ρ' => loopG tg gd all g ds ρ' x.2
    | .bk ρ' => some (.nx ρ', x.2)
    | .rt d => some (.rt d, x.2)
    else none
noncomputable def mForG (sr : SqF) (tg : TgF) (gd : StF) : StF := fun ρ S => (sr ρ S).bind fun x => loopG tg gd x.1.1 x.1.2 x.1.1 ρ x.2
theorem loopG_in {tg : TgF} {gd : StF} {all ds : List D} {g : Option Nat} {ρ : En} {S : Sto} {z : Out × Sto} (q : loopG tg gd all g ds ρ S = some z) : holdsG g all S := by
  cases ds with
  | nil =>
    unfold loopG at q
    by_cases h : holdsG g all S
    · exact h
    · rw [if_neg h] at q; cases q
  | cons d ds =>
    unfold loopG at q
    by_cases h : holdsG g all S
    · exact h
    · rw [if_neg h] at q; cases q
theorem loopG_nil {tg : TgF} {gd : StF} {all : List D} {g : Option Nat} {ρ : En} {S : Sto} (h : holdsG g all S) : loopG tg gd all g [] ρ S = some (.nx ρ, S) := by
  unfold loopG
  rw [if_pos h]
theorem loopG_cons {tg : TgF} {gd : StF} {all ds : List D} {d : D} {g : Option Nat} {ρ : En} {S : Sto} (h : holdsG g all S) : loopG tg gd all g (d :: ds) ρ S = (tg ρ d).bind fun ρ1 => (gd ρ1 S).bind fun x => match x.1 with
    | .nx ρ' => loopG tg gd all g ds ρ' x.2
    | .ct ρ' => loopG tg gd all g ds ρ' x.2
    | .bk ρ' => some (.nx ρ', x.2)
    | .rt d => some (.rt d, x.2) := by
  rw [loopG, if_pos h]
section
variable {X : Cx} {st : Stmt} {sr : SqF} {tg : TgF} {gd : StF}
theorem ms_forG (h : PS X st (tFor (tIG X.K X.mg sr) (tG X.K X.mg tg) (tS X.K X.mg gd))) : MS X st (mForG sr tg gd) := ps_imp h <| by
  rintro Dd σ H ⟨c, ρ, o, S', ⟨rfl, k, en⟩, q, p⟩
  obtain ⟨⟨⟨ds, g⟩, S1⟩, h1, q⟩ := bd q
  refine ⟨c, ρ, ds, g, S1, .of k en, h1, fun J c1 l1 k1 e1 En => ?_⟩
  let W : Nat → L2.St → Hp → Prop := fun i σ H => ∃ c2 ρ2, At X.K X.mg c2 ρ2 σ H ∧ Le c1 c2 ∧ i ≤ ds.length ∧ loopG tg gd ds g (ds.drop i) ρ2 c2.S = some (o, S')
  refine ⟨fun i m σ H => m = ds.length - i ∧ W i σ H, ⟨_, rfl, c1, ρ, .of k1 (en.mono l1), .refl _, Nat.zero_le _, by rw [e1]; exact q⟩, ?_⟩
  rintro i m σ' H' ⟨rfl, c2, ρ2, ⟨rfl, k2, en2⟩, l2, hi, q2⟩
  have hG := loopG_in q2
  obtain ⟨Eg, Es⟩ := En i c2 l2.lw k2 hG
  rcases Nat.lt_or_ge i ds.length with z | z
  · right
    obtain ⟨hg, hy⟩ := Eg _ (List.getElem?_eq_getElem z)
    rw [List.drop_eq_getElem_cons z, loopG_cons hG] at q2
    obtain ⟨ρ3, g1, q2⟩ := bd q2
    obtain ⟨⟨x, S3⟩, g2, q2⟩ := bd q2
    refine ⟨hg, W (i + 1), fun σ3 H3 w => ⟨ds.length - (i + 1), by omega, rfl, w⟩, fun v H3 y => ?_⟩
    obtain ⟨c3, rfl, l3, k3, e3, D3⟩ := hy v H3 y
    refine ⟨c3, ρ2, _, ρ3, .of k3 (en2.mono l3), D3, g1, fun σ4 en4 => ⟨c3, ρ3, x, S3, .of k3 en4, by rw [e3]; exact g2, fun c4 l4 k4 e4 => ?_⟩⟩
    have l5 := l2.trans (l3.trans l4)
    cases x with
    | nx ρ' => exact fun σ5 en5 => ⟨c4, ρ', .of k4 en5, l5, z, by rw [e4]; exact q2⟩
    | ct ρ' => exact fun σ5 en5 => ⟨c4, ρ', .of k4 en5, l5, z, by rw [e4]; exact q2⟩
    | bk ρ' => cases q2; exact p c4 (l1.trans l5) k4 e4
    | rt d => cases q2; exact p c4 (l1.trans l5) k4 e4
  · left
    refine ⟨Es z, ?_⟩
    rw [List.drop_eq_nil_of_le z, loopG_nil hG] at q2
    cases q2
    exact p c2 (l1.trans l2) k2 rfl σ' en2
end
open Classical in
noncomputable def mapG (te : EvF) (tt : EtF) (j : Nat) (all : List D) (g : Option Nat) (ρ : En) : List D → Sto → Option (List D × Sto)
  | [], S => if holdsG g all S then some ([], S) else none
  | d :: ds, S => if holdsG g all S then (tt (ρ.set j (some d)) S).bind fun b => if b.1 = true then
      (te (ρ.set j (some d)) b.2).bind fun y => (mapG te tt j all g ρ ds y.2).map fun r => (y.1 :: r.1, r.2)
    else mapG te tt j all g ρ ds b.2
    else none
noncomputable def mLcG (sr : SqF) (j : Nat) (tt : EtF) (te : EvF) : EvF := fun ρ S => (sr ρ S).bind fun x => (mapG te tt j x.1.1 x.1.2 (ρ.set j none) x.1.1 x.2).bind fun r => if r.1.length ≤ 100000 then some (.lst r.1, r.2) else none
theorem mapG_in {te : EvF} {tt : EtF} {j : Nat} {all ds : List D} {g : Option Nat} {ρ : En} {S : Sto} {z : List D × Sto} (q : mapG te tt j all g ρ ds S = some z) : holdsG g all S := by
  cases ds with
  | nil =>
    unfold mapG at q
    by_cases h : holdsG g all S
    · exact h
    · rw [if_neg h] at q; cases q
  | cons d ds =>
    unfold mapG at q
    by_cases h : holdsG g all S
    · exact h
    · rw [if_neg h] at q; cases q
theorem mapG_nil {te : EvF} {tt : EtF} {j : Nat} {all : List D} {g : Option Nat} {ρ : En} {S : Sto} (h : holdsG g all S) : mapG te tt j all g ρ [] S = some ([], S) := by
  rw [mapG, if_pos h]
theorem mapG_cons {te : EvF} {tt : EtF} {j : Nat} {all ds : List D} {d : D} {g : Option Nat} {ρ : En} {S : Sto} (h : holdsG g all S) : mapG te tt j all g ρ (d :: ds) S = (tt (ρ.set j (some d)) S).bind fun b => if b.1 = true then
      (te (ρ.set j (some d)) b.2).bind fun y => (mapG te tt j all g ρ ds y.2).map fun r => (y.1 :: r.1, r.2)
    else mapG te tt j all g ρ ds b.2 := by
  rw [mapG, if_pos h]
section
variable {X : Cx} {e : Expr} {sr : SqF} {tt : EtF} {te : EvF} {j : Nat}
theorem lcG_go {σ : L2.St} {H : Hp} {Q : VK} (h : tM X.K X.mg (mLcG sr j tt te) σ H Q) : tLc (tIG X.K X.mg sr) (gName j) (tT X.K X.mg tt) (tM X.K X.mg te) [j] σ H Q := by
  obtain ⟨c, ρ, d, S', ⟨rfl, k, en⟩, q, p⟩ := h
  obtain ⟨⟨⟨ds, g⟩, S1⟩, h1, q⟩ := bd q
  obtain ⟨⟨rs, S2⟩, h2, q⟩ := bd q
  have hz : rs.length ≤ 100000 := by
    by_cases z : rs.length ≤ 100000
    · exact z
    · rw [if_neg z] at q; cases q
  rw [if_pos hz] at q
  cases q
  refine ⟨c, ρ, ds, g, S1, .of k en, h1, fun J c1 l1 k1 e1 En Dl hD => ?_⟩
  let ρ0 := ρ.set j none
  -- while the list grows, Dl is shut out
  let W : Nat → Hp → Prop := fun i H => ∃ (c2 : Cfg) (acc : List V) (as bs : List D), c2.H = H ∧ Ok X.K X.mg c2 ∧ Lw c1 c2 ∧ (∀ a o, ¬ c1.Rg a → c1.H a = some o → c2.H a = some o ∧ ¬ c2.Rg a) ∧ c2.T = (fun a => c1.T a ∨ a = Dl) ∧
    c2.H Dl = some (.lst acc) ∧ DenA X.K X.mg c2 acc as ∧ i ≤ ds.length ∧ mapG te tt j ds g ρ0 (ds.drop i) c2.S = some (bs, S2) ∧ as ++ bs = rs
  have c1n : ¬ c1.Rg Dl := fun q => ok_some k1 q hD
  have l0 : Lw c1 { c1 with H := upd c1.H Dl (.lst []), T := fun a => c1.T a ∨ a = Dl } := ⟨Nat.le_refl _, fun _ _ => rfl, fun a o n e => ⟨by show upd c1.H Dl _ a = _; rw [upd_ne (ne_of_none e hD)]; exact e, fun q => q.elim (fun q => n (.inl q)) fun q => q.elim (fun q => n (.inr q)) fun q => ne_of_none e hD q⟩⟩
  refine ⟨fun i m H => m = ds.length - i ∧ W i H, ⟨_, rfl, { c1 with H := upd c1.H Dl (.lst []), T := fun a => c1.T a ∨ a = Dl }, [], [], rs, rfl, ?_, l0, ?_, rfl, upd_same, .nil, Nat.zero_le _, by rw [← e1] at h2; exact h2, rfl⟩, ?_⟩
  · refine ⟨fun i xs q => ?_, k1.inj, fun a t => ?_⟩
    · obtain ⟨u, q1, _⟩ := rg_mu k1 ⟨i, lt_of_get q, rfl⟩
      exact ob_mw k1 l0 (upd_ne (ne_of_none q1 hD)) (k1.at_ i xs q)
    · rcases t with t | t
      · obtain ⟨n, xs, e⟩ := k1.nT a t
        exact ⟨n, xs, (upd_ne (ne_of_none e hD)).trans e⟩
      · rw [t]
        exact ⟨c1n, [], upd_same⟩
  · exact fun a o n e => ⟨by show upd c1.H Dl _ a = _; rw [upd_ne (ne_of_none e hD)]; exact e, n⟩
  rintro i m H' ⟨rfl, c2, acc, as, bs, rfl, k2, lw, kp, hT, hDl, Da, hi, q2, hr⟩
  have nD : ¬ c2.Rg Dl := (k2.nT Dl (by rw [hT]; exact .inr rfl)).1
  have hG := mapG_in q2
  obtain ⟨Eg, Es⟩ := En i c2 lw k2 hG
  rcases Nat.lt_or_ge i ds.length with z | z
  · right
    obtain ⟨hg, hy⟩ := Eg _ (List.getElem?_eq_getElem z)
    rw [List.drop_eq_getElem_cons z, mapG_cons hG] at q2
    obtain ⟨⟨b, S3⟩, g1, q2⟩ := bd q2
    refine ⟨hg, W (i + 1), fun H3 w => ⟨ds.length - (i + 1), by omega, rfl, w⟩, fun v H3 y => ?_⟩
    obtain ⟨c3, rfl, l3, k3, e3, D3⟩ := hy v H3 y
    refine ⟨wipe_one σ j v, ?_⟩
    have en0 : EnD X.K X.mg c2 (wipe σ [j]) ρ0 := (EnD.mw ((l1.lw).trans lw) en).wipe [j]
    have en3 : EnD X.K X.mg c3 ((wipe σ [j]).set j (some v)) (ρ0.set j (some ds[i])) := (en0.mono l3).set D3
    refine ⟨c3, _, b, S3, .of k3 en3, by rw [e3]; exact g1, fun c4 l4 k4 e4 => ?_⟩
    have l24 : Le c2 c4 := l3.trans l4
    cases b with
    | false =>
      have q2 : mapG te tt j ds g ρ0 (ds.drop (i + 1)) S3 = some (bs, S2) := q2
      refine ⟨c4, acc, as, bs, rfl, k4, lw.trans l24.lw, fun a o n e => ?_, l24.T.trans hT, (l24.keep Dl _ nD hDl).1, Da.mono l24, z, by rw [e4]; exact q2, hr⟩
      obtain ⟨a1, a2⟩ := kp a o n e
      exact l24.keep a o a2 a1
    | true =>
      obtain ⟨⟨y, S4⟩, g2, q2⟩ := bd q2
      obtain ⟨⟨ys, S5⟩, g3, q2⟩ := mp q2
      cases q2
      refine ⟨c4, _, y, S4, .of k4 (en3.mono l4), by rw [e4]; exact g2, fun u c5 l5 k5 e5 D5 => ?_⟩
      have l25 : Le c2 c5 := l24.trans l5
      obtain ⟨hDl5, nD5⟩ := l25.keep Dl _ nD hDl
      have hlen : acc.length < sizeLine := by
        have w : as.length ≤ rs.length := by rw [← hr]; simp
        rw [Da.length]
        exact Nat.lt_of_le_of_lt (Nat.le_trans w hz) (by decide)
      refine ⟨acc, hDl5, hlen, ?_⟩
      have lw6 : Lw c5 { c5 with H := upd c5.H Dl (.lst (acc ++ [u])) } := ⟨Nat.le_refl _, fun _ _ => rfl, fun a o n e => ⟨(upd_ne (fun q => n (.inr (by rw [l25.T, hT]; exact .inr q)))).trans e, n⟩⟩
      refine ⟨{ c5 with H := upd c5.H Dl (.lst (acc ++ [u])) }, acc ++ [u], as ++ [y], ys, rfl, ?_, (lw.trans l25.lw).trans lw6, fun a o n e => ?_, l25.T.trans hT, upd_same, ((Da.mono l25).mw lw6).app (.cons (D5.mw lw6) .nil), z, by show mapG te tt j ds g ρ0 _ c5.S = _; rw [e5]; exact g3, by rw [List.append_assoc]; exact hr⟩
      · refine ⟨fun i xs q => ?_, k5.inj, fun a t => ⟨(k5.nT a t).1, ?_⟩⟩
        · exact ob_mw k5 lw6 (upd_ne (fun q' => nD5 ⟨i, lt_of_get q, q'⟩)) (k5.at_ i xs q)
        · by_cases z : a = Dl
          · rw [z]; exact ⟨_, upd_same⟩
          · obtain ⟨_, xs, e⟩ := k5.nT a t
            exact ⟨xs, (upd_ne z).trans e⟩
      · have ne : a ≠ Dl := fun q => by rw [q, hD] at e; cases e
        obtain ⟨a1, a2⟩ := kp a o n e
        obtain ⟨b1, b2⟩ := l25.keep a o a2 a1
        exact ⟨(upd_ne ne).trans b1, b2⟩
  · left
    refine ⟨Es z, ?_⟩
    rw [List.drop_eq_nil_of_le z, mapG_nil hG] at q2
    cases q2
    rw [List.append_nil] at hr
    subst hr
    -- Dl is let in again
    have lw7 : Lw c2 { c2 with T := c1.T } := ⟨Nat.le_refl _, fun _ _ => rfl, fun a o n e => ⟨e, fun q => q.elim (fun q => n (.inl q)) fun q => n (.inr (by rw [hT]; exact .inl q))⟩⟩
    have nT1 : ¬ c1.T Dl := fun t => by
      obtain ⟨_, xs, e⟩ := k1.nT Dl t
      rw [hD] at e; cases e
    refine p _ { c2 with T := c1.T } ?_ ?_ rfl (.lst ⟨fun q => q.elim nD nT1, .inl hDl⟩ (Da.mw lw7))
    · exact ⟨Nat.le_trans l1.len lw.len, fun j h => (lw.pi j (Nat.lt_of_lt_of_le h l1.len)).trans (l1.pi j h), fun a o n e => let ⟨x1, x2⟩ := l1.keep a o n e; kp a o x2 x1, l1.T⟩
    · exact ⟨fun i xs q => ob_mw k2 lw7 rfl (k2.at_ i xs q), k2.inj, fun a t => k2.nT a (by rw [hT]; exact .inl t)⟩
theorem me_lcG (h : PE X e (tLc (tIG X.K X.mg sr) (gName j) (tT X.K X.mg tt) (tM X.K X.mg te) [j])) : ME X e (mLcG sr j tt te) := pe_imp h fun _ _ _ => lcG_go
end
end M

namespace M
open PySem PySem.Spec L2 W2 RZ

/-! ### a def of two parameters that is called by their names, the second one first -/
structure CalR (P : Program) (w : World) (K : PySem.W.Frag) (mg : Str → Option Value) (base : Heap) (k : Nat) (x p q : Str) (F : Fn) : Prop where
  ex : ∃ (f : Addr) (fd : FuncData), mg x = some (.ref f) ∧ PySem.W.keepIn K (.ref f) = true ∧ (∀ (s : Shared) (u v : Value), BindsTo s fd ⟨[], [(q, u), (p, v)]⟩ [(p, v), (q, u)]) ∧ FnG P w K mg base k f fd [p, q] (spM K mg 2 F)
theorem calR_mk {P : Program} {w : World} {K : PySem.W.Frag} {mg : Str → Option Value} {base : Heap} {x p q : Str} {st : Stmt} {f : Addr} {fd : FuncData} {k : Nat} {F : Fn} (Z : Fun K x x st f fd) (m : mg x = some (.ref f))
    (b : ∀ (s : Shared) (u v : Value), BindsTo s fd ⟨[], [(q, u), (p, v)]⟩ [(p, v), (q, u)]) (G : FnG P w K mg base k f fd [p, q] (spM K mg 2 F)) : CalR P w K mg base k x p q F := ⟨⟨f, fd, m, Z.kp, b, G⟩⟩
def mKwR (F : Fn) (f g : EvF) : EvF := fun ρ S => (f ρ S).bind fun x => (g ρ x.2).bind fun y => F [y.1, x.1] y.2
section
variable {X : Cx} {pos p kpos kpos2 : Pos} {e e2 : Expr} {f g : EvF} {k : Nat} {x y z : Str} {F : Fn}
theorem me_kwR (C : CalR X.prog X.w X.K X.mg X.base k x y z F) (hr : Rm k X.A) (hg : Gl X x) (he : ME X e f) (he2 : ME X e2 g)
    (hall : (backToKw pos (keywordEach [⟨some z, e, kpos⟩, ⟨some y, e2, kpos2⟩] X.env)).all (·.1.isSome) = true := by rfl) (hks : (backToKw pos (keywordEach [⟨some z, e, kpos⟩, ⟨some y, e2, kpos2⟩] X.env)).filterMap (·.1) = [z, y] := by rfl)
    (hdb : (x == ("__debug__" : Str)) = false := by decide) (hpl : ((backTo pos (starEach [] X.env)).any (·.1) || (backToKw pos (keywordEach [⟨some z, e, kpos⟩, ⟨some y, e2, kpos2⟩] X.env)).any (·.1.isNone)) = false := by rfl) :
    ME X (.Call (.Name x p) [] [⟨some z, e, kpos⟩, ⟨some y, e2, kpos2⟩] pos) (mKwR F f g) := by
  obtain ⟨fa, fd, hm, hk, hb, G⟩ := C.ex
  constructor
  rintro pins s σ H Q I ⟨c, ρ, d, S', ⟨rfl, k, en⟩, q, P⟩
  obtain ⟨⟨a, S1⟩, h1, q⟩ := bd q
  obtain ⟨⟨b, S2⟩, h2, q1⟩ := bd q
  refine wpAny_Call_Name_kw (ld_glob I hg hm ?_ hdb)
  refine PySem.W.callWith_KW0 (h₀ := X.base) I.ok.mod.kin hk hall ?_ hpl
  refine thn ((pk_cons he (pk_cons he2 pk_nil)).run pos pins s σ c.H (fun vs H' => ∃ v1 v2, vs = [v1, v2] ∧ spM X.K X.mg 2 F [v2, v1] H' Q E0) I ?_) ?_
  · refine ⟨c, ρ, a, S1, .of k en, h1, fun v c1 l1 k1 e1 D1 => ⟨c1, ρ, b, S2, .of k1 (en.mono l1), by rw [e1]; exact h2, fun w c2 l2 k2 e2 D2 => ⟨v, w, rfl, rfl, c2, [b, a], d, S', rfl, k2, .cons D2 (.cons (D1.mono l2) .nil), by rw [e2]; exact q1, P.mono (l1.trans l2)⟩⟩⟩
  · rintro ws s2 ⟨zs, H2, I2, rz, v1, v2, rfl, hsp⟩
    refine ⟨I2.kIn, ?_⟩
    rw [hks]
    obtain ⟨u1, u2, rfl, r1, r2⟩ := vals2 rz
    refine wpAny_call (codeAny_mono (run_X (us := [u2, u1]) (vs := [v2, v1]) (ar := ⟨[], [(z, u1), (y, u2)]⟩) G hr takes_none5 (hb s2 u1 u2) I2 (.cons r2 (.cons r1 .nil)) hsp) fun r s' hq => ?_)
    match r, hq with
    | .error _, hq => exact hq
    | .ok (.ret u), hq => exact hq
end

/-! ### list(range(n)) -/
def mLr (fa : EvF) : EvF := fun ρ S => (fa ρ S).bind fun x => match x.1 with
  | .int n => if n ≤ 1000000 ∧ -1000000 ≤ n then some (.lst (upto n.toNat), x.2) else none
  | _ => none
theorem rg_den {K : PySem.W.Frag} {mg : Str → Option Value} {c : Cfg} (n : Int) : DenA K mg c (rgV 0 n) (upto n.toNat) := by
  unfold rgV upto
  rw [Int.sub_zero]
  generalize List.range n.toNat = l
  induction l with
  | nil => exact .nil
  | cons i l ih => exact .cons (by show Den K mg c (V.int (0 + (i : Int))) (.int (i : Int)); rw [Int.zero_add]; exact .int _) ih
theorem me_lr {X : Cx} {a : Expr} {f : EvF} {p p2 pos pos2 : Pos} (hc : X.calm = true) (hg : Gl X "list") (hm : X.mg "list" = none) (hg2 : Gl X "range") (hm2 : X.mg "range" = none) (ha : ME X a f)
    (na : starEach [a] X.env = (false, eval a X.env) :: starEach [] X.env := by rfl) (nb : starEach [.Call (.Name "range" p2) [a] [] pos2] X.env = (false, eval (.Call (.Name "range" p2) [a] [] pos2) X.env) :: starEach [] X.env := by rfl) :
    ME X (.Call (.Name "list" p) [.Call (.Name "range" p2) [a] [] pos2] [] pos) (mLr f) := by
  refine pe_imp (pe_listRg hc hg hm (prg_1 hg2 hm2 ha na) nb) ?_
  rintro σ H Q ⟨c, ρ, d, S', ⟨rfl, k, en⟩, q, P⟩
  obtain ⟨⟨x, S1⟩, h1, q⟩ := bd q
  obtain ⟨n, rfl⟩ : ∃ n, x = .int n := by cases x <;> first | exact ⟨_, rfl⟩ | cases q
  have q2 : (if n ≤ 1000000 ∧ -1000000 ≤ n then some (D.lst (upto n.toNat), S1) else none) = some (d, S') := q
  by_cases z : n ≤ 1000000 ∧ -1000000 ≤ n
  · rw [if_pos z] at q2
    cases q2
    refine ⟨c, ρ, _, _, .of k en, h1, fun v c1 l1 k1 e1 D1 => ?_⟩
    cases D1
    exact ⟨n, rfl, ⟨by omega, by omega, by omega, by omega, by omega⟩, post_lst (by rw [e1]; exact P.mono l1) k1 (rg_den n)⟩
  · rw [if_neg z] at q2; cases q2

/-! ### [..] * n -/
def mMulL (fa : EaF) (g : EvF) : EvF := fun ρ S => (fa ρ S).bind fun x => (g ρ x.2).bind fun y => match y.1 with
  | .int k => if 0 ≤ k ∧ k ≤ 10000 ∧ x.1.length ≤ 10 then some (.lst (List.replicate k.toNat x.1).flatten, y.2) else none
  | _ => none
theorem me_mulL {X : Cx} {es : List Expr} {b : Expr} {fa : EaF} {g : EvF} {pos lpos : Pos} (ha : MA X es fa) (hb : ME X b g) : ME X (.BinOp (.List es lpos) .Mult b pos) (mMulL fa g) := by
  refine pe_imp (pe_op op_rep (pe_lst ha) hb) ?_
  rintro σ H Q ⟨c, ρ, d, S', ⟨rfl, k, en⟩, q, P⟩
  obtain ⟨⟨x, S1⟩, h1, q⟩ := bd q
  obtain ⟨⟨y, S2⟩, h2, q⟩ := bd q
  obtain ⟨n, rfl⟩ : ∃ n, y = .int n := by cases y <;> first | exact ⟨_, rfl⟩ | cases q
  have q2 : (if 0 ≤ n ∧ n ≤ 10000 ∧ x.length ≤ 10 then some (D.lst (List.replicate n.toNat x).flatten, S2) else none) = some (d, S') := q
  by_cases z : 0 ≤ n ∧ n ≤ 10000 ∧ x.length ≤ 10
  · rw [if_pos z] at q2
    cases q2
    refine ⟨c, ρ, x, S1, .of k en, h1, fun vs c1 l1 k1 e1 D1 => ⟨by rw [D1.length, sizeLine_eq]; omega, fun p hp => ?_⟩⟩
    have l2 := lay_le (o := .lst vs) hp
    have k2 := lay_ok (o := .lst vs) k1 hp
    refine ⟨c1.lay p (.lst vs), ρ, .int n, _, .of k2 ((en.mono l1).mono l2), by show g ρ c1.S = _; rw [e1]; exact h2, fun w c3 l3 k3 e3 D3 => ?_⟩
    cases D3
    have np : ¬ (c1.lay p (.lst vs)).Rg p := fun q => ok_some k1 (show c1.Rg p from q) hp
    have h3 := (l3.keep p (.lst vs) np upd_same).1
    refine ⟨p, n, vs, rfl, rfl, h3, by omega, by omega, ?_, post_lst (by rw [e3]; exact P.mono ((l1.trans l2).trans l3)) k3 (den_rep ((D1.mono l2).mono l3) _)⟩
    rw [D1.length, sizeLine_eq]
    have : x.length * n.toNat ≤ 10 * 10000 := Nat.mul_le_mul z.2.2 (by omega)
    omega
  · rw [if_neg z] at q2; cases q2
end M

namespace K09
open PySem L2 M
noncomputable section
/-! The mirror of the linked text: made by gen2.py -/
def m_is_signs : Fn := mDef 1
  (mRet (mAnd (mCb isD2 (mCons (mVar 0) (mCons (mC (.ty "str")) mNil))) (mAnd (mMs Txt.isascii (mVar 0)) (mMs Txt.isprintable (mVar 0)))))
def m_is_text : Fn := mDef 2
  (mRet (mAnd (mCb isD2 (mCons (mVar 0) (mCons (mC (.ty "str")) mNil))) (mAnd (mBin leD (mCb lenD (mCons (mVar 0) mNil)) (mVar 1)) (mCall m_is_signs (mCons (mVar 0) mNil)))))
def m__frame : Fn := mDef 1
  (mRet (mBin addD (mBin addD (mBin addD (mZf (mCb strD (mCons (mCb lenD (mCons (mVar 0) mNil)) mNil)) (mC (.int 5))) (mC (.str ":"))) (mVar 0)) (mC (.str ";"))))
def m_framed : Fn := mDef 1
  (mSeq (mIfS (mTnot (mTv (mCall m_is_text (mCons (mVar 0) (mCons (mC (.int 80000)) mNil))))) mNone mSkip)
  (mRet (mCall m__frame (mCons (mVar 0) mNil))))
def m__judge : Fn := mDef 2
  (mSeq (mIfS (mTnot (mTv (mIsLT (mVar 0)))) mNone mSkip)
  (mForG (sQ (mVar 0)) (gN 1) (mIfS (mTnot (mTv (mCall m_is_text (mCons (mVar 1) (mCons (mC (.int 80000)) mNil))))) mNone mSkip)))
def m_all_framed : Fn := mDef 2
  (mSeq (mDrop (mCall m__judge (mCons (mVar 0) mNil)))
  (mRet (mM1 joinD (mC (.str "")) (mLcG (sQ (mVar 0)) 1 mYes (mCall m__frame (mCons (mVar 1) mNil))))))
def m__end_of_frame : Fn := mDef 4
  (mSeq (mAsg (mSl (mVar 0) (mP (mVar 1)) (mP (mBin addD (mVar 1) (mC (.int 5))))) (gN 2))
  (mSeq (mIfS (mTor (mTnot (mTv (mMs Txt.isdigit (mVar 2)))) (mTv (mBin neD (mSl (mVar 0) (mP (mBin addD (mVar 1) (mC (.int 5)))) (mP (mBin addD (mBin addD (mVar 1) (mC (.int 5))) (mC (.int 1))))) (mC (.str ":"))))) (mRet (mVar 1)) mSkip)
  (mSeq (mAsg (mBin addD (mBin addD (mBin addD (mBin addD (mVar 1) (mC (.int 5))) (mC (.int 1))) (mCb intS (mCons (mVar 2) mNil))) (mC (.int 1))) (gN 3))
  (mSeq (mIfS (mTor (mTv (mBin gtD (mCb intS (mCons (mVar 2) mNil)) (mC (.int 80000)))) (mTv (mBin neD (mSl (mVar 0) (mP (mBin subD (mVar 3) (mC (.int 1)))) (mP (mVar 3))) (mC (.str ";"))))) (mRet (mVar 1)) mSkip)
  (mRet (mVar 3))))))
def m_frames_in : Fn := mDef 4
  (mSeq (mIfS (mTnot (mTv (mCall m_is_signs (mCons (mVar 0) mNil)))) mNone mSkip)
  (mSeq (mAsg (mNew mNil) (gN 1))
  (mSeq (mAsg (mC (.int 0)) (gN 2))
  (mSeq (mAsg (mCall m__end_of_frame (mCons (mVar 0) (mCons (mVar 2) mNil))) (gN 3))
  (mSeq (mWhile 100001 (mTv (mBin gtD (mVar 3) (mVar 2))) (mSeq (mDrop (mApp (mVar 1) (mSl (mVar 0) (mP (mBin addD (mBin addD (mVar 2) (mC (.int 5))) (mC (.int 1)))) (mP (mBin subD (mVar 3) (mC (.int 1)))))))
  (mSeq (mAsg (mVar 3) (gN 2))
  (mAsg (mCall m__end_of_frame (mCons (mVar 0) (mCons (mVar 2) mNil))) (gN 3)))))
  (mRet (mTup (mCons (mVar 1) (mCons (mVar 2) mNil)))))))))
def m_is_whole : Fn := mDef 3
  (mSeq (mIfS (mTnot (mTv (mCall m_is_signs (mCons (mVar 0) mNil)))) (mRet (mC (.bl false))) mSkip)
  (mSeq (mAsg (mCall m_frames_in (mCons (mVar 0) mNil)) (gT [1, 2]))
  (mRet (mBin eqD (mVar 2) (mCb lenD (mCons (mVar 0) mNil))))))
def m__law_cell : Fn := mDef 2
  (mRet (mIf (mTv (mBin ltD (mVar 1) (mCb lenD (mCons (mVar 0) mNil)))) (mIx (mVar 0) (mVar 1)) (mBin addD (mBin mulD (mC (.int 5003)) (mVar 1)) (mBin modD (mCb sumD (mCons (mSl (mVar 0) mNoP (mP (mC (.int 1)))) mNil)) (mC (.int 1000081))))))
def m__law_box : Fn := mDef 1
  (mRet (mNew (mCons (mCb absD (mCons (mVar 0) mNil)) (mCons (mBin geD (mCb absD (mCons (mVar 0) mNil)) (mBin powD (mC (.int 10)) (mC (.int 18)))) (mCons (mBin modD (mCb intD (mCons (mCb absD (mCons (mVar 0) mNil)) mNil)) (mC (.int 2147483629))) (mCons (mC (.int 0)) mNil))))))
def m__law_take : Fn := mDef 4
  (mSeq (mIfS (mTand (mTv (mIx (mVar 0) (mC (.int 1)))) (mTv (mBin gtD (mIx (mVar 0) (mC (.int 0))) (mC (.int 0))))) (mSeq (mAsg (mBin modD (mCb intD (mCons (mIx (mVar 0) (mC (.int 0))) mNil)) (mVar 1)) (gN 3))
  (mSeq (mSetI (mBin fdvD (mIx (mVar 0) (mC (.int 0))) (mVar 1)) (mVar 0) (mC (.int 0)))
  (mRet (mVar 3)))) mSkip)
  (mSeq (mSetI (mBin addD (mIx (mVar 0) (mC (.int 3))) (mC (.int 1))) (mVar 0) (mC (.int 3)))
  (mSeq (mAsg (mBin modD (mCb intD (mCons (mBin powD (mBin addD (mBin addD (mIx (mVar 0) (mC (.int 2))) (mBin mulD (mC (.int 15485863)) (mIx (mVar 0) (mC (.int 3))))) (mC (.int 179424697))) (mC (.int 5))) mNil)) (mC (.int 2147483647))) (gN 2))
  (mRet (mBin modD (mBin fdvD (mBin modD (mCb intD (mCons (mBin powD (mBin addD (mBin mulD (mVar 2) (mC (.int 48271))) (mBin mulD (mC (.int 104723)) (mIx (mVar 0) (mC (.int 3))))) (mC (.int 3))) mNil)) (mC (.int 2147483587))) (mC (.int 64))) (mVar 1))))))
def m__law_sign : Fn := mDef 3
  (mSeq (mAsg (mC (.str " !\"#$&'()*+,-./0123456789:;<=>?@ABCDEFGHIJKLMNOPQRSTUVWXYZ[\\]^_`abcdefghijklmnopqrstuvwxyz{|}~")) (gN 2))
  (mSeq (mAsg (mIf (mTv (mVar 1)) (mC (.str "0123456789:;")) (mVar 2)) (gN 2))
  (mRet (mIx (mVar 2) (mCall m__law_take (mCons (mVar 0) (mCons (mCb lenD (mCons (mVar 2) mNil)) mNil)))))))
def m__law_frame : Fn := mDef 2
  (mSeq (mAsg (mCb strD (mCons (mCb lenD (mCons (mVar 0) mNil)) mNil)) (gN 1))
  (mRet (mBin addD (mBin addD (mBin addD (mBin addD (mBin mulD (mC (.str "0")) (mBin subD (mC (.int 5)) (mCb lenD (mCons (mVar 1) mNil)))) (mVar 1)) (mC (.str ":"))) (mVar 0)) (mC (.str ";")))))
def m__law_text : Fn := mDef 5
  (mSeq (mAsg (mCall m__law_take (mCons (mVar 0) (mCons (mC (.int 7)) mNil))) (gN 1))
  (mSeq (mIfS (mTv (mBin eqD (mVar 1) (mC (.int 0)))) (mRet (mBin addD (mCall m__law_sign (mCons (mVar 0) (mCons (mC (.bl true)) mNil))) (mBin mulD (mCall m__law_sign (mCons (mVar 0) (mCons (mC (.bl false)) mNil))) (mIx (mLst (mCons (mC (.int 98)) (mCons (mC (.int 99)) (mCons (mC (.int 100)) (mCons (mC (.int 8)) (mCons (mC (.int 9)) mNil)))))) (mCall m__law_take (mCons (mVar 0) (mCons (mC (.int 5)) mNil))))))) mSkip)
  (mSeq (mAsg (mBin ltD (mVar 1) (mC (.int 3))) (gN 2))
  (mSeq (mAsg (mM1 joinD (mC (.str "")) (mLc (sR (mCons (mIx (mLst (mCons (mC (.int 0)) (mCons (mC (.int 1)) (mCons (mC (.int 2)) (mCons (mC (.int 3)) (mCons (mC (.int 5)) (mCons (mC (.int 9)) (mCons (mC (.int 10)) (mCons (mC (.int 12)) mNil))))))))) (mCall m__law_take (mCons (mVar 0) (mCons (mC (.int 8)) mNil)))) mNil)) 4 mYes (mCall m__law_sign (mCons (mVar 0) (mCons (mVar 2) mNil))))) (gN 3))
  (mSeq (mIfS (mTv (mBin eqD (mVar 1) (mC (.int 3)))) (mRet (mCall m__law_frame (mCons (mVar 3) mNil))) mSkip)
  (mSeq (mIfS (mTv (mBin eqD (mVar 1) (mC (.int 4)))) (mRet (mSl (mCall m__law_frame (mCons (mVar 3) mNil)) mNoP (mP (mCall m__law_take (mCons (mVar 0) (mCons (mC (.int 8)) mNil)))))) mSkip)
  (mRet (mVar 3))))))))
def m__law_texts : Fn := mDef 2
  (mRet (mLc (sR (mCons (mIx (mLst (mCons (mC (.int 2)) (mCons (mC (.int 1)) (mCons (mC (.int 3)) (mCons (mC (.int 0)) (mCons (mC (.int 4)) (mCons (mC (.int 7)) mNil))))))) (mCall m__law_take (mCons (mVar 0) (mCons (mC (.int 6)) mNil)))) mNil)) 1 mYes (mCall m__law_text (mCons (mVar 0) mNil))))
def m__law_turned : Fn := mDef 5
  (mSeq (mPar [3, 4] (mCons (mCall m__law_take (mCons (mVar 0) (mCons (mC (.int 6)) mNil))) (mCons (mCall m__law_take (mCons (mVar 0) (mCons (mCb lenD (mCons (mVar 1) mNil)) mNil))) mNil)))
  (mSeq (mIfS (mTv (mBin eqD (mVar 3) (mC (.int 0)))) (mRet (mBin addD (mBin addD (mSl (mVar 1) mNoP (mP (mC (.int 4)))) (mIx (mC (.str "0123456789")) (mBin modD (mBin addD (mBin addD (mCb intS (mCons (mIx (mVar 1) (mC (.int 4))) mNil)) (mC (.int 1))) (mCall m__law_take (mCons (mVar 0) (mCons (mC (.int 9)) mNil)))) (mC (.int 10))))) (mSl (mVar 1) (mP (mC (.int 5))) mNoP))) mSkip)
  (mSeq (mIfS (mTv (mBin eqD (mVar 3) (mC (.int 1)))) (mRet (mBin addD (mSl (mVar 1) mNoP (mP (mVar 4))) (mSl (mVar 1) (mP (mBin addD (mVar 4) (mC (.int 1)))) mNoP))) mSkip)
  (mSeq (mIfS (mTv (mBin eqD (mVar 3) (mC (.int 2)))) (mRet (mBin addD (mBin addD (mSl (mVar 1) mNoP (mP (mVar 4))) (mIx (mVar 1) (mVar 4))) (mSl (mVar 1) (mP (mVar 4)) mNoP))) mSkip)
  (mSeq (mAsg (mCall m__law_sign (mCons (mVar 0) (mCons (mBin ltD (mVar 3) (mC (.int 5))) mNil))) (gN 2))
  (mRet (mBin addD (mBin addD (mSl (mVar 1) mNoP (mP (mVar 4))) (mVar 2)) (mSl (mVar 1) (mP (mBin addD (mVar 4) (mBin modD (mVar 3) (mC (.int 2))))) mNoP))))))))
def m__law_tail : Fn := mDef 4
  (mSeq (mPar [1, 2] (mCons (mCall m__law_take (mCons (mVar 0) (mCons (mC (.int 8)) mNil))) (mCons (mCall m__law_frame (mCons (mCall m__law_text (mCons (mVar 0) mNil)) mNil)) mNil)))
  (mSeq (mIfS (mTv (mBin eqD (mVar 1) (mC (.int 0)))) (mRet (mC (.str ""))) mSkip)
  (mSeq (mIfS (mTv (mBin eqD (mVar 1) (mC (.int 1)))) (mRet (mCall m__law_text (mCons (mVar 0) mNil))) mSkip)
  (mSeq (mIfS (mTv (mBin eqD (mVar 1) (mC (.int 2)))) (mRet (mSl (mVar 2) mNoP (mP (mCall m__law_take (mCons (mVar 0) (mCons (mCb lenD (mCons (mVar 2) mNil)) mNil)))))) mSkip)
  (mSeq (mIfS (mTv (mBin eqD (mVar 1) (mC (.int 3)))) (mSeq (mAsg (mLst (mCons (mC (.str "+0001:")) (mCons (mC (.str " 0001:")) (mCons (mC (.str "0_0_1:")) (mCons (mC (.str "0001 :")) (mCons (mC (.str "1:")) (mCons (mC (.str "0001:")) (mCons (mC (.str "000001:")) (mCons (mC (.str "-0001:")) (mCons (mC (.str "00001")) (mCons (mC (.str "00001;")) (mCons (mC (.str "00001 :")) mNil)))))))))))) (gN 3))
  (mRet (mBin addD (mBin addD (mIx (mVar 3) (mCall m__law_take (mCons (mVar 0) (mCons (mC (.int 11)) mNil)))) (mCall m__law_sign (mCons (mVar 0) (mCons (mC (.bl false)) mNil)))) (mC (.str ";"))))) mSkip)
  (mSeq (mIfS (mTv (mBin eqD (mVar 1) (mC (.int 4)))) (mRet (mVar 2)) mSkip)
  (mRet (mCall m__law_turned (mCons (mVar 0) (mCons (mVar 2) mNil))))))))))
def m__law_read : Fn := mDef 7
  (mSeq (mPar [2, 3] (mCons (mNew mNil) (mCons (mC (.int 0)) mNil)))
  (mSeq (mFor (sR (mCons (mBin addD (mBin fdvD (mCb lenD (mCons (mVar 0) mNil)) (mC (.int 7))) (mC (.int 1))) mNil)) (gN 1) (mSeq (mAsg (mSl (mVar 0) (mP (mVar 3)) (mP (mBin addD (mVar 3) (mC (.int 6))))) (gN 4))
  (mSeq (mIfS (mTor (mTv (mBin ltD (mCb lenD (mCons (mVar 4) mNil)) (mC (.int 6)))) (mTor (mTv (mBin neD (mIx (mVar 4) (mC (.int 5))) (mC (.str ":")))) (mTv (mBinS neS (mLc (sS (mSl (mVar 4) mNoP (mP (mC (.int 5))))) 6 (mTv (mBin ninD (mVar 6) (mC (.str "0123456789")))) (mVar 6)) (mLst mNil))))) (mRet (mTup (mCons (mVar 2) (mCons (mVar 3) mNil)))) mSkip)
  (mSeq (mAsg (mBin addD (mBin addD (mVar 3) (mC (.int 6))) (mCb intS (mCons (mSl (mVar 4) mNoP (mP (mC (.int 5)))) mNil))) (gN 5))
  (mSeq (mIfS (mTv (mBin neD (mSl (mVar 0) (mP (mVar 5)) (mP (mBin addD (mVar 5) (mC (.int 1))))) (mC (.str ";")))) (mRet (mTup (mCons (mVar 2) (mCons (mVar 3) mNil)))) mSkip)
  (mSeq (mDrop (mApp (mVar 2) (mSl (mVar 0) (mP (mBin addD (mVar 3) (mC (.int 6)))) (mP (mVar 5)))))
  (mAsg (mBin addD (mVar 5) (mC (.int 1))) (gN 3))))))))
  (mRet (mTup (mCons (mVar 2) (mCons (mVar 3) mNil))))))
def m__law_reads_right : Fn := mDef 4
  (mSeq (mPar [2, 3] (mCons (mCall m__law_read (mCons (mVar 0) mNil)) (mCons (mCall m_frames_in (mCons (mVar 0) mNil)) mNil)))
  (mSeq (mIfS (mTor (mTnot (mTv (mCb isD2 (mCons (mVar 3) (mCons (mC (.ty "tuple")) mNil))))) (mTnot (mTv (mCb isR2 (mCons (mIx (mVar 3) (mC (.int 0))) (mCons (mC (.ty "list")) mNil)))))) (mRet (mC (.bl false))) mSkip)
  (mSeq (mIfS (mTor (mTnot (mTv (mCb isD2 (mCons (mIx (mVar 3) (mC (.int 1))) (mCons (mC (.ty "int")) mNil))))) (mTor (mTv (mCb isD2 (mCons (mIx (mVar 3) (mC (.int 1))) (mCons (mC (.ty "bool")) mNil)))) (mTv (mBinS neS (mVar 3) (mVar 2))))) (mRet (mC (.bl false))) mSkip)
  (mSeq (mDrop (mApp (mIx (mVar 3) (mC (.int 0))) (mC (.str "00000:;"))))
  (mSeq (mAsg (mCall m_is_whole (mCons (mVar 0) mNil)) (gN 1))
  (mSeq (mIfS (mTand (mTv (mBin isntD (mVar 1) (mC (.bl true)))) (mTv (mBin isntD (mVar 1) (mC (.bl false))))) (mRet (mC (.bl false))) mSkip)
  (mRet (mAnd (mBinS eqS (mKw m_frames_in (mVar 0)) (mVar 2)) (mAnd (mBin eqD (mVar 1) (mBin eqD (mIx (mVar 2) (mC (.int 1))) (mCb lenD (mCons (mVar 0) mNil)))) (mBin eqD (mKw m_is_whole (mVar 0)) (mVar 1)))))))))))
def m__law_frames_right : Fn := mDef 6
  (mSeq (mFor (sL (mVar 0)) (gN 2) (mIfS (mTor (mTv (mBin neD (mCall m_framed (mCons (mVar 2) mNil)) (mCall m__law_frame (mCons (mVar 2) mNil)))) (mTv (mBin neD (mKw m_framed (mVar 2)) (mCall m__law_frame (mCons (mVar 2) mNil))))) (mRet (mC (.bl false))) mSkip))
  (mSeq (mAsg (mM1 joinD (mC (.str "")) (mLc (sL (mVar 0)) 2 mYes (mCall m__law_frame (mCons (mVar 2) mNil)))) (gN 3))
  (mSeq (mAsg (mNewC listD (mCons (mVar 0) mNil)) (gN 4))
  (mSeq (mAsg (mCall m_all_framed (mCons (mVar 4) mNil)) (gN 5))
  (mSeq (mIfS (mTor (mTnot (mTv (mCb isD2 (mCons (mVar 5) (mCons (mC (.ty "str")) mNil))))) (mTor (mTv (mBin neD (mVar 5) (mVar 3))) (mTor (mTv (mBinS neS (mVar 4) (mVar 0))) (mTv (mBin neD (mKw m_all_framed (mCb tupD (mCons (mVar 0) mNil))) (mVar 3)))))) (mRet (mC (.bl false))) mSkip)
  (mSeq (mDrop (mApp (mVar 4) (mC (.str "x"))))
  (mSeq (mIfS (mTv (mBin neD (mCall m_all_framed (mCons (mVar 4) mNil)) (mBin addD (mVar 3) (mCall m__law_frame (mCons (mC (.str "x")) mNil))))) (mRet (mC (.bl false))) mSkip)
  (mRet (mBin eqD (mCall m_all_framed (mCons (mBin addD (mVar 0) (mVar 1)) mNil)) (mBin addD (mVar 3) (mCall m_all_framed (mCons (mVar 1) mNil))))))))))))
def t_law_0 : StF :=
  (mRet (mC (.bl false)))
def t_law_1 : StF :=
  (mDrop (mApp (mVar 3) (mBin addD (mBin addD (mM1 joinD (mC (.str "")) (mLc (sL (mVar 4)) 5 mYes (mCall m__law_frame (mCons (mVar 5) mNil)))) (mVar 8)) (mVar 9))))
def t_law_2 : StF :=
  (mSeq (mAsg (mM1 joinD (mC (.str "")) (mLc (sL (mSl (mVar 6) mNoP (mP (mCall m__law_take (mCons (mVar 2) (mCons (mC (.int 3)) mNil)))))) 5 mYes (mCall m__law_frame (mCons (mVar 5) mNil)))) (gN 9))
  t_law_1)
def t_law_3 : StF :=
  (mSeq (mAsg (mCall m__law_tail (mCons (mVar 2) mNil)) (gN 8))
  t_law_2)
def t_law_4 : StF :=
  (mRet (mC (.bl false)))
def t_law_5 : StF :=
  (mIfS (mTnot (mTv (mCall m__law_reads_right (mCons (mVar 5) mNil)))) t_law_4 mSkip)
def t_law_6 : StF :=
  (mFor (sL (mBinS addS (mBinS addS (mBinS addS (mVar 3) (mLst (mCons (mM1 joinD (mC (.str "")) (mLc (sL (mVar 7)) 5 mYes (mCall m__law_frame (mCons (mVar 5) mNil)))) mNil))) (mSlR (mVar 3) mNoP (mP (mC (.int 1))))) (mLst (mCons (mC (.str "")) mNil)))) (gN 5) t_law_5)
def t_law_7 : StF :=
  (mSeq (mFor (sL (mLst (mCons (mVar 6) (mCons (mVar 7) mNil)))) (gN 4) t_law_3)
  t_law_6)
def t_law_8 : StF :=
  (mSeq (mAsg (mNew mNil) (gN 3))
  t_law_7)
def t_law_9 : StF :=
  (mSeq (mIfS (mTor (mTnot (mTv (mCall m__law_frames_right (mCons (mVar 6) (mCons (mVar 7) mNil))))) (mTnot (mTv (mCall m__law_frames_right (mCons (mVar 7) (mCons (mVar 6) mNil)))))) t_law_0 mSkip)
  t_law_8)
def t_law_10 : StF :=
  (mSeq (mPar [6, 7] (mCons (mCall m__law_texts (mCons (mVar 2) mNil)) (mCons (mCall m__law_texts (mCons (mVar 2) mNil)) mNil)))
  t_law_9)
def t_law_11 : StF :=
  (mSeq (mAsg (mCall m__law_box (mCons (mCall m__law_cell (mCons (mVar 0) (mCons (mVar 1) mNil))) mNil)) (gN 2))
  t_law_10)
def t_law_12 : StF :=
  (mRet (mC (.bl true)))
def t_law_13 : StF :=
  (mSeq (mFor (sR (mCons (mCb max2D (mCons (mC (.int 2)) (mCons (mCb min2D (mCons (mC (.int 4)) (mCons (mCb lenD (mCons (mVar 0) mNil)) mNil))) mNil))) mNil)) (gN 1) t_law_11)
  t_law_12)
def m_law : Fn := mDef 10
  t_law_13
end
end K09

namespace K09
open PySem L2 W2 RZ M
def top (i : Nat) : Stmt := PySem.Challenge.pw_inorderonce_k09_frames_there_and_back.main.body.getD i (.Pass ⟨0, 0, 0, 0⟩)
structure Txt (w : World) (K : PySem.W.Frag) (mg : Str → Option Value) : Prop where
  n_abs : mg "abs" = none
  n_bool : mg "bool" = none
  n_int : mg "int" = none
  n_isinstance : mg "isinstance" = none
  n_len : mg "len" = none
  n_list : mg "list" = none
  n_max : mg "max" = none
  n_min : mg "min" = none
  n_range : mg "range" = none
  n_str : mg "str" = none
  n_sum : mg "sum" = none
  n_tuple : mg "tuple" = none
  c_FIGURES : ∃ t, mg "FIGURES" = some (.int 5 t)
  c_MOST_SIGNS : ∃ t, mg "MOST_SIGNS" = some (.int 80000 t)
section
variable {P : Program} {w : World} {K : PySem.W.Frag} {mg : Str → Option Value} {base : Heap}
abbrev s_is_signs : Stmt := top 4
abbrev n_is_signs : List Str := ["value"]
theorem sc_is_signs : FnScope n_is_signs ["value"] (defScope s_is_signs) := ⟨rfl, rfl, rfl, by decide +kernel, rfl, by decide +kernel, by decide +kernel⟩
theorem ok_is_signs {f : Addr} {fd : FuncData} (T : Txt w K mg) (Z : Fun K "is_signs" "is_signs" s_is_signs f fd) : FnG P w K mg base 1 f fd ["value"] (spM K mg 1 m_is_signs) := by
  exact def_ok Z sc_is_signs fun c A o s H E hr =>
  (mss_one (ms_ret (me_and (me_cb (pe_callB cd_isi (by rfl) T.n_isinstance (by decide +kernel) (ma_cons (me_var 0) (ma_cons (me_ty "str" (by rfl) T.n_str (by decide +kernel)) ma_nil)))) (me_and (me_ms (pe_bm0 PySem.F.plainAttrs_str PySem.F.slot_str_isascii PySem.F.type_str_isascii mt_isascii (me_var 0))) (me_one (me_ms (pe_bm0 PySem.F.plainAttrs_str PySem.F.slot_str_isprintable PySem.F.type_str_isprintable mt_isprintable (me_var 0))))))))
abbrev s_is_text : Stmt := top 5
abbrev n_is_text : List Str := ["value", "most"]
theorem sc_is_text : FnScope n_is_text ["value", "most"] (defScope s_is_text) := ⟨rfl, rfl, rfl, by decide +kernel, rfl, by decide +kernel, by decide +kernel⟩
theorem ok_is_text {f : Addr} {fd : FuncData} (T : Txt w K mg) (Z : Fun K "is_text" "is_text" s_is_text f fd) (C_is_signs : Cal P w K mg base 1 "is_signs" 1 m_is_signs) : FnG P w K mg base 2 f fd ["value", "most"] (spM K mg 2 m_is_text) := by
  exact def_ok Z sc_is_text fun c A o s H E hr =>
  (mss_one (ms_ret (me_and (me_cb (pe_callB cd_isi (by rfl) T.n_isinstance (by decide +kernel) (ma_cons (me_var 0) (ma_cons (me_ty "str" (by rfl) T.n_str (by decide +kernel)) ma_nil)))) (me_and (me_cmp od_le (me_cb (pe_callB cd_len (by rfl) T.n_len (by decide +kernel) (ma_cons (me_var 0) ma_nil))) (me_var 1) (nomark _)) (me_one (me_call C_is_signs (hr.mono (by decide)) (by rfl) (ma_cons (me_var 0) ma_nil) (mcons_len mnil_len)))))))
abbrev s__frame : Stmt := top 14
abbrev n__frame : List Str := ["text"]
theorem sc__frame : FnScope n__frame ["text"] (defScope s__frame) := ⟨rfl, rfl, rfl, by decide +kernel, rfl, by decide +kernel, by decide +kernel⟩
theorem ok__frame {f : Addr} {fd : FuncData} (T : Txt w K mg) (Z : Fun K "_frame" "_frame" s__frame f fd) : FnG P w K mg base 1 f fd ["text"] (spM K mg 1 m__frame) := by
  obtain ⟨t_FIGURES, h_FIGURES⟩ := T.c_FIGURES
  exact def_ok Z sc__frame fun c A o s H E hr =>
  (mss_one (ms_ret (me_bin od_add (me_bin od_add (me_bin od_add (me_zf (pe_bm PySem.F.plainAttrs_str PySem.F.slot_str_zfill PySem.F.type_str_zfill mt_zfill (me_cb (pe_callTy cd_str (by rfl) T.n_str (by decide +kernel) (ma_cons (me_cb (pe_callB cd_len (by rfl) T.n_len (by decide +kernel) (ma_cons (me_var 0) ma_nil))) ma_nil))) (ma_cons (me_gint (by rfl) h_FIGURES) ma_nil))) me_str) (me_var 0)) me_str)))
abbrev s_framed : Stmt := top 9
abbrev n_framed : List Str := ["text"]
theorem sc_framed : FnScope n_framed ["text"] (defScope s_framed) := ⟨rfl, rfl, rfl, by decide +kernel, rfl, by decide +kernel, by decide +kernel⟩
theorem ok_framed {f : Addr} {fd : FuncData} (T : Txt w K mg) (Z : Fun K "framed" "framed" s_framed f fd) (C_is_text : Cal P w K mg base 2 "is_text" 2 m_is_text) (C__frame : Cal P w K mg base 1 "_frame" 1 m__frame) : FnG P w K mg base 3 f fd ["text"] (spM K mg 1 m_framed) := by
  obtain ⟨t_MOST_SIGNS, h_MOST_SIGNS⟩ := T.c_MOST_SIGNS
  exact def_ok Z sc_framed fun c A o s H E hr =>
  (mss_cons (ms_if (mt_not (mt_val (me_call C_is_text (hr.mono (by decide)) (by rfl) (ma_cons (me_var 0) (ma_cons (me_gint (by rfl) h_MOST_SIGNS) ma_nil)) (mcons_len (mcons_len mnil_len))))) (mss_one ms_none) mss_nil)
  (mss_one (ms_ret (me_call C__frame (hr.mono (by decide)) (by rfl) (ma_cons (me_var 0) ma_nil) (mcons_len mnil_len)))))
abbrev s__judge : Stmt := top 13
abbrev n__judge : List Str := ["texts", "text"]
theorem sc__judge : FnScope n__judge ["texts"] (defScope s__judge) := ⟨rfl, rfl, rfl, by decide +kernel, rfl, by decide +kernel, by decide +kernel⟩
theorem ok__judge {f : Addr} {fd : FuncData} (T : Txt w K mg) (Z : Fun K "_judge" "_judge" s__judge f fd) (C_is_text : Cal P w K mg base 2 "is_text" 2 m_is_text) : FnG P w K mg base 3 f fd ["texts"] (spM K mg 1 m__judge) := by
  obtain ⟨t_MOST_SIGNS, h_MOST_SIGNS⟩ := T.c_MOST_SIGNS
  exact def_ok Z sc__judge fun c A o s H E hr =>
  (mss_cons (ms_if (mt_not (mt_val (me_isLT (by rfl) T.n_isinstance (by rfl) T.n_list (by rfl) T.n_tuple (me_var 0)))) (mss_one ms_none) mss_nil)
  (mss_one (ms_forG (ps_for PassesOwn.never rfl (mi_sq (pi_sq (me_var 0))) (mg_name (i := 1) sc__judge.nd rfl (Or.inl rfl)) (mss_one (ms_if (mt_not (mt_val (me_call C_is_text (hr.mono (by decide)) (by rfl) (ma_cons (me_var 1) (ma_cons (me_gint (by rfl) h_MOST_SIGNS) ma_nil)) (mcons_len (mcons_len mnil_len))))) (mss_one ms_none) mss_nil))))))
abbrev s_all_framed : Stmt := top 10
abbrev n_all_framed : List Str := ["texts", "text"]
theorem sc_all_framed : FnScope n_all_framed ["texts"] (defScope s_all_framed) := ⟨rfl, rfl, rfl, by decide +kernel, rfl, by decide +kernel, by decide +kernel⟩
theorem ok_all_framed {f : Addr} {fd : FuncData} (T : Txt w K mg) (Z : Fun K "all_framed" "all_framed" s_all_framed f fd) (C__judge : Cal P w K mg base 3 "_judge" 1 m__judge) (C__frame : Cal P w K mg base 1 "_frame" 1 m__frame) : FnG P w K mg base 4 f fd ["texts"] (spM K mg 1 m_all_framed) := by
  exact def_ok Z sc_all_framed fun c A o s H E hr =>
  (mss_cons (ms_drop (ps_expr (me_call C__judge (hr.mono (by decide)) (by rfl) (ma_cons (me_var 0) ma_nil) (mcons_len mnil_len))))
  (mss_one (ms_ret (me_join (pe_join me_str (me_lcG (pe_lc (own := [("text", 1)]) rfl sc_all_framed.nd (mi_sq (pi_sq (me_var 0))) (blkOk_by (N := n_all_framed) (sc := defScope s_all_framed) (by decide +kernel)) (fun _ _ _ _ _ => pg_name (i := 1) sc_all_framed.nd rfl (Or.inl rfl)) (fun _ _ _ _ _ => mts_nil) (fun _ _ _ _ _ => (me_call C__frame (hr.mono (by decide)) (by rfl) (ma_cons (me_var 1) ma_nil) (mcons_len mnil_len))))))))))
abbrev s__end_of_frame : Stmt := top 15
abbrev n__end_of_frame : List Str := ["text", "start", "figures", "end"]
theorem sc__end_of_frame : FnScope n__end_of_frame ["text", "start"] (defScope s__end_of_frame) := ⟨rfl, rfl, rfl, by decide +kernel, rfl, by decide +kernel, by decide +kernel⟩
theorem ok__end_of_frame {f : Addr} {fd : FuncData} (T : Txt w K mg) (Z : Fun K "_end_of_frame" "_end_of_frame" s__end_of_frame f fd) : FnG P w K mg base 1 f fd ["text", "start"] (spM K mg 2 m__end_of_frame) := by
  obtain ⟨t_FIGURES, h_FIGURES⟩ := T.c_FIGURES
  obtain ⟨t_MOST_SIGNS, h_MOST_SIGNS⟩ := T.c_MOST_SIGNS
  exact def_ok Z sc__end_of_frame fun c A o s H E hr =>
  (mss_cons (ms_asg (ps_asg (me_sl (pe_slice sl3 (me_var 0) (mo_some (me_var 1)) (mo_some (me_bin od_add (me_var 1) (me_gint (by rfl) h_FIGURES))))) (mg_name (i := 2) sc__end_of_frame.nd rfl (Or.inl rfl))))
  (mss_cons (ms_if (mt_w (mw_or (mt_not (mt_val (me_ms (pe_bm0 PySem.F.plainAttrs_str PySem.F.slot_str_isdigit PySem.F.type_str_isdigit mt_isdigit (me_var 2))))) (mw_or1 (mt_cmp (od_ne hr.rg) (me_sl (pe_slice sl3 (me_var 0) (mo_some (me_bin od_add (me_var 1) (me_gint (by rfl) h_FIGURES))) (mo_some (me_bin od_add (me_bin od_add (me_var 1) (me_gint (by rfl) h_FIGURES)) me_int)))) me_str (nomark _))))) (mss_one (ms_ret (me_var 1))) mss_nil)
  (mss_cons (ms_asg (ps_asg (me_bin od_add (me_bin od_add (me_bin od_add (me_bin od_add (me_var 1) (me_gint (by rfl) h_FIGURES)) me_int) (me_cb (pe_callTy cd_intS (by rfl) T.n_int (by decide +kernel) (ma_cons (me_var 2) ma_nil)))) me_int) (mg_name (i := 3) sc__end_of_frame.nd rfl (Or.inl rfl))))
  (mss_cons (ms_if (mt_w (mw_or (mt_cmp od_gt (me_cb (pe_callTy cd_intS (by rfl) T.n_int (by decide +kernel) (ma_cons (me_var 2) ma_nil))) (me_gint (by rfl) h_MOST_SIGNS) (nomark _)) (mw_or1 (mt_cmp (od_ne hr.rg) (me_sl (pe_slice sl3 (me_var 0) (mo_some (me_bin od_sub (me_var 3) me_int)) (mo_some (me_var 3)))) me_str (nomark _))))) (mss_one (ms_ret (me_var 1))) mss_nil)
  (mss_one (ms_ret (me_var 3)))))))
abbrev s_frames_in : Stmt := top 11
abbrev n_frames_in : List Str := ["text", "texts", "start", "end"]
theorem sc_frames_in : FnScope n_frames_in ["text"] (defScope s_frames_in) := ⟨rfl, rfl, rfl, by decide +kernel, rfl, by decide +kernel, by decide +kernel⟩
theorem ok_frames_in {f : Addr} {fd : FuncData} (T : Txt w K mg) (Z : Fun K "frames_in" "frames_in" s_frames_in f fd) (C_is_signs : Cal P w K mg base 1 "is_signs" 1 m_is_signs) (C__end_of_frame : Cal P w K mg base 1 "_end_of_frame" 2 m__end_of_frame) : FnG P w K mg base 2 f fd ["text"] (spM K mg 1 m_frames_in) := by
  obtain ⟨t_FIGURES, h_FIGURES⟩ := T.c_FIGURES
  exact def_ok Z sc_frames_in fun c A o s H E hr =>
  (mss_cons (ms_if (mt_not (mt_val (me_call C_is_signs (hr.mono (by decide)) (by rfl) (ma_cons (me_var 0) ma_nil) (mcons_len mnil_len)))) (mss_one ms_none) mss_nil)
  (mss_cons (ms_asg (ps_asg (me_new ma_nil) (mg_name (i := 1) sc_frames_in.nd rfl (Or.inl rfl))))
  (mss_cons (ms_asg (ps_asg me_int (mg_name (i := 2) sc_frames_in.nd rfl (Or.inl rfl))))
  (mss_cons (ms_asg (ps_asg (me_call C__end_of_frame (hr.mono (by decide)) (by rfl) (ma_cons (me_var 0) (ma_cons (me_var 2) ma_nil)) (mcons_len (mcons_len mnil_len))) (mg_name (i := 3) sc_frames_in.nd rfl (Or.inl rfl))))
  (mss_cons (ms_while 100001 (ps_while PassesOwn.never (mt_cmp od_gt (me_var 3) (me_var 2) (nomark _)) (mss_cons (ms_drop (ps_expr (me_app (pe_bm PySem.F.plainAttrs_list PySem.F.slot_list_append PySem.F.type_list_append mt_append (me_var 1) (ma_cons (me_sl (pe_slice sl3 (me_var 0) (mo_some (me_bin od_add (me_bin od_add (me_var 2) (me_gint (by rfl) h_FIGURES)) me_int)) (mo_some (me_bin od_sub (me_var 3) me_int)))) ma_nil)))))
  (mss_cons (ms_asg (ps_asg (me_var 3) (mg_name (i := 2) sc_frames_in.nd rfl (Or.inl rfl))))
  (mss_one (ms_asg (ps_asg (me_call C__end_of_frame (hr.mono (by decide)) (by rfl) (ma_cons (me_var 0) (ma_cons (me_var 2) ma_nil)) (mcons_len (mcons_len mnil_len))) (mg_name (i := 3) sc_frames_in.nd rfl (Or.inl rfl)))))))))
  (mss_one (ms_ret (me_tup (ma_cons (me_var 1) (ma_cons (me_var 2) ma_nil))))))))))
abbrev s_is_whole : Stmt := top 12
abbrev n_is_whole : List Str := ["value", "_", "signs"]
theorem sc_is_whole : FnScope n_is_whole ["value"] (defScope s_is_whole) := ⟨rfl, rfl, rfl, by decide +kernel, rfl, by decide +kernel, by decide +kernel⟩
theorem ok_is_whole {f : Addr} {fd : FuncData} (T : Txt w K mg) (Z : Fun K "is_whole" "is_whole" s_is_whole f fd) (C_is_signs : Cal P w K mg base 1 "is_signs" 1 m_is_signs) (C_frames_in : Cal P w K mg base 2 "frames_in" 1 m_frames_in) : FnG P w K mg base 3 f fd ["value"] (spM K mg 1 m_is_whole) := by
  exact def_ok Z sc_is_whole fun c A o s H E hr =>
  (mss_cons (ms_if (mt_not (mt_val (me_call C_is_signs (hr.mono (by decide)) (by rfl) (ma_cons (me_var 0) ma_nil) (mcons_len mnil_len)))) (mss_one (ms_ret me_bl)) mss_nil)
  (mss_cons (ms_asg (ps_asg (me_call C_frames_in (hr.mono (by decide)) (by rfl) (ma_cons (me_var 0) ma_nil) (mcons_len mnil_len)) (mg_tup rfl (gs_cons (i := 1) (pgs_cons (pg_name (i := 1) sc_is_whole.nd rfl (Or.inl rfl)) (gs_cons (i := 2) (pgs_cons (pg_name (i := 2) sc_is_whole.nd rfl (Or.inl rfl)) gs_nil)))) (pg_tup rfl (gs_cons (i := 1) (pgs_cons (pg_name (i := 1) sc_is_whole.nd rfl (Or.inl rfl)) (gs_cons (i := 2) (pgs_cons (pg_name (i := 2) sc_is_whole.nd rfl (Or.inl rfl)) gs_nil))))))))
  (mss_one (ms_ret (me_cmp (od_eq hr.rg) (me_var 2) (me_cb (pe_callB cd_len (by rfl) T.n_len (by decide +kernel) (ma_cons (me_var 0) ma_nil))) (nomark _))))))
abbrev s__law_cell : Stmt := top 17
abbrev n__law_cell : List Str := ["script", "k"]
theorem sc__law_cell : FnScope n__law_cell ["script", "k"] (defScope s__law_cell) := ⟨rfl, rfl, rfl, by decide +kernel, rfl, by decide +kernel, by decide +kernel⟩
theorem ok__law_cell {f : Addr} {fd : FuncData} (T : Txt w K mg) (Z : Fun K "_law_cell" "_law_cell" s__law_cell f fd) : FnG P w K mg base 1 f fd ["script", "k"] (spM K mg 2 m__law_cell) := by
  exact def_ok Z sc__law_cell fun c A o s H E hr =>
  (mss_one (ms_ret (me_if (mt_cmp od_lt (me_var 1) (me_cb (pe_callB cd_len (by rfl) T.n_len (by decide +kernel) (ma_cons (me_var 0) ma_nil))) (nomark _)) (me_ix (pe_ix ix_seq (me_var 0) (me_var 1) (fun _ _ => rfl))) (me_bin od_add (me_bin od_mul me_int (me_var 1)) (me_bin od_mod (me_cb (pe_callB (cd_sum rfl) (by rfl) T.n_sum (by decide +kernel) (ma_cons (me_sl (pe_slice sl3 (me_var 0) mo_none (mo_some me_int))) ma_nil))) me_int)))))
abbrev s__law_box : Stmt := top 18
abbrev n__law_box : List Str := ["great"]
theorem sc__law_box : FnScope n__law_box ["great"] (defScope s__law_box) := ⟨rfl, rfl, rfl, by decide +kernel, rfl, by decide +kernel, by decide +kernel⟩
theorem ok__law_box {f : Addr} {fd : FuncData} (T : Txt w K mg) (Z : Fun K "_law_box" "_law_box" s__law_box f fd) : FnG P w K mg base 1 f fd ["great"] (spM K mg 1 m__law_box) := by
  exact def_ok Z sc__law_box fun c A o s H E hr =>
  (mss_one (ms_ret (me_new (ma_cons (me_cb (pe_callB cd_abs (by rfl) T.n_abs (by decide +kernel) (ma_cons (me_var 0) ma_nil))) (ma_cons (me_cmp od_ge (me_cb (pe_callB cd_abs (by rfl) T.n_abs (by decide +kernel) (ma_cons (me_var 0) ma_nil))) (me_bin od_pow me_int me_int) (nomark _)) (ma_cons (me_bin od_mod (me_cb (pe_callTy cd_int (by rfl) T.n_int (by decide +kernel) (ma_cons (me_cb (pe_callB cd_abs (by rfl) T.n_abs (by decide +kernel) (ma_cons (me_var 0) ma_nil))) ma_nil))) me_int) (ma_cons me_int ma_nil)))))))
abbrev s__law_take : Stmt := top 19
abbrev n__law_take : List Str := ["box", "many", "mixed", "digit"]
theorem sc__law_take : FnScope n__law_take ["box", "many"] (defScope s__law_take) := ⟨rfl, rfl, rfl, by decide +kernel, rfl, by decide +kernel, by decide +kernel⟩
theorem ok__law_take {f : Addr} {fd : FuncData} (T : Txt w K mg) (Z : Fun K "_law_take" "_law_take" s__law_take f fd) : FnG P w K mg base 1 f fd ["box", "many"] (spM K mg 2 m__law_take) := by
  exact def_ok Z sc__law_take fun c A o s H E hr =>
  (mss_cons (ms_if (mt_w (mw_and (mt_val (me_ix (pe_ix ix_seq (me_var 0) me_int (fun _ _ => rfl)))) (mw_and1 (mt_cmp od_gt (me_ix (pe_ix ix_seq (me_var 0) me_int (fun _ _ => rfl))) me_int (nomark _))))) (mss_cons (ms_asg (ps_asg (me_bin od_mod (me_cb (pe_callTy cd_int (by rfl) T.n_int (by decide +kernel) (ma_cons (me_ix (pe_ix ix_seq (me_var 0) me_int (fun _ _ => rfl))) ma_nil))) (me_var 1)) (mg_name (i := 3) sc__law_take.nd rfl (Or.inl rfl))))
  (mss_cons (ms_setI (ps_asg (me_bin od_fdv (me_ix (pe_ix ix_seq (me_var 0) me_int (fun _ _ => rfl))) (me_var 1)) (pg_sub (me_var 0) me_int set_list)))
  (mss_one (ms_ret (me_var 3))))) mss_nil)
  (mss_cons (ms_setI (ps_asg (me_bin od_add (me_ix (pe_ix ix_seq (me_var 0) me_int (fun _ _ => rfl))) me_int) (pg_sub (me_var 0) me_int set_list)))
  (mss_cons (ms_asg (ps_asg (me_bin od_mod (me_cb (pe_callTy cd_int (by rfl) T.n_int (by decide +kernel) (ma_cons (me_bin od_pow (me_bin od_add (me_bin od_add (me_ix (pe_ix ix_seq (me_var 0) me_int (fun _ _ => rfl))) (me_bin od_mul me_int (me_ix (pe_ix ix_seq (me_var 0) me_int (fun _ _ => rfl))))) me_int) me_int) ma_nil))) me_int) (mg_name (i := 2) sc__law_take.nd rfl (Or.inl rfl))))
  (mss_one (ms_ret (me_bin od_mod (me_bin od_fdv (me_bin od_mod (me_cb (pe_callTy cd_int (by rfl) T.n_int (by decide +kernel) (ma_cons (me_bin od_pow (me_bin od_add (me_bin od_mul (me_var 2) me_int) (me_bin od_mul me_int (me_ix (pe_ix ix_seq (me_var 0) me_int (fun _ _ => rfl))))) me_int) ma_nil))) me_int) me_int) (me_var 1)))))))
abbrev s__law_sign : Stmt := top 20
abbrev n__law_sign : List Str := ["box", "near", "signs"]
theorem sc__law_sign : FnScope n__law_sign ["box", "near"] (defScope s__law_sign) := ⟨rfl, rfl, rfl, by decide +kernel, rfl, by decide +kernel, by decide +kernel⟩
theorem ok__law_sign {f : Addr} {fd : FuncData} (T : Txt w K mg) (Z : Fun K "_law_sign" "_law_sign" s__law_sign f fd) (C__law_take : Cal P w K mg base 1 "_law_take" 2 m__law_take) : FnG P w K mg base 2 f fd ["box", "near"] (spM K mg 2 m__law_sign) := by
  exact def_ok Z sc__law_sign fun c A o s H E hr =>
  (mss_cons (ms_asg (ps_asg me_str (mg_name (i := 2) sc__law_sign.nd rfl (Or.inl rfl))))
  (mss_cons (ms_asg (ps_asg (me_if (mt_val (me_var 1)) me_str (me_var 2)) (mg_name (i := 2) sc__law_sign.nd rfl (Or.inl rfl))))
  (mss_one (ms_ret (me_ix (pe_ix ix_seq (me_var 2) (me_call C__law_take (hr.mono (by decide)) (by rfl) (ma_cons (me_var 0) (ma_cons (me_cb (pe_callB cd_len (by rfl) T.n_len (by decide +kernel) (ma_cons (me_var 2) ma_nil))) ma_nil)) (mcons_len (mcons_len mnil_len))) (fun _ _ => rfl)))))))
abbrev s__law_frame : Stmt := top 21
abbrev n__law_frame : List Str := ["row", "count"]
theorem sc__law_frame : FnScope n__law_frame ["row"] (defScope s__law_frame) := ⟨rfl, rfl, rfl, by decide +kernel, rfl, by decide +kernel, by decide +kernel⟩
theorem ok__law_frame {f : Addr} {fd : FuncData} (T : Txt w K mg) (Z : Fun K "_law_frame" "_law_frame" s__law_frame f fd) : FnG P w K mg base 1 f fd ["row"] (spM K mg 1 m__law_frame) := by
  exact def_ok Z sc__law_frame fun c A o s H E hr =>
  (mss_cons (ms_asg (ps_asg (me_cb (pe_callTy cd_str (by rfl) T.n_str (by decide +kernel) (ma_cons (me_cb (pe_callB cd_len (by rfl) T.n_len (by decide +kernel) (ma_cons (me_var 0) ma_nil))) ma_nil))) (mg_name (i := 1) sc__law_frame.nd rfl (Or.inl rfl))))
  (mss_one (ms_ret (me_bin od_add (me_bin od_add (me_bin od_add (me_bin od_add (me_bin od_mul me_str (me_bin od_sub me_int (me_cb (pe_callB cd_len (by rfl) T.n_len (by decide +kernel) (ma_cons (me_var 1) ma_nil))))) (me_var 1)) me_str) (me_var 0)) me_str))))
abbrev s__law_text : Stmt := top 22
abbrev n__law_text : List Str := ["box", "way", "near", "row", "turn"]
theorem sc__law_text : FnScope n__law_text ["box"] (defScope s__law_text) := ⟨rfl, rfl, rfl, by decide +kernel, rfl, by decide +kernel, by decide +kernel⟩
theorem ok__law_text {f : Addr} {fd : FuncData} (T : Txt w K mg) (Z : Fun K "_law_text" "_law_text" s__law_text f fd) (C__law_take : Cal P w K mg base 1 "_law_take" 2 m__law_take) (C__law_sign : Cal P w K mg base 2 "_law_sign" 2 m__law_sign) (C__law_frame : Cal P w K mg base 1 "_law_frame" 1 m__law_frame) : FnG P w K mg base 3 f fd ["box"] (spM K mg 1 m__law_text) := by
  exact def_ok Z sc__law_text fun c A o s H E hr =>
  (mss_cons (ms_asg (ps_asg (me_call C__law_take (hr.mono (by decide)) (by rfl) (ma_cons (me_var 0) (ma_cons me_int ma_nil)) (mcons_len (mcons_len mnil_len))) (mg_name (i := 1) sc__law_text.nd rfl (Or.inl rfl))))
  (mss_cons (ms_if (mt_cmp (od_eq hr.rg) (me_var 1) me_int (nomark _)) (mss_one (ms_ret (me_bin od_add (me_call C__law_sign (hr.mono (by decide)) (by rfl) (ma_cons (me_var 0) (ma_cons me_bl ma_nil)) (mcons_len (mcons_len mnil_len))) (me_bin od_mul (me_call C__law_sign (hr.mono (by decide)) (by rfl) (ma_cons (me_var 0) (ma_cons me_bl ma_nil)) (mcons_len (mcons_len mnil_len))) (me_ix (pe_ix ix_seq (me_lst (ma_cons me_int (ma_cons me_int (ma_cons me_int (ma_cons me_int (ma_cons me_int ma_nil)))))) (me_call C__law_take (hr.mono (by decide)) (by rfl) (ma_cons (me_var 0) (ma_cons me_int ma_nil)) (mcons_len (mcons_len mnil_len))) (fun _ _ => rfl))))))) mss_nil)
  (mss_cons (ms_asg (ps_asg (me_cmp od_lt (me_var 1) me_int (nomark _)) (mg_name (i := 2) sc__law_text.nd rfl (Or.inr rfl))))
  (mss_cons (ms_asg (ps_asg (me_join (pe_join me_str (me_lc (pe_lc (own := [("turn", 4)]) rfl sc__law_text.nd (mi_range (pi_range1 (by rfl) T.n_range (ma_cons (me_ix (pe_ix ix_seq (me_lst (ma_cons me_int (ma_cons me_int (ma_cons me_int (ma_cons me_int (ma_cons me_int (ma_cons me_int (ma_cons me_int (ma_cons me_int ma_nil))))))))) (me_call C__law_take (hr.mono (by decide)) (by rfl) (ma_cons (me_var 0) (ma_cons me_int ma_nil)) (mcons_len (mcons_len mnil_len))) (fun _ _ => rfl))) ma_nil))) (blkOk_by (N := n__law_text) (sc := defScope s__law_text) (by decide +kernel)) (fun _ _ _ _ _ => pg_name (i := 4) sc__law_text.nd rfl (Or.inl rfl)) (fun _ _ _ _ _ => mts_nil) (fun _ _ _ _ _ => (me_call C__law_sign (hr.mono (by decide)) (by rfl) (ma_cons (me_var 0) (ma_cons (me_var 2) ma_nil)) (mcons_len (mcons_len mnil_len)))))))) (mg_name (i := 3) sc__law_text.nd rfl (Or.inl rfl))))
  (mss_cons (ms_if (mt_cmp (od_eq hr.rg) (me_var 1) me_int (nomark _)) (mss_one (ms_ret (me_call C__law_frame (hr.mono (by decide)) (by rfl) (ma_cons (me_var 3) ma_nil) (mcons_len mnil_len)))) mss_nil)
  (mss_cons (ms_if (mt_cmp (od_eq hr.rg) (me_var 1) me_int (nomark _)) (mss_one (ms_ret (me_sl (pe_slice sl3 (me_call C__law_frame (hr.mono (by decide)) (by rfl) (ma_cons (me_var 3) ma_nil) (mcons_len mnil_len)) mo_none (mo_some (me_call C__law_take (hr.mono (by decide)) (by rfl) (ma_cons (me_var 0) (ma_cons me_int ma_nil)) (mcons_len (mcons_len mnil_len)))))))) mss_nil)
  (mss_one (ms_ret (me_var 3)))))))))
abbrev s__law_texts : Stmt := top 23
abbrev n__law_texts : List Str := ["box", "turn"]
theorem sc__law_texts : FnScope n__law_texts ["box"] (defScope s__law_texts) := ⟨rfl, rfl, rfl, by decide +kernel, rfl, by decide +kernel, by decide +kernel⟩
theorem ok__law_texts {f : Addr} {fd : FuncData} (T : Txt w K mg) (Z : Fun K "_law_texts" "_law_texts" s__law_texts f fd) (C__law_take : Cal P w K mg base 1 "_law_take" 2 m__law_take) (C__law_text : Cal P w K mg base 3 "_law_text" 1 m__law_text) : FnG P w K mg base 4 f fd ["box"] (spM K mg 1 m__law_texts) := by
  exact def_ok Z sc__law_texts fun c A o s H E hr =>
  (mss_one (ms_ret (me_lc (pe_lc (own := [("turn", 1)]) rfl sc__law_texts.nd (mi_range (pi_range1 (by rfl) T.n_range (ma_cons (me_ix (pe_ix ix_seq (me_lst (ma_cons me_int (ma_cons me_int (ma_cons me_int (ma_cons me_int (ma_cons me_int (ma_cons me_int ma_nil))))))) (me_call C__law_take (hr.mono (by decide)) (by rfl) (ma_cons (me_var 0) (ma_cons me_int ma_nil)) (mcons_len (mcons_len mnil_len))) (fun _ _ => rfl))) ma_nil))) (blkOk_by (N := n__law_texts) (sc := defScope s__law_texts) (by decide +kernel)) (fun _ _ _ _ _ => pg_name (i := 1) sc__law_texts.nd rfl (Or.inl rfl)) (fun _ _ _ _ _ => mts_nil) (fun _ _ _ _ _ => (me_call C__law_text (hr.mono (by decide)) (by rfl) (ma_cons (me_var 0) ma_nil) (mcons_len mnil_len)))))))
abbrev s__law_turned : Stmt := top 24
abbrev n__law_turned : List Str := ["box", "row", "sign", "way", "spot"]
theorem sc__law_turned : FnScope n__law_turned ["box", "row"] (defScope s__law_turned) := ⟨rfl, rfl, rfl, by decide +kernel, rfl, by decide +kernel, by decide +kernel⟩
theorem ok__law_turned {f : Addr} {fd : FuncData} (T : Txt w K mg) (Z : Fun K "_law_turned" "_law_turned" s__law_turned f fd) (C__law_take : Cal P w K mg base 1 "_law_take" 2 m__law_take) (C__law_sign : Cal P w K mg base 2 "_law_sign" 2 m__law_sign) : FnG P w K mg base 3 f fd ["box", "row"] (spM K mg 2 m__law_turned) := by
  exact def_ok Z sc__law_turned fun c A o s H E hr =>
  (mss_cons (ms_par (ps_par (i := 3) (j := 4) rfl sc__law_turned.nd rfl rfl (by decide) rfl rfl (ma_cons (me_call C__law_take (hr.mono (by decide)) (by rfl) (ma_cons (me_var 0) (ma_cons me_int ma_nil)) (mcons_len (mcons_len mnil_len))) (ma_cons (me_call C__law_take (hr.mono (by decide)) (by rfl) (ma_cons (me_var 0) (ma_cons (me_cb (pe_callB cd_len (by rfl) T.n_len (by decide +kernel) (ma_cons (me_var 1) ma_nil))) ma_nil)) (mcons_len (mcons_len mnil_len))) ma_nil)) (by rfl)))
  (mss_cons (ms_if (mt_cmp (od_eq hr.rg) (me_var 3) me_int (nomark _)) (mss_one (ms_ret (me_bin od_add (me_bin od_add (me_sl (pe_slice sl3 (me_var 1) mo_none (mo_some me_int))) (me_ix (pe_ix ix_seq me_str (me_bin od_mod (me_bin od_add (me_bin od_add (me_cb (pe_callTy cd_intS (by rfl) T.n_int (by decide +kernel) (ma_cons (me_ix (pe_ix ix_seq (me_var 1) me_int (fun _ _ => rfl))) ma_nil))) me_int) (me_call C__law_take (hr.mono (by decide)) (by rfl) (ma_cons (me_var 0) (ma_cons me_int ma_nil)) (mcons_len (mcons_len mnil_len)))) me_int) (fun _ _ => rfl)))) (me_sl (pe_slice sl3 (me_var 1) (mo_some me_int) mo_none))))) mss_nil)
  (mss_cons (ms_if (mt_cmp (od_eq hr.rg) (me_var 3) me_int (nomark _)) (mss_one (ms_ret (me_bin od_add (me_sl (pe_slice sl3 (me_var 1) mo_none (mo_some (me_var 4)))) (me_sl (pe_slice sl3 (me_var 1) (mo_some (me_bin od_add (me_var 4) me_int)) mo_none))))) mss_nil)
  (mss_cons (ms_if (mt_cmp (od_eq hr.rg) (me_var 3) me_int (nomark _)) (mss_one (ms_ret (me_bin od_add (me_bin od_add (me_sl (pe_slice sl3 (me_var 1) mo_none (mo_some (me_var 4)))) (me_ix (pe_ix ix_seq (me_var 1) (me_var 4) (fun _ _ => rfl)))) (me_sl (pe_slice sl3 (me_var 1) (mo_some (me_var 4)) mo_none))))) mss_nil)
  (mss_cons (ms_asg (ps_asg (me_call C__law_sign (hr.mono (by decide)) (by rfl) (ma_cons (me_var 0) (ma_cons (me_cmp od_lt (me_var 3) me_int (nomark _)) ma_nil)) (mcons_len (mcons_len mnil_len))) (mg_name (i := 2) sc__law_turned.nd rfl (Or.inl rfl))))
  (mss_one (ms_ret (me_bin od_add (me_bin od_add (me_sl (pe_slice sl3 (me_var 1) mo_none (mo_some (me_var 4)))) (me_var 2)) (me_sl (pe_slice sl3 (me_var 1) (mo_some (me_bin od_add (me_var 4) (me_bin od_mod (me_var 3) me_int))) mo_none))))))))))
abbrev s__law_tail : Stmt := top 25
abbrev n__law_tail : List Str := ["box", "way", "row", "heads"]
theorem sc__law_tail : FnScope n__law_tail ["box"] (defScope s__law_tail) := ⟨rfl, rfl, rfl, by decide +kernel, rfl, by decide +kernel, by decide +kernel⟩
theorem ok__law_tail {f : Addr} {fd : FuncData} (T : Txt w K mg) (Z : Fun K "_law_tail" "_law_tail" s__law_tail f fd) (C__law_frame : Cal P w K mg base 1 "_law_frame" 1 m__law_frame) (C__law_text : Cal P w K mg base 3 "_law_text" 1 m__law_text) (C__law_take : Cal P w K mg base 1 "_law_take" 2 m__law_take) (C__law_sign : Cal P w K mg base 2 "_law_sign" 2 m__law_sign) (C__law_turned : Cal P w K mg base 3 "_law_turned" 2 m__law_turned) : FnG P w K mg base 4 f fd ["box"] (spM K mg 1 m__law_tail) := by
  exact def_ok Z sc__law_tail fun c A o s H E hr =>
  (mss_cons (ms_par (ps_par (i := 1) (j := 2) rfl sc__law_tail.nd rfl rfl (by decide) rfl rfl (ma_cons (me_call C__law_take (hr.mono (by decide)) (by rfl) (ma_cons (me_var 0) (ma_cons me_int ma_nil)) (mcons_len (mcons_len mnil_len))) (ma_cons (me_call C__law_frame (hr.mono (by decide)) (by rfl) (ma_cons (me_call C__law_text (hr.mono (by decide)) (by rfl) (ma_cons (me_var 0) ma_nil) (mcons_len mnil_len)) ma_nil) (mcons_len mnil_len)) ma_nil)) (by rfl)))
  (mss_cons (ms_if (mt_cmp (od_eq hr.rg) (me_var 1) me_int (nomark _)) (mss_one (ms_ret me_str)) mss_nil)
  (mss_cons (ms_if (mt_cmp (od_eq hr.rg) (me_var 1) me_int (nomark _)) (mss_one (ms_ret (me_call C__law_text (hr.mono (by decide)) (by rfl) (ma_cons (me_var 0) ma_nil) (mcons_len mnil_len)))) mss_nil)
  (mss_cons (ms_if (mt_cmp (od_eq hr.rg) (me_var 1) me_int (nomark _)) (mss_one (ms_ret (me_sl (pe_slice sl3 (me_var 2) mo_none (mo_some (me_call C__law_take (hr.mono (by decide)) (by rfl) (ma_cons (me_var 0) (ma_cons (me_cb (pe_callB cd_len (by rfl) T.n_len (by decide +kernel) (ma_cons (me_var 2) ma_nil))) ma_nil)) (mcons_len (mcons_len mnil_len)))))))) mss_nil)
  (mss_cons (ms_if (mt_cmp (od_eq hr.rg) (me_var 1) me_int (nomark _)) (mss_cons (ms_asg (ps_asg (me_lst (ma_cons me_str (ma_cons me_str (ma_cons me_str (ma_cons me_str (ma_cons me_str (ma_cons me_str (ma_cons me_str (ma_cons me_str (ma_cons me_str (ma_cons me_str (ma_cons me_str ma_nil)))))))))))) (mg_name (i := 3) sc__law_tail.nd rfl (Or.inl rfl))))
  (mss_one (ms_ret (me_bin od_add (me_bin od_add (me_ix (pe_ix ix_seq (me_var 3) (me_call C__law_take (hr.mono (by decide)) (by rfl) (ma_cons (me_var 0) (ma_cons me_int ma_nil)) (mcons_len (mcons_len mnil_len))) (fun _ _ => rfl))) (me_call C__law_sign (hr.mono (by decide)) (by rfl) (ma_cons (me_var 0) (ma_cons me_bl ma_nil)) (mcons_len (mcons_len mnil_len)))) me_str)))) mss_nil)
  (mss_cons (ms_if (mt_cmp (od_eq hr.rg) (me_var 1) me_int (nomark _)) (mss_one (ms_ret (me_var 2))) mss_nil)
  (mss_one (ms_ret (me_call C__law_turned (hr.mono (by decide)) (by rfl) (ma_cons (me_var 0) (ma_cons (me_var 2) ma_nil)) (mcons_len (mcons_len mnil_len)))))))))))
abbrev s__law_read : Stmt := top 26
abbrev n__law_read : List Str := ["row", "turn", "found", "at", "head", "end", "sign"]
theorem sc__law_read : FnScope n__law_read ["row"] (defScope s__law_read) := ⟨rfl, rfl, rfl, by decide +kernel, rfl, by decide +kernel, by decide +kernel⟩
theorem ok__law_read {f : Addr} {fd : FuncData} (T : Txt w K mg) (Z : Fun K "_law_read" "_law_read" s__law_read f fd) : FnG P w K mg base 1 f fd ["row"] (spM K mg 1 m__law_read) := by
  exact def_ok Z sc__law_read fun c A o s H E hr =>
  (mss_cons (ms_par (ps_par (i := 2) (j := 3) rfl sc__law_read.nd rfl rfl (by decide) rfl rfl (ma_cons (me_new ma_nil) (ma_cons me_int ma_nil)) (by rfl)))
  (mss_cons (ms_for (ps_for PassesOwn.never rfl (mi_range (pi_range1 (by rfl) T.n_range (ma_cons (me_bin od_add (me_bin od_fdv (me_cb (pe_callB cd_len (by rfl) T.n_len (by decide +kernel) (ma_cons (me_var 0) ma_nil))) me_int) me_int) ma_nil))) (mg_name (i := 1) sc__law_read.nd rfl (Or.inl rfl)) (mss_cons (ms_asg (ps_asg (me_sl (pe_slice sl3 (me_var 0) (mo_some (me_var 3)) (mo_some (me_bin od_add (me_var 3) me_int)))) (mg_name (i := 4) sc__law_read.nd rfl (Or.inl rfl))))
  (mss_cons (ms_if (mt_w (mw_or (mt_cmp od_lt (me_cb (pe_callB cd_len (by rfl) T.n_len (by decide +kernel) (ma_cons (me_var 4) ma_nil))) me_int (nomark _)) (mw_or (mt_cmp (od_ne hr.rg) (me_ix (pe_ix ix_seq (me_var 4) me_int (fun _ _ => rfl))) me_str (nomark _)) (mw_or1 (mt_cmpS (od_neS hr.rg) (me_lc (pe_lc (own := [("sign", 6)]) rfl sc__law_read.nd (mi_str (pi_str (me_sl (pe_slice sl3 (me_var 4) mo_none (mo_some me_int))))) (blkOk_by (N := n__law_read) (sc := defScope s__law_read) (by decide +kernel)) (fun _ _ _ _ _ => pg_name (i := 6) sc__law_read.nd rfl (Or.inl rfl)) (fun _ _ _ _ _ => (pts_one (mt_cmp od_nin (me_var 6) me_str (by rfl)))) (fun _ _ _ _ _ => (me_var 6)))) (me_lst ma_nil) (nomark _)))))) (mss_one (ms_ret (me_tup (ma_cons (me_var 2) (ma_cons (me_var 3) ma_nil))))) mss_nil)
  (mss_cons (ms_asg (ps_asg (me_bin od_add (me_bin od_add (me_var 3) me_int) (me_cb (pe_callTy cd_intS (by rfl) T.n_int (by decide +kernel) (ma_cons (me_sl (pe_slice sl3 (me_var 4) mo_none (mo_some me_int))) ma_nil)))) (mg_name (i := 5) sc__law_read.nd rfl (Or.inl rfl))))
  (mss_cons (ms_if (mt_cmp (od_ne hr.rg) (me_sl (pe_slice sl3 (me_var 0) (mo_some (me_var 5)) (mo_some (me_bin od_add (me_var 5) me_int)))) me_str (nomark _)) (mss_one (ms_ret (me_tup (ma_cons (me_var 2) (ma_cons (me_var 3) ma_nil))))) mss_nil)
  (mss_cons (ms_drop (ps_expr (me_app (pe_bm PySem.F.plainAttrs_list PySem.F.slot_list_append PySem.F.type_list_append mt_append (me_var 2) (ma_cons (me_sl (pe_slice sl3 (me_var 0) (mo_some (me_bin od_add (me_var 3) me_int)) (mo_some (me_var 5)))) ma_nil)))))
  (mss_one (ms_asg (ps_asg (me_bin od_add (me_var 5) me_int) (mg_name (i := 3) sc__law_read.nd rfl (Or.inl rfl))))))))))))
  (mss_one (ms_ret (me_tup (ma_cons (me_var 2) (ma_cons (me_var 3) ma_nil)))))))
abbrev s__law_reads_right : Stmt := top 27
abbrev n__law_reads_right : List Str := ["row", "whole", "due", "told"]
theorem sc__law_reads_right : FnScope n__law_reads_right ["row"] (defScope s__law_reads_right) := ⟨rfl, rfl, rfl, by decide +kernel, rfl, by decide +kernel, by decide +kernel⟩
theorem ok__law_reads_right {f : Addr} {fd : FuncData} (T : Txt w K mg) (Z : Fun K "_law_reads_right" "_law_reads_right" s__law_reads_right f fd) (C_frames_in : Cal P w K mg base 2 "frames_in" 1 m_frames_in) (C__law_read : Cal P w K mg base 1 "_law_read" 1 m__law_read) (C_is_whole : Cal P w K mg base 3 "is_whole" 1 m_is_whole) (K_is_whole : CalK P w K mg base 3 "is_whole" "value" m_is_whole) (K_frames_in : CalK P w K mg base 2 "frames_in" "text" m_frames_in) : FnG P w K mg base 4 f fd ["row"] (spM K mg 1 m__law_reads_right) := by
  exact def_ok Z sc__law_reads_right fun c A o s H E hr =>
  (mss_cons (ms_par (ps_par (i := 2) (j := 3) rfl sc__law_reads_right.nd rfl rfl (by decide) rfl rfl (ma_cons (me_call C__law_read (hr.mono (by decide)) (by rfl) (ma_cons (me_var 0) ma_nil) (mcons_len mnil_len)) (ma_cons (me_call C_frames_in (hr.mono (by decide)) (by rfl) (ma_cons (me_var 0) ma_nil) (mcons_len mnil_len)) ma_nil)) (by rfl)))
  (mss_cons (ms_if (mt_w (mw_or (mt_not (mt_val (me_cb (pe_callB cd_isi (by rfl) T.n_isinstance (by decide +kernel) (ma_cons (me_var 3) (ma_cons (me_ty "tuple" (by rfl) T.n_tuple (by decide +kernel)) ma_nil)))))) (mw_or1 (mt_not (mt_val (me_cb (pe_callB cd_isS (by rfl) T.n_isinstance (by decide +kernel) (ma_cons (me_ix (pe_ix ix_seq (me_var 3) me_int (fun _ _ => rfl))) (ma_cons (me_ty "list" (by rfl) T.n_list (by decide +kernel)) ma_nil))))))))) (mss_one (ms_ret me_bl)) mss_nil)
  (mss_cons (ms_if (mt_w (mw_or (mt_not (mt_val (me_cb (pe_callB cd_isi (by rfl) T.n_isinstance (by decide +kernel) (ma_cons (me_ix (pe_ix ix_seq (me_var 3) me_int (fun _ _ => rfl))) (ma_cons (me_ty "int" (by rfl) T.n_int (by decide +kernel)) ma_nil)))))) (mw_or (mt_val (me_cb (pe_callB cd_isi (by rfl) T.n_isinstance (by decide +kernel) (ma_cons (me_ix (pe_ix ix_seq (me_var 3) me_int (fun _ _ => rfl))) (ma_cons (me_ty "bool" (by rfl) T.n_bool (by decide +kernel)) ma_nil))))) (mw_or1 (mt_cmpS (od_neS hr.rg) (me_var 3) (me_var 2) (nomark _)))))) (mss_one (ms_ret me_bl)) mss_nil)
  (mss_cons (ms_drop (ps_expr (me_app (pe_bm PySem.F.plainAttrs_list PySem.F.slot_list_append PySem.F.type_list_append mt_append (me_ix (pe_ix ix_seq (me_var 3) me_int (fun _ _ => rfl))) (ma_cons me_str ma_nil)))))
  (mss_cons (ms_asg (ps_asg (me_call C_is_whole (hr.mono (by decide)) (by rfl) (ma_cons (me_var 0) ma_nil) (mcons_len mnil_len)) (mg_name (i := 1) sc__law_reads_right.nd rfl (Or.inl rfl))))
  (mss_cons (ms_if (mt_w (mw_and (mt_cmp od_isnt (me_var 1) me_bl (nomark _)) (mw_and1 (mt_cmp od_isnt (me_var 1) me_bl (nomark _))))) (mss_one (ms_ret me_bl)) mss_nil)
  (mss_one (ms_ret (me_and (me_cmpS (od_eqS hr.rg) (me_kw K_frames_in (hr.mono (by decide)) (by rfl) (me_var 0)) (me_var 2) (nomark _)) (me_and (me_cmp (od_eq hr.rg) (me_var 1) (me_cmp (od_eq hr.rg) (me_ix (pe_ix ix_seq (me_var 2) me_int (fun _ _ => rfl))) (me_cb (pe_callB cd_len (by rfl) T.n_len (by decide +kernel) (ma_cons (me_var 0) ma_nil))) (nomark _)) (nomark _)) (me_one (me_cmp (od_eq hr.rg) (me_kw K_is_whole (hr.mono (by decide)) (by rfl) (me_var 0)) (me_var 1) (nomark _)))))))))))))
abbrev s__law_frames_right : Stmt := top 28
abbrev n__law_frames_right : List Str := ["texts", "others", "row", "due", "handed", "told"]
theorem sc__law_frames_right : FnScope n__law_frames_right ["texts", "others"] (defScope s__law_frames_right) := ⟨rfl, rfl, rfl, by decide +kernel, rfl, by decide +kernel, by decide +kernel⟩
theorem ok__law_frames_right {f : Addr} {fd : FuncData} (T : Txt w K mg) (Z : Fun K "_law_frames_right" "_law_frames_right" s__law_frames_right f fd) (C__law_frame : Cal P w K mg base 1 "_law_frame" 1 m__law_frame) (C_framed : Cal P w K mg base 3 "framed" 1 m_framed) (C_all_framed : Cal P w K mg base 4 "all_framed" 1 m_all_framed) (K_framed : CalK P w K mg base 3 "framed" "text" m_framed) (K_all_framed : CalK P w K mg base 4 "all_framed" "texts" m_all_framed) : FnG P w K mg base 5 f fd ["texts", "others"] (spM K mg 2 m__law_frames_right) := by
  exact def_ok Z sc__law_frames_right fun c A o s H E hr =>
  (mss_cons (ms_for (ps_for PassesOwn.never rfl (mi_list (pi_list (me_var 0))) (mg_name (i := 2) sc__law_frames_right.nd rfl (Or.inl rfl)) (mss_one (ms_if (mt_w (mw_or (mt_cmp (od_ne hr.rg) (me_call C_framed (hr.mono (by decide)) (by rfl) (ma_cons (me_var 2) ma_nil) (mcons_len mnil_len)) (me_call C__law_frame (hr.mono (by decide)) (by rfl) (ma_cons (me_var 2) ma_nil) (mcons_len mnil_len)) (nomark _)) (mw_or1 (mt_cmp (od_ne hr.rg) (me_kw K_framed (hr.mono (by decide)) (by rfl) (me_var 2)) (me_call C__law_frame (hr.mono (by decide)) (by rfl) (ma_cons (me_var 2) ma_nil) (mcons_len mnil_len)) (nomark _))))) (mss_one (ms_ret me_bl)) mss_nil))))
  (mss_cons (ms_asg (ps_asg (me_join (pe_join me_str (me_lc (pe_lc (own := [("row", 2)]) rfl sc__law_frames_right.nd (mi_list (pi_list (me_var 0))) (blkOk_by (N := n__law_frames_right) (sc := defScope s__law_frames_right) (by decide +kernel)) (fun _ _ _ _ _ => pg_name (i := 2) sc__law_frames_right.nd rfl (Or.inl rfl)) (fun _ _ _ _ _ => mts_nil) (fun _ _ _ _ _ => (me_call C__law_frame (hr.mono (by decide)) (by rfl) (ma_cons (me_var 2) ma_nil) (mcons_len mnil_len))))))) (mg_name (i := 3) sc__law_frames_right.nd rfl (Or.inl rfl))))
  (mss_cons (ms_asg (ps_asg (me_listN (pe_callTy call_list_of (by rfl) T.n_list (by decide +kernel) (ma_cons (me_var 0) ma_nil))) (mg_name (i := 4) sc__law_frames_right.nd rfl (Or.inl rfl))))
  (mss_cons (ms_asg (ps_asg (me_call C_all_framed (hr.mono (by decide)) (by rfl) (ma_cons (me_var 4) ma_nil) (mcons_len mnil_len)) (mg_name (i := 5) sc__law_frames_right.nd rfl (Or.inl rfl))))
  (mss_cons (ms_if (mt_w (mw_or (mt_not (mt_val (me_cb (pe_callB cd_isi (by rfl) T.n_isinstance (by decide +kernel) (ma_cons (me_var 5) (ma_cons (me_ty "str" (by rfl) T.n_str (by decide +kernel)) ma_nil)))))) (mw_or (mt_cmp (od_ne hr.rg) (me_var 5) (me_var 3) (nomark _)) (mw_or (mt_cmpS (od_neS hr.rg) (me_var 4) (me_var 0) (nomark _)) (mw_or1 (mt_cmp (od_ne hr.rg) (me_kw K_all_framed (hr.mono (by decide)) (by rfl) (me_cb (pe_callTy cd_tup (by rfl) T.n_tuple (by decide +kernel) (ma_cons (me_var 0) ma_nil)))) (me_var 3) (nomark _))))))) (mss_one (ms_ret me_bl)) mss_nil)
  (mss_cons (ms_drop (ps_expr (me_app (pe_bm PySem.F.plainAttrs_list PySem.F.slot_list_append PySem.F.type_list_append mt_append (me_var 4) (ma_cons me_str ma_nil)))))
  (mss_cons (ms_if (mt_cmp (od_ne hr.rg) (me_call C_all_framed (hr.mono (by decide)) (by rfl) (ma_cons (me_var 4) ma_nil) (mcons_len mnil_len)) (me_bin od_add (me_var 3) (me_call C__law_frame (hr.mono (by decide)) (by rfl) (ma_cons me_str ma_nil) (mcons_len mnil_len))) (nomark _)) (mss_one (ms_ret me_bl)) mss_nil)
  (mss_one (ms_ret (me_cmp (od_eq hr.rg) (me_call C_all_framed (hr.mono (by decide)) (by rfl) (ma_cons (me_bin od_add (me_var 0) (me_var 1)) ma_nil) (mcons_len mnil_len)) (me_bin od_add (me_var 3) (me_call C_all_framed (hr.mono (by decide)) (by rfl) (ma_cons (me_var 1) ma_nil) (mcons_len mnil_len))) (nomark _)))))))))))
abbrev s_law : Stmt := top 29
abbrev n_law : List Str := ["script", "k", "box", "rows", "some", "row", "texts", "others", "tail", "more"]
theorem sc_law : FnScope n_law ["script"] (defScope s_law) := ⟨rfl, rfl, rfl, by decide +kernel, rfl, by decide +kernel, by decide +kernel⟩
theorem ok_law {f : Addr} {fd : FuncData} (T : Txt w K mg) (Z : Fun K "law" "law" s_law f fd) (C__law_box : Cal P w K mg base 1 "_law_box" 1 m__law_box) (C__law_cell : Cal P w K mg base 1 "_law_cell" 2 m__law_cell) (C__law_texts : Cal P w K mg base 4 "_law_texts" 1 m__law_texts) (C__law_frames_right : Cal P w K mg base 5 "_law_frames_right" 2 m__law_frames_right) (C__law_tail : Cal P w K mg base 4 "_law_tail" 1 m__law_tail) (C__law_take : Cal P w K mg base 1 "_law_take" 2 m__law_take) (C__law_frame : Cal P w K mg base 1 "_law_frame" 1 m__law_frame) (C__law_reads_right : Cal P w K mg base 4 "_law_reads_right" 1 m__law_reads_right) : FnG P w K mg base 6 f fd ["script"] (spM K mg 1 m_law) := by
  exact def_ok Z sc_law fun c A o s H E hr =>
  (mss_cons (ms_for (ps_for PassesOwn.never rfl (mi_range (pi_range1 (by rfl) T.n_range (ma_cons (me_cb (pe_callB (cd_max2 rfl) (by rfl) T.n_max (by decide +kernel) (ma_cons me_int (ma_cons (me_cb (pe_callB (cd_min2 rfl) (by rfl) T.n_min (by decide +kernel) (ma_cons me_int (ma_cons (me_cb (pe_callB cd_len (by rfl) T.n_len (by decide +kernel) (ma_cons (me_var 0) ma_nil))) ma_nil)))) ma_nil)))) ma_nil))) (mg_name (i := 1) sc_law.nd rfl (Or.inl rfl)) (mss_cons (ms_asg (ps_asg (me_call C__law_box (hr.mono (by decide)) (by rfl) (ma_cons (me_call C__law_cell (hr.mono (by decide)) (by rfl) (ma_cons (me_var 0) (ma_cons (me_var 1) ma_nil)) (mcons_len (mcons_len mnil_len))) ma_nil) (mcons_len mnil_len)) (mg_name (i := 2) sc_law.nd rfl (Or.inl rfl))))
  (mss_cons (ms_par (ps_par (i := 6) (j := 7) rfl sc_law.nd rfl rfl (by decide) rfl rfl (ma_cons (me_call C__law_texts (hr.mono (by decide)) (by rfl) (ma_cons (me_var 2) ma_nil) (mcons_len mnil_len)) (ma_cons (me_call C__law_texts (hr.mono (by decide)) (by rfl) (ma_cons (me_var 2) ma_nil) (mcons_len mnil_len)) ma_nil)) (by rfl)))
  (mss_cons (ms_if (mt_w (mw_or (mt_not (mt_val (me_call C__law_frames_right (hr.mono (by decide)) (by rfl) (ma_cons (me_var 6) (ma_cons (me_var 7) ma_nil)) (mcons_len (mcons_len mnil_len))))) (mw_or1 (mt_not (mt_val (me_call C__law_frames_right (hr.mono (by decide)) (by rfl) (ma_cons (me_var 7) (ma_cons (me_var 6) ma_nil)) (mcons_len (mcons_len mnil_len)))))))) (mss_one (ms_ret me_bl)) mss_nil)
  (mss_cons (ms_asg (ps_asg (me_new ma_nil) (mg_name (i := 3) sc_law.nd rfl (Or.inl rfl))))
  (mss_cons (ms_for (ps_for PassesOwn.never rfl (mi_list (pi_list (me_lst (ma_cons (me_var 6) (ma_cons (me_var 7) ma_nil))))) (mg_name (i := 4) sc_law.nd rfl (Or.inl rfl)) (mss_cons (ms_asg (ps_asg (me_call C__law_tail (hr.mono (by decide)) (by rfl) (ma_cons (me_var 2) ma_nil) (mcons_len mnil_len)) (mg_name (i := 8) sc_law.nd rfl (Or.inl rfl))))
  (mss_cons (ms_asg (ps_asg (me_join (pe_join me_str (me_lc (pe_lc (own := [("row", 5)]) rfl sc_law.nd (mi_list (pi_list (me_sl (pe_slice sl3 (me_var 6) mo_none (mo_some (me_call C__law_take (hr.mono (by decide)) (by rfl) (ma_cons (me_var 2) (ma_cons me_int ma_nil)) (mcons_len (mcons_len mnil_len)))))))) (blkOk_by (N := n_law) (sc := defScope s_law) (by decide +kernel)) (fun _ _ _ _ _ => pg_name (i := 5) sc_law.nd rfl (Or.inl rfl)) (fun _ _ _ _ _ => mts_nil) (fun _ _ _ _ _ => (me_call C__law_frame (hr.mono (by decide)) (by rfl) (ma_cons (me_var 5) ma_nil) (mcons_len mnil_len))))))) (mg_name (i := 9) sc_law.nd rfl (Or.inl rfl))))
  (mss_one (ms_drop (ps_expr (me_app (pe_bm PySem.F.plainAttrs_list PySem.F.slot_list_append PySem.F.type_list_append mt_append (me_var 3) (ma_cons (me_bin od_add (me_bin od_add (me_join (pe_join me_str (me_lc (pe_lc (own := [("row", 5)]) rfl sc_law.nd (mi_list (pi_list (me_var 4))) (blkOk_by (N := n_law) (sc := defScope s_law) (by decide +kernel)) (fun _ _ _ _ _ => pg_name (i := 5) sc_law.nd rfl (Or.inl rfl)) (fun _ _ _ _ _ => mts_nil) (fun _ _ _ _ _ => (me_call C__law_frame (hr.mono (by decide)) (by rfl) (ma_cons (me_var 5) ma_nil) (mcons_len mnil_len))))))) (me_var 8)) (me_var 9)) ma_nil))))))))))
  (mss_one (ms_for (ps_for PassesOwn.never rfl (mi_list (pi_list (me_binS od_addS (me_binS od_addS (me_binS od_addS (me_var 3) (me_lst (ma_cons (me_join (pe_join me_str (me_lc (pe_lc (own := [("row", 5)]) rfl sc_law.nd (mi_list (pi_list (me_var 7))) (blkOk_by (N := n_law) (sc := defScope s_law) (by decide +kernel)) (fun _ _ _ _ _ => pg_name (i := 5) sc_law.nd rfl (Or.inl rfl)) (fun _ _ _ _ _ => mts_nil) (fun _ _ _ _ _ => (me_call C__law_frame (hr.mono (by decide)) (by rfl) (ma_cons (me_var 5) ma_nil) (mcons_len mnil_len))))))) ma_nil))) (me_slR (pe_slice sl3 (me_var 3) mo_none (mo_some me_int)))) (me_lst (ma_cons me_str ma_nil))))) (mg_name (i := 5) sc_law.nd rfl (Or.inl rfl)) (mss_one (ms_if (mt_not (mt_val (me_call C__law_reads_right (hr.mono (by decide)) (by rfl) (ma_cons (me_var 5) ma_nil) (mcons_len mnil_len)))) (mss_one (ms_ret me_bl)) mss_nil))))))))))))
  (mss_one (ms_ret me_bl)))
end
end K09

namespace Ln
open PySem PySem.StrLaws L2 M
/-! ### texts as lists of codes -/
abbrev cs (x : Str) : List Nat := x.cps.toList
def mk (l : List Nat) : Str := ⟨l.toArray⟩
theorem cs_mk (l : List Nat) : cs (mk l) = l := by simp [cs, mk]
theorem mk_cs (x : Str) : mk (cs x) = x := by
  obtain ⟨a⟩ := x
  simp [cs, mk]
theorem str_ext {x y : Str} (h : cs x = cs y) : x = y := by rw [← mk_cs x, ← mk_cs y, h]
theorem len_cs (x : Str) : x.length = (cs x).length := by simp [cs, Str.length]
theorem cs_app (x y : Str) : cs (x ++ y) = cs x ++ cs y := by
  show (x.cps ++ y.cps).toList = _
  simp [cs]
/-! ### a sign for a sign -/
theorem repl1 {k : Nat} {z : List Nat} : ∀ l : List Nat, replL [k] z l = l.flatMap fun c => if c = k then z else [c]
  | [] => by rw [replL_nil]; rfl
  | c :: r => by
    have ih := repl1 (k := k) (z := z) r
    by_cases h : c = k
    · rw [replL_hit (by simp) (by simp [h]), List.flatMap_cons, if_pos h]
      show z ++ replL [k] z r = _
      rw [ih]
    · rw [replL_miss (by simp [h]), List.flatMap_cons, if_neg h, ih]
      rfl
def esc1 (c : Nat) : List Nat := if c = 92 then [92, 92] else if c = 34 then [92, 34] else [c]
def esc (l : List Nat) : List Nat := l.flatMap esc1
theorem esc_cons (c : Nat) (r : List Nat) : esc (c :: r) = esc1 c ++ esc r := by rw [esc, List.flatMap_cons]; rfl
theorem esc_eq (l : List Nat) : replL [34] [92, 34] (replL [92] [92, 92] l) = esc l := by
  rw [repl1, repl1, List.flatMap_assoc]
  unfold esc
  congr 1
  funext c
  unfold esc1
  by_cases h : c = 92
  · subst h; rfl
  · rw [if_neg h, if_neg h]
    by_cases h2 : c = 34
    · subst h2; rfl
    · simp [h2]
def dbl2 (l : List Nat) : List Nat := l.flatMap fun c => if c = 92 then [92, 92] else [c]
theorem esc_head {l r : List Nat} {c : Nat} (h : esc l = c :: r) : c ≠ 34 := by
  cases l with
  | nil => cases h
  | cons d t =>
    rw [esc_cons] at h
    unfold esc1 at h
    by_cases h1 : d = 92
    · rw [if_pos h1] at h; cases h; decide
    · rw [if_neg h1] at h
      by_cases h2 : d = 34
      · rw [if_pos h2] at h; cases h; decide
      · rw [if_neg h2] at h; cases h; exact h2
theorem un1 : ∀ l : List Nat, replL [92, 34] [34] (esc l) = dbl2 l
  | [] => by show replL [92, 34] [34] [] = _; rw [replL_nil]; rfl
  | c :: r => by
    have ih := un1 r
    rw [esc_cons]
    have e : dbl2 (c :: r) = (if c = 92 then [92, 92] else [c]) ++ dbl2 r := by unfold dbl2; rw [List.flatMap_cons]
    rw [e]
    unfold esc1
    by_cases h1 : c = 92
    · rw [if_pos h1, if_pos h1]
      show replL [92, 34] [34] (92 :: 92 :: esc r) = 92 :: 92 :: dbl2 r
      rw [replL_miss (by simp), replL_miss, ih]
      cases er : esc r with
      | nil => simp
      | cons d t =>
        have := esc_head er
        simp [this]
    · rw [if_neg h1, if_neg h1]
      by_cases h2 : c = 34
      · rw [if_pos h2]
        subst h2
        show replL [92, 34] [34] (92 :: 34 :: esc r) = 34 :: dbl2 r
        rw [replL_hit (by simp) (by simp)]
        show 34 :: replL [92, 34] [34] (esc r) = _
        rw [ih]
      · rw [if_neg h2]
        show replL [92, 34] [34] (c :: esc r) = c :: dbl2 r
        rw [replL_miss, ih]
        cases er : esc r with
        | nil => simp
        | cons d t => simp [h1]
theorem un2 : ∀ l : List Nat, replL [92, 92] [92] (dbl2 l) = l
  | [] => by show replL [92, 92] [92] [] = _; rw [replL_nil]
  | c :: r => by
    have ih := un2 r
    have e : dbl2 (c :: r) = (if c = 92 then [92, 92] else [c]) ++ dbl2 r := by unfold dbl2; rw [List.flatMap_cons]
    rw [e]
    by_cases h1 : c = 92
    · rw [if_pos h1]
      subst h1
      show replL [92, 92] [92] (92 :: 92 :: dbl2 r) = _
      rw [replL_hit (by simp) (by simp)]
      show 92 :: replL [92, 92] [92] (dbl2 r) = _
      rw [ih]
    · rw [if_neg h1]
      show replL [92, 92] [92] (c :: dbl2 r) = _
      rw [replL_miss, ih]
      cases er : dbl2 r with
      | nil => simp
      | cons d t => simp [h1]
def unesc (l : List Nat) : List Nat := replL [92, 92] [92] (replL [92, 34] [34] l)
theorem unesc_esc (l : List Nat) : unesc (esc l) = l := by unfold unesc; rw [un1, un2]
theorem esc_len (l : List Nat) : (esc l).length ≤ 2 * l.length := by
  induction l with
  | nil => simp [esc]
  | cons c r ih =>
    rw [esc_cons, List.length_append, List.length_cons]
    have : (esc1 c).length ≤ 2 := by unfold esc1; split <;> (try split) <;> simp
    omega
theorem replL_len {y z : List Nat} (h : z.length ≤ y.length) (hy : y ≠ []) : ∀ (n : Nat) (l : List Nat), l.length ≤ n → (replL y z l).length ≤ l.length
  | _, [], _ => by rw [replL_nil]; simp
  | 0, c :: r, hl => by simp at hl
  | n + 1, c :: r, hl => by
    by_cases q : (c :: r).take y.length = y
    · rw [replL_hit hy q, List.length_append]
      have hyl : y.length ≤ (c :: r).length := by rw [← q, List.length_take]; exact Nat.min_le_right _ _
      have hp : 0 < y.length := by cases y with
        | nil => exact absurd rfl hy
        | cons a b => simp
      have hd : ((c :: r).drop y.length).length = (c :: r).length - y.length := List.length_drop
      have ih := replL_len h hy n ((c :: r).drop y.length) (by rw [hd]; simp at hl ⊢; omega)
      rw [hd] at ih
      omega
    · rw [replL_miss q, List.length_cons, List.length_cons]
      have ih := replL_len h hy n r (by simp at hl; omega)
      omega
theorem unesc_len (l : List Nat) : (unesc l).length ≤ l.length :=
  Nat.le_trans (replL_len (by decide) (by decide) _ _ (Nat.le_refl _)) (replL_len (by decide) (by decide) _ _ (Nat.le_refl _))

/-! ### values, and their lines -/
mutual
def valD : D → Bool
  | .non => true
  | .bl _ => true
  | .int i => decide (i.natAbs < 10 ^ 15)
  | .str _ => true
  | .tup ds => decide (ds.length ≤ 100000) && valA ds
  | _ => false
def valA : List D → Bool
  | [] => true
  | d :: ds => valD d && valA ds
end
def numC (i : Int) : List Nat := cs (Str.ofString (toString i))
mutual
def wrD : D → List Nat
  | .non => [126]
  | .bl b => if b then [43] else [33]
  | .int i => numC i
  | .str x => 34 :: esc (cs x) ++ [34]
  | .tup ds => 40 :: wrA ds ++ [41]
  | _ => []
def wrA : List D → List Nat
  | [] => []
  | [d] => wrD d
  | d :: ds => wrD d ++ 32 :: wrA ds
end
end Ln

namespace Ln
open PySem PySem.StrLaws L2 TL M
theorem num_nat (n : Nat) : numC (n : Int) = numL n := tl_num n
theorem sjoin_cs (sep : Str) : ∀ l : List Str, cs (Str.join sep l) = List.flatten ((l.map cs).intersperse (cs sep))
  | [] => rfl
  | [x] => by show cs x = _; simp
  | x :: y :: r => by
    have ih := sjoin_cs sep (y :: r)
    show cs (x ++ sep ++ Str.join sep (y :: r)) = _
    rw [cs_app, cs_app, ih]
    simp [List.intersperse]
theorem join_cs (sep : Str) (l : List Str) : cs (Txt.join sep l) = List.flatten ((l.map cs).intersperse (cs sep)) := by
  have e : Txt.join sep l = Str.join sep l := glued_eq_join sep l
  rw [e, sjoin_cs]
theorem strs_mk : ∀ ls : List (List Nat), strsOf (ls.map fun l => D.str (mk l)) = some (ls.map mk)
  | [] => rfl
  | l :: ls => by
    show (strsOf (ls.map fun l => D.str (mk l))).map (fun y => mk l :: y) = _
    rw [strs_mk ls]; rfl
theorem mk_len (l : List Nat) : (mk l).length = l.length := by rw [len_cs, cs_mk]
theorem mk_app (a b : List Nat) : mk a ++ mk b = mk (a ++ b) := by
  apply str_ext
  rw [cs_app, cs_mk, cs_mk, cs_mk]
theorem one_mk (c : Nat) : (⟨#[c]⟩ : Str) = mk [c] := rfl
theorem mk_inj {a b : List Nat} : mk a = mk b ↔ a = b := ⟨fun h => by rw [← cs_mk a, h, cs_mk], fun h => by rw [h]⟩
theorem drop_get {l : List Nat} {p : Nat} (h : p < l.length) : ∃ c, l[p]? = some c ∧ l.drop p = c :: l.drop (p + 1) := ⟨l[p], List.getElem?_eq_getElem h, List.drop_eq_getElem_cons h⟩
theorem w_while {n : Nat} {t : EtF} {g : StF} {ρ : En} {S : Sto} {O : Out × Sto → Prop} : wp (mWhile n t g ρ S) O ↔ wp (whl t g n ρ S) O := Iff.rfl
theorem e_inC {c : Nat} {z : Str} : inD (.str ⟨#[c]⟩) (.str z) = some (.bl (decide (c ∈ cs z))) := rfl
theorem e_ninC {c : Nat} {z : Str} : ninD (.str ⟨#[c]⟩) (.str z) = some (.bl (!decide (c ∈ cs z))) := rfl
def digs (l : List Nat) : Bool := l.all fun c => decide (48 ≤ c) && decide (c ≤ 57)
theorem digs_all {l : List Nat} : digs l = true ↔ PySem.NumText.AllDigits l := by
  unfold digs PySem.NumText.AllDigits
  rw [List.all_eq_true]
  constructor
  · intro h c hc
    have := h c hc
    simpa using this
  · intro h c hc
    have := h c hc
    simpa using this
theorem isDig_ascii {c : Nat} (h : c < 128) : Unicode.isDigit c = (decide (48 ≤ c) && decide (c ≤ 57)) := by
  have k : ∀ n : _root_.Fin 128, Unicode.isDigit n.val = (decide (48 ≤ n.val) && decide (n.val ≤ 57)) := by decide +kernel
  exact k ⟨c, h⟩
theorem t_digit {x : Str} (h : ∀ c ∈ cs x, c < 128) : Txt.isdigit x = (decide (0 < x.length) && digs (cs x)) := by
  unfold Txt.isdigit digs
  congr 1
  rw [← Array.all_toList]
  have : ∀ l : List Nat, (∀ c ∈ l, c < 128) → l.all Unicode.isDigit = l.all fun c => decide (48 ≤ c) && decide (c ≤ 57) := by
    intro l
    induction l with
    | nil => intro _; rfl
    | cons c r ih =>
      intro hl
      rw [List.all_cons, List.all_cons, ih fun d hd => hl d (List.mem_cons_of_mem _ hd), isDig_ascii (hl c List.mem_cons_self)]
  exact this _ h
theorem str_int {S : Sto} {i : Int} (h : i.natAbs.log2 < 1920) : strD S [.int i] = some (.str (mk (numC i))) := by
  show (if i.natAbs.log2 < 1920 then some (D.str (Str.ofString (toString i))) else none) = _
  rw [if_pos h, numC, mk_cs]
theorem slA {x : Str} {S : Sto} {a k : Nat} (hx : x.length ≤ 1000000) : slD S (.str x) (some ((a : Nat) : Int)) (some ((a + k : Nat) : Int)) = some (.str (mk (((cs x).drop a).take k))) := by
  show (if x.length ≤ 1000000 then some (D.str (cutS x (some (a : Int)) (some ((a + k : Nat) : Int)))) else none) = _
  rw [if_pos hx]
  congr 2
  refine str_ext ?_
  rw [cs_mk]
  unfold cutS
  rw [HT.sIx_nat, HT.sIx_nat]
  show List.take _ (List.drop _ (cs x)) = _
  rw [len_cs]
  generalize cs x = l
  have h1 : l.drop (min a l.length) = l.drop a := by
    by_cases h : a ≤ l.length
    · rw [Nat.min_eq_left h]
    · rw [Nat.min_eq_right (by omega), List.drop_length, List.drop_eq_nil_of_le (by omega)]
  rw [h1]
  by_cases h : a + k ≤ l.length
  · rw [Nat.min_eq_left h, Nat.min_eq_left (by omega)]
    congr 1
    omega
  · rw [Nat.min_eq_right (by omega : l.length ≤ a + k), List.take_of_length_le (i := k) (by rw [List.length_drop]; omega)]
    apply List.take_of_length_le
    rw [List.length_drop]
    omega
theorem lenR {S : Sto} {j : Nat} {xs : List D} (h : S[j]? = some (.lst xs)) : lenD S [.ref j] = some (.int xs.length) := by
  show (match S[j]? with | some (.lst xs) => some (D.int xs.length) | _ => none) = _
  rw [h]
theorem get_set_ne {S : Sto} {i j : Nat} {o o2 : Ob} (h : S[i]? = some o) (n : i ≠ j) : (S.set j o2)[i]? = some o := by
  rw [List.getElem?_set_ne (fun z => n z.symm)]; exact h
theorem get_set_eq {S : Sto} {j : Nat} {o o2 : Ob} (h : S[j]? = some o) : (S.set j o2)[j]? = some o2 := List.getElem?_set_self (lt_of_get h)

theorem numL_dig (n : Nat) : digs (numL n) = true := digs_all.mpr fun c hc => numL_digits n c hc
/-- so many noughts ahead of a number that it has five signs -/
def z5 (n : Nat) : List Nat := List.replicate (5 - (numL n).length) 48 ++ numL n
theorem z5_dig (n : Nat) : digs (z5 n) = true := by
  unfold z5 digs
  rw [List.all_append]
  have h := numL_dig n
  unfold digs at h
  rw [h, Bool.and_true, List.all_replicate]
  split <;> simp
theorem t_zfill {l : List Nat} (h : digs l = true) : Txt.zfill (mk l) 5 = mk (List.replicate (5 - l.length) 48 ++ l) := by
  unfold Txt.zfill
  rw [mk_len]
  by_cases q : (5 : Int) ≤ (l.length : Int)
  · rw [if_pos q, show 5 - l.length = 0 by omega]
    rfl
  · rw [if_neg q]
    have e : (5 : Int).toNat = 5 := rfl
    rw [e]
    have pd : Builtin.Str.padded (mk l) (5 - l.length) 0 48 = mk (List.replicate (5 - l.length) 48 ++ l) := by
      refine str_ext ?_
      rw [cs_mk]
      unfold Builtin.Str.padded cs
      simp [mk]
    unfold zfilled
    have hc : ∀ c, (mk l).cps[0]? = some c → 48 ≤ c := by
      intro c hc
      have e2 : l[0]? = some c := by rw [← hc]; simp [mk]
      have m := List.mem_of_getElem? e2
      have := List.all_eq_true.mp h c m
      simp at this
      exact this.1
    split
    · rename_i e2; have := hc _ e2; omega
    · rename_i e2; have := hc _ e2; omega
    · exact pd
/-- the frame of a text -/
def frL (l : List Nat) : List Nat := z5 l.length ++ 58 :: (l ++ [59])
def fr (x : Str) : Str := mk (frL (cs x))
theorem z5_len {n : Nat} (h : n < 100000) : (z5 n).length = 5 := by
  unfold z5
  have := numL_len (k := 5) (by decide) (show n < 10 ^ 5 from h)
  rw [List.length_append, List.length_replicate]
  omega
theorem frL_len {l : List Nat} (h : l.length < 100000) : (frL l).length = l.length + 7 := by
  unfold frL
  rw [List.length_append, z5_len h, List.length_cons, List.length_append, List.length_singleton]
  omega
theorem dig_sgn {l : List Nat} (h : digs l = true) : l.all sgn = true := by
  unfold digs at h
  rw [List.all_eq_true] at h ⊢
  intro c hc
  have := h c hc
  unfold sgn
  simp at this ⊢
  omega
theorem frL_sgn {l : List Nat} (h : l.all sgn = true) : (frL l).all sgn = true := by
  unfold frL
  rw [List.all_append, dig_sgn (z5_dig _), List.all_cons, List.all_append, h]
  rfl
theorem sgn_lt {l : List Nat} (h : l.all sgn = true) : ∀ c ∈ l, c < 128 := by
  intro c hc
  have := List.all_eq_true.mp h c hc
  unfold sgn at this
  simp at this
  omega
/-! ### adding texts -/
theorem add_mk {a b : List Nat} : addD (.str (mk a)) (.str (mk b)) = if a.length + b.length ≤ 1000000 then some (.str (mk (a ++ b))) else none := by
  rw [e_addS, mk_len, mk_len, mk_app]
theorem mul_mk {a : List Nat} {b : Int} (h : b ≤ 1000000) (h2 : -1000000 ≤ b) (h3 : a.length * b.toNat ≤ 1000000) : mulD (.str (mk a)) (.int b) = some (.str (mk (List.replicate b.toNat a).flatten)) := by
  by_cases q : 1 ≤ b
  · obtain ⟨x, e, hx⟩ := e_mulS (a := mk a) q h (by rw [mk_len]; exact h3)
    rw [e]
    congr 2
    refine str_ext ?_
    rw [cs_mk]
    have : (mk a).cps.toList = a := cs_mk a
    rw [this] at hx
    exact hx
  · have e : mulD (.str (mk a)) (.int b) = if 1 ≤ b ∧ b ≤ 1000000 ∧ (mk a).length * b.toNat ≤ 1000000 then some (.str (if b = 1 ∨ (mk a).length = 0 then (mk a) else smul (mk a) b.toNat)) else if b ≤ 0 ∧ -1000000 ≤ b then some (.str Str.empty) else none := rfl
    rw [e, if_neg (fun z => q z.1), if_pos ⟨by omega, h2⟩, show b.toNat = 0 by omega]
    rfl
theorem flat_rep (n c : Nat) : (List.replicate n [c]).flatten = List.replicate n c := by
  induction n with
  | zero => rfl
  | succ n ih => rw [List.replicate_succ, List.flatten_cons, ih, List.replicate_succ]; rfl
theorem len_mk {S : Sto} {a : List Nat} : lenD S [.str (mk a)] = if a.length ≤ 1000000 then some (.int a.length) else none := by
  rw [e_lenS, mk_len]
/-! ### int of figures -/
theorem int_digs {S : Sto} {l : List Nat} (h : digs l = true) (h1 : l ≠ []) (h2 : l.length ≤ 640) : intS S [.str (mk l)] = some (.int ((PySem.NumText.digitsVal l : Nat) : Int)) := by
  show (if (mk l).length ≤ 640 then (PySem.intText? (mk l)).map D.int else none) = _
  have ecs : (mk l).cps.toList = l := cs_mk l
  rw [if_pos (by rw [mk_len]; exact h2), PySem.intText_digits (x := mk l) (by rw [ecs]; exact digs_all.mp h) (by rw [ecs]; exact h1) (by rw [mk_len]; omega), ecs]
  rfl
/-! ### joins without a text between -/
theorem inter_nil : ∀ ls : List (List Nat), List.flatten (ls.intersperse []) = ls.flatten
  | [] => rfl
  | [a] => rfl
  | a :: b :: r => by
    rw [List.intersperse_cons₂, List.flatten_cons, List.flatten_cons, inter_nil (b :: r)]
    rfl
theorem join_mk {S : Sto} {ls : List (List Nat)} (h : ls.flatten.length ≤ 1000000) : joinD S (.str "") (.lst (ls.map fun l => D.str (mk l))) = some (.str (mk ls.flatten)) := by
  show (strsOf (ls.map fun l => D.str (mk l))).bind _ = _
  rw [strs_mk]
  have e2 : ("" : Str).length = 0 := by decide +kernel
  have e1 : ((ls.map mk).map (·.length)).sum = ls.flatten.length := by
    rw [List.length_flatten, List.map_map]
    have e : ls.map ((fun x : Str => x.length) ∘ mk) = ls.map List.length := List.map_congr_left fun l _ => mk_len l
    exact congrArg List.sum e
  show (if _ then _ else _) = _
  rw [if_pos (by rw [e1, e2]; omega)]
  congr 2
  refine str_ext ?_
  rw [join_cs, cs_mk, show cs ("" : Str) = [] by decide +kernel, inter_nil]
  congr 1
  rw [List.map_map]
  conv => rhs; rw [← List.map_id ls]
  exact List.map_congr_left fun l _ => cs_mk l
end Ln

namespace M
open PySem L2
section
variable {ρ : En} {S : Sto} {Q : D × Sto → Prop} {B : Bool × Sto → Prop} {O : Out × Sto → Prop} {f g h : EvF} {l u : EoF} {s1 : StF}
theorem w_none' : wp (mNone ρ S) O ↔ False := wp_none
theorem w_binS {op : Sto → D → D → Option D} : wp (mBinS op f g ρ S) Q ↔ wp (f ρ S) fun x => wp (g ρ x.2) fun y => wp (op y.2 x.1 y.1) fun z => Q (z, y.2) := by unfold mBinS; simp only [wp_bind, wp_map]
theorem w_islt : wp (mIsLT f ρ S) Q ↔ wp (f ρ S) fun x => wp (tyN x.2 x.1) fun t => Q (.bl (t == "list" || t == "tuple"), x.2) := by unfold mIsLT; simp only [wp_bind, wp_map]
theorem w_zf : wp (mZf f h ρ S) Q ↔ wp (f ρ S) fun x => wp (match x.1 with
  | .str a => (h ρ x.2).bind fun y => match y.1 with
    | .int i => if i ≤ 1000000 ∧ -1000000 ≤ i then some (.str (Txt.zfill a i), y.2) else none
    | _ => none
  | _ => none) Q := by unfold mZf; rw [wp_bind] <;> exact Iff.rfl
theorem w_slR : wp (mSlR f l u ρ S) Q ↔ wp (f ρ S) fun x => wp (l ρ x.2) fun y => wp (u ρ y.2) fun z => wp (lsOf z.2 x.1) fun w => Q (.lst (cut w y.1 z.1), z.2) := by unfold mSlR; simp only [wp_bind, wp_map]
theorem w_forG {sr : SqF} {tg : TgF} : wp (mForG sr tg s1 ρ S) O ↔ wp (sr ρ S) fun x => wp (loopG tg s1 x.1.1 x.1.2 x.1.1 ρ x.2) O := by unfold mForG; simp only [wp_bind] <;> exact Iff.rfl
theorem w_lcG {sr : SqF} {j : Nat} {tt : EtF} {te : EvF} : wp (mLcG sr j tt te ρ S) Q ↔ wp (sr ρ S) fun x => wp (mapG te tt j x.1.1 x.1.2 (ρ.set j none) x.1.1 x.2) fun r => r.1.length ≤ 100000 ∧ Q (.lst r.1, r.2) := by
  unfold mLcG; simp only [wp_bind]
  refine ⟨fun h => wp_mono h fun a q => wp_mono q fun b q => ?_, fun h => wp_mono h fun a q => wp_mono q fun b q => ?_⟩
  · split at q
    · rw [wp_some] at q; exact ⟨by assumption, q⟩
    · rw [wp_none] at q; exact q.elim
  · rw [if_pos q.1, wp_some]; exact q.2
theorem w_sq {L : (List D × Option Nat) × Sto → Prop} : wp (sQ f ρ S) L ↔ wp (f ρ S) fun x => wp (match x.1 with
  | .lst ds => some ((ds, none), x.2)
  | .tup ds => some ((ds, none), x.2)
  | .ref j => (stLst x.2 j).map fun ds => ((ds, some j), x.2)
  | _ => none) L := by unfold sQ; rw [wp_bind] <;> exact Iff.rfl
end
/-- the items of a list, a tuple, a list of the store -/
def SqAt (S : Sto) (d : D) (ds : List D) : Prop := d = .lst ds ∨ d = .tup ds ∨ ∃ j, d = .ref j ∧ S[j]? = some (.lst ds)
theorem SqAt.go {S : Sto} {d : D} {ds : List D} (h : SqAt S d ds) : ∃ g, holdsG g ds S ∧ ∀ {L : (List D × Option Nat) × Sto → Prop}, L ((ds, g), S) → wp (match d with
  | .lst ds => some ((ds, none), S)
  | .tup ds => some ((ds, none), S)
  | .ref j => (stLst S j).map fun ds => ((ds, some j), S)
  | _ => none) L := by
  rcases h with rfl | rfl | ⟨j, rfl, hj⟩
  · exact ⟨none, trivial, fun h => wp_some.mpr h⟩
  · exact ⟨none, trivial, fun h => wp_some.mpr h⟩
  · exact ⟨some j, hj, fun h => by
      show wp ((stLst S j).map _) _
      rw [stLst_of hj]
      exact wp_some.mpr h⟩
theorem SqAt.ty {S : Sto} {d : D} {ds : List D} (h : SqAt S d ds) : ∃ t, tyN S d = some t ∧ (t == "list" || t == "tuple") = true := by
  rcases h with rfl | rfl | ⟨j, rfl, hj⟩
  · exact ⟨"list", rfl, by decide⟩
  · exact ⟨"tuple", rfl, by decide⟩
  · refine ⟨"list", ?_, by decide⟩
    unfold tyN
    simp only [hj]
/-- a walk that changes nothing but names -/
theorem loopG_pure {tg : TgF} {gd : StF} {all : List D} {g : Option Nat} {S : Sto} {O : Out × Sto → Prop} (hG : holdsG g all S) (W : List D → En → Prop) (hd : ∀ ρ, W [] ρ → O (.nx ρ, S))
    (hs : ∀ d ds ρ, W (d :: ds) ρ → wp (tg ρ d) fun ρ1 => wp (gd ρ1 S) fun x => x.2 = S ∧ match x.1 with
      | .nx r => W ds r
      | .ct r => W ds r
      | .bk r => O (.nx r, S)
      | .rt v => O (.rt v, S)) : ∀ (ds : List D) (ρ : En), W ds ρ → wp (loopG tg gd all g ds ρ S) O
  | [], ρ, w => by rw [loopG_nil hG]; exact wp_some.mpr (hd ρ w)
  | d :: ds, ρ, w => by
    rw [loopG_cons hG, wp_bind]
    refine wp_mono (hs d ds ρ w) fun ρ1 q => ?_
    rw [wp_bind]
    refine wp_mono q fun x q => ?_
    obtain ⟨x, S1⟩ := x
    obtain ⟨e, q⟩ := q
    subst e
    cases x with
    | nx r => exact loopG_pure hG W hd hs ds r q
    | ct r => exact loopG_pure hG W hd hs ds r q
    | bk r => exact wp_some.mpr q
    | rt v => exact wp_some.mpr q
/-- a comprehension that changes nothing: each thing gives its own -/
theorem mapG_pure {te : EvF} {j : Nat} {all : List D} {g : Option Nat} {ρ : En} {S : Sto} {k : D → D} (hG : holdsG g all S) : ∀ ds : List D, (∀ d ∈ ds, te (ρ.set j (some d)) S = some (k d, S)) → mapG te mYes j all g ρ ds S = some (ds.map k, S)
  | [], _ => mapG_nil hG
  | d :: ds, h => by
    rw [mapG_cons hG]
    show (Option.bind (te (ρ.set j (some d)) S) _) = _
    rw [h d List.mem_cons_self]
    show (Option.map _ (mapG te mYes j all g ρ ds S)) = _
    rw [mapG_pure hG ds fun x hx => h x (List.mem_cons_of_mem _ hx)]
    rfl
theorem mapL_pure {te : EvF} {j : Nat} {ρ : En} {S : Sto} {k : D → D} : ∀ ds : List D, (∀ d ∈ ds, te (ρ.set j (some d)) S = some (k d, S)) → mapL te mYes j ρ ds S = some (ds.map k, S)
  | [], _ => rfl
  | d :: ds, h => by
    unfold mapL
    show (Option.bind (te (ρ.set j (some d)) S) _) = _
    rw [h d List.mem_cons_self]
    show (Option.map _ (mapL te mYes j ρ ds S)) = _
    rw [mapL_pure ds fun x hx => h x (List.mem_cons_of_mem _ hx)]
    rfl
/-! ### equality of texts and lists of texts -/
def strsD (ls : List (List Nat)) : List D := ls.map fun l => D.str (Ln.mk l)
theorem toPSA_strs (S : Sto) : ∀ ls : List (List Nat), toPSA S (strsD ls) = some (ls.map fun l => PyData.str (Ln.mk l))
  | [] => by rw [strsD, List.map_nil, toPSA]; rfl
  | l :: ls => by
    have ih := toPSA_strs S ls
    unfold strsD at ih ⊢
    rw [List.map_cons, toPSA, ih, toPS]
    rfl
theorem toPA_strs : ∀ ls : List (List Nat), toPA (strsD ls) = some (ls.map fun l => PyData.str (Ln.mk l))
  | [] => by rw [strsD, List.map_nil, toPA]; rfl
  | l :: ls => by
    have ih := toPA_strs ls
    unfold strsD at ih ⊢
    rw [List.map_cons, toPA, ih, toP]
    rfl
theorem lay_strs : ∀ {ls : List (List Nat)}, (∀ l ∈ ls, l.all sgn = true) → PyData.canLayAll0 (ls.map fun l => PyData.str (Ln.mk l)) = true ∧ PyData.depthAll (ls.map fun l => PyData.str (Ln.mk l)) = 0
  | [], _ => ⟨by rw [List.map_nil, PyData.canLayAll0], by rw [List.map_nil, PyData.depthAll]⟩
  | l :: ls, h => by
    obtain ⟨h1, h2⟩ := lay_strs fun x hx => h x (List.mem_cons_of_mem _ hx)
    have hc := Ln.sgn_lt (h l List.mem_cons_self)
    refine ⟨?_, ?_⟩
    · rw [List.map_cons, PyData.canLayAll0, h1, PyData.canLay0, Bool.and_true]
      unfold PyData.strOk
      rw [← Array.all_toList]
      have e : (Ln.mk l).cps.toList = l := Ln.cs_mk l
      rw [e, List.all_eq_true]
      intro c m
      have := hc c m
      simp
      omega
    · rw [List.map_cons, PyData.depthAll, h2, PyData.depth] <;> simp
theorem str_beq {a b : List Nat} : PyData.eqv (.str (Ln.mk a)) (.str (Ln.mk b)) = decide (a = b) := by
  rw [PyData.eqv]
  by_cases h : a = b
  · subst h
    simp
  · have : ¬ Ln.mk a = Ln.mk b := fun z => h (Ln.mk_inj.mp z)
    rw [decide_eq_false h]
    exact beq_false_of_ne this
theorem eqvA_strs : ∀ as bs : List (List Nat), PyData.eqvAll (as.map fun l => PyData.str (Ln.mk l)) (bs.map fun l => PyData.str (Ln.mk l)) = decide (as = bs)
  | [], [] => by rw [List.map_nil, PyData.eqvAll]; rfl
  | [], b :: bs => by rw [List.map_nil, List.map_cons, PyData.eqvAll] <;> simp
  | a :: as, [] => by rw [List.map_nil, List.map_cons, PyData.eqvAll] <;> simp
  | a :: as, b :: bs => by
    rw [List.map_cons, List.map_cons, PyData.eqvAll, str_beq, eqvA_strs as bs]
    by_cases h1 : a = b <;> by_cases h2 : as = bs <;> simp [h1, h2]
theorem shaped_strs {ls : List (List Nat)} (h : ∀ l ∈ ls, l.all sgn = true) : SeqAt.shaped (.list (ls.map fun l => PyData.str (Ln.mk l))) = true := by
  obtain ⟨h1, h2⟩ := lay_strs h
  unfold SeqAt.shaped
  rw [PyData.canLay0, h1, PyData.depth, h2]
  rfl
/-- a pair of a list of texts and a count -/
theorem shaped_pair {ls : List (List Nat)} {i : Int} (h : ∀ l ∈ ls, l.all sgn = true) : SeqAt.shaped (.tuple [.list (ls.map fun l => PyData.str (Ln.mk l)), .int i]) = true := by
  obtain ⟨h1, h2⟩ := lay_strs h
  unfold SeqAt.shaped
  rw [PyData.canLay0, PyData.canLayAll0, PyData.canLayAll0, PyData.canLayAll0, PyData.canLay0, PyData.canLay0, h1, PyData.depth, PyData.depthAll, PyData.depthAll, PyData.depthAll, PyData.depth, PyData.depth, h2]
  all_goals first | rfl | simp
end M

namespace K09
open PySem PySem.StrLaws L2 TL M Ln
local macro_rules | `(tactic| walk_at "go") => `(tactic| simp (maxSteps := 100000000) only [w_def, w_var, w_c, w_bin, w_and, w_or, w_bK, w_not, w_if, w_nil, w_cons, w_tup, w_lst, w_new, w_tv, w_tand, w_tor, w_tnot, w_chain, w_call, w_kw, w_cb, w_ix, w_nop, w_p, w_sl, w_neg, w_ms, w_m1, w_d0, w_app, w_ext, w_pop, w_tr, w_newc, w_s1, w_repl, w_mu, w_addn, w_dget, w_din, w_dget2, w_dictn, w_asgs, w_attr, w_xo, w_lx, w_bx, w_none', w_binS, w_islt, w_zf, w_slR, w_forG, w_lcG, w_sq, len_mk, add_mk, w_sxr, w_xdef, w_xseq, w_xraise, w_xtry, w_qus, w_okf, w_xkw, mxIf, mxCons, mxCallM, mxCall, mxBin, mxTv, mxRet, mxDrop, mxAsg, outX,
  w_ret, w_skip, w_drop, w_asg, w_par, w_ifs, w_seq, w_seti, w_for, w_lc, w_sr, w_sl', w_st, w_ss, w_sz, w_yes, wp_some, wp_none, wp_bind, wp_map, wp_ite,
  List.map_cons, List.map_nil, List.length_cons, List.length_nil, Nat.reduceAdd, Nat.reduceSub, List.replicate_succ, List.replicate_zero, List.cons_append, List.nil_append, List.append_nil,
  List.getElem?_cons_zero, List.getElem?_cons_succ, List.set_cons_zero, List.set_cons_succ, gN, setAll, gT,
  e_addI, e_addT, e_addL, e_subI, e_mulI, e_modI, e_fdvI, e_powI, e_ltI, e_leI, e_gtI, e_geI, e_ltS, e_gtS, e_isB, e_int, e_abs, e_max, e_min, e_lenT, e_lenL, e_lenQ, e_ixT, e_ixL, e_ixQ, e_ixS, e_slT, e_slL, e_slQ, e_listT, e_listL, e_isi, e_eqI, e_eqS, e_neI, e_neS, e_ninS, iI, iB, iS, iT, at0, at1, at2, at3, at4, at5, at6, at7,
  Bool.false_eq_true, if_false, if_true, decide_eq_true_eq, reduceIte, Bool.not_true, Bool.not_false])
/-! ### the program: texts and frames -/
theorem wp_eq {α : Type} {o : Option α} {x : α} (h : wp o fun a => a = x) : o = some x := by
  obtain ⟨a, e, rfl⟩ := h
  exact e
theorem k58 : (":" : Str) = mk [58] := by decide
theorem k59 : (";" : Str) = mk [59] := by decide
theorem k48 : ("0" : Str) = mk [48] := by decide
theorem k0 : ("" : Str) = mk [] := by decide
theorem i_str {x : Str} : isiD (.str x) "str" = some true := rfl
section
variable {S : Sto} {l : List Nat}
theorem log_ok {n : Nat} (h : n < 2 ^ 64) : ((n : Int)).natAbs.log2 < 1920 := by
  rw [Int.natAbs_natCast]
  by_cases z : n = 0
  · subst z; decide
  · rw [Nat.log2_lt z]
    exact Nat.lt_of_lt_of_le h (Nat.pow_le_pow_right (by decide) (by decide))
theorem str_nat {n : Nat} (h : n < 2 ^ 64) : strD S [.int (n : Int)] = some (.str (mk (numL n))) := by
  rw [str_int (log_ok h), num_nat]
theorem p_signs : m_is_signs [.str (mk l)] S = some (.bl (l.all sgn), S) := by
  apply wp_eq
  unfold m_is_signs
  have e := ascii_print (mk l)
  rw [show (mk l).cps.toList = l from cs_mk l] at e
  walk_at "go"
  simp only [i_str]
  walk_at "go"
  refine it2 (fun q => ?_) fun q => ?_
  · rw [← e, q]; rfl
  · have q' : Txt.isascii (mk l) = false := by simpa using q
    rw [← e, q']; rfl
theorem p_text (h : l.length ≤ 1000000) : m_is_text [.str (mk l), .int 80000] S = some (.bl (decide (l.length ≤ 80000) && l.all sgn), S) := by
  apply wp_eq
  unfold m_is_text
  walk_at "go"
  simp only [i_str]
  walk_at "go"
  refine itp h (it2 (fun q => ?_) fun q => ?_)
  · rw [p_signs]
    walk_at "go"
    rw [decide_eq_true (by omega : l.length ≤ 80000)]
    rfl
  · rw [decide_eq_false (by omega : ¬ l.length ≤ 80000)]
    rfl
theorem p_frame (h : l.length ≤ 80000) : m__frame [.str (mk l)] S = some (.str (mk (frL l)), S) := by
  apply wp_eq
  unfold m__frame
  walk_at "go"
  refine itp (by omega) ?_
  rw [str_nat (by omega)]
  walk_at "go"
  refine itp (by decide) ?_
  rw [t_zfill (numL_dig _)]
  have hz : (z5 l.length).length = 5 := z5_len (by omega)
  unfold z5 at hz
  simp only [k58, k59]
  walk_at "go"
  refine itp (by rw [hz]; decide) (itp (by rw [List.length_append, hz]; simp; omega) (itp (by rw [List.length_append, List.length_append, hz]; simp; omega) ?_))
  unfold frL z5
  simp
theorem p_framed (h : l.length ≤ 80000) (ha : l.all sgn = true) : m_framed [.str (mk l)] S = some (.str (mk (frL l)), S) := by
  apply wp_eq
  unfold m_framed
  walk_at "go"
  rw [p_text (by omega), ha, decide_eq_true h]
  walk_at "go"
  rw [p_frame h]
  walk_at "go"
  exact itn (by simp) trivial
/-- texts that have frames -/
def Txts (ls : List (List Nat)) : Prop := ∀ l ∈ ls, l.all sgn = true ∧ l.length ≤ 80000
theorem p_judge {d : D} {ls : List (List Nat)} (h : SqAt S d (strsD ls)) (hl : Txts ls) : m__judge [d] S = some (.non, S) := by
  apply wp_eq
  unfold m__judge
  walk_at "go"
  obtain ⟨t, ht, hb⟩ := h.ty
  rw [ht]
  walk_at "go"
  rw [hb]
  obtain ⟨g, hG, go⟩ := h.go
  refine itn (by simp) (go ?_)
  refine loopG_pure hG (fun ds ρ => ∃ o ls', ρ = [some d, o] ∧ ds = strsD ls' ∧ Txts ls') (fun ρ w => ?_) (fun d' ds ρ w => ?_) _ _ ⟨_, ls, rfl, rfl, hl⟩
  · walk_at "go"
  · obtain ⟨o, ls', rfl, e, h'⟩ := w
    cases ls' with
    | nil => cases e
    | cons l ls' =>
      cases e
      have hx := h' l List.mem_cons_self
      walk_at "go"
      rw [p_text (by omega), hx.1, decide_eq_true hx.2]
      walk_at "go"
      exact ⟨trivial, _, _, rfl, rfl, fun x m => h' x (List.mem_cons_of_mem _ m)⟩
/-- the frames of a list of texts -/
def frs (ls : List (List Nat)) : List Nat := (ls.map frL).flatten
theorem p_all {d : D} {ls : List (List Nat)} (h : SqAt S d (strsD ls)) (hl : Txts ls) (hn : ls.length ≤ 100000) (hz : (frs ls).length ≤ 1000000) : m_all_framed [d] S = some (.str (mk (frs ls)), S) := by
  apply wp_eq
  unfold m_all_framed
  walk_at "go"
  rw [p_judge h hl]
  walk_at "go"
  obtain ⟨g, hG, go⟩ := h.go
  refine go ?_
  have e := mapG_pure (te := mCall m__frame (mCons (mVar 1) mNil)) (j := 1) (ρ := [some d, none]) (all := strsD ls) (k := fun x => match x with | .str z => .str (mk (frL (cs z))) | x => x) hG (strsD ls) (fun x hx => by
    obtain ⟨l, hl', rfl⟩ := List.mem_map.mp hx
    apply wp_eq
    have := hl l hl'
    walk_at "go"
    rw [p_frame this.2]
    walk_at "go"
    rw [cs_mk])
  refine wp_of e ⟨by simpa [strsD] using hn, ?_⟩
  have e2 : (strsD ls).map (fun x => match x with | .str z => D.str (mk (frL (cs z))) | x => x) = (ls.map frL).map fun l => D.str (mk l) := by
    unfold strsD
    rw [List.map_map, List.map_map]
    exact List.map_congr_left fun l _ => by show D.str (mk (frL (cs (mk l)))) = _; rw [cs_mk]; rfl
  dsimp only
  rw [e2, join_mk hz]
  walk_at "go"
  rfl
end
end K09

namespace K09
open PySem PySem.StrLaws L2 TL M Ln
local macro_rules | `(tactic| walk_at "go") => `(tactic| simp (maxSteps := 100000000) only [w_def, w_var, w_c, w_bin, w_and, w_or, w_bK, w_not, w_if, w_nil, w_cons, w_tup, w_lst, w_new, w_tv, w_tand, w_tor, w_tnot, w_chain, w_call, w_kw, w_cb, w_ix, w_nop, w_p, w_sl, w_neg, w_ms, w_m1, w_d0, w_app, w_ext, w_pop, w_tr, w_newc, w_s1, w_repl, w_mu, w_addn, w_dget, w_din, w_dget2, w_dictn, w_asgs, w_attr, w_xo, w_lx, w_bx, w_none', w_binS, w_islt, w_zf, w_slR, w_forG, w_lcG, w_sq, len_mk, add_mk, w_sxr, w_xdef, w_xseq, w_xraise, w_xtry, w_qus, w_okf, w_xkw, mxIf, mxCons, mxCallM, mxCall, mxBin, mxTv, mxRet, mxDrop, mxAsg, outX,
  w_ret, w_skip, w_drop, w_asg, w_par, w_ifs, w_seq, w_seti, w_for, w_lc, w_sr, w_sl', w_st, w_ss, w_sz, w_yes, wp_some, wp_none, wp_bind, wp_map, wp_ite,
  List.map_cons, List.map_nil, List.length_cons, List.length_nil, Nat.reduceAdd, Nat.reduceSub, List.replicate_succ, List.replicate_zero, List.cons_append, List.nil_append, List.append_nil,
  List.getElem?_cons_zero, List.getElem?_cons_succ, List.set_cons_zero, List.set_cons_succ, gN, setAll, gT,
  e_addI, e_addT, e_addL, e_subI, e_mulI, e_modI, e_fdvI, e_powI, e_ltI, e_leI, e_gtI, e_geI, e_ltS, e_gtS, e_isB, e_int, e_abs, e_max, e_min, e_lenT, e_lenL, e_lenQ, e_ixT, e_ixL, e_ixQ, e_ixS, e_slT, e_slL, e_slQ, e_listT, e_listL, e_isi, e_eqI, e_eqS, e_neI, e_neS, e_ninS, iI, iB, iS, iT, at0, at1, at2, at3, at4, at5, at6, at7,
  Bool.false_eq_true, if_false, if_true, decide_eq_true_eq, reduceIte, Bool.not_true, Bool.not_false])
/-! ### where a frame ends -/
open PySem.NumText in
def fsz (l : List Nat) : Option Nat := if (l.take 5 ≠ [] ∧ digs (l.take 5) = true) ∧ (l.drop 5).take 1 = [58] ∧ (l.drop (6 + digitsVal (l.take 5))).take 1 = [59] then some (digitsVal (l.take 5) + 7) else none
theorem fsz_le {l : List Nat} {m : Nat} (h : fsz l = some m) : 7 ≤ m ∧ m ≤ l.length := by
  unfold fsz at h
  split at h
  · rename_i q
    cases h
    have := q.2.2
    have e : ((l.drop (6 + PySem.NumText.digitsVal (l.take 5))).take 1).length = 1 := by rw [this]; rfl
    rw [List.length_take, List.length_drop] at e
    omega
  · cases h
theorem take1 {l : List Nat} {c : Nat} : (mk (l.take 1) = mk [c]) ↔ l.take 1 = [c] := mk_inj
section
variable {S : Sto} {l : List Nat} {p : Nat}
theorem slM {a k : Nat} {b : Int} (hb : b = ((a + k : Nat) : Int)) (h : l.length ≤ 1000000) : slD S (.str (mk l)) (some (a : Int)) (some b) = some (.str (mk ((l.drop a).take k))) := by
  rw [hb, slA (by rw [mk_len]; exact h), cs_mk]
theorem t_dig (ha : l.all sgn = true) : Txt.isdigit (mk l) = (decide (0 < l.length) && digs l) := by
  rw [t_digit (by rw [cs_mk]; exact sgn_lt ha), mk_len, cs_mk]
theorem all_drop {q : Nat → Bool} {l : List Nat} (h : l.all q = true) (n : Nat) : (l.drop n).all q = true := by
  rw [List.all_eq_true] at h ⊢
  exact fun x m => h x (List.mem_of_mem_drop m)
theorem all_take {q : Nat → Bool} {l : List Nat} (h : l.all q = true) (n : Nat) : (l.take n).all q = true := by
  rw [List.all_eq_true] at h ⊢
  exact fun x m => h x (List.mem_of_mem_take m)
theorem p_end (hl : l.length ≤ 80000) (ha : l.all sgn = true) : m__end_of_frame [.str (mk l), .int (p : Int)] S = some (.int ((p + (fsz (l.drop p)).getD 0 : Nat) : Int), S) := by
  apply wp_eq
  unfold m__end_of_frame
  walk_at "go"
  rw [slM (a := p) (k := 5) (by omega) (by omega)]
  walk_at "go"
  have ha5 : ((l.drop p).take 5).all sgn = true := all_take (all_drop ha p) 5
  rw [t_dig ha5, show ((p : Int) + 5) = ((p + 5 : Nat) : Int) by omega, slM (a := p + 5) (k := 1) (by omega) (by omega), k58]
  walk_at "go"
  rw [show ((l.drop (p + 5)).take 1) = ((l.drop p).drop 5).take 1 by rw [List.drop_drop]]
  generalize hL : l.drop p = L at *
  have hLl : L.length ≤ 80000 := by rw [← hL, List.length_drop]; omega
  have no : ∀ q : ¬ ((L.take 5 ≠ [] ∧ digs (L.take 5) = true) ∧ (L.drop 5).take 1 = [58] ∧ (L.drop (6 + PySem.NumText.digitsVal (L.take 5))).take 1 = [59]), (fsz L).getD 0 = 0 := by
    intro q
    unfold fsz
    rw [if_neg q]
    rfl
  refine it2 (fun q => ?_) fun q => ?_
  · rw [no]
    · rfl
    · rintro ⟨⟨h1, h2⟩, _⟩
      have : 0 < (L.take 5).length := List.length_pos_iff.mpr h1
      rw [h2, decide_eq_true this] at q
      simp at q
  · have q1 : (decide (0 < (L.take 5).length) && digs (L.take 5)) = true := by rw [Bool.not_eq_true, Bool.not_eq_false'] at q; exact q
    rw [Bool.and_eq_true, decide_eq_true_eq] at q1
    have hne : L.take 5 ≠ [] := List.length_pos_iff.mp q1.1
    refine it2 (fun q2 => ?_) fun q2 => ?_
    · rw [no]
      · rfl
      · rintro ⟨_, h2, _⟩
        rw [h2] at q2
        simp at q2
    · have h58 : (L.drop 5).take 1 = [58] := by
        have : mk ((L.drop 5).take 1) = mk [58] := by simpa using q2
        exact mk_inj.mp this
      have hv := int_digs (S := S) q1.2 hne (by rw [List.length_take]; omega)
      rw [hv]
      walk_at "go"
      generalize hn : PySem.NumText.digitsVal (L.take 5) = n at *
      refine it2 (fun q3 => ?_) fun q3 => ?_
      · rw [no]
        · rfl
        · rintro ⟨_, _, h3⟩
          have e : ((L.drop (6 + n)).take 1).length = 1 := by rw [h3]; rfl
          rw [List.length_take, List.length_drop] at e
          omega
      · rw [show ((((p + 5 : Nat) : Int) + 1 + (n : Int) + 1) - 1) = ((p + 6 + n : Nat) : Int) by omega, slM (a := p + 6 + n) (k := 1) (by omega) (by omega), k59]
        walk_at "go"
        rw [show ((l.drop (p + 6 + n)).take 1) = (L.drop (6 + n)).take 1 by rw [← hL, List.drop_drop]; congr 2; omega]
        refine it2 (fun q4 => ?_) fun q4 => ?_
        · rw [no]
          · rfl
          · rintro ⟨_, _, h3⟩
            rw [h3] at q4
            simp at q4
        · have h59 : (L.drop (6 + n)).take 1 = [59] := by
            have : mk ((L.drop (6 + n)).take 1) = mk [59] := by simpa using q4
            exact mk_inj.mp this
          have e : fsz L = some (n + 7) := by
            unfold fsz
            rw [hn, if_pos ⟨⟨hne, q1.2⟩, h58, h59⟩]
          rw [e]
          show _ = _
          congr 2
          show _ = ((p + (n + 7) : Nat) : Int)
          omega
end
/-! ### all texts that are found -/
def rd : Nat → List Nat → List (List Nat) × Nat
  | 0, _ => ([], 0)
  | k + 1, l => match fsz l with
    | none => ([], 0)
    | some m => ((l.drop 6).take (m - 7) :: (rd k (l.drop m)).1, m + (rd k (l.drop m)).2)
theorem rd_stop {k : Nat} {l : List Nat} (h : fsz l = none) : rd k l = ([], 0) := by
  cases k with
  | zero => rfl
  | succ k => rw [rd, h]
theorem rd_enough : ∀ {k k' : Nat} {l : List Nat}, l.length < 7 * k → l.length < 7 * k' → rd k l = rd k' l
  | 0, _, l, h, _ => absurd h (by omega)
  | _, 0, l, _, h => absurd h (by omega)
  | k + 1, k' + 1, l, h, h' => by
    rw [rd, rd]
    cases e : fsz l with
    | none => rfl
    | some m =>
      have := fsz_le e
      have ih := rd_enough (k := k) (k' := k') (l := l.drop m) (by rw [List.length_drop]; omega) (by rw [List.length_drop]; omega)
      show (_, _) = (_, _)
      rw [ih]
theorem rd_le : ∀ (k : Nat) (l : List Nat), (rd k l).2 ≤ l.length ∧ 7 * (rd k l).1.length ≤ (rd k l).2
  | 0, l => ⟨Nat.zero_le _, by show 7 * 0 ≤ 0; omega⟩
  | k + 1, l => by
    rw [rd]
    cases e : fsz l with
    | none => exact ⟨Nat.zero_le _, by show 7 * 0 ≤ 0; omega⟩
    | some m =>
      have := fsz_le e
      have ih := rd_le k (l.drop m)
      rw [List.length_drop] at ih
      refine ⟨?_, ?_⟩
      · show m + (rd k (l.drop m)).2 ≤ _
        omega
      · show 7 * ((rd k (l.drop m)).1.length + 1) ≤ m + (rd k (l.drop m)).2
        omega
theorem rd_sgn : ∀ (k : Nat) (l : List Nat), l.all sgn = true → ∀ t ∈ (rd k l).1, t.all sgn = true
  | 0, l, _, t, m => by cases m
  | k + 1, l, h, t, m => by
    rw [rd] at m
    cases e : fsz l with
    | none => rw [e] at m; cases m
    | some z =>
      rw [e] at m
      rcases List.mem_cons.mp m with rfl | m
      · exact all_take (all_drop h _) _
      · exact rd_sgn k _ (all_drop h z) t m
/-- what is found in a text -/
def RD (l : List Nat) : List (List Nat) × Nat := rd (l.length / 7 + 1) l
end K09

namespace K09
open PySem PySem.StrLaws L2 TL M Ln
local macro_rules | `(tactic| walk_at "go") => `(tactic| simp (maxSteps := 100000000) only [w_def, w_var, w_c, w_bin, w_and, w_or, w_bK, w_not, w_if, w_nil, w_cons, w_tup, w_lst, w_new, w_tv, w_tand, w_tor, w_tnot, w_chain, w_call, w_kw, w_cb, w_ix, w_nop, w_p, w_sl, w_neg, w_ms, w_m1, w_d0, w_app, w_ext, w_pop, w_tr, w_newc, w_s1, w_repl, w_mu, w_addn, w_dget, w_din, w_dget2, w_dictn, w_asgs, w_attr, w_xo, w_lx, w_bx, w_none', w_binS, w_islt, w_zf, w_slR, w_forG, w_lcG, w_sq, len_mk, add_mk, w_sxr, w_xdef, w_xseq, w_xraise, w_xtry, w_qus, w_okf, w_xkw, mxIf, mxCons, mxCallM, mxCall, mxBin, mxTv, mxRet, mxDrop, mxAsg, outX,
  w_ret, w_skip, w_drop, w_asg, w_par, w_ifs, w_seq, w_seti, w_for, w_lc, w_sr, w_sl', w_st, w_ss, w_sz, w_yes, wp_some, wp_none, wp_bind, wp_map, wp_ite,
  List.map_cons, List.map_nil, List.length_cons, List.length_nil, Nat.reduceAdd, Nat.reduceSub, List.replicate_succ, List.replicate_zero, List.cons_append, List.nil_append, List.append_nil,
  List.getElem?_cons_zero, List.getElem?_cons_succ, List.set_cons_zero, List.set_cons_succ, gN, setAll, gT,
  e_addI, e_addT, e_addL, e_subI, e_mulI, e_modI, e_fdvI, e_powI, e_ltI, e_leI, e_gtI, e_geI, e_ltS, e_gtS, e_isB, e_int, e_abs, e_max, e_min, e_lenT, e_lenL, e_lenQ, e_ixT, e_ixL, e_ixQ, e_ixS, e_slT, e_slL, e_slQ, e_listT, e_listL, e_isi, e_eqI, e_eqS, e_neI, e_neS, e_ninS, iI, iB, iS, iT, at0, at1, at2, at3, at4, at5, at6, at7,
  Bool.false_eq_true, if_false, if_true, decide_eq_true_eq, reduceIte, Bool.not_true, Bool.not_false])
section
variable {S : Sto} {l : List Nat} {p : Nat}
theorem st_last {xs : List D} : stLst (S ++ [.lst xs]) S.length = some xs := stLst_of (by rw [List.getElem?_append_right (Nat.le_refl _)]; simp)
theorem set_last {a b : Ob} : (S ++ [a]).set S.length b = S ++ [b] := by
  rw [List.set_append_right _ _ (Nat.le_refl _)]
  simp
theorem slM2 {a k : Nat} {lo hi : Int} (h1 : lo = (a : Int)) (h2 : hi = ((a + k : Nat) : Int)) (h : l.length ≤ 1000000) : slD S (.str (mk l)) (some lo) (some hi) = some (.str (mk ((l.drop a).take k))) := by
  rw [h1]
  exact slM h2 h
theorem slN {k : Nat} {hi : Int} (h1 : hi = (k : Int)) (h : l.length ≤ 1000000) : slD S (.str (mk l)) none (some hi) = some (.str (mk (l.take k))) := by
  have e := slM2 (S := S) (l := l) (a := 0) (k := k) (lo := 0) (hi := hi) rfl (by omega) h
  rw [List.drop_zero] at e
  rw [← e]
  rfl
theorem strsD_app (as : List (List Nat)) (t : List Nat) : strsD as ++ [.str (mk t)] = strsD (as ++ [t]) := by
  unfold strsD
  rw [List.map_append]
  rfl
theorem strsD_len (as : List (List Nat)) : (strsD as).length = as.length := List.length_map _
/-- one step of the reading -/
theorem rd_step {m : Nat} (hp : p ≤ l.length) (e : fsz (l.drop p) = some m) : rd (l.length / 7 + 1) (l.drop p) = ((l.drop (p + 6)).take (m - 7) :: (rd (l.length / 7 + 1) (l.drop (p + m))).1, m + (rd (l.length / 7 + 1) (l.drop (p + m))).2) := by
  have hm := fsz_le e
  rw [List.length_drop] at hm
  have e2 : rd (l.length / 7) (l.drop (p + m)) = rd (l.length / 7 + 1) (l.drop (p + m)) := rd_enough (by rw [List.length_drop]; omega) (by rw [List.length_drop]; omega)
  rw [← e2]
  conv => lhs; rw [rd, e]
  show (_, _) = (_, _)
  rw [List.drop_drop, List.drop_drop]
theorem p_frames (hl : l.length ≤ 80000) (ha : l.all sgn = true) : m_frames_in [.str (mk l)] S = some (.tup [.ref S.length, .int ((RD l).2 : Int)], S ++ [.lst (strsD (RD l).1)]) := by
  apply wp_eq
  unfold m_frames_in
  walk_at "go"
  rw [p_signs, ha]
  walk_at "go"
  refine ⟨by decide, ?_⟩
  have e0 := p_end (S := S ++ [.lst []]) (p := 0) hl ha
  rw [show ((0 : Nat) : Int) = 0 from rfl] at e0
  rw [e0]
  walk_at "go"
  rw [w_while]
  let W : Nat → En → Sto → Prop := fun m ρ S' => ∃ p acc, m = l.length - p ∧ p ≤ l.length ∧ ρ = [some (.str (mk l)), some (.ref S.length), some (.int (p : Int)), some (.int ((p + (fsz (l.drop p)).getD 0 : Nat) : Int))] ∧
    S' = S ++ [.lst (strsD acc)] ∧ acc ++ (rd (l.length / 7 + 1) (l.drop p)).1 = (RD l).1 ∧ p + (rd (l.length / 7 + 1) (l.drop p)).2 = (RD l).2
  refine wp_whl W ?_ 100001 l.length _ _ (by omega) ⟨0, [], by omega, Nat.zero_le _, rfl, rfl, rfl, by rw [Nat.zero_add]; rfl⟩
  rintro m ρ S' ⟨p, acc, rfl, hp, rfl, rfl, h1, h2⟩
  walk_at "go"
  cases e : fsz (l.drop p) with
  | none =>
    rw [rd_stop e] at h1 h2
    refine itn (by show ¬ ((p : Int) < ((p + 0 : Nat) : Int)); omega) ?_
    rw [List.append_nil] at h1
    rw [h1, ← h2]
    exact ⟨by decide, rfl⟩
  | some m =>
    have hm := fsz_le e
    rw [List.length_drop] at hm
    rw [rd_step hp e] at h1 h2
    refine itp (by show ((p : Int) < ((p + m : Nat) : Int)); omega) ⟨by omega, ?_⟩
    rw [show (some m).getD 0 = m from rfl]
    simp only [st_last]
    walk_at "go"
    rw [slM2 (a := p + 6) (k := m - 7) (by omega) (by omega) (by omega)]
    walk_at "go"
    try simp only [st_last]
    try walk_at "go"
    have hacc : (strsD acc).length < 100000 := by
      have q := rd_le (l.length / 7 + 1) l
      have q2 : acc.length ≤ (RD l).1.length := by rw [← h1, List.length_append]; omega
      have q3 : 7 * (RD l).1.length ≤ (RD l).2 := q.2
      have q4 : (RD l).2 ≤ l.length := q.1
      rw [strsD_len]
      omega
    refine itp hacc ?_
    try walk_at "go"
    rw [p_end (p := p + m) hl ha]
    walk_at "go"
    refine ⟨l.length - (p + m), by omega, p + m, acc ++ [(l.drop (p + 6)).take (m - 7)], rfl, by omega, rfl, ?_, ?_, ?_⟩
    · rw [set_last, strsD_app]
    · rw [List.append_assoc]; exact h1
    · rw [← h2]; omega
theorem p_whole (hl : l.length ≤ 80000) (ha : l.all sgn = true) : m_is_whole [.str (mk l)] S = some (.bl (decide ((RD l).2 = l.length)), S ++ [.lst (strsD (RD l).1)]) := by
  apply wp_eq
  unfold m_is_whole
  walk_at "go"
  rw [p_signs, ha]
  walk_at "go"
  rw [p_frames hl ha]
  walk_at "go"
  refine itp (by omega) ?_
  congr 2
  exact decide_eq_decide.mpr (by omega)
/-! ### comparing -/
theorem toPS_ls {d : D} {as : List (List Nat)} (h : lsOf S d = some (strsD as)) : toPS S d = some (.list (as.map fun l => PyData.str (mk l))) := by
  cases d <;> try (cases h)
  · rw [toPS, toPSA_strs]; rfl
  · rename_i j
    rw [toPS]
    have h' : stLst S j = some (strsD as) := h
    rw [h']
    show Option.map PyData.list (toPA (strsD as)) = _
    rw [toPA_strs]
    rfl
theorem ne_ls {c d : D} {as bs : List (List Nat)} (h : lsOf S c = some (strsD as)) (h' : lsOf S d = some (strsD bs)) (ha : ∀ l ∈ as, l.all sgn = true) (hb : ∀ l ∈ bs, l.all sgn = true) : neS S c d = some (.bl (!decide (as = bs))) := by
  unfold neS
  rw [toPS_ls h, toPS_ls h']
  show (if _ then _ else _) = _
  rw [if_pos ⟨shaped_strs ha, shaped_strs hb⟩, PyData.eqv, eqvA_strs]
theorem toPS_pr {c : D} {as : List (List Nat)} {i : Int} (h : lsOf S c = some (strsD as)) : toPS S (.tup [c, .int i]) = some (.tuple [.list (as.map fun l => PyData.str (mk l)), .int i]) := by
  rw [toPS, toPSA, toPS_ls h, toPSA, toPSA, toPS]
  rfl
theorem eqv_pr {as bs : List (List Nat)} {i j : Int} : PyData.eqv (.tuple [.list (as.map fun l => PyData.str (mk l)), .int i]) (.tuple [.list (bs.map fun l => PyData.str (mk l)), .int j]) = (decide (as = bs) && decide (i = j)) := by
  have e : PyData.eqv (.list (as.map fun l => PyData.str (mk l))) (.list (bs.map fun l => PyData.str (mk l))) = decide (as = bs) := by rw [PyData.eqv, eqvA_strs]
  have e2 : PyData.eqv (.int i) (.int j) = decide (i = j) := by rw [PyData.eqv]; by_cases h : i = j <;> simp [h]
  rw [PyData.eqv, PyData.eqvAll, PyData.eqvAll, PyData.eqvAll, e, e2, Bool.and_true]
theorem ne_pr {c d : D} {as bs : List (List Nat)} {i j : Int} (h : lsOf S c = some (strsD as)) (h' : lsOf S d = some (strsD bs)) (ha : ∀ l ∈ as, l.all sgn = true) (hb : ∀ l ∈ bs, l.all sgn = true) : neS S (.tup [c, .int i]) (.tup [d, .int j]) = some (.bl (!(decide (as = bs) && decide (i = j)))) := by
  unfold neS
  rw [toPS_pr h, toPS_pr h']
  show (if _ then _ else _) = _
  rw [if_pos ⟨shaped_pair ha, shaped_pair hb⟩, eqv_pr]
theorem eq_pr {c d : D} {as bs : List (List Nat)} {i j : Int} (h : lsOf S c = some (strsD as)) (h' : lsOf S d = some (strsD bs)) (ha : ∀ l ∈ as, l.all sgn = true) (hb : ∀ l ∈ bs, l.all sgn = true) : eqS S (.tup [c, .int i]) (.tup [d, .int j]) = some (.bl (decide (as = bs) && decide (i = j))) := by
  unfold eqS
  rw [toPS_pr h, toPS_pr h']
  show (if _ then _ else _) = _
  rw [if_pos ⟨shaped_pair ha, shaped_pair hb⟩, eqv_pr]
end
end K09

namespace K09
open PySem PySem.StrLaws L2 TL M Ln
local macro_rules | `(tactic| walk_at "go") => `(tactic| simp (maxSteps := 100000000) only [w_def, w_var, w_c, w_bin, w_and, w_or, w_bK, w_not, w_if, w_nil, w_cons, w_tup, w_lst, w_new, w_tv, w_tand, w_tor, w_tnot, w_chain, w_call, w_kw, w_cb, w_ix, w_nop, w_p, w_sl, w_neg, w_ms, w_m1, w_d0, w_app, w_ext, w_pop, w_tr, w_newc, w_s1, w_repl, w_mu, w_addn, w_dget, w_din, w_dget2, w_dictn, w_asgs, w_attr, w_xo, w_lx, w_bx, w_none', w_binS, w_islt, w_zf, w_slR, w_forG, w_lcG, w_sq, len_mk, add_mk, w_sxr, w_xdef, w_xseq, w_xraise, w_xtry, w_qus, w_okf, w_xkw, mxIf, mxCons, mxCallM, mxCall, mxBin, mxTv, mxRet, mxDrop, mxAsg, outX,
  w_ret, w_skip, w_drop, w_asg, w_par, w_ifs, w_seq, w_seti, w_for, w_lc, w_sr, w_sl', w_st, w_ss, w_sz, w_yes, wp_some, wp_none, wp_bind, wp_map, wp_ite,
  List.map_cons, List.map_nil, List.length_cons, List.length_nil, Nat.reduceAdd, Nat.reduceSub, List.replicate_succ, List.replicate_zero, List.cons_append, List.nil_append, List.append_nil,
  List.getElem?_cons_zero, List.getElem?_cons_succ, List.set_cons_zero, List.set_cons_succ, gN, setAll, gT,
  e_addI, e_addT, e_addL, e_subI, e_mulI, e_modI, e_fdvI, e_powI, e_ltI, e_leI, e_gtI, e_geI, e_ltS, e_gtS, e_isB, e_int, e_abs, e_max, e_min, e_lenT, e_lenL, e_lenQ, e_ixT, e_ixL, e_ixQ, e_ixS, e_slT, e_slL, e_slQ, e_listT, e_listL, e_isi, e_eqI, e_eqS, e_neI, e_neS, e_ninS, iI, iB, iS, iT, at0, at1, at2, at3, at4, at5, at6, at7,
  Bool.false_eq_true, if_false, if_true, decide_eq_true_eq, reduceIte, Bool.not_true, Bool.not_false])
/-! ### the law's own reading -/
section
variable {S : Sto} {l : List Nat} {p : Nat}
theorem kdig : cs ("0123456789" : Str) = [48, 49, 50, 51, 52, 53, 54, 55, 56, 57] := by decide +kernel
theorem in_dig {c : Nat} : (c ∈ cs ("0123456789" : Str)) ↔ 48 ≤ c ∧ c ≤ 57 := by
  rw [kdig]
  simp only [List.mem_cons, List.not_mem_nil, or_false]
  omega
theorem map_sg (L : List Nat) : L.map sg = strsD (L.map fun c => [c]) := by
  unfold strsD
  rw [List.map_map]
  rfl
/-- the signs that are no figures -/
theorem p_nodig {ρ : En} {L : List Nat} (hj : 6 < ρ.length) : mapL (mVar 6) (mTv (mBin ninD (mVar 6) (mC (.str "0123456789")))) 6 ρ (L.map sg) S = some ((L.filter fun c => !decide (48 ≤ c ∧ c ≤ 57)).map sg, S) := by
  refine mapL_filter L fun c _ => ?_
  have e : (ρ.set 6 (some (sg c)))[6]? = some (some (sg c)) := by rw [List.getElem?_set_self hj]
  refine ⟨?_, ?_⟩
  · have e2 : ninD (sg c) (.str ("0123456789" : Str)) = some (.bl (!decide (48 ≤ c ∧ c ≤ 57))) := by
      rw [show sg c = .str ⟨#[c]⟩ from rfl, e_ninC]
      congr 3
      exact decide_eq_decide.mpr in_dig
    apply wp_eq
    simp only [w_tv, w_bin, w_var, w_c, e, wp_some, e2]
  · apply wp_eq
    simp only [w_var, e, wp_some]
theorem filt_dig (L : List Nat) : (L.filter fun c => !decide (48 ≤ c ∧ c ≤ 57)).map (fun c => [c]) = [] ↔ digs L = true := by
  rw [List.map_eq_nil_iff, List.filter_eq_nil_iff]
  unfold digs
  rw [List.all_eq_true]
  refine forall_congr' fun c => forall_congr' fun _ => ?_
  simp
theorem ix5 {L : List Nat} {c : Nat} (h : L.length ≤ 1000000) (h5 : L[5]? = some c) : ixD S (.str (mk L)) (.int 5) = some (.str (mk [c])) := by
  have e : ixD S (.str (mk L)) (.int 5) = if (mk L).length ≤ 1000000 then (atI (mk L).cps.toList 5).map fun c => D.str ⟨#[c]⟩ else none := rfl
  rw [e, if_pos (by rw [mk_len]; exact h), show (mk L).cps.toList = L from cs_mk L, show atI L 5 = some c from atI_nat (j := 5) h5]
  rfl
theorem l_read (hl : l.length ≤ 80000) (ha : l.all sgn = true) : m__law_read [.str (mk l)] S = some (.tup [.ref S.length, .int ((RD l).2 : Int)], S ++ [.lst (strsD (RD l).1)]) := by
  apply wp_eq
  unfold m__law_read
  walk_at "go"
  refine ⟨by decide, itp (by omega) ?_⟩
  have h7 : (0 : Int) < 7 ∧ (7 : Int) < 1073741824 := by omega
  have hb : (l.length : Int) / 7 + 1 ≤ 1000000 ∧ -1000000 ≤ (l.length : Int) / 7 + 1 := by omega
  rw [if_pos h7, if_pos hb]
  let W : List D → En → Sto → Prop := fun ds ρ S' => ∃ p acc o1 o4 o5 o6, l.length - p < 7 * ds.length ∧ p ≤ l.length ∧ ρ = [some (.str (mk l)), o1, some (.ref S.length), some (.int (p : Int)), o4, o5, o6] ∧
    S' = S ++ [.lst (strsD acc)] ∧ acc ++ (rd (l.length / 7 + 1) (l.drop p)).1 = (RD l).1 ∧ p + (rd (l.length / 7 + 1) (l.drop p)).2 = (RD l).2
  refine wp_loop W (fun ρ S' w => ?_) (fun d ds ρ S' w => ?_) _ _ _ ⟨0, [], none, none, none, none, ?_, Nat.zero_le _, rfl, rfl, rfl, by rw [Nat.zero_add]; rfl⟩
  · obtain ⟨p, acc, _, _, _, _, h, _⟩ := w
    exact absurd h (by rw [List.length_nil]; omega)
  · obtain ⟨p, acc, o1, o4, o5, o6, hd, hp, rfl, rfl, h1, h2⟩ := w
    rw [List.length_cons] at hd
    walk_at "go"
    rw [slM2 (a := p) (k := 6) rfl (by omega) (by omega)]
    walk_at "go"
    have ret : fsz (l.drop p) = none → (D.tup [D.ref S.length, D.int (p : Int)], S ++ [Ob.lst (strsD acc)]) = (D.tup [D.ref S.length, D.int ((RD l).2 : Int)], S ++ [Ob.lst (strsD (RD l).1)]) := by
      intro e
      rw [rd_stop e] at h1 h2
      rw [List.append_nil] at h1
      rw [h1, ← h2]
      rfl
    generalize hL : l.drop p = L at *
    have hLl : L.length = l.length - p := by rw [← hL, List.length_drop]
    have haL : L.all sgn = true := by rw [← hL]; exact all_drop ha p
    refine itp (by rw [List.length_take]; omega) ?_
    refine it2 (fun q => ?_) fun q => ?_
    · refine ⟨by decide, ret ?_⟩
      unfold fsz
      rw [if_neg]
      rintro ⟨_, h58, h59⟩
      have e : ((L.drop (6 + PySem.NumText.digitsVal (L.take 5))).take 1).length = 1 := by rw [h59]; rfl
      rw [List.length_take, List.length_drop] at e
      rw [List.length_take] at q
      omega
    · have h6 : 6 ≤ L.length := by rw [List.length_take] at q; omega
      have e6 : (L.take 6)[5]? = some L[5] := by
        rw [List.getElem?_take, if_pos (by decide)]
        exact List.getElem?_eq_getElem (by omega)
      refine itp (by rw [mk_len, List.length_take]; omega) ?_
      rw [show (mk (L.take 6)).cps.toList = L.take 6 from cs_mk _, show atI (L.take 6) 5 = some L[5] from atI_nat (j := 5) e6, k58]
      walk_at "go"
      rw [one_mk]
      have t5 : (L.drop 5).take 1 = [L[5]] := by
        rw [List.drop_eq_getElem_cons (by omega)]
        rfl
      refine it2 (fun q2 => ?_) fun q2 => ?_
      · refine ⟨by decide, ret ?_⟩
        unfold fsz
        rw [if_neg]
        rintro ⟨_, h58, _⟩
        rw [t5] at h58
        rw [show mk [L[5]] = mk [58] by rw [h58]] at q2
        simp at q2
      · have c58 : L[5] = 58 := by
          have : mk [L[5]] = mk [58] := by simpa using q2
          simpa using mk_inj.mp this
        rw [slN (k := 5) (hi := 5) rfl (by rw [List.length_take]; omega), show (L.take 6).take 5 = L.take 5 by rw [List.take_take]; rfl]
        walk_at "go"
        rw [show (mk (L.take 5)).cps.toList = L.take 5 from cs_mk _]
        have e7 := p_nodig (S := S ++ [.lst (strsD acc)]) (ρ := [some (.str (mk l)), some d, some (.ref S.length), some (.int (p : Int)), some (.str (mk (L.take 6))), o5, none]) (L := L.take 5) (by show 6 < 7; omega)
        refine wp_of e7 ?_
        refine ⟨?_, ?_⟩
        · rw [List.length_map]
          exact Nat.le_trans (List.length_filter_le _ _) (by rw [List.length_take]; omega)
        refine ⟨by decide, ?_⟩
        dsimp only
        have e9 : neS (S ++ [.lst (strsD acc)]) (.lst (((L.take 5).filter fun c => !decide (48 ≤ c ∧ c ≤ 57)).map sg)) (.lst []) = some (.bl (!decide (((L.take 5).filter fun c => !decide (48 ≤ c ∧ c ≤ 57)).map (fun c => [c]) = []))) := by
          rw [map_sg]
          refine ne_ls (bs := []) rfl rfl (fun x m => ?_) (fun _ m => by cases m)
          obtain ⟨c, hc, rfl⟩ := List.mem_map.mp m
          have := List.all_eq_true.mp (all_take haL 5) c (List.mem_filter.mp hc).1
          rw [List.all_cons, this]; rfl
        rw [e9]
        walk_at "go"
        have hd5 := filt_dig (L.take 5)
        refine it2 (fun q3 => ?_) fun q3 => ?_
        · refine ⟨by decide, ret ?_⟩
          unfold fsz
          rw [if_neg]
          rintro ⟨⟨_, h5⟩, _⟩
          rw [hd5.mpr h5] at q3
          simp at q3
        · have h5 : digs (L.take 5) = true := hd5.mp (by simpa using q3)
          have hne : L.take 5 ≠ [] := List.length_pos_iff.mp (by rw [List.length_take]; omega)
          rw [slN (k := 5) (hi := 5) rfl (by rw [List.length_take]; omega), show (L.take 6).take 5 = L.take 5 by rw [List.take_take]; rfl]
          walk_at "go"
          rw [int_digs h5 hne (by rw [List.length_take]; omega)]
          walk_at "go"
          generalize hn : PySem.NumText.digitsVal (L.take 5) = n at *
          rw [slM2 (a := p + 6 + n) (k := 1) (by omega) (by omega) (by omega), k59]
          walk_at "go"
          rw [show ((l.drop (p + 6 + n)).take 1) = (L.drop (6 + n)).take 1 by rw [← hL, List.drop_drop]; congr 2; omega]
          refine it2 (fun q4 => ?_) fun q4 => ?_
          · refine ⟨by decide, ret ?_⟩
            unfold fsz
            rw [if_neg]
            rintro ⟨_, _, h59⟩
            rw [hn] at h59
            rw [h59] at q4
            simp at q4
          · have h59 : (L.drop (6 + n)).take 1 = [59] := by
              have : mk ((L.drop (6 + n)).take 1) = mk [59] := by simpa using q4
              exact mk_inj.mp this
            have e : fsz L = some (n + 7) := by
              unfold fsz
              rw [hn, if_pos ⟨⟨hne, h5⟩, by rw [t5, c58], h59⟩]
            have hm := fsz_le e
            rw [← hL] at e
            rw [← hL, rd_step hp e] at h1 h2
            simp only [st_last]
            walk_at "go"
            rw [slM2 (a := p + 6) (k := n) (by omega) (by omega) (by omega)]
            walk_at "go"
            try simp only [st_last]
            try walk_at "go"
            have hacc : (strsD acc).length < 100000 := by
              have q := rd_le (l.length / 7 + 1) l
              have q2 : acc.length ≤ (RD l).1.length := by rw [← h1, List.length_append]; omega
              have q3 : 7 * (RD l).1.length ≤ (RD l).2 := q.2
              have q4 : (RD l).2 ≤ l.length := q.1
              rw [strsD_len]
              omega
            refine itp hacc ?_
            try walk_at "go"
            refine ⟨p + (n + 7), acc ++ [(l.drop (p + 6)).take n], some d, some (.str (mk (L.take 6))), some (.int ((p : Int) + 6 + (n : Int))), o6, by omega, by omega, ?_, ?_, ?_, ?_⟩
            · rw [show ((p + (n + 7) : Nat) : Int) = (p : Int) + 6 + (n : Int) + 1 by omega]
            · rw [set_last, strsD_app]
            · rw [List.append_assoc]; exact h1
            · rw [← h2]; omega
  · unfold upto
    rw [List.length_map, List.length_range]
    omega
end
end K09

namespace K09
open PySem PySem.StrLaws L2 TL M Ln
local macro_rules | `(tactic| walk_at "go") => `(tactic| simp (maxSteps := 100000000) only [w_def, w_var, w_c, w_bin, w_and, w_or, w_bK, w_not, w_if, w_nil, w_cons, w_tup, w_lst, w_new, w_tv, w_tand, w_tor, w_tnot, w_chain, w_call, w_kw, w_cb, w_ix, w_nop, w_p, w_sl, w_neg, w_ms, w_m1, w_d0, w_app, w_ext, w_pop, w_tr, w_newc, w_s1, w_repl, w_mu, w_addn, w_dget, w_din, w_dget2, w_dictn, w_asgs, w_attr, w_xo, w_lx, w_bx, w_none', w_binS, w_islt, w_zf, w_slR, w_forG, w_lcG, w_sq, len_mk, add_mk, w_sxr, w_xdef, w_xseq, w_xraise, w_xtry, w_qus, w_okf, w_xkw, mxIf, mxCons, mxCallM, mxCall, mxBin, mxTv, mxRet, mxDrop, mxAsg, outX,
  w_ret, w_skip, w_drop, w_asg, w_par, w_ifs, w_seq, w_seti, w_for, w_lc, w_sr, w_sl', w_st, w_ss, w_sz, w_yes, wp_some, wp_none, wp_bind, wp_map, wp_ite,
  List.map_cons, List.map_nil, List.length_cons, List.length_nil, Nat.reduceAdd, Nat.reduceSub, List.replicate_succ, List.replicate_zero, List.cons_append, List.nil_append, List.append_nil,
  List.getElem?_cons_zero, List.getElem?_cons_succ, List.set_cons_zero, List.set_cons_succ, gN, setAll, gT,
  e_addI, e_addT, e_addL, e_subI, e_mulI, e_modI, e_fdvI, e_powI, e_ltI, e_leI, e_gtI, e_geI, e_ltS, e_gtS, e_isB, e_int, e_abs, e_max, e_min, e_lenT, e_lenL, e_lenQ, e_ixT, e_ixL, e_ixQ, e_ixS, e_slT, e_slL, e_slQ, e_listT, e_listL, e_isi, e_eqI, e_eqS, e_neI, e_neS, e_ninS, iI, iB, iS, iT, at0, at1, at2, at3, at4, at5, at6, at7,
  Bool.false_eq_true, if_false, if_true, decide_eq_true_eq, reduceIte, Bool.not_true, Bool.not_false])
section
variable {S : Sto} {l : List Nat}
theorem isR_lst {j : Nat} {xs : List D} (h : S[j]? = some (.lst xs)) : isR2 S [.ref j, .ty "list"] = some (.bl true) := by
  show (match S[j]? with | some (.lst _) => (isiD (.lst []) "list").map D.bl | some (.dct _) => (isiD (.dct []) "list").map D.bl | _ => none) = _
  rw [h]
  rfl
theorem e_isntB {a b : Bool} : isntD (.bl a) (.bl b) = some (.bl (!decide (a = b))) := rfl
theorem e_eqB {a b : Bool} : eqD (.bl a) (.bl b) = some (.bl (decide (a = b))) := by
  show eqD0 (.bl a) (.bl b) = _
  unfold eqD0
  rw [toP, toP]
  have h : ∀ c : Bool, SeqAt.shaped (.bool c) = true := fun c => by cases c <;> decide +kernel
  show (if SeqAt.shaped (.bool a) = true ∧ SeqAt.shaped (.bool b) = true then some (D.bl (PyData.eqv (.bool a) (.bool b))) else none) = _
  rw [if_pos ⟨h a, h b⟩, PyData.eqv]
  cases a <;> cases b <;> rfl
theorem i_tup {xs : List D} : isiD (.tup xs) "tuple" = some true := rfl
theorem i_int {i : Int} : isiD (.int i) "int" = some true := rfl
theorem i_bool {i : Int} : isiD (.int i) "bool" = some false := rfl
theorem get_at {A : Sto} {o : Ob} {B : Sto} : (A ++ o :: B)[A.length]? = some o := by
  rw [List.getElem?_append_right (Nat.le_refl _)]
  simp
theorem reads (hl : l.length ≤ 80000) (ha : l.all sgn = true) : wp (m__law_reads_right [.str (mk l)] S) fun r => r.1 = .bl true ∧ ∃ G, r.2 = S ++ G := by
  unfold m__law_reads_right
  walk_at "go"
  rw [l_read hl ha]
  walk_at "go"
  rw [p_frames hl ha]
  walk_at "go"
  simp only [i_tup]
  walk_at "go"
  generalize hA : strsD (RD l).1 = A
  have hs : ∀ t ∈ (RD l).1, t.all sgn = true := rd_sgn _ l ha
  have g1 : ((S ++ [Ob.lst A]) ++ [Ob.lst A])[(S ++ [Ob.lst A]).length]? = some (.lst A) := get_at (B := [])
  have g0 : ((S ++ [Ob.lst A]) ++ [Ob.lst A])[S.length]? = some (.lst A) := by
    rw [List.append_assoc]
    exact get_at
  rw [isR_lst g1]
  walk_at "go"
  simp only [i_int, i_bool]
  walk_at "go"
  have e1 : lsOf ((S ++ [Ob.lst A]) ++ [Ob.lst A]) (.ref (S ++ [Ob.lst A]).length) = some (strsD (RD l).1) := by rw [hA]; exact stLst_of g1
  have e0 : lsOf ((S ++ [Ob.lst A]) ++ [Ob.lst A]) (.ref S.length) = some (strsD (RD l).1) := by rw [hA]; exact stLst_of g0
  rw [ne_pr e1 e0 hs hs]
  walk_at "go"
  refine itn (by simp) ?_
  rw [stLst_of g1]
  walk_at "go"
  have hA2 : A.length < 100000 := by
    rw [← hA, strsD_len]
    have q := rd_le (l.length / 7 + 1) l
    have q3 : 7 * (RD l).1.length ≤ (RD l).2 := q.2
    have q4 : (RD l).2 ≤ l.length := q.1
    omega
  refine itp hA2 ?_
  rw [set_last]
  rw [p_whole hl ha]
  walk_at "go"
  simp only [e_isntB]
  walk_at "go"
  have fin : wp (m_frames_in [.str (mk l)] (S ++ [Ob.lst A] ++ [Ob.lst (A ++ [D.str (Str.ofString "00000:;")])] ++ [Ob.lst (strsD (RD l).1)])) fun x =>
      wp (eqS x.2 x.1 (D.tup [D.ref (List.length S), D.int ((RD l).2 : Int)])) fun z =>
        wp (bK z (mAnd (mBin eqD (mVar 1) (mBin eqD (mIx (mVar 2) (mC (D.int 1))) (mCb lenD (mCons (mVar 0) mNil)))) (mBin eqD (mKw m_is_whole (mVar 0)) (mVar 1))
            [some (D.str (mk l)), some (D.bl (decide ((RD l).2 = l.length))), some (D.tup [D.ref (List.length S), D.int ((RD l).2 : Int)]), some (D.tup [D.ref (List.length (S ++ [Ob.lst A])), D.int ((RD l).2 : Int)])] x.2)
          (some (D.bl false, x.2))) fun r => r.1 = D.bl true ∧ ∃ G, r.2 = S ++ G := by
    rw [p_frames hl ha]
    walk_at "go"
    generalize hS3 : S ++ [Ob.lst A] ++ [Ob.lst (A ++ [D.str (Str.ofString "00000:;")])] ++ [Ob.lst (strsD (RD l).1)] = S3
    have f1 : lsOf (S3 ++ [Ob.lst (strsD (RD l).1)]) (.ref S3.length) = some (strsD (RD l).1) := stLst_of (get_at (B := []))
    have f0 : lsOf (S3 ++ [Ob.lst (strsD (RD l).1)]) (.ref S.length) = some (strsD (RD l).1) := by
      rw [← hS3, hA]
      simp only [List.append_assoc, List.cons_append, List.nil_append]
      exact stLst_of get_at
    rw [eq_pr f1 f0 hs hs]
    walk_at "go"
    refine itp (by simp) (itp (by omega) ?_)
    simp only [e_eqB]
    walk_at "go"
    have hd : decide (((RD l).2 : Int) = (l.length : Int)) = decide ((RD l).2 = l.length) := decide_eq_decide.mpr (by omega)
    rw [hd]
    refine itp (by simp) ?_
    rw [p_whole hl ha]
    walk_at "go"
    simp only [e_eqB]
    walk_at "go"
    refine ⟨by simp, ?_⟩
    rw [← hS3]
    simp only [List.append_assoc]
    exact ⟨_, rfl⟩
  refine it2 (fun q => itn ?_ fin) fun q => fin
  · cases h : decide ((RD l).2 = l.length) <;> simp [h] at q ⊢
/-! ### frames, by the law and by the program -/
theorem l_frame (h : l.length ≤ 80000) : m__law_frame [.str (mk l)] S = some (.str (mk (frL l)), S) := by
  apply wp_eq
  unfold m__law_frame
  walk_at "go"
  refine itp (by omega) ?_
  rw [str_nat (by omega)]
  walk_at "go"
  have hz : (z5 l.length).length = 5 := z5_len (by omega)
  have hz' := hz
  unfold z5 at hz
  rw [List.length_append, List.length_replicate] at hz
  refine itp (by omega) ?_
  rw [k48, mul_mk (by omega) (by omega) (by simp; omega), flat_rep, show (5 - ((numL l.length).length : Int)).toNat = 5 - (numL l.length).length by omega]
  simp only [k58, k59]
  walk_at "go"
  have e : List.replicate (5 - (numL l.length).length) 48 ++ numL l.length = z5 l.length := rfl
  refine itp (by rw [List.length_replicate]; omega) ?_
  rw [e]
  refine itp (by rw [hz']; decide) (itp (by rw [List.length_append, hz']; simp; omega) (itp (by rw [List.length_append, List.length_append, hz']; simp; omega) ?_))
  unfold frL
  simp
theorem kx : ("x" : Str) = mk [120] := by decide
theorem joinL {j : Nat} {ρ : En} {ls : List (List Nat)} (hj : j < ρ.length) (hl : Txts ls) : mapL (mCall m__law_frame (mCons (mVar j) mNil)) mYes j ρ (strsD ls) S = some ((ls.map frL).map fun l => D.str (mk l), S) := by
  have e := mapL_pure (te := mCall m__law_frame (mCons (mVar j) mNil)) (j := j) (ρ := ρ) (S := S) (k := fun x => match x with | .str z => .str (mk (frL (cs z))) | x => x) (strsD ls) (fun x hx => by
    obtain ⟨l, hl', rfl⟩ := List.mem_map.mp hx
    apply wp_eq
    have := hl l hl'
    have e1 : (ρ.set j (some (D.str (mk l))))[j]? = some (some (D.str (mk l))) := List.getElem?_set_self hj
    simp only [w_call, w_cons, w_var, w_nil, e1, wp_some]
    rw [l_frame this.2, wp_some]
    show (D.str (mk (frL l)), S) = (D.str (mk (frL (cs (mk l)))), S)
    rw [cs_mk])
  rw [e]
  congr 2
  unfold strsD
  rw [List.map_map, List.map_map]
  exact List.map_congr_left fun l _ => by show D.str (mk (frL (cs (mk l)))) = _; rw [cs_mk]; rfl
theorem frs_app (as bs : List (List Nat)) : frs (as ++ bs) = frs as ++ frs bs := by
  unfold frs
  rw [List.map_append, List.flatten_append]
theorem frs_one (a : List Nat) : frs [a] = frL a := by
  unfold frs
  simp
theorem strsD_app2 (as bs : List (List Nat)) : strsD as ++ strsD bs = strsD (as ++ bs) := (List.map_append).symm
theorem frames_ok {as bs : List (List Nat)} (hA : Txts as) (hB : Txts bs) (nA : as.length ≤ 1000) (nB : bs.length ≤ 1000) (zA : (frs as).length ≤ 400000) (zB : (frs bs).length ≤ 400000) :
    wp (m__law_frames_right [.lst (strsD as), .lst (strsD bs)] S) fun r => r.1 = .bl true ∧ ∃ G, r.2 = S ++ G := by
  unfold m__law_frames_right
  walk_at "go"
  let W : List D → En → Sto → Prop := fun ds ρ S' => ∃ o ls, ds = strsD ls ∧ Txts ls ∧ ρ = [some (.lst (strsD as)), some (.lst (strsD bs)), o, none, none, none] ∧ S' = S
  refine wp_loop W (fun ρ S' w => ?_) (fun d ds ρ S' w => ?_) _ _ _ ⟨none, as, rfl, hA, rfl, rfl⟩
  · obtain ⟨o, ls, _, _, rfl, rfl⟩ := w
    walk_at "go"
    refine wp_of (joinL (by show 2 < 6; omega) hA) ⟨by rw [List.length_map, List.length_map]; omega, ?_⟩
    dsimp only
    have jn : ∀ S0 : Sto, joinD S0 (.str (Str.ofString "")) (.lst ((as.map frL).map fun l => D.str (mk l))) = some (.str (mk (frs as))) := fun S0 => join_mk (S := S0) (ls := as.map frL) (Nat.le_trans zA (by decide))
    rw [jn]
    walk_at "go"
    have nd : ∀ {ls : List (List Nat)}, Txts ls → ∀ l ∈ ls, l.all sgn = true := fun h l m => (h l m).1
    have g0 : (S' ++ [Ob.lst (strsD as)])[S'.length]? = some (.lst (strsD as)) := get_at (B := [])
    rw [p_all (.inr (.inr ⟨_, rfl, g0⟩)) hA (by omega) (by omega)]
    walk_at "go"
    simp only [i_str]
    walk_at "go"
    refine itn (by simp) ?_
    have l0 : lsOf (S' ++ [Ob.lst (strsD as)]) (.ref S'.length) = some (strsD as) := stLst_of g0
    rw [ne_ls l0 (show lsOf (S' ++ [Ob.lst (strsD as)]) (.lst (strsD as)) = some (strsD as) from rfl) (nd hA) (nd hA)]
    walk_at "go"
    refine itn (by simp) ?_
    have et : ∀ S0 : Sto, tupD S0 [.lst (strsD as)] = some (.tup (strsD as)) := fun _ => rfl
    rw [et]
    walk_at "go"
    rw [p_all (.inr (.inl rfl)) hA (by omega) (by omega)]
    walk_at "go"
    refine itn (by simp) ?_
    rw [stLst_of g0]
    walk_at "go"
    refine itp (by rw [strsD_len]; omega) ?_
    rw [set_last, kx, strsD_app]
    have hX : Txts (as ++ [[120]]) := fun l m => by
      rcases List.mem_append.mp m with m | m
      · exact hA l m
      · rw [List.mem_singleton.mp m]; exact ⟨by decide, by decide⟩
    have hfx : (frL [120]).length = 8 := frL_len (by decide)
    have g1 : (S' ++ [Ob.lst (strsD (as ++ [[120]]))])[S'.length]? = some (.lst (strsD (as ++ [[120]]))) := get_at (B := [])
    rw [p_all (.inr (.inr ⟨_, rfl, g1⟩)) hX (by rw [List.length_append]; simp; omega) (by rw [frs_app, frs_one, List.length_append]; omega)]
    walk_at "go"
    rw [l_frame (by decide)]
    walk_at "go"
    refine itp (by omega) ?_
    rw [frs_app, frs_one]
    refine itn (by simp) (itp (by rw [strsD_len, strsD_len]; omega) ?_)
    rw [strsD_app2]
    have hAB : Txts (as ++ bs) := fun l m => (List.mem_append.mp m).elim (hA l) (hB l)
    rw [p_all (.inl rfl) hAB (by rw [List.length_append]; omega) (by rw [frs_app, List.length_append]; omega)]
    walk_at "go"
    rw [p_all (.inl rfl) hB (by omega) (by omega)]
    walk_at "go"
    refine itp (by omega) ?_
    rw [frs_app]
    exact ⟨by simp, _, rfl⟩
  · obtain ⟨o, ls, e, h, rfl, rfl⟩ := w
    cases ls with
    | nil => cases e
    | cons l ls =>
      cases e
      have hx := h l List.mem_cons_self
      walk_at "go"
      rw [p_framed hx.2 hx.1]
      walk_at "go"
      rw [l_frame hx.2]
      walk_at "go"
      refine itn (by simp) ?_
      rw [p_framed hx.2 hx.1]
      walk_at "go"
      rw [l_frame hx.2]
      walk_at "go"
      exact itn (by simp) ⟨_, ls, rfl, fun x m => h x (List.mem_cons_of_mem _ m), rfl, rfl⟩
end
end K09

namespace K09
open PySem PySem.StrLaws L2 TL M Ln
local macro_rules | `(tactic| walk_at "go") => `(tactic| simp (maxSteps := 100000000) only [w_def, w_var, w_c, w_bin, w_and, w_or, w_bK, w_not, w_if, w_nil, w_cons, w_tup, w_lst, w_new, w_tv, w_tand, w_tor, w_tnot, w_chain, w_call, w_kw, w_cb, w_ix, w_nop, w_p, w_sl, w_neg, w_ms, w_m1, w_d0, w_app, w_ext, w_pop, w_tr, w_newc, w_s1, w_repl, w_mu, w_addn, w_dget, w_din, w_dget2, w_dictn, w_asgs, w_attr, w_xo, w_lx, w_bx, w_none', w_binS, w_islt, w_zf, w_slR, w_forG, w_lcG, w_sq, len_mk, add_mk, w_sxr, w_xdef, w_xseq, w_xraise, w_xtry, w_qus, w_okf, w_xkw, mxIf, mxCons, mxCallM, mxCall, mxBin, mxTv, mxRet, mxDrop, mxAsg, outX,
  w_ret, w_skip, w_drop, w_asg, w_par, w_ifs, w_seq, w_seti, w_for, w_lc, w_sr, w_sl', w_st, w_ss, w_sz, w_yes, wp_some, wp_none, wp_bind, wp_map, wp_ite,
  List.map_cons, List.map_nil, List.length_cons, List.length_nil, Nat.reduceAdd, Nat.reduceSub, List.replicate_succ, List.replicate_zero, List.cons_append, List.nil_append, List.append_nil,
  List.getElem?_cons_zero, List.getElem?_cons_succ, List.set_cons_zero, List.set_cons_succ, gN, setAll, gT,
  e_addI, e_addT, e_addL, e_subI, e_mulI, e_modI, e_fdvI, e_powI, e_ltI, e_leI, e_gtI, e_geI, e_ltS, e_gtS, e_isB, e_int, e_abs, e_max, e_min, e_lenT, e_lenL, e_lenQ, e_ixT, e_ixL, e_ixQ, e_ixS, e_slT, e_slL, e_slQ, e_listT, e_listL, e_isi, e_eqI, e_eqS, e_neI, e_neS, e_ninS, iI, iB, iS, iT, at0, at1, at2, at3, at4, at5, at6, at7,
  Bool.false_eq_true, if_false, if_true, decide_eq_true_eq, reduceIte, Bool.not_true, Bool.not_false])
/-! ### draws -/
/-- a box: what is left of a great cell, whether it is one, the rest of it, how many draws were mixed -/
def Bx (S : Sto) (j : Nat) (n : Int) : Prop := ∃ g f c d, S[j]? = some (.lst [.int g, .bl f, .int c, .int d]) ∧ 0 ≤ c ∧ c < 2147483629 ∧ 0 ≤ d ∧ d ≤ n
theorem Bx.mono {S : Sto} {j : Nat} {n m : Int} (h : Bx S j n) (l : n ≤ m) : Bx S j m := by
  obtain ⟨g, f, c, d, h1, h2, h3, h4, h5⟩ := h
  exact ⟨g, f, c, d, h1, h2, h3, h4, Int.le_trans h5 l⟩
section
variable {S : Sto} {j : Nat} {a b c d x : D}
theorem ix0 (h : S[j]? = some (.lst [a, b, c, d])) : ixD S (.ref j) (.int 0) = some a := by simp only [ixD, h]; rfl
theorem ix1 (h : S[j]? = some (.lst [a, b, c, d])) : ixD S (.ref j) (.int 1) = some b := by simp only [ixD, h]; rfl
theorem ix2 (h : S[j]? = some (.lst [a, b, c, d])) : ixD S (.ref j) (.int 2) = some c := by simp only [ixD, h]; rfl
theorem ix3 (h : S[j]? = some (.lst [a, b, c, d])) : ixD S (.ref j) (.int 3) = some d := by simp only [ixD, h]; rfl
theorem st0 (h : S[j]? = some (.lst [a, b, c, d])) : stSet S j 0 x = some (S.set j (.lst [x, b, c, d])) := by simp only [stSet, h]; rfl
theorem st3 (h : S[j]? = some (.lst [a, b, c, d])) : stSet S j 3 x = some (S.set j (.lst [a, b, c, x])) := by simp only [stSet, h]; rfl
theorem set_at {o : Ob} (h : S[j]? = some (.lst [a, b, c, d])) : (S.set j o)[j]? = some o := List.getElem?_set_self (lt_of_get h)
end

/-- only the box has changed -/
structure BO (j : Nat) (S S' : Sto) : Prop where
  len : S'.length = S.length
  at_ : ∀ i, i ≠ j → S'[i]? = S[i]?
theorem BO.set {j : Nat} {S : Sto} {o : Ob} : BO j S (S.set j o) := ⟨by simp, fun i h => List.getElem?_set_ne (fun z => h z.symm)⟩
theorem BO.setset {j : Nat} {S : Sto} {o p : Ob} : BO j S ((S.set j o).set j p) := ⟨by simp, fun i h => by rw [List.getElem?_set_ne (fun z => h z.symm), List.getElem?_set_ne (fun z => h z.symm)]⟩
theorem BO.refl {j : Nat} {S : Sto} : BO j S S := ⟨rfl, fun _ _ => rfl⟩
theorem BO.trans {j : Nat} {S S' S2 : Sto} (a : BO j S S') (b : BO j S' S2) : BO j S S2 := ⟨b.len.trans a.len, fun i h => (b.at_ i h).trans (a.at_ i h)⟩
theorem take_spec2 {S : Sto} {j : Nat} {n m : Int} {Q : D × Sto → Prop} (B : Bx S j n) (hm : 0 < m) (hm2 : m < 1000000) (hn : n ≤ 1000000000) (h : ∀ r S', 0 ≤ r → r < m → Bx S' j (n + 1) → BO j S S' → Q (.int r, S')) : wp (m__law_take [.ref j, .int m] S) Q := by
  obtain ⟨g, f, c, d, hS, c0, c1, d0, d1⟩ := B
  have hS2 : ∀ o, (S.set j o)[j]? = some o := fun o => set_at hS
  have i2 : ∀ x y z w, ixD (S.set j (.lst [x, y, z, w])) (.ref j) (.int 2) = some z := fun x y z w => ix2 (hS2 _)
  have i3 : ∀ x y z w, ixD (S.set j (.lst [x, y, z, w])) (.ref j) (.int 3) = some w := fun x y z w => ix3 (hS2 _)
  by_cases fg : f = true ∧ 0 < g
  · obtain ⟨rfl, g0⟩ := fg
    unfold m__law_take
    repeat (first | walk_at "go" | simp only [ix0 hS, ix1 hS, ix2 hS, ix3 hS, st0 hS, st3 hS, hS2, if_pos g0])
    refine itp hm (itp ⟨hm, by omega⟩ ?_)
    exact h _ _ (Int.emod_nonneg _ (by omega)) (Int.emod_lt_of_pos _ hm) ⟨_, _, c, d, hS2 _, c0, c1, d0, by omega⟩ BO.set
  · have key : ∀ (O : Out × Sto → Prop) (t : EtF) (s1 s2 : StF) (ρ : En), (∀ B : Bool × Sto → Prop, B (false, S) → wp (t ρ S) B) → wp (s2 ρ S) O → wp (mIfS t s1 s2 ρ S) O := by
      intro O t s1 s2 ρ h1 h2
      rw [w_ifs]
      exact h1 _ (itn (by simp) h2)
    unfold m__law_take
    rw [w_def, w_seq]
    refine key _ _ _ _ _ (fun B hB => ?_) ?_
    · repeat (first | walk_at "go" | simp only [ix0 hS, ix1 hS, ix2 hS, ix3 hS, st0 hS, st3 hS, hS2])
      cases f with
      | false => exact itn (by simp) hB
      | true =>
        have : ¬ 0 < g := fun q => fg ⟨rfl, q⟩
        refine itp rfl ?_
        rw [decide_eq_false this]
        exact hB
    · repeat (first | walk_at "go" | simp only [i2, i3, ix0 hS, ix1 hS, ix2 hS, ix3 hS, st0 hS, st3 hS, hS2])
      refine itp (.inl (by decide)) (itp ⟨by decide, by decide, by omega⟩ (itp (by decide) ?_))
      refine itp (.inr (by decide)) ?_
      repeat (first | walk_at "go" | simp only [i2, i3, ix0 hS, ix1 hS, ix2 hS, ix3 hS, st0 hS, st3 hS, hS2])
      refine itp (.inl (by decide)) ?_
      generalize hx : (c + 15485863 * (d + 1) + 179424697) ^ (5 : Int).toNat % 2147483647 = x
      have x0 : 0 ≤ x := by rw [← hx]; exact Int.emod_nonneg _ (by decide)
      have x1 : x < 2147483647 := by rw [← hx]; exact Int.emod_lt_of_pos _ (by decide)
      refine itp ⟨by decide, by decide, by omega⟩ (itp (by decide) (itp ⟨by decide, by decide⟩ (itp hm ?_)))
      exact h _ _ (Int.emod_nonneg _ (by omega)) (Int.emod_lt_of_pos _ hm) ⟨g, f, c, d + 1, hS2 _, c0, c1, by omega, by omega⟩ BO.set

section
variable {S : Sto} {j : Nat} {n : Int}
theorem intsOf_map : ∀ ns : List Int, intsOf (ns.map .int) = some ns
  | [] => rfl
  | n :: ns => by
    show (intsOf (ns.map .int)).map _ = _
    rw [intsOf_map ns]
    rfl
theorem cut_map {α β : Type} {f : α → β} {xs : List α} {lo hi : Option Int} : cut (xs.map f) lo hi = (cut xs lo hi).map f := by
  unfold cut
  rw [List.length_map, List.map_take, List.map_drop]
theorem cell_spec {ns : List Int} {k : Int} {Q : D × Sto → Prop} (k0 : 0 ≤ k) (h : ∀ r, Q (.int r, S)) : wp (m__law_cell [.seq (ns.map .int), .int k] S) Q := by
  unfold m__law_cell
  walk_at "go"
  rw [List.length_map]
  refine it2 (fun q => wp_at k0 (by simpa using q) fun d hd => ?_) fun q => itp (.inl (by decide)) ?_
  · obtain ⟨r, _, rfl⟩ := List.mem_map.mp hd
    exact h r
  · rw [cut_map]
    have e : sumD S [.lst ((cut ns none (some 1)).map .int)] = some (.int (cut ns none (some 1)).sum) := by
      show (intsOf _).map _ = _
      rw [intsOf_map]
      rfl
    rw [e]
    walk_at "go"
    exact itp (by decide) (h _)

theorem box_spec {g : Int} {Q : D × Sto → Prop} (h : ∀ o, Bx (S ++ [o]) S.length 0 → Q (.ref S.length, S ++ [o])) : wp (m__law_box [.int g] S) Q := by
  unfold m__law_box
  walk_at "go"
  refine itp (by decide) (itp (by decide) ⟨by decide, ?_⟩)
  have e : ∀ o : Ob, (S ++ [o])[S.length]? = some o := fun o => by
    rw [List.getElem?_append_right (Nat.le_refl _)]
    simp
  exact h _ ⟨(if g < 0 then -g else g), decide (10 ^ Int.toNat 18 ≤ if g < 0 then -g else g), (if g < 0 then -g else g) % 2147483629, 0, e _, Int.emod_nonneg _ (by decide), Int.emod_lt_of_pos _ (by decide), by decide, by decide⟩
end
end K09

namespace K09
open PySem PySem.StrLaws L2 TL M Ln
local macro_rules | `(tactic| walk_at "go") => `(tactic| simp (maxSteps := 100000000) only [w_def, w_var, w_c, w_bin, w_and, w_or, w_bK, w_not, w_if, w_nil, w_cons, w_tup, w_lst, w_new, w_tv, w_tand, w_tor, w_tnot, w_chain, w_call, w_kw, w_cb, w_ix, w_nop, w_p, w_sl, w_neg, w_ms, w_m1, w_d0, w_app, w_ext, w_pop, w_tr, w_newc, w_s1, w_repl, w_mu, w_addn, w_dget, w_din, w_dget2, w_dictn, w_asgs, w_attr, w_xo, w_lx, w_bx, w_none', w_binS, w_islt, w_zf, w_slR, w_forG, w_lcG, w_sq, len_mk, add_mk, w_sxr, w_xdef, w_xseq, w_xraise, w_xtry, w_qus, w_okf, w_xkw, mxIf, mxCons, mxCallM, mxCall, mxBin, mxTv, mxRet, mxDrop, mxAsg, outX,
  w_ret, w_skip, w_drop, w_asg, w_par, w_ifs, w_seq, w_seti, w_for, w_lc, w_sr, w_sl', w_st, w_ss, w_sz, w_yes, wp_some, wp_none, wp_bind, wp_map, wp_ite,
  List.map_cons, List.map_nil, List.length_cons, List.length_nil, Nat.reduceAdd, Nat.reduceSub, List.replicate_succ, List.replicate_zero, List.cons_append, List.nil_append, List.append_nil,
  List.getElem?_cons_zero, List.getElem?_cons_succ, List.set_cons_zero, List.set_cons_succ, gN, setAll, gT,
  e_addI, e_addT, e_addL, e_subI, e_mulI, e_modI, e_fdvI, e_powI, e_ltI, e_leI, e_gtI, e_geI, e_ltS, e_gtS, e_isB, e_int, e_abs, e_max, e_min, e_lenT, e_lenL, e_lenQ, e_ixT, e_ixL, e_ixQ, e_ixS, e_slT, e_slL, e_slQ, e_listT, e_listL, e_isi, e_eqI, e_eqS, e_neI, e_neS, e_ninS, iI, iB, iS, iT, at0, at1, at2, at3, at4, at5, at6, at7,
  Bool.false_eq_true, if_false, if_true, decide_eq_true_eq, reduceIte, Bool.not_true, Bool.not_false])
section
variable {S : Sto} {j : Nat} {n : Int} {l : List Nat}
def allL : List Nat := cs (" !\"#$&'()*+,-./0123456789:;<=>?@ABCDEFGHIJKLMNOPQRSTUVWXYZ[\\]^_`abcdefghijklmnopqrstuvwxyz{|}~" : Str)
def nearL : List Nat := cs ("0123456789:;" : Str)
theorem all_sgn : allL.all sgn = true := by decide +kernel
theorem near_sgn : nearL.all sgn = true := by decide +kernel
theorem all_len : allL.length = 94 := by decide +kernel
theorem near_len : nearL.length = 12 := by decide +kernel
theorem kall : (" !\"#$&'()*+,-./0123456789:;<=>?@ABCDEFGHIJKLMNOPQRSTUVWXYZ[\\]^_`abcdefghijklmnopqrstuvwxyz{|}~" : Str) = mk allL := (mk_cs _).symm
theorem knear : ("0123456789:;" : Str) = mk nearL := (mk_cs _).symm
/-- one sign of a text -/
theorem ix_mk {L : List Nat} {r : Int} {Q : D → Prop} (h : L.length ≤ 1000000) (h0 : 0 ≤ r) (h1 : r < L.length) (hQ : ∀ c ∈ L, Q (.str (mk [c]))) : wp (ixD S (.str (mk L)) (.int r)) Q := by
  have e : ixD S (.str (mk L)) (.int r) = if (mk L).length ≤ 1000000 then (atI (mk L).cps.toList r).map fun c => D.str ⟨#[c]⟩ else none := rfl
  rw [e, if_pos (by rw [mk_len]; exact h), show (mk L).cps.toList = L from cs_mk L, wp_map]
  exact wp_at h0 h1 hQ
theorem sign_spec {near : Bool} {Q : D × Sto → Prop} (B : Bx S j n) (hn : n ≤ 1000000) (h : ∀ c S', sgn c = true → Bx S' j (n + 1) → BO j S S' → Q (.str (mk [c]), S')) : wp (m__law_sign [.ref j, .bl near] S) Q := by
  have one : ∀ L : List Nat, L.all sgn = true → L.length ≤ 100 → 0 < L.length → wp (m__law_take [.ref j, .int (L.length : Int)] S) fun x => wp (ixD x.2 (.str (mk L)) x.1) fun z => Q (z, x.2) := by
    intro L hs hl h0
    refine take_spec2 B (by omega) (by omega) (by omega) fun r S' r0 r1 B' bo => ?_
    exact ix_mk (by omega) r0 r1 fun c m => h c S' (List.all_eq_true.mp hs c m) B' bo
  have e1 := one allL all_sgn (by rw [all_len]; decide) (by rw [all_len]; decide)
  have e2 := one nearL near_sgn (by rw [near_len]; decide) (by rw [near_len]; decide)
  have c1 := all_len
  have c2 := near_len
  unfold m__law_sign
  simp only [kall, knear]
  simp only [w_def, w_seq, w_asg, w_if, w_tv, w_var, w_c, w_ret, w_ix, w_call, w_cons, w_nil, w_cb, List.map_cons, List.map_nil, List.length_cons, List.length_nil, Nat.reduceAdd, Nat.reduceSub, List.replicate_succ, List.replicate_zero, List.cons_append, List.nil_append, List.getElem?_cons_zero, List.getElem?_cons_succ, List.set_cons_zero, List.set_cons_succ, gN, wp_some, len_mk, wp_ite]
  cases near with
  | true =>
    refine itp rfl (itp (by omega) ?_)
    exact e2
  | false =>
    refine itn (by decide) (itp (by omega) ?_)
    exact e1
theorem one_flat (ls : List Nat) : (ls.map fun c => [c]).flatten = ls := by
  induction ls with
  | nil => rfl
  | cons c r ih => rw [List.map_cons, List.flatten_cons, ih]; rfl
/-- a row of drawn signs -/
theorem row_spec {near : Bool} {k a b : Nat} {ρ : En} {L : List D × Sto → Prop} (hk : k ≤ 100) (h0 : ρ[0]? = some (some (.ref j))) (h2 : ρ[b]? = some (some (.bl near))) (n0 : a ≠ 0) (n2 : a ≠ b) (B : Bx S j n) (hn : n ≤ 900000)
    (h : ∀ (ls : List Nat) (S' : Sto), ls.all sgn = true → ls.length = k → Bx S' j (n + 100) → BO j S S' → L (strsD (ls.map fun c => [c]), S')) : wp (mapL (mCall m__law_sign (mCons (mVar 0) (mCons (mVar b) mNil))) mYes a ρ (upto k) S) L := by
  have key := wp_mapL (te := mCall m__law_sign (mCons (mVar 0) (mCons (mVar b) mNil))) (tt := mYes) (j := a) (ρ := ρ) (L := L)
    (fun ds as S' => ∃ ls : List Nat, as = strsD (ls.map fun c => [c]) ∧ ls.all sgn = true ∧ ls.length + ds.length = k ∧ Bx S' j (n + ls.length) ∧ BO j S S') ?_ ?_ (upto k) [] S ⟨[], rfl, rfl, by simp [upto], by simpa using B, .refl⟩
  · refine wp_mono key fun r q => ?_
    simpa using q
  · rintro as S' ⟨ls, rfl, hs, hl, B', bo⟩
    exact h ls S' hs (by simpa using hl) (B'.mono (by rw [List.length_nil] at hl; omega)) bo
  · rintro d ds as S' ⟨ls, rfl, hs, hl, B', bo⟩
    rw [List.length_cons] at hl
    simp only [w_yes]
    refine itp (by trivial) ?_
    have e0 : (ρ.set a (some d))[0]? = some (some (.ref j)) := by rw [List.getElem?_set_ne n0]; exact h0
    have e2 : (ρ.set a (some d))[b]? = some (some (.bl near)) := by rw [List.getElem?_set_ne n2]; exact h2
    simp only [w_call, w_cons, w_var, w_nil, e0, e2, wp_some]
    refine sign_spec B' (by omega) fun c S2 hc B2 bo2 => ⟨ls ++ [c], ?_, ?_, ?_, ?_, bo.trans bo2⟩
    · unfold strsD
      simp
    · rw [List.all_append, hs]; simp [hc]
    · simp; omega
    · refine B2.mono ?_
      rw [List.length_append, List.length_singleton]
      omega
theorem join_one {S0 : Sto} {ls : List Nat} (h : ls.length ≤ 100000) : joinD S0 (.str (Str.ofString "")) (.lst (strsD (ls.map fun c => [c]))) = some (.str (mk ls)) := by
  have e := join_mk (S := S0) (ls := ls.map fun c => [c]) (by rw [one_flat]; omega)
  rw [one_flat] at e
  exact e
theorem slT {k : Int} (h0 : 0 ≤ k) (h : l.length ≤ 1000000) : slD S (.str (mk l)) none (some k) = some (.str (mk (l.take k.toNat))) := slN (k := k.toNat) (by omega) h
/-- a text that is drawn -/
def Drawn (l : List Nat) (n : Nat) : Prop := l.all sgn = true ∧ l.length ≤ n
theorem text_spec {Q : D × Sto → Prop} (B : Bx S j n) (hn : n ≤ 800000) (h : ∀ l S', Drawn l 101 → Bx S' j (n + 200) → BO j S S' → Q (.str (mk l), S')) : wp (m__law_text [.ref j] S) Q := by
  unfold m__law_text
  walk_at "go"
  refine take_spec2 B (by decide) (by decide) (by omega) fun way S1 w0 w1 B1 b1 => ?_
  walk_at "go"
  refine it2 (fun q => ?_) fun q => ?_
  · refine sign_spec B1 (by omega) fun c S2 hc B2 b2 => ?_
    walk_at "go"
    refine sign_spec B2 (by omega) fun c' S3 hc' B3 b3 => ?_
    walk_at "go"
    refine ⟨by decide, ?_⟩
    refine take_spec2 B3 (by decide) (by decide) (by omega) fun r S4 r0 r1 B4 b4 => ?_
    walk_at "go"
    refine wp_at r0 (by simpa using r1) fun d hd => ?_
    obtain ⟨m, rfl, m0, m1⟩ : ∃ m : Int, d = .int m ∧ 0 ≤ m ∧ m ≤ 100 := by
      simp at hd
      rcases hd with rfl | rfl | rfl | rfl | rfl <;> exact ⟨_, rfl, by decide, by decide⟩
    rw [mul_mk (by omega) (by omega) (by simp; omega), flat_rep]
    walk_at "go"
    refine itp (by rw [List.length_replicate]; first | omega | (simp; omega)) ?_
    refine h _ S4 ⟨?_, ?_⟩ (B4.mono (by omega)) (((b1.trans b2).trans b3).trans b4)
    · rw [List.all_cons, List.all_replicate, hc, hc']
      split <;> rfl
    · rw [List.length_cons, List.length_replicate]; omega
  · refine ⟨by decide, ?_⟩
    refine take_spec2 B1 (by decide) (by decide) (by omega) fun r S2 r0 r1 B2 b2 => ?_
    walk_at "go"
    refine wp_at r0 (by simpa using r1) fun d hd => ?_
    obtain ⟨m, rfl, m0, m1⟩ : ∃ m : Int, d = .int m ∧ 0 ≤ m ∧ m ≤ 12 := by
      simp at hd
      rcases hd with rfl | rfl | rfl | rfl | rfl | rfl | rfl | rfl <;> exact ⟨_, rfl, by decide, by decide⟩
    try walk_at "go"
    refine itp (by omega) ?_
    refine row_spec (near := decide (way < 3)) (k := m.toNat) (by omega) rfl rfl (by decide) (by decide) B2 (by omega) fun ls S3 hs hl B3 b3 => ?_
    try walk_at "go"
    have bo := (b1.trans b2).trans b3
    refine ⟨by rw [strsD_len, List.length_map]; omega, ?_⟩
    rw [join_one (by omega)]
    walk_at "go"
    refine it2 (fun q3 => ?_) fun q3 => it2 (fun q4 => ?_) fun q4 => ?_
    · rw [l_frame (by omega)]
      walk_at "go"
      exact h _ S3 ⟨frL_sgn hs, by rw [frL_len (by omega)]; omega⟩ (B3.mono (by omega)) bo
    · rw [l_frame (by omega)]
      walk_at "go"
      refine take_spec2 B3 (by decide) (by decide) (by omega) fun t S4 t0 t1 B4 b4 => ?_
      walk_at "go"
      rw [slT t0 (by rw [frL_len (by omega)]; omega)]
      walk_at "go"
      exact h _ S4 ⟨all_take (frL_sgn hs) _, by rw [List.length_take, frL_len (by omega)]; omega⟩ (B4.mono (by omega)) (bo.trans b4)
    · exact h _ S3 ⟨hs, by omega⟩ (B3.mono (by omega)) bo
theorem texts_spec {Q : D × Sto → Prop} (B : Bx S j n) (hn : n ≤ 700000) (h : ∀ ls S', (∀ l ∈ ls, Drawn l 101) → ls.length ≤ 7 → Bx S' j (n + 2000) → BO j S S' → Q (.lst (strsD ls), S')) : wp (m__law_texts [.ref j] S) Q := by
  unfold m__law_texts
  walk_at "go"
  refine ⟨by decide, ?_⟩
  refine take_spec2 B (by decide) (by decide) (by omega) fun r S1 r0 r1 B1 b1 => ?_
  walk_at "go"
  refine wp_at r0 (by simpa using r1) fun d hd => ?_
  obtain ⟨m, rfl, m0, m1⟩ : ∃ m : Int, d = .int m ∧ 0 ≤ m ∧ m ≤ 7 := by
    simp at hd
    rcases hd with rfl | rfl | rfl | rfl | rfl | rfl <;> exact ⟨_, rfl, by decide, by decide⟩
  try walk_at "go"
  refine itp (by omega) ?_
  have key := wp_mapL (te := mCall m__law_text (mCons (mVar 0) mNil)) (tt := mYes) (j := 1) (ρ := [some (.ref j), none]) (L := fun r => r.1.length ≤ 100000 ∧ Q (.lst r.1, r.2))
    (fun ds as S' => ∃ ls : List (List Nat), as = strsD ls ∧ (∀ l ∈ ls, Drawn l 101) ∧ ls.length + ds.length = m.toNat ∧ Bx S' j (n + 1 + 200 * ls.length) ∧ BO j S S') ?_ ?_ (upto m.toNat) [] S1 ⟨[], rfl, (fun _ m => by cases m), by simp [upto], by simpa using B1, b1⟩
  · refine wp_mono key fun r q => ?_
    simpa using q
  · rintro as S' ⟨ls, rfl, hs, hl, B', bo⟩
    rw [List.length_nil] at hl
    exact ⟨by rw [strsD_len]; omega, h ls S' hs (by omega) (B'.mono (by omega)) bo⟩
  · rintro d ds as S' ⟨ls, rfl, hs, hl, B', bo⟩
    rw [List.length_cons] at hl
    simp only [w_yes]
    refine itp (by trivial) ?_
    simp only [w_call, w_cons, w_var, w_nil, List.set_cons_zero, List.set_cons_succ, List.getElem?_cons_zero, wp_some]
    refine text_spec B' (by omega) fun l S2 hd B2 bo2 => ⟨ls ++ [l], ?_, ?_, ?_, ?_, bo.trans bo2⟩
    · rw [strsD_app]
    · intro x m
      rcases List.mem_append.mp m with m | m
      · exact hs x m
      · rw [List.mem_singleton.mp m]; exact hd
    · simp; omega
    · refine B2.mono ?_
      rw [List.length_append, List.length_singleton]
      omega
end
end K09

namespace K09
open PySem PySem.StrLaws L2 TL M Ln
local macro_rules | `(tactic| walk_at "go") => `(tactic| simp (maxSteps := 100000000) only [w_def, w_var, w_c, w_bin, w_and, w_or, w_bK, w_not, w_if, w_nil, w_cons, w_tup, w_lst, w_new, w_tv, w_tand, w_tor, w_tnot, w_chain, w_call, w_kw, w_cb, w_ix, w_nop, w_p, w_sl, w_neg, w_ms, w_m1, w_d0, w_app, w_ext, w_pop, w_tr, w_newc, w_s1, w_repl, w_mu, w_addn, w_dget, w_din, w_dget2, w_dictn, w_asgs, w_attr, w_xo, w_lx, w_bx, w_none', w_binS, w_islt, w_zf, w_slR, w_forG, w_lcG, w_sq, len_mk, add_mk, w_sxr, w_xdef, w_xseq, w_xraise, w_xtry, w_qus, w_okf, w_xkw, mxIf, mxCons, mxCallM, mxCall, mxBin, mxTv, mxRet, mxDrop, mxAsg, outX,
  w_ret, w_skip, w_drop, w_asg, w_par, w_ifs, w_seq, w_seti, w_for, w_lc, w_sr, w_sl', w_st, w_ss, w_sz, w_yes, wp_some, wp_none, wp_bind, wp_map, wp_ite,
  List.map_cons, List.map_nil, List.length_cons, List.length_nil, Nat.reduceAdd, Nat.reduceSub, List.replicate_succ, List.replicate_zero, List.cons_append, List.nil_append, List.append_nil,
  List.getElem?_cons_zero, List.getElem?_cons_succ, List.set_cons_zero, List.set_cons_succ, gN, setAll, gT,
  e_addI, e_addT, e_addL, e_subI, e_mulI, e_modI, e_fdvI, e_powI, e_ltI, e_leI, e_gtI, e_geI, e_ltS, e_gtS, e_isB, e_int, e_abs, e_max, e_min, e_lenT, e_lenL, e_lenQ, e_ixT, e_ixL, e_ixQ, e_ixS, e_slT, e_slL, e_slQ, e_listT, e_listL, e_isi, e_eqI, e_eqS, e_neI, e_neS, e_ninS, iI, iB, iS, iT, at0, at1, at2, at3, at4, at5, at6, at7,
  Bool.false_eq_true, if_false, if_true, decide_eq_true_eq, reduceIte, Bool.not_true, Bool.not_false])
section
variable {S : Sto} {j : Nat} {n : Int} {l : List Nat}
theorem slF {a : Nat} {lo : Int} (h1 : lo = (a : Int)) (h : l.length ≤ 1000000) : slD S (.str (mk l)) (some lo) none = some (.str (mk (l.drop a))) := by
  have e : slD S (.str (mk l)) (some lo) none = if (mk l).length ≤ 1000000 then some (.str (cutS (mk l) (some lo) none)) else none := rfl
  rw [e, if_pos (by rw [mk_len]; exact h), h1]
  congr 2
  refine str_ext ?_
  rw [cs_mk]
  unfold cutS
  rw [HT.sIx_nat]
  have e2 : HT.sIx (mk l).length (mk l).length none = (mk l).length := rfl
  rw [e2]
  show List.take _ (List.drop _ (cs (mk l))) = _
  rw [mk_len, cs_mk]
  by_cases q : a ≤ l.length
  · rw [Nat.min_eq_left q]
    exact List.take_of_length_le (by rw [List.length_drop]; omega)
  · rw [Nat.min_eq_right (by omega), List.drop_length, List.drop_eq_nil_of_le (by omega)]
    simp
/-- the fifth sign of a frame is a figure -/
theorem fr4 (h : l.length ≤ 80000) : ∃ c, (frL l)[4]? = some c ∧ 48 ≤ c ∧ c ≤ 57 := by
  have hz := z5_len (n := l.length) (by omega)
  have e : (frL l)[4]? = (z5 l.length)[4]? := by
    unfold frL
    rw [List.getElem?_append_left (by omega)]
  have e2 : (z5 l.length)[4]? = some (z5 l.length)[4] := List.getElem?_eq_getElem (by omega)
  refine ⟨_, e.trans e2, ?_⟩
  have := List.all_eq_true.mp (z5_dig l.length) _ (List.getElem_mem (h := by omega) : (z5 l.length)[4] ∈ z5 l.length)
  simpa using this
theorem kten : ("0123456789" : Str) = mk [48, 49, 50, 51, 52, 53, 54, 55, 56, 57] := by decide
theorem ix4 {S0 : Sto} {L : List Nat} {c : Nat} (h : L.length ≤ 1000000) (h4 : L[4]? = some c) : ixD S0 (.str (mk L)) (.int 4) = some (.str (mk [c])) := by
  have e : ixD S0 (.str (mk L)) (.int 4) = if (mk L).length ≤ 1000000 then (atI (mk L).cps.toList 4).map fun c => D.str ⟨#[c]⟩ else none := rfl
  rw [e, if_pos (by rw [mk_len]; exact h), show (mk L).cps.toList = L from cs_mk L, show atI L 4 = some c from atI_nat (j := 4) h4]
  rfl
theorem turned_spec {Q : D × Sto → Prop} (hl : Drawn l 101) (B : Bx S j n) (hn : n ≤ 800000) (h : ∀ l S', Drawn l 200 → Bx S' j (n + 10) → BO j S S' → Q (.str (mk l), S')) : wp (m__law_turned [.ref j, .str (mk (frL l))] S) Q := by
  have hL : (frL l).length = l.length + 7 := frL_len (by have := hl.2; omega)
  have hs : (frL l).all sgn = true := frL_sgn hl.1
  have h2 := hl.2
  obtain ⟨c4, e4, d4⟩ := fr4 (l := l) (by omega)
  generalize hF : frL l = F at *
  unfold m__law_turned
  walk_at "go"
  refine take_spec2 B (by decide) (by decide) (by omega) fun way S1 w0 w1 B1 b1 => ?_
  walk_at "go"
  refine itp (by omega) ?_
  refine take_spec2 B1 (by omega) (by omega) (by omega) fun spot S2 s0 s1 B2 b2 => ?_
  walk_at "go"
  have b12 := b1.trans b2
  have tk : ∀ k : Nat, (F.take k).all sgn = true ∧ (F.take k).length ≤ F.length := fun k => ⟨all_take hs k, by rw [List.length_take]; omega⟩
  have dk : ∀ k : Nat, (F.drop k).all sgn = true ∧ (F.drop k).length ≤ F.length := fun k => ⟨all_drop hs k, by rw [List.length_drop]; omega⟩
  have cat : ∀ a b : List Nat, a.all sgn = true → b.all sgn = true → (a ++ b).all sgn = true := fun a b p q => by rw [List.all_append, p, q]; rfl
  refine it2 (fun q => ?_) fun q => it2 (fun q1 => ?_) fun q1 => it2 (fun q2 => ?_) fun q2 => ?_
  · rw [slN (k := 4) (hi := 4) rfl (by omega)]
    walk_at "go"
    refine itp (by rw [mk_len]; omega) ?_
    rw [show (mk F).cps.toList = F from cs_mk F, show atI F 4 = some c4 from atI_nat (j := 4) e4]
    walk_at "go"
    rw [one_mk, int_digs (l := [c4]) (by unfold digs; simp; omega) (by simp) (by simp)]
    walk_at "go"
    refine take_spec2 B2 (by decide) (by decide) (by omega) fun r S3 r0 r1 B3 b3 => ?_
    walk_at "go"
    refine itp (by omega) ?_
    rw [kten]
    generalize hx : ((PySem.NumText.digitsVal [c4] : Nat) : Int) + 1 + r = x
    have x0 : 0 ≤ x % 10 := Int.emod_nonneg _ (by decide)
    have x1 : x % 10 < 10 := Int.emod_lt_of_pos _ (by decide)
    refine itp (by rw [mk_len]; decide) ?_
    rw [show (mk [48, 49, 50, 51, 52, 53, 54, 55, 56, 57]).cps.toList = [48, 49, 50, 51, 52, 53, 54, 55, 56, 57] from cs_mk _]
    refine wp_at x0 (by simpa using x1) fun c m => ?_
    rw [one_mk]
    walk_at "go"
    have tl := tk 4
    have dl := dk 5
    refine itp (by first | omega | (simp only [List.length_cons, List.length_nil]; omega)) ?_
    rw [slF (a := 5) (lo := 5) rfl (by omega)]
    walk_at "go"
    refine itp (by first | omega | (simp only [List.length_append, List.length_cons, List.length_nil]; omega)) ?_
    refine h _ S3 ⟨?_, ?_⟩ (B3.mono (by omega)) (b12.trans b3)
    · refine cat _ _ (cat _ _ tl.1 ?_) dl.1
      simp only [List.mem_cons, List.not_mem_nil, or_false] at m
      simp only [List.all_cons, List.all_nil, Bool.and_true]
      unfold sgn
      simp only [Bool.and_eq_true, decide_eq_true_eq]
      omega
    · simp only [List.length_append, List.length_cons, List.length_nil, List.length_take, List.length_drop]
      omega
  · rw [slT s0 (by omega)]
    walk_at "go"
    rw [slF (a := spot.toNat + 1) (by omega) (by omega)]
    walk_at "go"
    have tl := tk spot.toNat
    have dl := dk (spot.toNat + 1)
    refine itp (by omega) ?_
    exact h _ S2 ⟨cat _ _ tl.1 dl.1, by rw [List.length_append]; rw [List.length_take, List.length_drop]; omega⟩ (B2.mono (by omega)) b12
  · rw [slT s0 (by omega)]
    walk_at "go"
    refine itp (by rw [mk_len]; omega) ?_
    rw [show (mk F).cps.toList = F from cs_mk F]
    refine wp_at s0 (by omega) fun c m => ?_
    rw [one_mk]
    walk_at "go"
    have tl := tk spot.toNat
    have dl := dk spot.toNat
    refine itp (by first | omega | (simp only [List.length_cons, List.length_nil]; omega)) ?_
    rw [slF (a := spot.toNat) (by omega) (by omega)]
    walk_at "go"
    refine itp (by first | omega | (simp only [List.length_append, List.length_cons, List.length_nil]; omega)) ?_
    refine h _ S2 ⟨cat _ _ (cat _ _ tl.1 ?_) dl.1, ?_⟩ (B2.mono (by omega)) b12
    · have := List.all_eq_true.mp hs c m
      simp [this]
    · simp only [List.length_append, List.length_cons, List.length_nil, List.length_take, List.length_drop]
      omega
  · refine sign_spec B2 (by omega) fun c S3 hc B3 b3 => ?_
    walk_at "go"
    rw [slT s0 (by omega)]
    walk_at "go"
    have tl := tk spot.toNat
    have y0 : 0 ≤ way % 2 := Int.emod_nonneg _ (by decide)
    have y1 : way % 2 < 2 := Int.emod_lt_of_pos _ (by decide)
    have dl := dk (spot + way % 2).toNat
    refine itp (by first | omega | (simp only [List.length_cons, List.length_nil]; omega)) (itp (by decide) ?_)
    rw [slF (a := (spot + way % 2).toNat) (by omega) (by omega)]
    walk_at "go"
    refine itp (by first | omega | (simp only [List.length_append, List.length_cons, List.length_nil]; omega)) ?_
    refine h _ S3 ⟨cat _ _ (cat _ _ tl.1 ?_) dl.1, ?_⟩ (B3.mono (by omega)) (b12.trans b3)
    · simp [hc]
    · simp only [List.length_append, List.length_cons, List.length_nil, List.length_take, List.length_drop]
      omega
def headsL : List (List Nat) := ["+0001:", " 0001:", "0_0_1:", "0001 :", "1:", "0001:", "000001:", "-0001:", "00001", "00001;", "00001 :"].map fun s => cs (Str.ofString s)
theorem heads_ok : ∀ l ∈ headsL, l.all sgn = true ∧ l.length ≤ 7 := by decide +kernel
theorem heads_eq : [D.str (Str.ofString "+0001:"), D.str (Str.ofString " 0001:"), D.str (Str.ofString "0_0_1:"), D.str (Str.ofString "0001 :"), D.str (Str.ofString "1:"), D.str (Str.ofString "0001:"), D.str (Str.ofString "000001:"), D.str (Str.ofString "-0001:"), D.str (Str.ofString "00001"), D.str (Str.ofString "00001;"), D.str (Str.ofString "00001 :")] = strsD headsL := by
  unfold strsD headsL
  simp only [List.map_cons, List.map_nil, mk_cs]
theorem tail_spec {Q : D × Sto → Prop} (B : Bx S j n) (hn : n ≤ 700000) (h : ∀ l S', Drawn l 200 → Bx S' j (n + 500) → BO j S S' → Q (.str (mk l), S')) : wp (m__law_tail [.ref j] S) Q := by
  unfold m__law_tail
  walk_at "go"
  refine take_spec2 B (by decide) (by decide) (by omega) fun way S1 w0 w1 B1 b1 => ?_
  walk_at "go"
  refine text_spec B1 (by omega) fun l S2 hl B2 b2 => ?_
  walk_at "go"
  have hl2 := hl.2
  rw [l_frame (by omega)]
  walk_at "go"
  have b12 := b1.trans b2
  have hL : (frL l).length = l.length + 7 := frL_len (by omega)
  refine it2 (fun q => ?_) fun q => it2 (fun q1 => ?_) fun q1 => it2 (fun q2 => ?_) fun q2 => it2 (fun q3 => ?_) fun q3 => it2 (fun q4 => ?_) fun q4 => ?_
  · have e : D.str (Str.ofString "") = D.str (mk []) := by rw [← k0]
    rw [e]
    exact h [] S2 ⟨rfl, by simp⟩ (B2.mono (by omega)) b12
  · refine text_spec B2 (by omega) fun l2 S3 hd B3 b3 => ?_
    try walk_at "go"
    exact h l2 S3 ⟨hd.1, Nat.le_trans hd.2 (by decide)⟩ (B3.mono (by omega)) (b12.trans b3)
  · refine itp (by omega) ?_
    refine take_spec2 B2 (by omega) (by omega) (by omega) fun r S3 r0 r1 B3 b3 => ?_
    try walk_at "go"
    rw [slT r0 (by omega)]
    try walk_at "go"
    exact h _ S3 ⟨all_take (frL_sgn hl.1) _, by rw [List.length_take]; omega⟩ (B3.mono (by omega)) (b12.trans b3)
  · refine ⟨by decide, ?_⟩
    refine take_spec2 B2 (by decide) (by decide) (by omega) fun r S3 r0 r1 B3 b3 => ?_
    try walk_at "go"
    rw [heads_eq]
    refine wp_at r0 (by rw [strsD_len]; exact Int.lt_of_lt_of_le r1 (by decide)) fun d hd => ?_
    obtain ⟨t, ht, rfl⟩ := List.mem_map.mp hd
    have ht' := heads_ok t ht
    refine sign_spec B3 (by omega) fun c S4 hc B4 b4 => ?_
    try walk_at "go"
    rw [k59]
    try walk_at "go"
    refine itp (by first | omega | (simp only [List.length_cons, List.length_nil]; omega)) ?_
    try walk_at "go"
    refine itp (by first | omega | (simp only [List.length_append, List.length_cons, List.length_nil]; omega)) ?_
    refine h _ S4 ⟨?_, ?_⟩ (B4.mono (by omega)) ((b12.trans b3).trans b4)
    · rw [List.all_append, List.all_append, ht'.1, List.all_cons, hc]
      rfl
    · simp only [List.length_append, List.length_cons, List.length_nil]; omega
  · exact h _ S2 ⟨frL_sgn hl.1, by omega⟩ (B2.mono (by omega)) b12
  · refine turned_spec hl B2 (by omega) fun l2 S3 hd B3 b3 => ?_
    try walk_at "go"
    exact h _ S3 hd (B3.mono (by omega)) (b12.trans b3)
end
end K09

namespace K09
open PySem PySem.StrLaws L2 TL M Ln
local macro_rules | `(tactic| walk_at "go") => `(tactic| simp (maxSteps := 100000000) only [w_def, w_var, w_c, w_bin, w_and, w_or, w_bK, w_not, w_if, w_nil, w_cons, w_tup, w_lst, w_new, w_tv, w_tand, w_tor, w_tnot, w_chain, w_call, w_kw, w_cb, w_ix, w_nop, w_p, w_sl, w_neg, w_ms, w_m1, w_d0, w_app, w_ext, w_pop, w_tr, w_newc, w_s1, w_repl, w_mu, w_addn, w_dget, w_din, w_dget2, w_dictn, w_asgs, w_attr, w_xo, w_lx, w_bx, w_none', w_binS, w_islt, w_zf, w_slR, w_forG, w_lcG, w_sq, len_mk, add_mk, w_sxr, w_xdef, w_xseq, w_xraise, w_xtry, w_qus, w_okf, w_xkw, mxIf, mxCons, mxCallM, mxCall, mxBin, mxTv, mxRet, mxDrop, mxAsg, outX,
  w_ret, w_skip, w_drop, w_asg, w_par, w_ifs, w_seq, w_seti, w_for, w_lc, w_sr, w_sl', w_st, w_ss, w_sz, w_yes, wp_some, wp_none, wp_bind, wp_map, wp_ite,
  List.map_cons, List.map_nil, List.length_cons, List.length_nil, Nat.reduceAdd, Nat.reduceSub, List.replicate_succ, List.replicate_zero, List.cons_append, List.nil_append, List.append_nil,
  List.getElem?_cons_zero, List.getElem?_cons_succ, List.set_cons_zero, List.set_cons_succ, gN, setAll, gT,
  e_addI, e_addT, e_addL, e_subI, e_mulI, e_modI, e_fdvI, e_powI, e_ltI, e_leI, e_gtI, e_geI, e_ltS, e_gtS, e_isB, e_int, e_abs, e_max, e_min, e_lenT, e_lenL, e_lenQ, e_ixT, e_ixL, e_ixQ, e_ixS, e_slT, e_slL, e_slQ, e_listT, e_listL, e_isi, e_eqI, e_eqS, e_neI, e_neS, e_ninS, iI, iB, iS, iT, at0, at1, at2, at3, at4, at5, at6, at7,
  Bool.false_eq_true, if_false, if_true, decide_eq_true_eq, reduceIte, Bool.not_true, Bool.not_false])
section
variable {S : Sto} {j : Nat} {n : Int}
theorem drawn_txts {ls : List (List Nat)} (h : ∀ l ∈ ls, Drawn l 101) : Txts ls := fun l m => ⟨(h l m).1, Nat.le_trans (h l m).2 (by decide)⟩
theorem frs_len {ls : List (List Nat)} (h : ∀ l ∈ ls, Drawn l 101) : (frs ls).length ≤ 108 * ls.length := by
  induction ls with
  | nil => exact Nat.le_refl _
  | cons l ls ih =>
    have := ih fun x m => h x (List.mem_cons_of_mem _ m)
    have hl := (h l List.mem_cons_self).2
    unfold frs at this ⊢
    rw [List.map_cons, List.flatten_cons, List.length_append, frL_len (by omega), List.length_cons]
    omega
theorem frs_sgn {ls : List (List Nat)} (h : ∀ l ∈ ls, Drawn l 101) : (frs ls).all sgn = true := by
  induction ls with
  | nil => rfl
  | cons l ls ih =>
    have := ih fun x m => h x (List.mem_cons_of_mem _ m)
    unfold frs at this ⊢
    rw [List.map_cons, List.flatten_cons, List.all_append, this, frL_sgn (h l List.mem_cons_self).1]
    rfl
theorem cutT {ls : List (List Nat)} {r : Int} (h : 0 ≤ r) : cut (strsD ls) none (some r) = strsD (ls.take r.toNat) := by
  unfold cut
  have e1 : HT.sIx (strsD ls).length 0 none = 0 := rfl
  obtain ⟨k, rfl⟩ := Int.eq_ofNat_of_zero_le h
  rw [e1, HT.sIx_nat, List.drop_zero, strsD_len]
  unfold strsD
  rw [List.map_take, Int.toNat_natCast, Nat.sub_zero]
  by_cases q : k ≤ ls.length
  · rw [Nat.min_eq_left q]
  · rw [Nat.min_eq_right (by omega), List.take_of_length_le (by simp), List.take_of_length_le (by simp; omega)]
theorem BO.bx_other {i : Nat} {S S' : Sto} {o : Ob} (b : BO j S S') (h : S[i]? = some o) (ne : i ≠ j) : S'[i]? = some o := (b.at_ i ne).trans h
theorem get_ext {i : Nat} {S : Sto} {o : Ob} {G : Sto} (h : S[i]? = some o) : (S ++ G)[i]? = some o := by
  rw [List.getElem?_append_left (lt_of_get h)]; exact h
theorem Bx.ext {G : Sto} (B : Bx S j n) : Bx (S ++ G) j n := by
  obtain ⟨g, f, c, d, h, r⟩ := B
  exact ⟨g, f, c, d, get_ext h, r⟩
theorem Bx.set {i : Nat} {o : Ob} (B : Bx S j n) (ne : i ≠ j) : Bx (S.set i o) j n := by
  obtain ⟨g, f, c, d, h, r⟩ := B
  exact ⟨g, f, c, d, by rw [List.getElem?_set_ne ne]; exact h, r⟩
/-- a row that is read -/
def Row (l : List Nat) : Prop := Drawn l 2000
/-- the last part: rows are read -/
theorem q6 {s k e8 e9 e4 e5 : Option D} {jb jr : Nat} {ls bs : List (List Nat)} {rs : List (List Nat)} {O : Out × Sto → Prop} (hb : ∀ l ∈ bs, Drawn l 101) (nb : bs.length ≤ 7) (hr : ∀ l ∈ rs, Row l) (nr : rs.length ≤ 10) (hR : S[jr]? = some (.lst (strsD rs)))
    (hO : ∀ (a b c d e f g h : Option D) (S : Sto), O (.nx [s, k, a, b, c, d, e, f, g, h], S)) :
    wp (t_law_6 [s, k, some (.ref jb), some (.ref jr), e4, e5, some (.lst (strsD ls)), some (.lst (strsD bs)), e8, e9] S) O := by
  unfold t_law_6
  walk_at "go"
  refine wp_of (joinL (by show 5 < 10; omega) (drawn_txts hb)) ⟨by rw [List.length_map, List.length_map]; omega, ?_⟩
  dsimp only
  have fb := frs_len hb
  have jn : ∀ S0 : Sto, joinD S0 (.str (Str.ofString "")) (.lst ((bs.map frL).map fun l => D.str (mk l))) = some (.str (mk (frs bs))) := fun S0 => join_mk (S := S0) (ls := bs.map frL) (by show (frs bs).length ≤ _; omega)
  rw [jn]
  walk_at "go"
  have l1 : lsOf S (.ref jr) = some (strsD rs) := stLst_of hR
  have a1 : addS S (.ref jr) (.lst [.str (mk (frs bs))]) = some (.lst (strsD (rs ++ [frs bs]))) := by
    unfold addS
    rw [l1, Option.bind_some, show lsOf S (.lst [.str (mk (frs bs))]) = some [.str (mk (frs bs))] from rfl, Option.bind_some, if_pos (by rw [strsD_len, List.length_singleton]; omega), strsD_app]
  have a2 : ∀ {xs ys : List (List Nat)}, xs.length + ys.length ≤ 1000 → addS S (.lst (strsD xs)) (.lst (strsD ys)) = some (.lst (strsD (xs ++ ys))) := by
    intro xs ys h
    unfold addS
    rw [show lsOf S (.lst (strsD xs)) = some (strsD xs) from rfl, Option.bind_some, show lsOf S (.lst (strsD ys)) = some (strsD ys) from rfl, Option.bind_some, if_pos (by rw [strsD_len, strsD_len]; omega), strsD_app2]
  refine ⟨by decide, ?_⟩
  rw [a1]
  walk_at "go"
  rw [l1]
  walk_at "go"
  rw [cutT (by decide), a2 (by rw [List.length_append, List.length_take]; simp; omega)]
  walk_at "go"
  refine ⟨by decide, ?_⟩
  rw [show ([D.str (Str.ofString "")] : List D) = strsD [[]] by rw [k0]; rfl, a2 (by rw [List.length_append, List.length_append, List.length_take]; simp; omega)]
  walk_at "go"
  generalize hall : rs ++ [frs bs] ++ List.take (Int.toNat 1) rs ++ [[]] = all
  have hA : ∀ l ∈ all, Row l := by
    intro l m
    rw [← hall] at m
    simp only [List.mem_append, List.mem_singleton] at m
    rcases m with ((m | m) | m) | m
    · exact hr l m
    · rw [m]; exact ⟨frs_sgn hb, by omega⟩
    · exact hr l (List.mem_of_mem_take m)
    · rw [m]; exact ⟨rfl, by simp⟩
  refine wp_loop (fun ds ρ S' => ∃ xs a, ds = strsD xs ∧ (∀ l ∈ xs, Row l) ∧ ρ = [s, k, some (.ref jb), some (.ref jr), e4, a, some (.lst (strsD ls)), some (.lst (strsD bs)), e8, e9]) (fun ρ S' w => ?_) (fun d ds ρ S' w => ?_) _ _ _ ⟨all, _, rfl, hA, rfl⟩
  · obtain ⟨xs, a, _, _, rfl⟩ := w
    exact hO _ _ _ _ _ _ _ _ _
  · obtain ⟨xs, a, e, hx, rfl⟩ := w
    cases xs with
    | nil => cases e
    | cons l xs =>
      cases e
      have hl := hx l List.mem_cons_self
      unfold t_law_5 t_law_4
      walk_at "go"
      refine wp_mono (reads (Nat.le_trans hl.2 (by decide)) hl.1) fun r q => ?_
      obtain ⟨r, S2⟩ := r
      obtain ⟨rfl, _⟩ := (show r = .bl true ∧ _ from q)
      walk_at "go"
      exact ⟨xs, _, rfl, fun x m => hx x (List.mem_cons_of_mem _ m), rfl⟩
end
end K09

namespace K09
open PySem PySem.StrLaws L2 TL M Ln
local macro_rules | `(tactic| walk_at "go") => `(tactic| simp (maxSteps := 100000000) only [w_def, w_var, w_c, w_bin, w_and, w_or, w_bK, w_not, w_if, w_nil, w_cons, w_tup, w_lst, w_new, w_tv, w_tand, w_tor, w_tnot, w_chain, w_call, w_kw, w_cb, w_ix, w_nop, w_p, w_sl, w_neg, w_ms, w_m1, w_d0, w_app, w_ext, w_pop, w_tr, w_newc, w_s1, w_repl, w_mu, w_addn, w_dget, w_din, w_dget2, w_dictn, w_asgs, w_attr, w_xo, w_lx, w_bx, w_none', w_binS, w_islt, w_zf, w_slR, w_forG, w_lcG, w_sq, len_mk, add_mk, w_sxr, w_xdef, w_xseq, w_xraise, w_xtry, w_qus, w_okf, w_xkw, mxIf, mxCons, mxCallM, mxCall, mxBin, mxTv, mxRet, mxDrop, mxAsg, outX,
  w_ret, w_skip, w_drop, w_asg, w_par, w_ifs, w_seq, w_seti, w_for, w_lc, w_sr, w_sl', w_st, w_ss, w_sz, w_yes, wp_some, wp_none, wp_bind, wp_map, wp_ite,
  List.map_cons, List.map_nil, List.length_cons, List.length_nil, Nat.reduceAdd, Nat.reduceSub, List.replicate_succ, List.replicate_zero, List.cons_append, List.nil_append, List.append_nil,
  List.getElem?_cons_zero, List.getElem?_cons_succ, List.set_cons_zero, List.set_cons_succ, gN, setAll, gT,
  e_addI, e_addT, e_addL, e_subI, e_mulI, e_modI, e_fdvI, e_powI, e_ltI, e_leI, e_gtI, e_geI, e_ltS, e_gtS, e_isB, e_int, e_abs, e_max, e_min, e_lenT, e_lenL, e_lenQ, e_ixT, e_ixL, e_ixQ, e_ixS, e_slT, e_slL, e_slQ, e_listT, e_listL, e_isi, e_eqI, e_eqS, e_neI, e_neS, e_ninS, iI, iB, iS, iT, at0, at1, at2, at3, at4, at5, at6, at7,
  Bool.false_eq_true, if_false, if_true, decide_eq_true_eq, reduceIte, Bool.not_true, Bool.not_false])
section
variable {S : Sto} {n : Int} {jb jr : Nat} {ls bs : List (List Nat)}
theorem e_mk0 : (D.str (Str.ofString "")) = D.str (mk []) := by rw [← k0]
theorem q3 {s k e5 e8 e9 : Option D} {ss rs : List (List Nat)} {O : Out × Sto → Prop} (hs : ∀ l ∈ ss, Drawn l 101) (ns : ss.length ≤ 7) (hl : ∀ l ∈ ls, Drawn l 101) (nl : ls.length ≤ 7) (nr : rs.length ≤ 5) (ne : jr ≠ jb) (B : Bx S jb n) (hn : n ≤ 500000) (hR : S[jr]? = some (.lst (strsD rs)))
    (hO : ∀ (l : List Nat) (a b c : Option D) (S' : Sto), Row l → Bx S' jb (n + 600) → S'[jr]? = some (.lst (strsD (rs ++ [l]))) → O (.nx [s, k, some (.ref jb), some (.ref jr), some (.lst (strsD ss)), a, some (.lst (strsD ls)), some (.lst (strsD bs)), b, c], S')) :
    wp (t_law_3 [s, k, some (.ref jb), some (.ref jr), some (.lst (strsD ss)), e5, some (.lst (strsD ls)), some (.lst (strsD bs)), e8, e9] S) O := by
  unfold t_law_3
  walk_at "go"
  refine tail_spec B (by omega) fun t S1 ht B1 b1 => ?_
  unfold t_law_2
  walk_at "go"
  refine take_spec2 B1 (by decide) (by decide) (by omega) fun r S2 r0 r1 B2 b2 => ?_
  walk_at "go"
  rw [cutT r0]
  have hk : ∀ l ∈ ls.take r.toNat, Drawn l 101 := fun l m => hl l (List.mem_of_mem_take m)
  have lk : (ls.take r.toNat).length ≤ 2 := by rw [List.length_take]; omega
  refine wp_of (joinL (by show 5 < 10; omega) (drawn_txts hk)) ⟨by rw [List.length_map, List.length_map]; omega, ?_⟩
  dsimp only
  have fk := frs_len hk
  have fs := frs_len hs
  have jn : ∀ (S0 : Sto) (xs : List (List Nat)), (frs xs).length ≤ 1000000 → joinD S0 (.str (Str.ofString "")) (.lst ((xs.map frL).map fun l => D.str (mk l))) = some (.str (mk (frs xs))) := fun S0 xs h => join_mk (S := S0) (ls := xs.map frL) h
  rw [jn _ _ (by omega)]
  unfold t_law_1
  walk_at "go"
  have hR2 : S2[jr]? = some (.lst (strsD rs)) := (b1.trans b2).bx_other hR ne
  rw [stLst_of hR2]
  walk_at "go"
  refine wp_of (joinL (by show 5 < 10; omega) (drawn_txts hs)) ⟨by rw [List.length_map, List.length_map]; omega, ?_⟩
  dsimp only
  rw [jn _ _ (by omega)]
  walk_at "go"
  have h2 := ht.2
  refine itp (by omega) (itp (by first | omega | (rw [List.length_append]; omega)) ?_)
  rw [stLst_of hR2]
  walk_at "go"
  refine itp (by rw [strsD_len]; omega) ?_
  rw [strsD_app]
  refine hO _ _ _ _ _ ⟨?_, ?_⟩ ((B2.mono (by omega)).set ne) (List.getElem?_set_self (lt_of_get hR2))
  · rw [List.all_append, List.all_append, frs_sgn hs, ht.1, frs_sgn hk]; rfl
  · rw [List.length_append, List.length_append]; omega
theorem q7 {s k e4 e5 e8 e9 : Option D} {O : Out × Sto → Prop} (hl : ∀ l ∈ ls, Drawn l 101) (nl : ls.length ≤ 7) (hb : ∀ l ∈ bs, Drawn l 101) (nb : bs.length ≤ 7) (ne : jr ≠ jb) (B : Bx S jb n) (hn : n ≤ 400000) (hR : S[jr]? = some (.lst []))
    (hO : ∀ (a b c d e f g h : Option D) (S : Sto), O (.nx [s, k, a, b, c, d, e, f, g, h], S)) :
    wp (t_law_7 [s, k, some (.ref jb), some (.ref jr), e4, e5, some (.lst (strsD ls)), some (.lst (strsD bs)), e8, e9] S) O := by
  unfold t_law_7
  walk_at "go"
  refine ⟨by decide, ?_⟩
  refine wp_loop (fun ds ρ S' => ∃ (rem : List (List (List Nat))) (rs : List (List Nat)) (a b c d : Option D), ds = rem.map (fun xs => D.lst (strsD xs)) ∧ (∀ xs ∈ rem, (∀ l ∈ xs, Drawn l 101) ∧ xs.length ≤ 7) ∧ rs.length + rem.length = 2 ∧ (∀ l ∈ rs, Row l) ∧
    Bx S' jb (n + 600 * rs.length) ∧ S'[jr]? = some (.lst (strsD rs)) ∧ ρ = [s, k, some (.ref jb), some (.ref jr), a, b, some (.lst (strsD ls)), some (.lst (strsD bs)), c, d]) (fun ρ S' w => ?_) (fun d ds ρ S' w => ?_) _ _ _ ⟨[ls, bs], [], _, _, _, _, rfl, ?_, rfl, (fun _ m => by cases m), by simpa using B, hR, rfl⟩
  · obtain ⟨rem, rs, a, b, c, d, _, _, hc, hr, B', hR', rfl⟩ := w
    dsimp only
    exact q6 hb nb hr (by omega) hR' hO
  · obtain ⟨rem, rs, a, b, c, e, he, hrem, hc, hr, B', hR', rfl⟩ := w
    cases rem with
    | nil => cases he
    | cons xs rem =>
      cases he
      have hx := hrem xs List.mem_cons_self
      rw [List.length_cons] at hc
      walk_at "go"
      refine q3 (bs := bs) hx.1 hx.2 hl nl (by omega) ne B' (by omega) hR' fun l a b c S2 hrow B2 hR2 => ?_
      refine ⟨rem, rs ++ [l], _, _, _, _, rfl, fun xs m => hrem xs (List.mem_cons_of_mem _ m), ?_, ?_, ?_, hR2, rfl⟩
      · simp; omega
      · intro x m
        rcases List.mem_append.mp m with m | m
        · exact hr x m
        · rw [List.mem_singleton.mp m]; exact hrow
      · refine B2.mono ?_
        rw [List.length_append, List.length_singleton]
        omega
  · intro xs m
    simp only [List.mem_cons, List.not_mem_nil, or_false] at m
    rcases m with rfl | rfl
    · exact ⟨hl, nl⟩
    · exact ⟨hb, nb⟩
theorem q9 {s k e3 e4 e5 e8 e9 : Option D} {O : Out × Sto → Prop} (hl : ∀ l ∈ ls, Drawn l 101) (nl : ls.length ≤ 7) (hb : ∀ l ∈ bs, Drawn l 101) (nb : bs.length ≤ 7) (B : Bx S jb n) (hn : n ≤ 400000)
    (hO : ∀ (a b c d e f g h : Option D) (S : Sto), O (.nx [s, k, a, b, c, d, e, f, g, h], S)) :
    wp (t_law_9 [s, k, some (.ref jb), e3, e4, e5, some (.lst (strsD ls)), some (.lst (strsD bs)), e8, e9] S) O := by
  unfold t_law_9
  walk_at "go"
  have fl := frs_len hl
  have fb := frs_len hb
  refine wp_mono (frames_ok (drawn_txts hl) (drawn_txts hb) (by omega) (by omega) (by omega) (by omega)) fun r q => ?_
  obtain ⟨r, S1⟩ := r
  obtain ⟨rfl, G, rfl⟩ := (show r = .bl true ∧ ∃ G, S1 = S ++ G from q)
  walk_at "go"
  refine wp_mono (frames_ok (drawn_txts hb) (drawn_txts hl) (by omega) (by omega) (by omega) (by omega)) fun r q => ?_
  obtain ⟨r, S2⟩ := r
  obtain ⟨rfl, G2, rfl⟩ := (show r = .bl true ∧ ∃ G2, S2 = (S ++ G) ++ G2 from q)
  walk_at "go"
  unfold t_law_8
  walk_at "go"
  refine ⟨by decide, ?_⟩
  have B3 : Bx (S ++ G ++ G2 ++ [Ob.lst []]) jb n := (B.ext.ext).ext
  have hj : jb < (S ++ G ++ G2).length := by
    obtain ⟨g, f, c, d, h, _⟩ := (B.ext (G := G)).ext (G := G2)
    exact lt_of_get h
  exact q7 hl nl hb nb (by omega) B3 hn (get_at (B := [])) hO
theorem math (ns : List Int) (hl : ns.length ≤ 63) : ∃ S', m_law [.seq (ns.map .int)] [] = some (.bl true, S') := by
  have main : wp (m_law [.seq (ns.map .int)] []) (fun x => x.1 = .bl true) := by
    unfold m_law t_law_13
    rw [w_def, w_seq, w_for]
    walk_at "go"
    rw [List.length_map]
    refine itp (by split <;> split <;> omega) ?_
    refine wp_loop (fun ds ρ S => (∀ d ∈ ds, ∃ k : Int, d = .int k ∧ 0 ≤ k) ∧ ∃ a b c d e f g h i, ρ = [some (.seq (ns.map .int)), a, b, c, d, e, f, g, h, i]) ?_ ?_ _ _ _ ⟨?_, _, _, _, _, _, _, _, _, _, rfl⟩
    · rintro ρ S ⟨-, a, b, c, d, e, f, g, h, i, rfl⟩
      unfold t_law_12
      walk_at "go"
    · rintro x ds ρ S ⟨hk, a, b, c, d, e, f, g', h, i, rfl⟩
      obtain ⟨k, rfl, k0⟩ := hk _ List.mem_cons_self
      have hk2 : ∀ d ∈ ds, ∃ k : Int, d = .int k ∧ 0 ≤ k := fun x hx => hk x (List.mem_cons_of_mem _ hx)
      unfold t_law_11
      walk_at "go"
      refine cell_spec k0 fun r => ?_
      walk_at "go"
      refine box_spec fun o B1 => ?_
      unfold t_law_10
      walk_at "go"
      refine texts_spec B1 (by omega) fun ls S2 hls nls B2 b2 => ?_
      walk_at "go"
      refine texts_spec B2 (by omega) fun bs S3 hbs nbs B3 b3 => ?_
      try walk_at "go"
      exact q9 hls nls hbs nbs B3 (by omega) fun a b c d e f g h S => ⟨hk2, _, _, _, _, _, _, _, _, _, rfl⟩
    · intro d hd
      unfold upto at hd
      obtain ⟨i, _, rfl⟩ := List.mem_map.mp hd
      exact ⟨_, rfl, by omega⟩
  obtain ⟨⟨x, S'⟩, e, rfl⟩ := main
  exact ⟨S', e⟩
end
end K09


set_option maxHeartbeats 8000000
namespace K09
open PySem L2 W2 RZ M PySem.HandSPX
theorem all_mk {P : Program} {w : World} {K : PySem.W.Frag} {h : Heap} {mg : Str → Option Value} {fa : Addr} (X : K.In h) (G : h.Ns mainGlobals mg) (hfa : mg "law" = some (.ref fa))
    {f_is_signs f_is_text f__frame f_framed f__judge f_all_framed f__end_of_frame f_frames_in f_is_whole f__law_cell f__law_box f__law_take f__law_sign f__law_frame f__law_text f__law_texts f__law_turned f__law_tail f__law_read f__law_reads_right f__law_frames_right f_law : Addr} {od_is_signs an_is_signs od_is_text an_is_text od__frame an__frame od_framed an_framed od__judge an__judge od_all_framed an_all_framed od__end_of_frame an__end_of_frame od_frames_in an_frames_in od_is_whole an_is_whole od__law_cell an__law_cell od__law_box an__law_box od__law_take an__law_take od__law_sign an__law_sign od__law_frame an__law_frame od__law_text an__law_text od__law_texts an__law_texts od__law_turned an__law_turned od__law_tail an__law_tail od__law_read an__law_read od__law_reads_right an__law_reads_right od__law_frames_right an__law_frames_right od_law an_law : Option Addr} {sl_is_signs sl_is_text sl__frame sl_framed sl__judge sl_all_framed sl__end_of_frame sl_frames_in sl_is_whole sl__law_cell sl__law_box sl__law_take sl__law_sign sl__law_frame sl__law_text sl__law_texts sl__law_turned sl__law_tail sl__law_read sl__law_reads_right sl__law_frames_right sl_law : Array (Option Value)} {oc_is_signs kV_is_signs dc_is_signs pm_is_signs cd_is_signs ct_is_signs oc_is_text kV_is_text dc_is_text pm_is_text cd_is_text ct_is_text oc__frame kV__frame dc__frame pm__frame cd__frame ct__frame oc_framed kV_framed dc_framed pm_framed cd_framed ct_framed oc__judge kV__judge dc__judge pm__judge cd__judge ct__judge oc_all_framed kV_all_framed dc_all_framed pm_all_framed cd_all_framed ct_all_framed oc__end_of_frame kV__end_of_frame dc__end_of_frame pm__end_of_frame cd__end_of_frame ct__end_of_frame oc_frames_in kV_frames_in dc_frames_in pm_frames_in cd_frames_in ct_frames_in oc_is_whole kV_is_whole dc_is_whole pm_is_whole cd_is_whole ct_is_whole oc__law_cell kV__law_cell dc__law_cell pm__law_cell cd__law_cell ct__law_cell oc__law_box kV__law_box dc__law_box pm__law_box cd__law_box ct__law_box oc__law_take kV__law_take dc__law_take pm__law_take cd__law_take ct__law_take oc__law_sign kV__law_sign dc__law_sign pm__law_sign cd__law_sign ct__law_sign oc__law_frame kV__law_frame dc__law_frame pm__law_frame cd__law_frame ct__law_frame oc__law_text kV__law_text dc__law_text pm__law_text cd__law_text ct__law_text oc__law_texts kV__law_texts dc__law_texts pm__law_texts cd__law_texts ct__law_texts oc__law_turned kV__law_turned dc__law_turned pm__law_turned cd__law_turned ct__law_turned oc__law_tail kV__law_tail dc__law_tail pm__law_tail cd__law_tail ct__law_tail oc__law_read kV__law_read dc__law_read pm__law_read cd__law_read ct__law_read oc__law_reads_right kV__law_reads_right dc__law_reads_right pm__law_reads_right cd__law_reads_right ct__law_reads_right oc__law_frames_right kV__law_frames_right dc__law_frames_right pm__law_frames_right cd__law_frames_right ct__law_frames_right oc_law kV_law dc_law pm_law cd_law ct_law : Value} {t_FIGURES : Tok} {t_MOST_SIGNS : Tok}
    (a_is_signs : PySem.W.nsIn K mainGlobals "is_signs" = some (some (.ref f_is_signs)))
    (l_is_signs : K.lookup f_is_signs = some ⟨oc_is_signs, od_is_signs, .func (PySem.W.fnOf "is_signs" "is_signs" (defArgs s_is_signs) (defBody s_is_signs) (defScope s_is_signs) .none kV_is_signs dc_is_signs pm_is_signs an_is_signs cd_is_signs ct_is_signs), sl_is_signs⟩)
    (c_is_signs : PySem.W.codeIn K cd_is_signs "is_signs" = true)
    (k_is_signs : PySem.W.keepIn K (.ref f_is_signs) = true)
    (a_is_text : PySem.W.nsIn K mainGlobals "is_text" = some (some (.ref f_is_text)))
    (l_is_text : K.lookup f_is_text = some ⟨oc_is_text, od_is_text, .func (PySem.W.fnOf "is_text" "is_text" (defArgs s_is_text) (defBody s_is_text) (defScope s_is_text) .none kV_is_text dc_is_text pm_is_text an_is_text cd_is_text ct_is_text), sl_is_text⟩)
    (c_is_text : PySem.W.codeIn K cd_is_text "is_text" = true)
    (k_is_text : PySem.W.keepIn K (.ref f_is_text) = true)
    (a__frame : PySem.W.nsIn K mainGlobals "_frame" = some (some (.ref f__frame)))
    (l__frame : K.lookup f__frame = some ⟨oc__frame, od__frame, .func (PySem.W.fnOf "_frame" "_frame" (defArgs s__frame) (defBody s__frame) (defScope s__frame) .none kV__frame dc__frame pm__frame an__frame cd__frame ct__frame), sl__frame⟩)
    (c__frame : PySem.W.codeIn K cd__frame "_frame" = true)
    (k__frame : PySem.W.keepIn K (.ref f__frame) = true)
    (a_framed : PySem.W.nsIn K mainGlobals "framed" = some (some (.ref f_framed)))
    (l_framed : K.lookup f_framed = some ⟨oc_framed, od_framed, .func (PySem.W.fnOf "framed" "framed" (defArgs s_framed) (defBody s_framed) (defScope s_framed) .none kV_framed dc_framed pm_framed an_framed cd_framed ct_framed), sl_framed⟩)
    (c_framed : PySem.W.codeIn K cd_framed "framed" = true)
    (k_framed : PySem.W.keepIn K (.ref f_framed) = true)
    (a__judge : PySem.W.nsIn K mainGlobals "_judge" = some (some (.ref f__judge)))
    (l__judge : K.lookup f__judge = some ⟨oc__judge, od__judge, .func (PySem.W.fnOf "_judge" "_judge" (defArgs s__judge) (defBody s__judge) (defScope s__judge) .none kV__judge dc__judge pm__judge an__judge cd__judge ct__judge), sl__judge⟩)
    (c__judge : PySem.W.codeIn K cd__judge "_judge" = true)
    (k__judge : PySem.W.keepIn K (.ref f__judge) = true)
    (a_all_framed : PySem.W.nsIn K mainGlobals "all_framed" = some (some (.ref f_all_framed)))
    (l_all_framed : K.lookup f_all_framed = some ⟨oc_all_framed, od_all_framed, .func (PySem.W.fnOf "all_framed" "all_framed" (defArgs s_all_framed) (defBody s_all_framed) (defScope s_all_framed) .none kV_all_framed dc_all_framed pm_all_framed an_all_framed cd_all_framed ct_all_framed), sl_all_framed⟩)
    (c_all_framed : PySem.W.codeIn K cd_all_framed "all_framed" = true)
    (k_all_framed : PySem.W.keepIn K (.ref f_all_framed) = true)
    (a__end_of_frame : PySem.W.nsIn K mainGlobals "_end_of_frame" = some (some (.ref f__end_of_frame)))
    (l__end_of_frame : K.lookup f__end_of_frame = some ⟨oc__end_of_frame, od__end_of_frame, .func (PySem.W.fnOf "_end_of_frame" "_end_of_frame" (defArgs s__end_of_frame) (defBody s__end_of_frame) (defScope s__end_of_frame) .none kV__end_of_frame dc__end_of_frame pm__end_of_frame an__end_of_frame cd__end_of_frame ct__end_of_frame), sl__end_of_frame⟩)
    (c__end_of_frame : PySem.W.codeIn K cd__end_of_frame "_end_of_frame" = true)
    (k__end_of_frame : PySem.W.keepIn K (.ref f__end_of_frame) = true)
    (a_frames_in : PySem.W.nsIn K mainGlobals "frames_in" = some (some (.ref f_frames_in)))
    (l_frames_in : K.lookup f_frames_in = some ⟨oc_frames_in, od_frames_in, .func (PySem.W.fnOf "frames_in" "frames_in" (defArgs s_frames_in) (defBody s_frames_in) (defScope s_frames_in) .none kV_frames_in dc_frames_in pm_frames_in an_frames_in cd_frames_in ct_frames_in), sl_frames_in⟩)
    (c_frames_in : PySem.W.codeIn K cd_frames_in "frames_in" = true)
    (k_frames_in : PySem.W.keepIn K (.ref f_frames_in) = true)
    (a_is_whole : PySem.W.nsIn K mainGlobals "is_whole" = some (some (.ref f_is_whole)))
    (l_is_whole : K.lookup f_is_whole = some ⟨oc_is_whole, od_is_whole, .func (PySem.W.fnOf "is_whole" "is_whole" (defArgs s_is_whole) (defBody s_is_whole) (defScope s_is_whole) .none kV_is_whole dc_is_whole pm_is_whole an_is_whole cd_is_whole ct_is_whole), sl_is_whole⟩)
    (c_is_whole : PySem.W.codeIn K cd_is_whole "is_whole" = true)
    (k_is_whole : PySem.W.keepIn K (.ref f_is_whole) = true)
    (a__law_cell : PySem.W.nsIn K mainGlobals "_law_cell" = some (some (.ref f__law_cell)))
    (l__law_cell : K.lookup f__law_cell = some ⟨oc__law_cell, od__law_cell, .func (PySem.W.fnOf "_law_cell" "_law_cell" (defArgs s__law_cell) (defBody s__law_cell) (defScope s__law_cell) .none kV__law_cell dc__law_cell pm__law_cell an__law_cell cd__law_cell ct__law_cell), sl__law_cell⟩)
    (c__law_cell : PySem.W.codeIn K cd__law_cell "_law_cell" = true)
    (k__law_cell : PySem.W.keepIn K (.ref f__law_cell) = true)
    (a__law_box : PySem.W.nsIn K mainGlobals "_law_box" = some (some (.ref f__law_box)))
    (l__law_box : K.lookup f__law_box = some ⟨oc__law_box, od__law_box, .func (PySem.W.fnOf "_law_box" "_law_box" (defArgs s__law_box) (defBody s__law_box) (defScope s__law_box) .none kV__law_box dc__law_box pm__law_box an__law_box cd__law_box ct__law_box), sl__law_box⟩)
    (c__law_box : PySem.W.codeIn K cd__law_box "_law_box" = true)
    (k__law_box : PySem.W.keepIn K (.ref f__law_box) = true)
    (a__law_take : PySem.W.nsIn K mainGlobals "_law_take" = some (some (.ref f__law_take)))
    (l__law_take : K.lookup f__law_take = some ⟨oc__law_take, od__law_take, .func (PySem.W.fnOf "_law_take" "_law_take" (defArgs s__law_take) (defBody s__law_take) (defScope s__law_take) .none kV__law_take dc__law_take pm__law_take an__law_take cd__law_take ct__law_take), sl__law_take⟩)
    (c__law_take : PySem.W.codeIn K cd__law_take "_law_take" = true)
    (k__law_take : PySem.W.keepIn K (.ref f__law_take) = true)
    (a__law_sign : PySem.W.nsIn K mainGlobals "_law_sign" = some (some (.ref f__law_sign)))
    (l__law_sign : K.lookup f__law_sign = some ⟨oc__law_sign, od__law_sign, .func (PySem.W.fnOf "_law_sign" "_law_sign" (defArgs s__law_sign) (defBody s__law_sign) (defScope s__law_sign) .none kV__law_sign dc__law_sign pm__law_sign an__law_sign cd__law_sign ct__law_sign), sl__law_sign⟩)
    (c__law_sign : PySem.W.codeIn K cd__law_sign "_law_sign" = true)
    (k__law_sign : PySem.W.keepIn K (.ref f__law_sign) = true)
    (a__law_frame : PySem.W.nsIn K mainGlobals "_law_frame" = some (some (.ref f__law_frame)))
    (l__law_frame : K.lookup f__law_frame = some ⟨oc__law_frame, od__law_frame, .func (PySem.W.fnOf "_law_frame" "_law_frame" (defArgs s__law_frame) (defBody s__law_frame) (defScope s__law_frame) .none kV__law_frame dc__law_frame pm__law_frame an__law_frame cd__law_frame ct__law_frame), sl__law_frame⟩)
    (c__law_frame : PySem.W.codeIn K cd__law_frame "_law_frame" = true)
    (k__law_frame : PySem.W.keepIn K (.ref f__law_frame) = true)
    (a__law_text : PySem.W.nsIn K mainGlobals "_law_text" = some (some (.ref f__law_text)))
    (l__law_text : K.lookup f__law_text = some ⟨oc__law_text, od__law_text, .func (PySem.W.fnOf "_law_text" "_law_text" (defArgs s__law_text) (defBody s__law_text) (defScope s__law_text) .none kV__law_text dc__law_text pm__law_text an__law_text cd__law_text ct__law_text), sl__law_text⟩)
    (c__law_text : PySem.W.codeIn K cd__law_text "_law_text" = true)
    (k__law_text : PySem.W.keepIn K (.ref f__law_text) = true)
    (a__law_texts : PySem.W.nsIn K mainGlobals "_law_texts" = some (some (.ref f__law_texts)))
    (l__law_texts : K.lookup f__law_texts = some ⟨oc__law_texts, od__law_texts, .func (PySem.W.fnOf "_law_texts" "_law_texts" (defArgs s__law_texts) (defBody s__law_texts) (defScope s__law_texts) .none kV__law_texts dc__law_texts pm__law_texts an__law_texts cd__law_texts ct__law_texts), sl__law_texts⟩)
    (c__law_texts : PySem.W.codeIn K cd__law_texts "_law_texts" = true)
    (k__law_texts : PySem.W.keepIn K (.ref f__law_texts) = true)
    (a__law_turned : PySem.W.nsIn K mainGlobals "_law_turned" = some (some (.ref f__law_turned)))
    (l__law_turned : K.lookup f__law_turned = some ⟨oc__law_turned, od__law_turned, .func (PySem.W.fnOf "_law_turned" "_law_turned" (defArgs s__law_turned) (defBody s__law_turned) (defScope s__law_turned) .none kV__law_turned dc__law_turned pm__law_turned an__law_turned cd__law_turned ct__law_turned), sl__law_turned⟩)
    (c__law_turned : PySem.W.codeIn K cd__law_turned "_law_turned" = true)
    (k__law_turned : PySem.W.keepIn K (.ref f__law_turned) = true)
    (a__law_tail : PySem.W.nsIn K mainGlobals "_law_tail" = some (some (.ref f__law_tail)))
    (l__law_tail : K.lookup f__law_tail = some ⟨oc__law_tail, od__law_tail, .func (PySem.W.fnOf "_law_tail" "_law_tail" (defArgs s__law_tail) (defBody s__law_tail) (defScope s__law_tail) .none kV__law_tail dc__law_tail pm__law_tail an__law_tail cd__law_tail ct__law_tail), sl__law_tail⟩)
    (c__law_tail : PySem.W.codeIn K cd__law_tail "_law_tail" = true)
    (k__law_tail : PySem.W.keepIn K (.ref f__law_tail) = true)
    (a__law_read : PySem.W.nsIn K mainGlobals "_law_read" = some (some (.ref f__law_read)))
    (l__law_read : K.lookup f__law_read = some ⟨oc__law_read, od__law_read, .func (PySem.W.fnOf "_law_read" "_law_read" (defArgs s__law_read) (defBody s__law_read) (defScope s__law_read) .none kV__law_read dc__law_read pm__law_read an__law_read cd__law_read ct__law_read), sl__law_read⟩)
    (c__law_read : PySem.W.codeIn K cd__law_read "_law_read" = true)
    (k__law_read : PySem.W.keepIn K (.ref f__law_read) = true)
    (a__law_reads_right : PySem.W.nsIn K mainGlobals "_law_reads_right" = some (some (.ref f__law_reads_right)))
    (l__law_reads_right : K.lookup f__law_reads_right = some ⟨oc__law_reads_right, od__law_reads_right, .func (PySem.W.fnOf "_law_reads_right" "_law_reads_right" (defArgs s__law_reads_right) (defBody s__law_reads_right) (defScope s__law_reads_right) .none kV__law_reads_right dc__law_reads_right pm__law_reads_right an__law_reads_right cd__law_reads_right ct__law_reads_right), sl__law_reads_right⟩)
    (c__law_reads_right : PySem.W.codeIn K cd__law_reads_right "_law_reads_right" = true)
    (k__law_reads_right : PySem.W.keepIn K (.ref f__law_reads_right) = true)
    (a__law_frames_right : PySem.W.nsIn K mainGlobals "_law_frames_right" = some (some (.ref f__law_frames_right)))
    (l__law_frames_right : K.lookup f__law_frames_right = some ⟨oc__law_frames_right, od__law_frames_right, .func (PySem.W.fnOf "_law_frames_right" "_law_frames_right" (defArgs s__law_frames_right) (defBody s__law_frames_right) (defScope s__law_frames_right) .none kV__law_frames_right dc__law_frames_right pm__law_frames_right an__law_frames_right cd__law_frames_right ct__law_frames_right), sl__law_frames_right⟩)
    (c__law_frames_right : PySem.W.codeIn K cd__law_frames_right "_law_frames_right" = true)
    (k__law_frames_right : PySem.W.keepIn K (.ref f__law_frames_right) = true)
    (a_law : PySem.W.nsIn K mainGlobals "law" = some (some (.ref f_law)))
    (l_law : K.lookup f_law = some ⟨oc_law, od_law, .func (PySem.W.fnOf "law" "law" (defArgs s_law) (defBody s_law) (defScope s_law) .none kV_law dc_law pm_law an_law cd_law ct_law), sl_law⟩)
    (c_law : PySem.W.codeIn K cd_law "law" = true)
    (k_law : PySem.W.keepIn K (.ref f_law) = true)
    (z_abs : PySem.W.nsIn K mainGlobals "abs" = some none)
    (z_bool : PySem.W.nsIn K mainGlobals "bool" = some none)
    (z_int : PySem.W.nsIn K mainGlobals "int" = some none)
    (z_isinstance : PySem.W.nsIn K mainGlobals "isinstance" = some none)
    (z_len : PySem.W.nsIn K mainGlobals "len" = some none)
    (z_list : PySem.W.nsIn K mainGlobals "list" = some none)
    (z_max : PySem.W.nsIn K mainGlobals "max" = some none)
    (z_min : PySem.W.nsIn K mainGlobals "min" = some none)
    (z_range : PySem.W.nsIn K mainGlobals "range" = some none)
    (z_str : PySem.W.nsIn K mainGlobals "str" = some none)
    (z_sum : PySem.W.nsIn K mainGlobals "sum" = some none)
    (z_tuple : PySem.W.nsIn K mainGlobals "tuple" = some none)
    (v_FIGURES : PySem.W.nsIn K mainGlobals "FIGURES" = some (some (.int 5 t_FIGURES)))
    (v_MOST_SIGNS : PySem.W.nsIn K mainGlobals "MOST_SIGNS" = some (some (.int 80000 t_MOST_SIGNS)))
    : ∃ fd : FuncData, (∀ (s : Shared) (v : Value), BindsTo s fd ⟨[v], []⟩ [("script", v)]) ∧ ∀ base : Heap, K.In base → base.Ns mainGlobals mg → (∃ mm, base.Ns sysModules mm) → FnG P w K mg base 6 fa fd ["script"] (spM K mg 1 m_law) := by
  have e := hfa.symm.trans (PySem.W.mg_of X G a_law)
  cases e
  have T : Txt w K mg := ⟨PySem.W.mg_none_of X G z_abs,
    PySem.W.mg_none_of X G z_bool,
    PySem.W.mg_none_of X G z_int,
    PySem.W.mg_none_of X G z_isinstance,
    PySem.W.mg_none_of X G z_len,
    PySem.W.mg_none_of X G z_list,
    PySem.W.mg_none_of X G z_max,
    PySem.W.mg_none_of X G z_min,
    PySem.W.mg_none_of X G z_range,
    PySem.W.mg_none_of X G z_str,
    PySem.W.mg_none_of X G z_sum,
    PySem.W.mg_none_of X G z_tuple,
    ⟨_, PySem.W.mg_of X G v_FIGURES⟩,
    ⟨_, PySem.W.mg_of X G v_MOST_SIGNS⟩⟩
  have F_is_signs := fun_mk (st := s_is_signs) l_is_signs c_is_signs k_is_signs
  have b_is_signs := F_is_signs.binds (ps := ["value"]) fun _ _ _ _ _ _ us hl => match us, hl with | [_], _ => rfl
  have F_is_text := fun_mk (st := s_is_text) l_is_text c_is_text k_is_text
  have b_is_text := F_is_text.binds (ps := ["value", "most"]) fun _ _ _ _ _ _ us hl => match us, hl with | [_, _], _ => rfl
  have F__frame := fun_mk (st := s__frame) l__frame c__frame k__frame
  have b__frame := F__frame.binds (ps := ["text"]) fun _ _ _ _ _ _ us hl => match us, hl with | [_], _ => rfl
  have F_framed := fun_mk (st := s_framed) l_framed c_framed k_framed
  have b_framed := F_framed.binds (ps := ["text"]) fun _ _ _ _ _ _ us hl => match us, hl with | [_], _ => rfl
  have F__judge := fun_mk (st := s__judge) l__judge c__judge k__judge
  have b__judge := F__judge.binds (ps := ["texts"]) fun _ _ _ _ _ _ us hl => match us, hl with | [_], _ => rfl
  have F_all_framed := fun_mk (st := s_all_framed) l_all_framed c_all_framed k_all_framed
  have b_all_framed := F_all_framed.binds (ps := ["texts"]) fun _ _ _ _ _ _ us hl => match us, hl with | [_], _ => rfl
  have F__end_of_frame := fun_mk (st := s__end_of_frame) l__end_of_frame c__end_of_frame k__end_of_frame
  have b__end_of_frame := F__end_of_frame.binds (ps := ["text", "start"]) fun _ _ _ _ _ _ us hl => match us, hl with | [_, _], _ => rfl
  have F_frames_in := fun_mk (st := s_frames_in) l_frames_in c_frames_in k_frames_in
  have b_frames_in := F_frames_in.binds (ps := ["text"]) fun _ _ _ _ _ _ us hl => match us, hl with | [_], _ => rfl
  have F_is_whole := fun_mk (st := s_is_whole) l_is_whole c_is_whole k_is_whole
  have b_is_whole := F_is_whole.binds (ps := ["value"]) fun _ _ _ _ _ _ us hl => match us, hl with | [_], _ => rfl
  have F__law_cell := fun_mk (st := s__law_cell) l__law_cell c__law_cell k__law_cell
  have b__law_cell := F__law_cell.binds (ps := ["script", "k"]) fun _ _ _ _ _ _ us hl => match us, hl with | [_, _], _ => rfl
  have F__law_box := fun_mk (st := s__law_box) l__law_box c__law_box k__law_box
  have b__law_box := F__law_box.binds (ps := ["great"]) fun _ _ _ _ _ _ us hl => match us, hl with | [_], _ => rfl
  have F__law_take := fun_mk (st := s__law_take) l__law_take c__law_take k__law_take
  have b__law_take := F__law_take.binds (ps := ["box", "many"]) fun _ _ _ _ _ _ us hl => match us, hl with | [_, _], _ => rfl
  have F__law_sign := fun_mk (st := s__law_sign) l__law_sign c__law_sign k__law_sign
  have b__law_sign := F__law_sign.binds (ps := ["box", "near"]) fun _ _ _ _ _ _ us hl => match us, hl with | [_, _], _ => rfl
  have F__law_frame := fun_mk (st := s__law_frame) l__law_frame c__law_frame k__law_frame
  have b__law_frame := F__law_frame.binds (ps := ["row"]) fun _ _ _ _ _ _ us hl => match us, hl with | [_], _ => rfl
  have F__law_text := fun_mk (st := s__law_text) l__law_text c__law_text k__law_text
  have b__law_text := F__law_text.binds (ps := ["box"]) fun _ _ _ _ _ _ us hl => match us, hl with | [_], _ => rfl
  have F__law_texts := fun_mk (st := s__law_texts) l__law_texts c__law_texts k__law_texts
  have b__law_texts := F__law_texts.binds (ps := ["box"]) fun _ _ _ _ _ _ us hl => match us, hl with | [_], _ => rfl
  have F__law_turned := fun_mk (st := s__law_turned) l__law_turned c__law_turned k__law_turned
  have b__law_turned := F__law_turned.binds (ps := ["box", "row"]) fun _ _ _ _ _ _ us hl => match us, hl with | [_, _], _ => rfl
  have F__law_tail := fun_mk (st := s__law_tail) l__law_tail c__law_tail k__law_tail
  have b__law_tail := F__law_tail.binds (ps := ["box"]) fun _ _ _ _ _ _ us hl => match us, hl with | [_], _ => rfl
  have F__law_read := fun_mk (st := s__law_read) l__law_read c__law_read k__law_read
  have b__law_read := F__law_read.binds (ps := ["row"]) fun _ _ _ _ _ _ us hl => match us, hl with | [_], _ => rfl
  have F__law_reads_right := fun_mk (st := s__law_reads_right) l__law_reads_right c__law_reads_right k__law_reads_right
  have b__law_reads_right := F__law_reads_right.binds (ps := ["row"]) fun _ _ _ _ _ _ us hl => match us, hl with | [_], _ => rfl
  have F__law_frames_right := fun_mk (st := s__law_frames_right) l__law_frames_right c__law_frames_right k__law_frames_right
  have b__law_frames_right := F__law_frames_right.binds (ps := ["texts", "others"]) fun _ _ _ _ _ _ us hl => match us, hl with | [_, _], _ => rfl
  have F_law := fun_mk (st := s_law) l_law c_law k_law
  refine ⟨PySem.W.fnOf "law" "law" (defArgs s_law) (defBody s_law) (defScope s_law) .none kV_law dc_law pm_law an_law cd_law ct_law, fun s v => .of_eq rfl, fun base _ _ hsys => ?_⟩
  have G_is_signs := ok_is_signs (P := P) (w := w) (base := base) T F_is_signs
  have C_is_signs := cal_mk F_is_signs (PySem.W.mg_of X G a_is_signs) b_is_signs (np := 1) rfl G_is_signs
  have G_is_text := ok_is_text (P := P) (w := w) (base := base) T F_is_text C_is_signs
  have C_is_text := cal_mk F_is_text (PySem.W.mg_of X G a_is_text) b_is_text (np := 2) rfl G_is_text
  have G__frame := ok__frame (P := P) (w := w) (base := base) T F__frame
  have C__frame := cal_mk F__frame (PySem.W.mg_of X G a__frame) b__frame (np := 1) rfl G__frame
  have G_framed := ok_framed (P := P) (w := w) (base := base) T F_framed C_is_text C__frame
  have C_framed := cal_mk F_framed (PySem.W.mg_of X G a_framed) b_framed (np := 1) rfl G_framed
  have K_framed := calK_mk F_framed (PySem.W.mg_of X G a_framed) (fun s u => .of_eq rfl) G_framed
  have G__judge := ok__judge (P := P) (w := w) (base := base) T F__judge C_is_text
  have C__judge := cal_mk F__judge (PySem.W.mg_of X G a__judge) b__judge (np := 1) rfl G__judge
  have G_all_framed := ok_all_framed (P := P) (w := w) (base := base) T F_all_framed C__judge C__frame
  have C_all_framed := cal_mk F_all_framed (PySem.W.mg_of X G a_all_framed) b_all_framed (np := 1) rfl G_all_framed
  have K_all_framed := calK_mk F_all_framed (PySem.W.mg_of X G a_all_framed) (fun s u => .of_eq rfl) G_all_framed
  have G__end_of_frame := ok__end_of_frame (P := P) (w := w) (base := base) T F__end_of_frame
  have C__end_of_frame := cal_mk F__end_of_frame (PySem.W.mg_of X G a__end_of_frame) b__end_of_frame (np := 2) rfl G__end_of_frame
  have G_frames_in := ok_frames_in (P := P) (w := w) (base := base) T F_frames_in C_is_signs C__end_of_frame
  have C_frames_in := cal_mk F_frames_in (PySem.W.mg_of X G a_frames_in) b_frames_in (np := 1) rfl G_frames_in
  have K_frames_in := calK_mk F_frames_in (PySem.W.mg_of X G a_frames_in) (fun s u => .of_eq rfl) G_frames_in
  have G_is_whole := ok_is_whole (P := P) (w := w) (base := base) T F_is_whole C_is_signs C_frames_in
  have C_is_whole := cal_mk F_is_whole (PySem.W.mg_of X G a_is_whole) b_is_whole (np := 1) rfl G_is_whole
  have K_is_whole := calK_mk F_is_whole (PySem.W.mg_of X G a_is_whole) (fun s u => .of_eq rfl) G_is_whole
  have G__law_cell := ok__law_cell (P := P) (w := w) (base := base) T F__law_cell
  have C__law_cell := cal_mk F__law_cell (PySem.W.mg_of X G a__law_cell) b__law_cell (np := 2) rfl G__law_cell
  have G__law_box := ok__law_box (P := P) (w := w) (base := base) T F__law_box
  have C__law_box := cal_mk F__law_box (PySem.W.mg_of X G a__law_box) b__law_box (np := 1) rfl G__law_box
  have G__law_take := ok__law_take (P := P) (w := w) (base := base) T F__law_take
  have C__law_take := cal_mk F__law_take (PySem.W.mg_of X G a__law_take) b__law_take (np := 2) rfl G__law_take
  have G__law_sign := ok__law_sign (P := P) (w := w) (base := base) T F__law_sign C__law_take
  have C__law_sign := cal_mk F__law_sign (PySem.W.mg_of X G a__law_sign) b__law_sign (np := 2) rfl G__law_sign
  have G__law_frame := ok__law_frame (P := P) (w := w) (base := base) T F__law_frame
  have C__law_frame := cal_mk F__law_frame (PySem.W.mg_of X G a__law_frame) b__law_frame (np := 1) rfl G__law_frame
  have G__law_text := ok__law_text (P := P) (w := w) (base := base) T F__law_text C__law_take C__law_sign C__law_frame
  have C__law_text := cal_mk F__law_text (PySem.W.mg_of X G a__law_text) b__law_text (np := 1) rfl G__law_text
  have G__law_texts := ok__law_texts (P := P) (w := w) (base := base) T F__law_texts C__law_take C__law_text
  have C__law_texts := cal_mk F__law_texts (PySem.W.mg_of X G a__law_texts) b__law_texts (np := 1) rfl G__law_texts
  have G__law_turned := ok__law_turned (P := P) (w := w) (base := base) T F__law_turned C__law_take C__law_sign
  have C__law_turned := cal_mk F__law_turned (PySem.W.mg_of X G a__law_turned) b__law_turned (np := 2) rfl G__law_turned
  have G__law_tail := ok__law_tail (P := P) (w := w) (base := base) T F__law_tail C__law_frame C__law_text C__law_take C__law_sign C__law_turned
  have C__law_tail := cal_mk F__law_tail (PySem.W.mg_of X G a__law_tail) b__law_tail (np := 1) rfl G__law_tail
  have G__law_read := ok__law_read (P := P) (w := w) (base := base) T F__law_read
  have C__law_read := cal_mk F__law_read (PySem.W.mg_of X G a__law_read) b__law_read (np := 1) rfl G__law_read
  have G__law_reads_right := ok__law_reads_right (P := P) (w := w) (base := base) T F__law_reads_right C_frames_in C__law_read C_is_whole K_is_whole K_frames_in
  have C__law_reads_right := cal_mk F__law_reads_right (PySem.W.mg_of X G a__law_reads_right) b__law_reads_right (np := 1) rfl G__law_reads_right
  have G__law_frames_right := ok__law_frames_right (P := P) (w := w) (base := base) T F__law_frames_right C__law_frame C_framed C_all_framed K_framed K_all_framed
  have C__law_frames_right := cal_mk F__law_frames_right (PySem.W.mg_of X G a__law_frames_right) b__law_frames_right (np := 2) rfl G__law_frames_right
  exact ok_law (P := P) (w := w) (base := base) T F_law C__law_box C__law_cell C__law_texts C__law_frames_right C__law_tail C__law_take C__law_frame C__law_reads_right
end K09
open PySem PySem.W PyProof.Rows in
set_option maxRecDepth 100000 in
set_option maxHeartbeats 0 in
theorem PySem.Challenge.cw_inorderonce_k09_frames_there_and_back_holds : PySem.Challenge.rw_inorderonce_k09_frames_there_and_back.Holds := by
  w_on; o_law; k_head; (case hw => w_witness2)
  k_fill
  refine M.walk_end (l := PySem.Challenge.rw_inorderonce_k09_frames_there_and_back) (F := K09.m_law) (k := 6) (x := "script") rfl (by decide +kernel) rfl ⟨rfl, by decide, by decide⟩ (fun w h Y => PySem.W.kIn_of Y) K09.math ?Z
  case Z =>
    intro w mg fa h KX G hmg
    refine' K09.all_mk KX G hmg ?a_is_signs ?l_is_signs ?c_is_signs ?k_is_signs ?a_is_text ?l_is_text ?c_is_text ?k_is_text ?a__frame ?l__frame ?c__frame ?k__frame ?a_framed ?l_framed ?c_framed ?k_framed ?a__judge ?l__judge ?c__judge ?k__judge ?a_all_framed ?l_all_framed ?c_all_framed ?k_all_framed ?a__end_of_frame ?l__end_of_frame ?c__end_of_frame ?k__end_of_frame ?a_frames_in ?l_frames_in ?c_frames_in ?k_frames_in ?a_is_whole ?l_is_whole ?c_is_whole ?k_is_whole ?a__law_cell ?l__law_cell ?c__law_cell ?k__law_cell ?a__law_box ?l__law_box ?c__law_box ?k__law_box ?a__law_take ?l__law_take ?c__law_take ?k__law_take ?a__law_sign ?l__law_sign ?c__law_sign ?k__law_sign ?a__law_frame ?l__law_frame ?c__law_frame ?k__law_frame ?a__law_text ?l__law_text ?c__law_text ?k__law_text ?a__law_texts ?l__law_texts ?c__law_texts ?k__law_texts ?a__law_turned ?l__law_turned ?c__law_turned ?k__law_turned ?a__law_tail ?l__law_tail ?c__law_tail ?k__law_tail ?a__law_read ?l__law_read ?c__law_read ?k__law_read ?a__law_reads_right ?l__law_reads_right ?c__law_reads_right ?k__law_reads_right ?a__law_frames_right ?l__law_frames_right ?c__law_frames_right ?k__law_frames_right ?a_law ?l_law ?c_law ?k_law ?z_abs ?z_bool ?z_int ?z_isinstance ?z_len ?z_list ?z_max ?z_min ?z_range ?z_str ?z_sum ?z_tuple ?v_FIGURES ?v_MOST_SIGNS
    (case a_is_signs => k_is)
    (case l_is_signs => k_is)
    (case c_is_signs => k_is)
    (case k_is_signs => k_is)
    (case a_is_text => k_is)
    (case l_is_text => k_is)
    (case c_is_text => k_is)
    (case k_is_text => k_is)
    (case a__frame => k_is)
    (case l__frame => k_is)
    (case c__frame => k_is)
    (case k__frame => k_is)
    (case a_framed => k_is)
    (case l_framed => k_is)
    (case c_framed => k_is)
    (case k_framed => k_is)
    (case a__judge => k_is)
    (case l__judge => k_is)
    (case c__judge => k_is)
    (case k__judge => k_is)
    (case a_all_framed => k_is)
    (case l_all_framed => k_is)
    (case c_all_framed => k_is)
    (case k_all_framed => k_is)
    (case a__end_of_frame => k_is)
    (case l__end_of_frame => k_is)
    (case c__end_of_frame => k_is)
    (case k__end_of_frame => k_is)
    (case a_frames_in => k_is)
    (case l_frames_in => k_is)
    (case c_frames_in => k_is)
    (case k_frames_in => k_is)
    (case a_is_whole => k_is)
    (case l_is_whole => k_is)
    (case c_is_whole => k_is)
    (case k_is_whole => k_is)
    (case a__law_cell => k_is)
    (case l__law_cell => k_is)
    (case c__law_cell => k_is)
    (case k__law_cell => k_is)
    (case a__law_box => k_is)
    (case l__law_box => k_is)
    (case c__law_box => k_is)
    (case k__law_box => k_is)
    (case a__law_take => k_is)
    (case l__law_take => k_is)
    (case c__law_take => k_is)
    (case k__law_take => k_is)
    (case a__law_sign => k_is)
    (case l__law_sign => k_is)
    (case c__law_sign => k_is)
    (case k__law_sign => k_is)
    (case a__law_frame => k_is)
    (case l__law_frame => k_is)
    (case c__law_frame => k_is)
    (case k__law_frame => k_is)
    (case a__law_text => k_is)
    (case l__law_text => k_is)
    (case c__law_text => k_is)
    (case k__law_text => k_is)
    (case a__law_texts => k_is)
    (case l__law_texts => k_is)
    (case c__law_texts => k_is)
    (case k__law_texts => k_is)
    (case a__law_turned => k_is)
    (case l__law_turned => k_is)
    (case c__law_turned => k_is)
    (case k__law_turned => k_is)
    (case a__law_tail => k_is)
    (case l__law_tail => k_is)
    (case c__law_tail => k_is)
    (case k__law_tail => k_is)
    (case a__law_read => k_is)
    (case l__law_read => k_is)
    (case c__law_read => k_is)
    (case k__law_read => k_is)
    (case a__law_reads_right => k_is)
    (case l__law_reads_right => k_is)
    (case c__law_reads_right => k_is)
    (case k__law_reads_right => k_is)
    (case a__law_frames_right => k_is)
    (case l__law_frames_right => k_is)
    (case c__law_frames_right => k_is)
    (case k__law_frames_right => k_is)
    (case a_law => k_is)
    (case l_law => k_is)
    (case c_law => k_is)
    (case k_law => k_is)
    (case z_abs => k_is)
    (case z_bool => k_is)
    (case z_int => k_is)
    (case z_isinstance => k_is)
    (case z_len => k_is)
    (case z_list => k_is)
    (case z_max => k_is)
    (case z_min => k_is)
    (case z_range => k_is)
    (case z_str => k_is)
    (case z_sum => k_is)
    (case z_tuple => k_is)
    (case v_FIGURES => k_is)
    (case v_MOST_SIGNS => k_is)

