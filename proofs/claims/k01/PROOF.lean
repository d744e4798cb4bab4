import PyProof.Rows.All
import Wide.All
import OpenK.AllK
import Wide.FinOn
import HandS.ForMost
import HandS.Wide
import HandS.Style
import HandS.Codes
import HandS.Conv
import HandS.IsInst
import HandS.Zip
import HandS.Walk
import HandS.Text
import HandS.FStr
import HandS.NoneIn
import PySem.Challenge.RW_bothdoors_k01_houses_as_texts
set_option Elab.async false
set_option linter.all false
set_option maxRecDepth 100000
set_option maxHeartbeats 2000000
namespace Bd
open PySem PySem.Spec PyProof.Rows L2 HT
section
variable {prog : Program} {w : World} {A : Around} {E : Value → Shared → Prop} {s : Shared}
theorem sliceApplied_two {sl : Addr} {i : Int} {tk : Tok} {Q : Int × Int × Nat → Shared → Prop} (hs : s.heap.IsSliceOf sl .none .none (.int i tk)) (hi : i = 1 ∨ i = -1)
    (h : Q (if i = 1 then (0, 1, 2) else (1, -1, 2)) s) : wpAny (model prog w) A (Builtin.Slice.sliceApplied (.ref sl) (pure ((2 : Nat) : Int))) Q E s := by
  obtain ⟨os, hos, hcs, hds⟩ := id hs
  unfold Builtin.Slice.sliceApplied Builtin.Slice.sliceFields
  refine wpAny_bind (wpAny_bind (wpAny_field hos hds (x := .none) rfl (wpAny_bind (wpAny_field hos hds (x := .none) rfl (wpAny_bind (wpAny_field hos hds (x := .int i tk) rfl (wpAny_pure ?_)))))))
  refine wpAny_bind (slicePart_int ?_)
  rcases hi with rfl | rfl
  · show wpAny _ _ (if ((1 : Int) == 0) = true then _ else _) _ _ s
    rw [if_neg (by decide)]
    refine wpAny_bind (slicePart_none (wpAny_bind (slicePart_none (wpAny_bind (wpAny_pure ?_)))))
    exact wpAny_pure h
  · show wpAny _ _ (if ((-1 : Int) == 0) = true then _ else _) _ _ s
    rw [if_neg (by decide)]
    refine wpAny_bind (slicePart_none (wpAny_bind (slicePart_none (wpAny_bind (wpAny_pure ?_)))))
    exact wpAny_pure h
theorem getItem_pair_step {t sl : Addr} {x y : Value} {i : Int} {tk : Tok} {Q : Value → Shared → Prop} (ht : IsTup s.heap t #[x, y]) (hs : s.heap.IsSliceOf sl .none .none (.int i tk)) (hi : i = 1 ∨ i = -1)
    (h1 : i = 1 → Q (.ref t) s) (h2 : i = -1 → Q (.ref s.heap.objs.size) { s with heap := s.heap.push { cls := .type "tuple", data := .seq #[y, x] } }) :
    wpAny (model prog w) A (getItem (.ref t) (.ref sl)) Q E s := by
  have T : s.TypeIs (.ref sl) "slice" := let ⟨o, a, b, _⟩ := hs; ⟨o, a, b⟩
  unfold getItem; try with_reducible refine wpAny_holding ?_
  first | refine wpAny_bind (wpAny_pure ?_) | (skip; skip)
  refine wpAny_bind (wpAny_sequenceKey ht.typeIs (by decide) (wpAny_bind (wpAny_callSpecial?_slot (name := Str.ofString "__getitem__") ht.typeIs PyProof.Rows.slot_tuple_getitem (wpAny_call_entry PyProof.Rows.slot_tuple_getitem ht.typeIs entry_tuple_getitem ?_ (args_tuple_getitem _ _)))))
  show wpAny _ _ (Builtin.Tuple.tupleItemsOf (.ref t) >>= fun z => _) _ _ s
  refine wpAny_bind (tupleItemsOf_ ht (wpAny_bind (wpAny_typeOf T ?_)))
  rw [if_pos (by decide)]; refine wpAny_bind (sliceApplied_two hs hi ?_)
  rcases hi with rfl | rfl
  · rw [if_pos rfl]
    show wpAny _ _ (if (((0 : Int) == 0 && (1 : Int) == 1 && (2 : Nat) == 2)) = true then _ else _) _ _ s
    rw [if_pos (by decide)]; refine wpAny_bind ?_
    show wpAny _ _ (typeOf (.ref t) >>= fun z => pure (z == .type "tuple")) _ _ s
    refine wpAny_bind (wpAny_typeOf ht.typeIs (wpAny_pure ?_)); first | rw [if_pos (by decide)] | simp only [beq_self_eq_true, if_true]
    have h := h1 rfl
    first | exact wpAny_bind (wpAny_rule (wpAny_pure ⟨_, rfl, wpAny_pure h⟩)) | exact wpAny_bind (wpAny_rule (wpAny_bind (wpAny_pure (wpAny_pure ⟨_, rfl, wpAny_pure h⟩))))
  · rw [if_neg (by decide)]
    show wpAny _ _ (if (((1 : Int) == 0 && (-1 : Int) == 1 && (2 : Nat) == 2)) = true then _ else _) _ _ s
    rw [if_neg (by decide)]
    have e : ((List.range 2).filterMap fun (m : Nat) => (#[x, y] : Array Value)[((1 : Int) + (m : Int) * (-1)).toNat]?).toArray = #[y, x] := by rfl
    have z : sizeOk (.seq (#[y, x] : Array Value)) := by show (2 : Nat) ≤ sizeLine; decide
    rw [e]; have h := h2 rfl
    first | exact wpAny_bind (m := Builtin.Tuple.tupleExact _) (wpAny_newObj_type (wpAny_pure ⟨_, rfl, wpAny_pure h⟩) z) | exact wpAny_bind (m := Builtin.Tuple.tupleExact _) (wpAny_newObj_type (wpAny_bind (wpAny_pure (wpAny_pure ⟨_, rfl, wpAny_pure h⟩))) z) | exact wpAny_bind (wpAny_bind (m := Builtin.Tuple.tupleExact _) (wpAny_newObj_type (wpAny_pure (wpAny_pure ⟨_, rfl, wpAny_pure h⟩)) z)) | exact wpAny_bind (wpAny_bind (m := Builtin.Tuple.tupleExact _) (wpAny_newObj_type (wpAny_pure ⟨_, rfl, wpAny_pure h⟩) z))
end
section
variable {X : Cx}
/-! ### own rules -/
theorem op_powW : OpR X (binaryOp .Pow) (rI (fun i j => 0 ≤ j ∧ (Builtin.Int.intBits i : Int) * j ≤ 2 ^ 27) fun i j => .int (i ^ j.toNat)) :=
  opI fun _ _ _ _ _ _ _ hc q => pow_int hc.1 hc.2 q
/-- o[i] of a list, read for o[i] op= e -/
def rGetL (K : PySem.W.Frag) : V → V → Hp → VK → Prop := fun o i H Q => ∃ p xs k v, o = .ref p ∧ i = .int k ∧ 0 ≤ k ∧ SqL K H p xs ∧ atI xs k = some v ∧ Q v H
theorem get_list : PGet X (rGetL X.K) := by
  intro pins s σ H o i ov iv Q I ro ri h
  obtain ⟨p, xs, k, z, rfl, rfl, h0, hq, he, q⟩ := h
  cases ro
  obtain ⟨t, rfl⟩ := ri
  obtain ⟨its, r, pl, hz⟩ := I.list hq
  obtain ⟨j, h1, h2, h3, h4, h5⟩ := atI_get he
  obtain ⟨w, ew, rw'⟩ := r.get h2
  have hl := r.length
  have hn := line63
  have fin : EP X pins σ Q w s := ⟨z, H, I, rw', q⟩
  have hj : k.toNat = j := by
    rw [seqIndex_of h0 h5] at h1
    exact Option.some.inj h1
  exact wpAny_getItem_list pl.isList h0 (by omega) (by rw [hj]; simpa using ew) fin
/-- t[::e], t a pair, e 1 or -1 -/
def tStepT (K : PySem.W.Frag) (te ts : TE) : TE := fun σ H Q => te σ H fun x H1 => ts σ H1 fun y H2 => ∃ i a u v, y = .int i ∧ x = .ref a ∧ SqT K H2 a [u, v] ∧ (i = 1 ∨ i = -1) ∧ (i = 1 → Q (.ref a) H2) ∧ (i = -1 → ∀ p, H2 p = none → Q (.ref p) (upd H2 p (.tup [v, u])))
theorem pe_stepT {e st : Expr} {te ts : TE} {p3 pos : Pos} (he : PE X e te) (hst : PE X st ts) : PE X (.Subscript e (.Slice none none (some st) p3) pos) (tStepT X.K te ts) := by
  refine ⟨fun pins s σ H Q I h => ?_⟩
  refine Subscript_ (thn (he.run pins s σ H _ I h) fun v s1 ⟨x, H1, I1, r1, q⟩ => ?_)
  refine wpAny_Slice (thn (po_none.run pins s1 σ H1 (fun o H2 => o = none ∧ H2 = H1) I1 ⟨rfl, rfl⟩) fun vl s2 ⟨l, H2, I2, pl, el, e2⟩ => ?_)
  subst el e2
  refine thn (po_none.run pins s2 σ H2 (fun o H3 => o = none ∧ H3 = H2) I2 ⟨rfl, rfl⟩) fun vu s3 ⟨u, H3, I3, pu, eu, e3⟩ => ?_
  subst eu e3
  rw [evalPart_some]
  refine thn (hst.run pins s3 σ H3 _ I3 q) fun vs s4 ⟨y, H4, I4, r4, i, a, ux, vx, ey, ex, hx, hi, q1, q2⟩ => ?_
  subst ey ex
  cases r1
  obtain ⟨tk, rfl⟩ := r4
  cases pl
  cases pu
  have I5 : Inv X pins σ H4 { s4 with heap := s4.heap.push { cls := .type "slice", data := .fields #[.none, .none, .int i tk] } } := I4.kept (t' := s4.toks) fun b ob q => Heap.get?_push_of_some _ q
  obtain ⟨its, r, ht, hz⟩ := I5.tuple hx
  obtain ⟨wu, wv, rfl, ru, rv⟩ : ∃ wu wv, its = [wu, wv] ∧ RelV ux wu ∧ RelV vx wv := by
    cases r with
    | cons r1 r2 =>
      cases r2 with
      | cons r3 r4 =>
        cases r4
        exact ⟨_, _, rfl, r1, r3⟩
  show wpAny (model X.prog X.w) X.A (subscriptTail e (.Slice none none (some st) p3) (.ref a) (.ref s4.heap.objs.size)) (EP X pins σ Q) X.xe { s4 with heap := s4.heap.push { cls := .type "slice", data := .fields #[.none, .none, .int i tk] } }
  refine tail_any (ops := [.ref a, .ref s4.heap.objs.size]) ht.typeIs (PyProof.Rows.slot_tuple_getitem.lookup) ?_ (by with_unfolding_all rfl)
  refine getItem_pair_step (x := wu) (y := wv) ht (Heap.IsSliceOf.new _ _ _ _) hi (fun e1 => ?_) fun e1 => ?_
  · exact ⟨.ref _, _, I5, rfl, q1 e1⟩
  · refine ⟨.ref _, _, I5.laid (t' := s4.toks) (o := .tup [vx, ux]) (fun b ob q => Heap.get?_push_of_some _ q) (Nat.le_refl _) ?_, rfl, q2 e1 _ (I5.hok.fresh (Nat.le_refl _))⟩
    exact ⟨(by show 2 ≤ sizeLine; decide), _, .cons rv (.cons ru .nil), IsTup.new _ _⟩
end
/-! ### own calls -/
/-- a def of the module, by its promise -/
structure Ca (P : Program) (w : World) (K : PySem.W.Frag) (mg : Str → Option Value) (base : Heap) (k : Nat) (x : Str) (sp : Sp) : Prop where
  ex : ∃ (f : Addr) (fd : FuncData) (ps : List Str), FnOk P w K mg base CX0 k f fd ps sp ∧ mg x = some (.ref f) ∧ PySem.W.keepIn K (.ref f) = true ∧ Binds K fd ps []
/-- .. called by names alone -/
structure Ck (P : Program) (w : World) (K : PySem.W.Frag) (mg : Str → Option Value) (base : Heap) (k : Nat) (x : Str) (ks : List Str) (gV : List V → List V) (sp : Sp) : Prop where
  ex : ∃ (f : Addr) (fd : FuncData) (ps : List Str) (g : List Value → List Value), FnOk P w K mg base CX0 k f fd ps sp ∧ mg x = some (.ref f) ∧ PySem.W.keepIn K (.ref f) = true ∧
    (∀ (s : Shared) (ws : List Value), (g ws).length = ps.length → BindsTo s fd ⟨[], ks.zip ws⟩ (ps.zip (g ws))) ∧ ∀ {zs : List V} {ws : List Value}, Vals zs ws → Vals (gV zs) (g ws)
def tKw (sp : Sp) (gV : List V → List V) (tk : TA) : TE := fun σ H Q => tk σ H fun zs H1 => sp (gV zs) H1 Q E0
section
variable {X : Cx} {k j : Nat} {x : Str} {ks : List Str} {gV : List V → List V} {sp : Sp} {p pos : Pos} {e : Expr} {es : List Expr} {kws : List Keyword} {t tk : TA}
theorem pe_u (c : Ca X.prog X.w X.K X.mg X.base k x sp) (hr : Room j X.A) (hk : k ≤ j) (hg : Gl X x) (ha : PA X (e :: es) t)
    (hd : (x == ("__debug__" : Str)) = false := by decide) (h1 : starEach (e :: es) X.env = (false, eval e X.env) :: starEach es X.env := by rfl) (h2 : (backTo pos (starEach es X.env)).any (·.1) = false := by rfl) :
    PE X (.Call (.Name x p) (e :: es) [] pos) (tCall sp [] E0 t) := by
  obtain ⟨f, fd, ps, F, hm, kp, b⟩ := c.ex
  exact pe_call F (hr.mono hk) hg hm kp b .nil pass0 ha hd h1 h2
theorem pe_kw (c : Ck X.prog X.w X.K X.mg X.base k x ks gV sp) (hr : Room j X.A) (hk : k ≤ j) (hg : Gl X x) (ha : PK X kws tk)
    (h1 : (backToKw pos (keywordEach kws X.env)).all (·.1.isSome) = true := by rfl) (h2 : (backToKw pos (keywordEach kws X.env)).filterMap (·.1) = ks := by rfl)
    (hd : (x == ("__debug__" : Str)) = false := by decide) (h3 : ((backTo pos (starEach [] X.env)).any (·.1) || (backToKw pos (keywordEach kws X.env)).any (·.1.isNone)) = false := by rfl) :
    PE X (.Call (.Name x p) [] kws pos) (tKw sp gV tk) := by
  obtain ⟨f, fd, ps, g, F, hm, kp, b, br⟩ := c.ex
  refine ⟨fun pins s σ H Q I h => ?_⟩
  refine wpAny_Call_Name_kw (ld_glob I hg hm ?_ hd)
  refine PySem.W.callWith_KW0 (h₀ := X.base) I.ok.mod.kin kp h1 (thn (ha.run pos pins s σ H _ I h) fun ws s2 ⟨zs, H2, I2, rz, q2⟩ => ⟨I2.kIn, ?_⟩) h3
  rw [h2]
  have rg := br rz
  have hl : (g ws).length = ps.length := by rw [← rg.length]; exact F.len _ _ _ _ q2
  show wpAny _ _ (call (.ref f) [] (ks.zip ws)) _ _ _
  refine wpAny_call (codeAny_mono (F.run X.A X.stack s2 H2 ⟨[], ks.zip ws⟩ (g ws) (gV zs) Q E0 (hr.mono hk) I2.env0 (b s2 ws hl) rg q2) fun r s' hq => ?_)
  cases r with
  | error e => exact hq.elim
  | ok fl =>
    cases fl with
    | ret u => exact I2.after hq
    | next => exact hq.elim
    | brk => exact hq.elim
    | cont => exact hq.elim
end
/-- a statement, then the rest, with what holds between them -/
def tMid (t u : TS) : TS := fun D σ H => ∃ M : L2.St → Hp → Prop, t { D with nx := M } σ H ∧ ∀ σ' H', M σ' H' → u D σ' H'
theorem pss_mid {X : Cx} {st : Stmt} {rest : List Stmt} {t u : TS} (a : PS X st t) (b : PSs X rest u) : PSs X (st :: rest) (tMid t u) :=
  ⟨fun pins s σ H D I h => by
    obtain ⟨M, hm, hn⟩ := h
    refine wpAny_execs_cons (thn (a.run pins s σ H { D with nx := M } I hm) fun f s1 q => ?_)
    cases f with
    | next =>
      obtain ⟨σ1, H1, I1, q1⟩ := q
      exact b.run pins s1 σ1 H1 D I1 (hn σ1 H1 q1)
    | ret v => exact q
    | brk => exact q
    | cont => exact q⟩
/-! ### rules whose reading names the written part K alone (within comprehensions) -/
theorem opK {X : Cx} {f : Value → Value → Sem Value} (r : R2) (h : OpR X f r) : OpR X f r := h
theorem ixK {X : Cx} (r : R2) (h : IxR X r) : IxR X r := h
theorem clK {X : Cx} {f : Value} (r : List V → Hp → VK → Prop) (h : CallR X f r) : CallR X f r := h
theorem slK {X : Cx} (r : V → Option Int → Option Int → Hp → VK → Prop) (h : SlR X r) : SlR X r := h
def rLenK (K : PySem.W.Frag) : List V → Hp → VK → Prop := fun as H Q => ∃ p ys, as = [.ref p] ∧ (SqL K H p ys ∨ SqT K H p ys) ∧ Q (.int ys.length) H
def rListK (K : PySem.W.Frag) : List V → Hp → VK → Prop := fun as H Q => ∃ p ys, as = [.ref p] ∧ (SqL K H p ys ∨ SqT K H p ys) ∧ ∀ l, H l = none → Q (.ref l) (upd H l (.lst ys))
theorem teK {X : Cx} {e : Expr} (t : TE) (h : PE X e t) : PE X e t := h
end Bd
namespace Bd
open PySem PySem.Spec PyProof.Rows L2 HT
theorem ifT {c A B : Prop} [Decidable c] (hc : c) (h : A) : if c then A else B := by rw [if_pos hc]; exact h
theorem ifF {c A B : Prop} [Decidable c] (hc : ¬ c) (h : B) : if c then A else B := by rw [if_neg hc]; exact h
/-! ### heaps without some addresses -/
def hid (S : List Addr) (H : Hp) : Hp := fun b => if b ∈ S then none else H b
theorem hid_of {S : List Addr} {H : Hp} {b : Addr} {o : HO} (h : H b = some o) (n : b ∉ S) : hid S H b = some o := by
  unfold hid; rw [if_neg n]; exact h
theorem of_hid {S : List Addr} {H : Hp} {b : Addr} {o : HO} (h : hid S H b = some o) : H b = some o ∧ b ∉ S := by
  unfold hid at h
  by_cases n : b ∈ S
  · rw [if_pos n] at h; cases h
  · rw [if_neg n] at h; exact ⟨h, n⟩
theorem hid_none {S : List Addr} {H : Hp} {b : Addr} (h : H b = none) : hid S H b = none := by
  unfold hid; split <;> first | rfl | exact h
/-- kept but for the addresses of S -/
def Kp (S : List Addr) (H H' : Hp) : Prop := Same (hid S H) (hid S H')
theorem Kp.refl {S : List Addr} {H : Hp} : Kp S H H := fun _ _ h => h
theorem Kp.trans {S : List Addr} {H H1 H2 : Hp} (a : Kp S H H1) (b : Kp S H1 H2) : Kp S H H2 := fun x o h => b x o (a x o h)
theorem Kp.at {S : List Addr} {H H1 : Hp} (k : Kp S H H1) {b : Addr} {o : HO} (h : H b = some o) (n : b ∉ S) : H1 b = some o := (of_hid (k b o (hid_of h n))).1
theorem Kp.wr {S : List Addr} {H H1 : Hp} (k : Kp S H H1) {a : Addr} {o : HO} (n : a ∈ S) : Kp S H (upd H1 a o) := fun b u h => by
  obtain ⟨h1, h2⟩ := of_hid (k b u h)
  exact hid_of (by rw [upd_ne (fun (e : b = a) => h2 (by rw [e]; exact n))]; exact h1) h2
/-- something that H does not know is laid or written -/
theorem Kp.new {S : List Addr} {H H1 : Hp} (k : Kp S H H1) {p : Addr} {o : HO} (n : hid S H p = none) : Kp S H (upd H1 p o) := fun b u h => by
  obtain ⟨h1, h2⟩ := of_hid (k b u h)
  refine hid_of ?_ h2
  rw [upd_ne (fun e => by rw [e, n] at h; cases h)]
  exact h1
theorem Kp.same {S : List Addr} {H H1 : Hp} (k : Same H H1) : Kp S H H1 := fun b u h => by
  obtain ⟨h1, h2⟩ := of_hid h
  exact hid_of (k b u h1) h2
theorem Kp.sub {S S' : List Addr} {H H1 : Hp} (k : Kp S H H1) (h : ∀ b ∈ S, b ∉ S' → ∀ o, H b = some o → H1 b = some o) : Kp S' H H1 := fun b u e => by
  obtain ⟨h1, h2⟩ := of_hid e
  by_cases n : b ∈ S
  · exact hid_of (h b n h2 u h1) h2
  · exact hid_of (k.at h1 n) h2
/-- addresses that H does not know may be dropped from S -/
theorem Kp.drop {S S' : List Addr} {H H1 : Hp} (k : Kp S H H1) (h : ∀ b ∈ S, b ∉ S' → H b = none) : Kp S' H H1 :=
  k.sub fun b n n' o e => by rw [h b n n'] at e; cases e
theorem Kp.mono {S S' : List Addr} {H H1 : Hp} (k : Kp S H H1) (h : ∀ b ∈ S, b ∈ S') : Kp S' H H1 := k.sub fun b n n' => absurd (h b n) n'
theorem hid_same {S : List Addr} {H : Hp} : Same (hid S H) H := fun b o h => (of_hid h).1
theorem hid_sub {S S' : List Addr} {H : Hp} (h : ∀ b ∈ S', b ∈ S) : Same (hid S H) (hid S' H) := fun b o e => hid_of (of_hid e).1 fun n => (of_hid e).2 (h b n)
theorem same_new {H : Hp} {p : Addr} {o : HO} (h : H p = none) : Same H (upd H p o) := fun b x e => by
  rw [upd_ne (ne_of_none e h)]
  exact e
theorem ne_new {H : Hp} {a p : Addr} {o : HO} (h : H a = some o) (n : H p = none) : p ≠ a := fun e => by rw [e, h] at n; cases n
/-! ### data in a heap -/
theorem same_tup {K : PySem.W.Frag} {H H' : Hp} {a : Addr} {xs : List V} (e : Same H H') (h : SqT K H a xs) : SqT K H' a xs := by
  rcases h with (h | ⟨o, h⟩) | h
  · exact .inl (.inl (e _ _ h))
  · exact .inl (.inr ⟨o, e _ _ h⟩)
  · exact .inr h
mutual
theorem dp_same {K : PySem.W.Frag} {H H' : Hp} (k : Same H H') : ∀ {d : PyData} {v : V}, Dp K H v d → Dp K H' v d
  | .none, _, h => by cases h; exact .non
  | .bool b, _, h => by cases h; exact .bl b
  | .int i, _, h => by cases h; exact .int i
  | .str x, _, h => by cases h; exact .str x
  | .list ds, _, h => by
    cases h with
    | lst hs ha => exact .lst (k.seq hs) (dps_same k ha)
  | .tuple ds, _, h => by
    cases h with
    | tup hs ha => exact .tup (same_tup k hs) (dps_same k ha)
  | .dict _, _, h => by cases h
theorem dps_same {K : PySem.W.Frag} {H H' : Hp} (k : Same H H') : ∀ {ds : List PyData} {vs : List V}, DpAll K H vs ds → DpAll K H' vs ds
  | [], _, h => by cases h; exact .nil
  | d :: ds, _, h => by
    cases h with
    | cons h1 h2 => exact .cons (dp_same k h1) (dps_same k h2)
end
theorem dps_len {K : PySem.W.Frag} {H : Hp} : ∀ {ds : List PyData} {vs : List V}, DpAll K H vs ds → vs.length = ds.length
  | [], _, h => by cases h; rfl
  | d :: ds, _, h => by
    cases h with
    | cons h1 h2 => rw [List.length_cons, List.length_cons, dps_len h2]
theorem dps_at {K : PySem.W.Frag} {H : Hp} : ∀ {ds : List PyData} {vs : List V} {i : Nat} {d : PyData}, DpAll K H vs ds → ds[i]? = some d → ∃ v, vs[i]? = some v ∧ Dp K H v d
  | [], _, i, _, h, e => by simp at e
  | d :: ds, _, 0, _, h, e => by
    cases h with
    | cons h1 h2 =>
      cases e
      exact ⟨_, rfl, h1⟩
  | d :: ds, _, i + 1, _, h, e => by
    cases h with
    | cons h1 h2 =>
      obtain ⟨v, h3, h4⟩ := dps_at h2 (i := i) (by simpa using e)
      exact ⟨v, by simpa using h3, h4⟩
theorem dps_app {K : PySem.W.Frag} {H : Hp} : ∀ {ds es : List PyData} {vs us : List V}, DpAll K H vs ds → DpAll K H us es → DpAll K H (vs ++ us) (ds ++ es)
  | [], _, _, _, h, g => by cases h; exact g
  | d :: ds, _, _, _, h, g => by
    cases h with
    | cons h1 h2 => exact .cons h1 (dps_app h2 g)
theorem dps_ints {K : PySem.W.Frag} {H : Hp} : ∀ ns : List Int, DpAll K H (ns.map V.int) (ns.map PyData.int)
  | [] => .nil
  | n :: ns => .cons (.int n) (dps_ints ns)
theorem dps_ints_eq {K : PySem.W.Frag} {H : Hp} : ∀ {ns : List Int} {vs : List V}, DpAll K H vs (ns.map PyData.int) → vs = ns.map V.int
  | [], _, h => by cases h; rfl
  | n :: ns, _, h => by
    cases h with
    | cons h1 h2 =>
      cases h1
      rw [dps_ints_eq h2]
      rfl
theorem dp_list {K : PySem.W.Frag} {H : Hp} {v : V} {ds : List PyData} (h : Dp K H v (.list ds)) : ∃ a xs, v = .ref a ∧ SqL K H a xs ∧ DpAll K H xs ds := by
  cases h with
  | lst h1 h2 => exact ⟨_, _, rfl, h1, h2⟩
theorem dp_tup {K : PySem.W.Frag} {H : Hp} {v : V} {ds : List PyData} (h : Dp K H v (.tuple ds)) : ∃ a xs, v = .ref a ∧ SqT K H a xs ∧ DpAll K H xs ds := by
  cases h with
  | tup h1 h2 => exact ⟨_, _, rfl, h1, h2⟩
theorem dp_int {K : PySem.W.Frag} {H : Hp} {v : V} {i : Int} (h : Dp K H v (.int i)) : v = .int i := by
  cases h; rfl
theorem dp_pair {K : PySem.W.Frag} {H : Hp} {v : V} {d e : PyData} (h : Dp K H v (.tuple [d, e])) : ∃ a x y, v = .ref a ∧ SqT K H a [x, y] ∧ Dp K H x d ∧ Dp K H y e := by
  cases h with
  | tup h1 h2 =>
    cases h2 with
    | cons h3 h4 =>
      cases h4 with
      | cons h5 h6 =>
        cases h6
        exact ⟨_, _, _, rfl, h1, h3, h5⟩
theorem mk_pair {K : PySem.W.Frag} {H : Hp} {a : Addr} {x y : V} {d e : PyData} (h : H a = some (.tup [x, y])) (hx : Dp K H x d) (hy : Dp K H y e) : Dp K H (.ref a) (.tuple [d, e]) :=
  .tup (.inl (.inl h)) (.cons hx (.cons hy .nil))
theorem mk_ints {K : PySem.W.Frag} {H : Hp} {a : Addr} {ns : List Int} (h : H a = some (.lst (ns.map V.int))) : Dp K H (.ref a) (.list (ns.map .int)) :=
  .lst (.inl (.inl h)) (dps_ints ns)
theorem dp_ints {K : PySem.W.Frag} {H : Hp} {v : V} {ns : List Int} (h : Dp K H v (.list (ns.map .int))) : ∃ a, v = .ref a ∧ SqL K H a (ns.map V.int) := by
  obtain ⟨a, xs, rfl, h1, h2⟩ := dp_list h
  rw [dps_ints_eq h2] at h1
  exact ⟨a, rfl, h1⟩
/-! ### the bag -/
def bagL (c : Addr) (i s t : Int) : List V := [.ref c, .int i, .int s, .int t]
structure Bag (H : Hp) (a c : Addr) : Prop where
  ex : ∃ (ls : List Int) (i s t : Int), H a = some (.lst (bagL c i s t)) ∧ H c = some (.lst (ls.map V.int)) ∧ 0 ≤ i ∧ ls.length ≤ 1000 ∧ 0 ≤ s ∧ s < 2 ^ 63
  ne : a ≠ c
theorem Bag.keep {H H' : Hp} {a c : Addr} (b : Bag H a c) (k : Same H H') : Bag H' a c := by
  obtain ⟨⟨ls, i, s, t, h1, h2, h3⟩, h4⟩ := b
  exact ⟨⟨ls, i, s, t, k _ _ h1, k _ _ h2, h3⟩, h4⟩
theorem Bag.ha {H : Hp} {a c : Addr} (b : Bag H a c) : ∃ o, H a = some o := by
  obtain ⟨⟨ls, i, s, t, h1, h2, h3⟩, h4⟩ := b
  exact ⟨_, h1⟩
theorem Bag.hc {H : Hp} {a c : Addr} (b : Bag H a c) : ∃ o, H c = some o := by
  obtain ⟨⟨ls, i, s, t, h1, h2, h3⟩, h4⟩ := b
  exact ⟨_, h2⟩
/-- a new object is laid: the bag stays -/
theorem Bag.new {H : Hp} {a c p : Addr} {o : HO} (b : Bag H a c) (n : H p = none) : Bag (upd H p o) a c := b.keep (same_new n)
theorem Bag.out {H : Hp} {a c p : Addr} (b : Bag H a c) (n : H p = none) : p ∉ [a, c] := by
  obtain ⟨o, h1⟩ := b.ha
  obtain ⟨o2, h2⟩ := b.hc
  intro z
  rcases List.mem_cons.mp z with rfl | z
  · rw [h1] at n; cases n
  · rcases List.mem_cons.mp z with rfl | z
    · rw [h2] at n; cases n
    · cases z
/-- an object beside the bag is written -/
theorem Bag.wr {H : Hp} {a c p : Addr} {o : HO} (b : Bag H a c) (n : p ∉ [a, c]) : Bag (upd H p o) a c := by
  obtain ⟨⟨ls, i, s, t, h1, h2, h3⟩, h4⟩ := b
  refine ⟨⟨ls, i, s, t, ?_, ?_, h3⟩, h4⟩
  · rw [upd_ne (fun e => n (by simp [e]))]; exact h1
  · rw [upd_ne (fun e => n (by simp [e]))]; exact h2
/-- the promise of a draw -/
def spDraw : Sp := fun vs H Q _ => ∃ (a c : Addr) (m : Int), vs = [.ref a, .int m] ∧ Bag H a c ∧ 0 < m ∧ m < 2 ^ 1000 ∧
  ∀ r H', 0 ≤ r → r < m → Bag H' a c → Kp [a, c] H H' → Q (.int r) H'
end Bd
namespace Bd
open PySem PySem.Spec PyProof.Rows L2 HT
theorem cut_ints (ns : List Int) (lo hi : Option Int) : ∃ ms : List Int, cutV (ns.map V.int) lo hi = ms.map V.int ∧ ms.length ≤ ns.length := by
  refine ⟨(ns.drop (HT.sIx (ns.map V.int).length 0 lo)).take (HT.sIx (ns.map V.int).length (ns.map V.int).length hi - HT.sIx (ns.map V.int).length 0 lo), ?_, ?_⟩
  · unfold cutV
    rw [List.map_take, List.map_drop]
  · rw [List.length_take, List.length_drop]
    omega
theorem ints_at {ns : List Int} {i : Nat} {x : V} (h : (ns.map V.int)[i]? = some x) : ∃ n, x = V.int n ∧ ns[i]? = some n := by
  rw [List.getElem?_map] at h
  cases e : ns[i]? with
  | none => rw [e] at h; cases h
  | some n =>
    rw [e] at h
    exact ⟨n, (Option.some.inj h).symm, rfl⟩
theorem lt_of_at {α : Type} {xs : List α} {i : Nat} {x : α} (h : xs[i]? = some x) : i < xs.length := (List.getElem?_eq_some_iff.mp h).1
def spBag (K : PySem.W.Frag) : Sp := fun vs H Q _ => ∃ (a : Addr) (ns : List Int), vs = [.ref a] ∧ SqL K H a (ns.map V.int) ∧ ns.length ≤ 63 ∧
  ∀ b c H', Same H H' → H b = none → H c = none → Bag H' b c → Q (.ref b) H'
end Bd
namespace Bd
open PySem PySem.Spec PyProof.Rows L2 HT
def pairD (p : Nat × Nat) : PyData := .tuple [.int p.1, .int p.2]
def doorsD (ds : List (Nat × Nat)) : PyData := .list (ds.map pairD)
def houseD (rooms : Nat) (ds : List (Nat × Nat)) : PyData := .tuple [.int rooms, doorsD ds]
/-- doors of so many rooms -/
def Doors (rooms : Nat) (ds : List (Nat × Nat)) : Prop := ∀ d ∈ ds, d.1 < rooms ∧ d.2 < rooms ∧ d.1 ≠ d.2
theorem Kp.free {S : List Addr} {H H1 : Hp} (k : Kp S H H1) {p : Addr} (n : H1 p = none) : hid S H p = none := by
  cases e : hid S H p with
  | none => rfl
  | some o =>
    have := (of_hid (k p o e)).1
    rw [n] at this; cases this
/-- data of a shape that == takes, of depth n at most -/
def Shp (n : Nat) (d : PyData) : Prop := d.canLay0 = true ∧ d.depth ≤ n
theorem Shp.ok {n : Nat} {d : PyData} (h : Shp n d) (hn : n ≤ 64) : SeqAt.shaped d = true := by
  unfold SeqAt.shaped
  rw [h.1, Bool.true_and]
  exact decide_eq_true (Nat.le_trans h.2 hn)
theorem shp_int {n : Nat} (i : Int) : Shp n (.int i) := ⟨rfl, Nat.zero_le _⟩
theorem shp_all {n : Nat} : ∀ {xs : List PyData}, (∀ x ∈ xs, Shp n x) → PyData.canLayAll0 xs = true ∧ PyData.depthAll xs ≤ n
  | [], _ => ⟨rfl, Nat.zero_le _⟩
  | x :: xs, h => by
    obtain ⟨h1, h2⟩ := h x (List.mem_cons_self)
    obtain ⟨h3, h4⟩ := shp_all (xs := xs) fun y hy => h y (List.mem_cons_of_mem _ hy)
    exact ⟨by rw [PyData.canLayAll0, h1, h3]; rfl, by rw [PyData.depthAll]; exact Nat.max_le.mpr ⟨h2, h4⟩⟩
theorem shp_list {n : Nat} {xs : List PyData} (h : ∀ x ∈ xs, Shp n x) : Shp (n + 1) (.list xs) := by
  obtain ⟨h1, h2⟩ := shp_all h
  exact ⟨by rw [PyData.canLay0]; exact h1, by rw [PyData.depth]; omega⟩
theorem shp_tup {n : Nat} {xs : List PyData} (h : ∀ x ∈ xs, Shp n x) : Shp (n + 1) (.tuple xs) := by
  obtain ⟨h1, h2⟩ := shp_all h
  exact ⟨by rw [PyData.canLay0]; exact h1, by rw [PyData.depth]; omega⟩
theorem shp_ints {n : Nat} (ns : List Int) : Shp (n + 1) (.list (ns.map .int)) := shp_list fun x hx => by
  obtain ⟨i, _, rfl⟩ := List.mem_map.mp hx
  exact shp_int i
theorem shp_pair {n : Nat} (p : Nat × Nat) : Shp (n + 1) (pairD p) := shp_tup fun x hx => by
  rcases List.mem_cons.mp hx with rfl | hx
  · exact shp_int _
  · rcases List.mem_cons.mp hx with rfl | hx
    · exact shp_int _
    · cases hx
theorem shp_doors {n : Nat} (ds : List (Nat × Nat)) : Shp (n + 2) (doorsD ds) := shp_list fun x hx => by
  obtain ⟨p, _, rfl⟩ := List.mem_map.mp hx
  exact shp_pair p
theorem shp_house {n : Nat} (rooms : Nat) (ds : List (Nat × Nat)) : Shp (n + 3) (houseD rooms ds) := shp_tup fun x hx => by
  rcases List.mem_cons.mp hx with rfl | hx
  · exact shp_int _
  · rcases List.mem_cons.mp hx with rfl | hx
    · exact shp_doors ds
    · cases hx
theorem atI_two {x y : V} {r : Int} (h0 : 0 ≤ r) (h1 : r < 2) : ∃ v, atI [x, y] r = some v ∧ (v = x ∨ v = y) := by
  have : r = 0 ∨ r = 1 := by omega
  rcases this with rfl | rfl
  · exact ⟨x, rfl, .inl rfl⟩
  · exact ⟨y, rfl, .inr rfl⟩
def spGround (K : PySem.W.Frag) : Sp := fun vs H Q _ => ∃ (a c : Addr) (most wide : Nat), vs = [.ref a, .int most, .int wide] ∧ Bag H a c ∧ 0 < most ∧ most ≤ 10 ∧ wide ≤ 24 ∧
  ∀ hv H' rooms ds, 0 < rooms → rooms ≤ max 4 most → ds.length ≤ max 5 wide → Doors rooms ds → Bag H' a c → Kp [a, c] H H' → Dp K (hid [a, c] H') hv (houseD rooms ds) → Q hv H'
end Bd
namespace Bd
open PySem PySem.Spec PyProof.Rows L2 HT
/-! ### what rooms meet, what leaves lots -/
abbrev Dc := (Nat × Nat) × Int
def metAt (z : List Dc) (r : Nat) : Int := (z.map fun x => (if x.1.1 = r then x.2 else 0) + (if x.1.2 = r then x.2 else 0)).sum
def metL (rooms : Nat) (z : List Dc) : List Int := (List.range rooms).map (metAt z)
def lvAt (lot : List Nat) (x : Dc) : Bool := decide (x.1.1 ∈ lot) != decide (x.1.2 ∈ lot)
def leaveM (z : List Dc) (lot : List Nat) : Int := ((z.filter (lvAt lot)).map (·.2)).sum
def natsL (lot : List Nat) : List Int := lot.map fun (r : Nat) => (r : Int)
theorem natsL_len (lot : List Nat) : (natsL lot).length = lot.length := by unfold natsL; rw [List.length_map]
theorem natsL_at {lot : List Nat} {i r : Nat} (h : lot[i]? = some r) : (natsL lot)[i]? = some (r : Int) := by
  unfold natsL; rw [List.getElem?_map, h]; rfl
theorem metAt_snoc (z : List Dc) (x : Dc) (r : Nat) : metAt (z ++ [x]) r = metAt z r + ((if x.1.1 = r then x.2 else 0) + (if x.1.2 = r then x.2 else 0)) := by
  unfold metAt
  rw [List.map_append, List.sum_append]
  simp
theorem metL_len (rooms : Nat) (z : List Dc) : (metL rooms z).length = rooms := by unfold metL; rw [List.length_map, List.length_range]
theorem metL_at {rooms r : Nat} (z : List Dc) (h : r < rooms) : (metL rooms z)[r]? = some (metAt z r) := by
  unfold metL
  rw [List.getElem?_map, List.getElem?_range h]
  rfl
theorem metL_snoc {rooms : Nat} (z : List Dc) (x : Dc) (h1 : x.1.1 < rooms) (h2 : x.1.2 < rooms) (hn : x.1.1 ≠ x.1.2) :
    ((metL rooms z).set x.1.1 (metAt z x.1.1 + x.2)).set x.1.2 (metAt z x.1.2 + x.2) = metL rooms (z ++ [x]) := by
  apply List.ext_getElem?
  intro i
  by_cases hi : i < rooms
  · rw [metL_at _ hi, metAt_snoc]
    by_cases e2 : x.1.2 = i
    · subst e2
      rw [List.getElem?_set_self (by rw [List.length_set, metL_len]; exact hi), if_neg hn, if_pos rfl, Int.zero_add]
    · rw [List.getElem?_set_ne e2, if_neg e2, Int.add_zero]
      by_cases e1 : x.1.1 = i
      · subst e1
        rw [List.getElem?_set_self (by rw [metL_len]; exact hi), if_pos rfl]
      · rw [List.getElem?_set_ne e1, if_neg e1, Int.add_zero, metL_at _ hi]
  · rw [List.getElem?_eq_none (by simp only [List.length_set, metL_len]; omega), List.getElem?_eq_none (by rw [metL_len]; omega)]
theorem metL_nil (rooms : Nat) : metL rooms [] = List.replicate rooms 0 := by
  apply List.ext_getElem?
  intro i
  by_cases hi : i < rooms
  · rw [metL_at _ hi, List.getElem?_replicate, if_pos hi]
    rfl
  · rw [List.getElem?_eq_none (by rw [metL_len]; omega), List.getElem?_eq_none (by simp; omega)]
theorem zip_at {ds : List (Nat × Nat)} {cs : List Int} {i : Nat} {d : Nat × Nat} {c : Int} (h1 : ds[i]? = some d) (h2 : cs[i]? = some c) : (ds.zip cs)[i]? = some (d, c) := by
  rw [List.getElem?_zip_eq_some]
  exact ⟨h1, h2⟩
theorem take_snoc {α : Type} {xs : List α} {i : Nat} {x : α} (h : xs[i]? = some x) : xs.take (i + 1) = xs.take i ++ [x] := by
  rw [List.take_add_one, h]
  rfl
theorem inV_nats (r : Nat) (lot : List Nat) : inV (.int r) ((natsL lot).map V.int) = decide (r ∈ lot) := by
  unfold inV natsL
  rw [List.map_map, List.any_map]
  induction lot with
  | nil => rfl
  | cons x xs ih =>
    rw [List.any_cons, ih]
    show ((x : Int) == (r : Int) || decide (r ∈ xs)) = decide (r ∈ x :: xs)
    by_cases h : r = x
    · subst h
      simp
    · have h2 : ((x : Int) == (r : Int)) = false := by
        rw [beq_eq_false_iff_ne]
        omega
      rw [h2, Bool.false_or]
      simp [h]
theorem flat_ints (ns : List Int) : (ns.map V.int).all flatV = true := by
  rw [List.all_map, List.all_eq_true]
  intro x _
  rfl
theorem leave_take {z : List Dc} {lot : List Nat} {i : Nat} {x : Dc} (h : z[i]? = some x) :
    ((z.take (i + 1)).filter (lvAt lot)).map (·.2) = if lvAt lot x = true then ((z.take i).filter (lvAt lot)).map (·.2) ++ [x.2] else ((z.take i).filter (lvAt lot)).map (·.2) := by
  rw [take_snoc h, List.filter_append, List.map_append]
  by_cases e : lvAt lot x = true
  · rw [if_pos e, List.filter_cons_of_pos e]
    rfl
  · rw [if_neg e, List.filter_cons_of_neg e]
    simp
def spMet (K : PySem.W.Frag) : Sp := fun vs H Q _ => ∃ (hv cv : V) (rooms : Nat) (ds : List (Nat × Nat)) (cs : List Int), vs = [hv, cv] ∧ Dp K H hv (houseD rooms ds) ∧ Dp K H cv (.list (cs.map .int)) ∧ rooms ≤ 100 ∧ cs.length = ds.length ∧ ds.length ≤ 500 ∧ Doors rooms ds ∧
  ∀ H' p, Same H H' → H p = none → H' p = some (.lst ((metL rooms (ds.zip cs)).map V.int)) → Q (.ref p) H'
def spLeave (K : PySem.W.Frag) : Sp := fun vs H Q _ => ∃ (hv cv lv : V) (rooms : Nat) (ds : List (Nat × Nat)) (cs : List Int) (lot : List Nat), vs = [hv, cv, lv] ∧ Dp K H hv (houseD rooms ds) ∧ Dp K H cv (.list (cs.map .int)) ∧ Dp K H lv (.list ((natsL lot).map .int)) ∧
  cs.length = ds.length ∧ ds.length ≤ 500 ∧ ∀ H', Same H H' → Q (.int (leaveM (ds.zip cs) lot)) H'
/-- a house, read -/
theorem house_of {K : PySem.W.Frag} {H : Hp} {hv : V} {rooms : Nat} {ds : List (Nat × Nat)} (h : Dp K H hv (houseD rooms ds)) :
    ∃ s d vs, hv = .ref s ∧ SqT K H s [.int rooms, .ref d] ∧ SqL K H d vs ∧ DpAll K H vs (ds.map pairD) := by
  obtain ⟨s, x, y, rfl, h1, h2, h3⟩ := dp_pair h
  obtain rfl := dp_int h2
  obtain ⟨d, vs, rfl, h4, h5⟩ := dp_list h3
  exact ⟨s, d, vs, rfl, h1, h4, h5⟩
theorem pair_of {K : PySem.W.Frag} {H : Hp} {v : V} {d : Nat × Nat} (h : Dp K H v (pairD d)) : ∃ p, v = .ref p ∧ SqT K H p [.int d.1, .int d.2] := by
  obtain ⟨s, x, y, rfl, h1, h2, h3⟩ := dp_pair h
  obtain rfl := dp_int h2
  obtain rfl := dp_int h3
  exact ⟨s, rfl, h1⟩
theorem pairs_at {K : PySem.W.Frag} {H : Hp} {vs : List V} {ds : List (Nat × Nat)} {i : Nat} {v : V} (h : DpAll K H vs (ds.map pairD)) (e : vs[i]? = some v) : ∃ d p, ds[i]? = some d ∧ v = .ref p ∧ SqT K H p [.int d.1, .int d.2] := by
  have hl := dps_len h
  rw [List.length_map] at hl
  have hi : i < ds.length := by have := lt_of_at e; omega
  obtain ⟨u, e1, h1⟩ := dps_at h (i := i) (d := pairD ds[i]) (by rw [List.getElem?_map, List.getElem?_eq_getElem hi]; rfl)
  rw [e] at e1
  cases e1
  obtain ⟨p, rfl, h2⟩ := pair_of h1
  exact ⟨ds[i], p, List.getElem?_eq_getElem hi, rfl, h2⟩
end Bd
namespace Bd
open PySem PySem.Spec PyProof.Rows L2 HT
theorem ixN_nat {n j : Nat} (h : j < n) : ixN n (j : Int) = some j := by
  unfold ixN
  rw [if_pos (by omega), if_pos (by omega)]
  simp
theorem flat_rep (n : Nat) : (List.replicate n [V.int 0]).flatten = (List.replicate n (0 : Int)).map V.int := by
  induction n with
  | zero => rfl
  | succ n ih => rw [List.replicate_succ, List.flatten_cons, ih, List.replicate_succ]; rfl
end Bd
namespace Bd
open PySem PySem.Spec PyProof.Rows L2 HT
/-! ### two things that are the same data -/
/-- ints, and lists and tuples of such, at most n deep, of at most 1000 things each -/
inductive Gd : Nat → PyData → Prop
  | int (n : Nat) (i : Int) : Gd n (.int i)
  | lst {n : Nat} {ds : List PyData} (h : ∀ d ∈ ds, Gd n d) (l : ds.length ≤ 1000) : Gd (n + 1) (.list ds)
  | tup {n : Nat} {ds : List PyData} (h : ∀ d ∈ ds, Gd n d) (l : ds.length ≤ 1000) : Gd (n + 1) (.tuple ds)
theorem tyx_list {K : PySem.W.Frag} {H : Hp} {a : Addr} {xs : List V} (h : SqL K H a xs) : TyX K H (.ref a) (.type "list") := by
  rcases h with (h | ⟨o, h⟩) | ⟨o, its, n, h, c, _⟩
  · exact .base (.lst h)
  · exact .base (.frz h)
  · exact .kList h c
theorem tyx_tup {K : PySem.W.Frag} {H : Hp} {a : Addr} {xs : List V} (h : SqT K H a xs) : TyX K H (.ref a) (.type "tuple") := by
  rcases h with (h | ⟨o, h⟩) | ⟨o, its, n, h, c, _⟩
  · exact .base (.tup h)
  · exact .fTuple h
  · exact .kTuple h c
theorem tyx_same {K : PySem.W.Frag} {H H' : Hp} {v : V} {n : String} (k : Same H H') (h : (∃ a xs, v = .ref a ∧ n = "list" ∧ SqL K H a xs) ∨ (∃ a xs, v = .ref a ∧ n = "tuple" ∧ SqT K H a xs) ∨ (∃ i, v = .int i ∧ n = "int")) : TyX K H' v (.type n) := by
  rcases h with ⟨a, xs, rfl, rfl, h⟩ | ⟨a, xs, rfl, rfl, h⟩ | ⟨i, rfl, rfl⟩
  · exact tyx_list (k.seq h)
  · exact tyx_tup (same_tup k h)
  · exact .base (.int i)
theorem kit_two {K : PySem.W.Frag} {a b c : String} {v u : Bool} (h1 : kitB a b = some v) (h2 : kitB a c = some u) : PySem.W.kitAny K (.type a) [.type b, .type c] = some (v || u) := by
  refine kitAny_cons (kit_ty h1) (fun e => ?_) (fun e => by rw [e]; rfl)
  rw [e, Bool.false_or]
  refine kitAny_cons (kit_ty h2) (fun e => by rw [e]; exact kitAny_nil) (fun e => e)
def spAlike (K : PySem.W.Frag) : Nat → Sp
  | 0 => fun _ _ _ _ => False
  | n + 1 => fun vs H Q _ => ∃ (v u : V) (d : PyData), vs = [v, u] ∧ Dp K H v d ∧ Dp K H u d ∧ Gd n d ∧ ∀ H', Same H H' → Q (.bl true) H'
end Bd
namespace Bd
open PySem PySem.Spec PyProof.Rows L2 HT
theorem atI_three {x y z : V} {r : Int} (h0 : 0 ≤ r) (h1 : r < 3) : ∃ v, atI [x, y, z] r = some v ∧ (v = x ∨ v = y ∨ v = z) := by
  have : r = 0 ∨ r = 1 ∨ r = 2 := by omega
  rcases this with rfl | rfl | rfl
  · exact ⟨x, rfl, .inl rfl⟩
  · exact ⟨y, rfl, .inr (.inl rfl)⟩
  · exact ⟨z, rfl, .inr (.inr rfl)⟩
def spTallies (K : PySem.W.Frag) : Sp := fun vs H Q _ => ∃ (a c : Addr) (dv : V) (ds : List (Nat × Nat)), vs = [.ref a, dv] ∧ Bag H a c ∧ Dp K (hid [a, c] H) dv (doorsD ds) ∧ ds.length ≤ 100 ∧
  ∀ t H' (cs : List Int), cs.length = ds.length → (∀ x ∈ cs, 0 ≤ x ∧ x < 10 ^ 20) → Bag H' a c → Kp [a, c] H H' → Dp K (hid [a, c] H') (.ref t) (.list (cs.map .int)) → Q (.ref t) H'
def spLot (K : PySem.W.Frag) : Sp := fun vs H Q _ => ∃ (a c : Addr) (rooms : Nat), vs = [.ref a, .int rooms] ∧ Bag H a c ∧ rooms ≤ 100 ∧
  ∀ t H' (lot : List Nat), lot.length ≤ rooms → Bag H' a c → Kp [a, c] H H' → Dp K (hid [a, c] H') (.ref t) (.list ((natsL lot).map .int)) → Q (.ref t) H'
end Bd
namespace Bd
open PySem PySem.Spec PyProof.Rows L2 HT
theorem rgV_nats (n : Nat) : rgV 0 (n : Int) = (natsL (List.range n)).map V.int := by
  unfold rgV natsL
  rw [List.map_map, Int.sub_zero, Int.toNat_natCast]
  refine List.map_congr_left fun i _ => ?_
  show V.int (0 + (i : Int)) = V.int (i : Int)
  rw [Int.zero_add]
end Bd
namespace Bd
open PySem PySem.Spec PyProof.Rows L2 HT
theorem filt_take {z : List Dc} {p : Dc → Bool} {i : Nat} {x : Dc} (h : z[i]? = some x) :
    ((z.take (i + 1)).filter p).map (fun x => V.int x.2) = if p x = true then ((z.take i).filter p).map (fun x => V.int x.2) ++ [V.int x.2] else ((z.take i).filter p).map (fun x => V.int x.2) := by
  rw [take_snoc h, List.filter_append, List.map_append]
  by_cases e : p x = true
  · rw [if_pos e, List.filter_cons_of_pos e]
    rfl
  · rw [if_neg e, List.filter_cons_of_neg e]
    simp
/-- a door at a room -/
def atRoom (r : Nat) (x : Dc) : Bool := decide (r = x.1.1) || decide (r = x.1.2)
theorem atRoom_sum (r : Nat) : ∀ z : List Dc, (∀ x ∈ z, x.1.1 ≠ x.1.2) → ((z.filter (atRoom r)).map Prod.snd).sum = metAt z r
  | [], _ => rfl
  | x :: z, h => by
    have h1 := h x List.mem_cons_self
    have ih := atRoom_sum r z fun y hy => h y (List.mem_cons_of_mem _ hy)
    have e : metAt (x :: z) r = ((if x.1.1 = r then x.2 else 0) + (if x.1.2 = r then x.2 else 0)) + metAt z r := by
      unfold metAt
      rw [List.map_cons, List.sum_cons]
    rw [e, ← ih]
    by_cases c1 : x.1.1 = r
    · have c2 : x.1.2 ≠ r := fun q => h1 (c1.trans q.symm)
      rw [List.filter_cons_of_pos (by unfold atRoom; simp [c1]), List.map_cons, List.sum_cons, if_pos c1, if_neg c2, Int.add_zero]
    · by_cases c2 : x.1.2 = r
      · rw [List.filter_cons_of_pos (by unfold atRoom; simp [c2]), List.map_cons, List.sum_cons, if_neg c1, if_pos c2, Int.zero_add]
      · rw [List.filter_cons_of_neg (by unfold atRoom; simp; exact ⟨fun q => c1 q.symm, fun q => c2 q.symm⟩), if_neg c1, if_neg c2, Int.add_zero, Int.zero_add]
theorem inV_pair (r a b : Nat) : inV (.int r) [.int a, .int b] = (decide (r = a) || decide (r = b)) := by
  show ((a : Int) == (r : Int) || ((b : Int) == (r : Int) || false)) = _
  rw [Bool.or_false]
  congr 1
  · by_cases h : r = a
    · subst h; simp
    · rw [beq_eq_false_iff_ne.mpr (by omega), decide_eq_false h]
  · by_cases h : r = b
    · subst h; simp
    · rw [beq_eq_false_iff_ne.mpr (by omega), decide_eq_false h]
theorem zip_doors {rooms : Nat} {ds : List (Nat × Nat)} {cs : List Int} (h : Doors rooms ds) : ∀ x ∈ ds.zip cs, x.1.1 ≠ x.1.2 := fun x hx => (h x.1 (List.of_mem_zip (a := x.1) (b := x.2) hx).1).2.2
theorem gd_ints {n : Nat} {ns : List Int} (l : ns.length ≤ 1000) : Gd (n + 1) (.list (ns.map .int)) := .lst (fun d hd => by
  obtain ⟨i, _, rfl⟩ := List.mem_map.mp hd
  exact .int _ _) (by rw [List.length_map]; exact l)
def spRight (K : PySem.W.Frag) : Sp := fun vs H Q _ => ∃ (hv cv : V) (rooms : Nat) (ds : List (Nat × Nat)) (cs : List Int), vs = [hv, cv] ∧ Dp K H hv (houseD rooms ds) ∧ Dp K H cv (.list (cs.map .int)) ∧ rooms ≤ 100 ∧ cs.length = ds.length ∧ ds.length ≤ 500 ∧ Doors rooms ds ∧
  ∀ H', Same H H' → Q (.bl true) H'
def spLotRight (K : PySem.W.Frag) : Sp := fun vs H Q _ => ∃ (hv cv lv : V) (rooms : Nat) (ds : List (Nat × Nat)) (cs : List Int) (lot : List Nat), vs = [hv, cv, lv] ∧ Dp K H hv (houseD rooms ds) ∧ Dp K H cv (.list (cs.map .int)) ∧ Dp K H lv (.list ((natsL lot).map .int)) ∧
  rooms ≤ 100 ∧ lot.length ≤ 100 ∧ cs.length = ds.length ∧ ds.length ≤ 500 ∧ Doors rooms ds ∧ ∀ H', Same H H' → Q (.bl true) H'
end Bd
namespace Bd
open PySem PySem.Spec PyProof.Rows L2 HT
theorem leaveM_snoc (z : List Dc) (x : Dc) (lot : List Nat) : leaveM (z ++ [x]) lot = leaveM z lot + (if lvAt lot x = true then x.2 else 0) := by
  unfold leaveM
  rw [List.filter_append, List.map_append, List.sum_append]
  by_cases e : lvAt lot x = true
  · rw [if_pos e, List.filter_cons_of_pos e]
    simp
  · rw [if_neg e, List.filter_cons_of_neg e]
    simp
/-- rooms that are not in a lot -/
def besideL (rooms : Nat) (lot : List Nat) : List Nat := (List.range rooms).filter fun r => !decide (r ∈ lot)
theorem mem_beside {rooms r : Nat} {lot : List Nat} (h : r < rooms) : decide (r ∈ besideL rooms lot) = !decide (r ∈ lot) := by
  unfold besideL
  by_cases e : r ∈ lot
  · rw [decide_eq_true e, decide_eq_false]
    · rfl
    · intro q
      have := (List.mem_filter.mp q).2
      rw [decide_eq_true e] at this
      cases this
  · rw [decide_eq_false e, decide_eq_true]
    · rfl
    · exact List.mem_filter.mpr ⟨List.mem_range.mpr h, by rw [decide_eq_false e]; rfl⟩
theorem leave_beside {rooms : Nat} {lot : List Nat} : ∀ {z : List Dc}, (∀ x ∈ z, x.1.1 < rooms ∧ x.1.2 < rooms) → leaveM z (besideL rooms lot) = leaveM z lot := by
  intro z h
  unfold leaveM
  have e : z.filter (lvAt (besideL rooms lot)) = z.filter (lvAt lot) := by
    refine List.filter_congr fun x hx => ?_
    obtain ⟨h1, h2⟩ := h x hx
    unfold lvAt
    rw [mem_beside h1, mem_beside h2]
    cases decide (x.1.1 ∈ lot) <;> cases decide (x.1.2 ∈ lot) <;> rfl
  rw [e]
theorem zip_rooms {rooms : Nat} {ds : List (Nat × Nat)} {cs : List Int} (h : Doors rooms ds) : ∀ x ∈ ds.zip cs, x.1.1 < rooms ∧ x.1.2 < rooms := fun x hx =>
  ⟨(h x.1 (List.of_mem_zip (a := x.1) (b := x.2) hx).1).1, (h x.1 (List.of_mem_zip (a := x.1) (b := x.2) hx).1).2.1⟩
theorem nats_at {lot : List Nat} {i : Nat} {x : V} (h : ((natsL lot).map V.int)[i]? = some x) : ∃ r : Nat, x = V.int r ∧ lot[i]? = some r := by
  obtain ⟨n, rfl, e⟩ := ints_at h
  unfold natsL at e
  rw [List.getElem?_map] at e
  cases q : lot[i]? with
  | none => rw [q] at e; cases e
  | some r =>
    rw [q] at e
    exact ⟨r, by rw [← Option.some.inj e], rfl⟩
/-- what a comprehension with a test has made, a turn more -/
theorem nats_take {lot : List Nat} {p : Nat → Bool} {i r : Nat} (h : lot[i]? = some r) :
    (natsL ((lot.take (i + 1)).filter p)).map V.int = if p r = true then (natsL ((lot.take i).filter p)).map V.int ++ [V.int r] else (natsL ((lot.take i).filter p)).map V.int := by
  unfold natsL
  rw [take_snoc h, List.filter_append, List.map_append, List.map_append]
  by_cases e : p r = true
  · rw [if_pos e, List.filter_cons_of_pos e]
    rfl
  · rw [if_neg e, List.filter_cons_of_neg e]
    simp
theorem one_in (a b : Nat) (lot : List Nat) (c : Int) : (([a, b].filter fun r => decide (r ∈ lot)).length : Int) = 1 ↔ lvAt lot ((a, b), c) = true := by
  unfold lvAt
  by_cases h1 : a ∈ lot <;> by_cases h2 : b ∈ lot <;> simp [h1, h2]
end Bd
namespace Bd
open PySem PySem.Spec PyProof.Rows L2 HT
theorem shp_two {n : Nat} {d e : PyData} (h1 : Shp n d) (h2 : Shp n e) : Shp (n + 1) (.list [d, e]) := shp_list fun x hx => by
  rcases List.mem_cons.mp hx with rfl | hx
  · exact h1
  · rcases List.mem_cons.mp hx with rfl | hx
    · exact h2
    · cases hx
theorem Shp.refl {n : Nat} {d : PyData} (h : Shp n d) : PyData.eqv d d = true := SeqAt.eqv_refl d h.1
end Bd
namespace Bd
open PySem PySem.Spec PyProof.Rows L2 HT
/-! ### a def that is run where no text of an object is being made -/
structure FnG (P : Program) (w : World) (K : PySem.W.Frag) (mg : Str → Option Value) (base : Heap) (k : Nat) (f : Addr) (fd : FuncData) (ps : List Str) (sp : Sp) : Prop where
  len : ∀ vs H Q E, sp vs H Q E → vs.length = ps.length
  run : ∀ (A : Around) (outer : List Env) (s : Shared) (H : Hp) (args : Args) (us : List Value) (vs : List V) (Q : VK) (E : XK), A.guards = some [] → Room k A → Env0 P w K mg base A outer s H → BindsTo s fd args (ps.zip us) → Vals vs us → sp vs H Q E →
    codeAny (model P w) A (.call (.ref f) args) (CR CX0 outer P w H s Q E) s
section
variable {P : Program} {w : World} {K : PySem.W.Frag} {mg : Str → Option Value} {base : Heap}
theorem fnG_of {x qual : Str} {st : Stmt} {f : Addr} {fd : FuncData} {N ps : List Str} {k : Nat} {sp : Sp} (F : Fun K x qual st f fd) (S : FnScope N ps (defScope st)) (len : ∀ vs H Q E, sp vs H Q E → vs.length = ps.length)
    (body : ∀ (cdv : Value) (A : Around) (outer : List Env) (s : Shared) (H : Hp) (vs : List V) (Q : VK) (E : XK), Room k (A.deeper (envOfC qual (defScope st) s.heap.objs.size f cdv)) → (A.deeper (envOfC qual (defScope st) s.heap.objs.size f cdv)).guards = some [] → sp vs H Q E →
      ∃ t, PSs (cxOf CX0 P w K mg base N qual (defScope st) f cdv A outer s H E).nox (defBody st) t ∧ t { nx := fun _ H' => Q .non H', rt := Q } (start N vs) H) : FnG P w K mg base (k + 1) f fd ps sp where
  len := len
  run := by
    obtain ⟨oc, od, kV, doc, pm, an, cdv, ct, osl, rfl, lk, hcd⟩ := F.ex
    intro A outer s H args us vs Q E hg room env bnd vls hs
    have here : K.In s.heap := env.mod.kin.keeps fun b o h => (env.bs b o h).1
    have cells : ∀ y ∈ ps.zip us, (defScope st).names.lookup y.1 = some .local ∨ ((defScope st).names.lookup y.1 = some .cell ∧ ((cellsFrom (s.heap.objs.size + 1) (defScope st).names []).lookup y.1).isSome = true) := by
      rintro ⟨n, v⟩ hy
      cases S.par n (List.of_mem_zip hy).1 with
      | inl q => exact .inl q
      | inr q => exact .inr ⟨q, PySem.W.cellsFrom_some _ _ _ (.inl q)⟩
    refine codeAny_call_function room.depth (here _ _ lk) rfl S.co S.gen rfl (PySem.W.codeRec_of here hcd) (bnd _ _ _ _ (wpAny_newFunctionEnv_cells S.kind cells ?_))
    rintro e rfl s1 inc
    refine ⟨Heap.NoLimit.keeps (env.mod.nolimit.keeps fun b o h => (env.bs b o h).1) inc.toInCall.keep, codeAny_func ?_⟩
    obtain ⟨t, hp, ht⟩ := body cdv A outer s H vs Q E (room.deeper _) hg hs
    have I := inv_start (CX := CX0) (P := P) (w := w) (K := K) (mg := mg) (base := base) (qual := qual) (f := f) (cd := cdv) (E := E) S room.hd env (len _ _ _ _ hs) vls inc
    refine wpAny_mono (hp.nox.run [] s1 (start N vs) H _ I ht) (fun r s2 h => ?_) fun _ _ h => h
    match r, h with
    | .ret u, ⟨v, _, H2, J, rv, q⟩ => exact ⟨v, H2, J.os, J.bare, J.base, J.hok, rv, q⟩
    | .next, ⟨_, H2, J, q⟩ => exact ⟨V.non, H2, J.os, J.bare, J.base, J.hok, rfl, q⟩
    | .brk, ⟨_, _, _, q⟩ => exact q.elim
    | .cont, ⟨_, _, _, q⟩ => exact q.elim
/-- what promises more widely promises here too -/
theorem FnG.of {k : Nat} {f : Addr} {fd : FuncData} {ps : List Str} {sp : Sp} (F : FnOk P w K mg base CX0 k f fd ps sp) : FnG P w K mg base k f fd ps sp :=
  ⟨F.len, fun A outer s H args us vs Q E _ => F.run A outer s H args us vs Q E⟩
end
end Bd
namespace Bd
open PySem PySem.Spec PyProof.Rows L2 HT
/-! ### the law's own call -/
section
variable {P : Program} {w : World} {K : PySem.W.Frag} {mg mb : Str → Option Value} {k : Nat} {fa a : Addr} {fd : FuncData} {x : Str} {sp : Sp} {s₁ : Shared} {vs : List Value} {ns : List Int}
/-- from a heap in which the script alone may be tracked -/
theorem runG (KX : K.In s₁.heap) (hns : s₁.heap.Ns mainGlobals mg) (hb : s₁.heap.Ns builtinsNs mb) (hbb : ∀ x : Str, x ≠ "__name__" → mb x = bootBuiltins x) (hlim : s₁.heap.NoLimit) (hg : s₁.gens = #[])
    (ha : s₁.heap.get? a = some { cls := .type "list", data := .seq vs.toArray }) (hr : Room k callerA)
    (F : ∀ base : Heap, K.In base → base.Ns mainGlobals mg → FnG P w K mg base k fa fd [x] sp) (hbind : ∀ (s : Shared) (u : Value), BindsTo s fd ⟨[u], []⟩ [(x, u)])
    (H : Hp) (only : ∀ b u, H b = some u → b = a ∧ ∃ xs, u = .frz { cls := .type "list", data := .seq vs.toArray } (.lst xs)) (hok : HOk P w H s₁.heap) (apart : H a = none ∨ K.lookup a = none)
    (hsp : sp [.ref a] H (fun v _ => v = .bl true) fun _ _ _ => False) :
    codeAny (model P w) callerA (.call (.ref fa) ⟨[.ref a], []⟩) (fun r s' => r = .ok (.ret (.bool true)) ∧ OldK s₁.heap s'.heap ∧ s'.os = s₁.os ∧ AllBare s'.gens) s₁ := by
  have vis : ∀ {b : Addr} {o : Obj}, s₁.heap.get? b = some o → (b ≠ a ∨ H a = none) → (hidT s₁.heap H).get? b = some o := by
    intro b o e h
    refine hidT_get e ?_
    cases q : H b with
    | none => rfl
    | some u =>
      obtain ⟨rfl, _⟩ := only b u q
      rcases h with h | h
      · exact absurd rfl h
      · rw [q] at h; cases h
  have dicts : ∀ {b : Addr} {o : Obj} {es : Array DictEntry} {ep : Nat}, s₁.heap.get? b = some o → o.data = .dict es ep → (hidT s₁.heap H).get? b = some o := by
    intro b o es ep e d
    refine vis e (.inl fun z => ?_)
    rw [z, ha] at e
    cases e
    cases d
  have names : ∀ {b : Addr} {m : Str → Option Value}, s₁.heap.Ns b m → (hidT s₁.heap H).Ns b m := by
    rintro b m ⟨o, es, ep, e, d, r⟩
    exact ⟨o, es, ep, dicts e d, d, r⟩
  have KI : K.In (hidT s₁.heap H) := by
    intro b o e
    refine vis (KX b o e) ?_
    rcases apart with z | z
    · exact .inr z
    · refine .inl fun q => ?_
      rw [q, z] at e
      cases e
  have env : Env0 P w K mg (hidT s₁.heap H) callerA [] s₁ H := by
    refine ⟨rfl, ⟨KI, names hns, ⟨mb, names hb, hbb⟩, ?_⟩, fun b o e => of_hidT e, by rw [hidT_size]; exact Nat.le_refl _, trivial, fun b z => (nomatch z), hok, .of_eq hg⟩
    obtain ⟨mc, q1, q2⟩ := hlim
    exact ⟨mc, names q1, q2⟩
  refine codeAny_mono ((F _ KI (names hns)).run callerA [] s₁ H ⟨[.ref a], []⟩ [.ref a] [.ref a] _ _ rfl hr env (hbind s₁ (.ref a)) (.cons rfl .nil) hsp) ?_
  rintro r s' h
  match r, h with
  | .error e, h => exact h.elim
  | .ok (.next), h => exact h.elim
  | .ok (.brk), h => exact h.elim
  | .ok (.cont), h => exact h.elim
  | .ok (.ret u), ⟨v, H2, os, bare, un, ok2, rv, q⟩ =>
    obtain rfl : v = .bl true := q
    obtain rfl : u = Value.bool true := rv
    refine ⟨rfl, OldK.of_keep ?_, os, bare⟩
    intro b o e
    cases q : H b with
    | none => exact un.keep b o e q (fun z => nomatch z) (fun z => nomatch z)
    | some u =>
      obtain ⟨rfl, xs, rfl⟩ := only b u q
      have e1 := (hok _ _ q).1
      have e2 := (ok2 _ _ (un.frzs _ _ _ q)).1
      exact e2.trans (e1.symm.trans e)
end
theorem walkG {l : PySem.W.OpenLaw} {k : Nat} {q : Program} {loose : List Str} {XP : (Str → Option Value) → Heap → Prop} {YP : World → Heap → Prop} {d : DefRec} {K : Params → PySem.W.Frag} {sp : PySem.W.Frag → Sp} {x : Str}
    (hn : l.most = some 63) (hdf : d.params.defaults = []) (hr : Room k callerA) (hY : ∀ (w : World) (h : Heap), YP w h → (K w.params).In h)
    (F : ∀ (w : World) (mg : Str → Option Value) (fa : Addr) (h : Heap), (K w.params).In h → h.Ns mainGlobals mg → mg d.name = some (.ref fa) →
      ∃ fd : FuncData, (∀ (s : Shared) (u : Value), BindsTo s fd ⟨[u], []⟩ [(x, u)]) ∧ ∀ base : Heap, (K w.params).In base → base.Ns mainGlobals mg → FnG l.prog w (K w.params) mg base k fa fd [x] (sp (K w.params)))
    (hsp : ∀ (K : PySem.W.Frag) (H : Hp) (a : Addr) (ns : List Int), ns.length ≤ 63 → SqL K H a (ns.map V.int) → sp K [.ref a] H (fun v _ => v = .bl true) fun _ _ _ => False) :
    PySem.W.WalkO q loose XP YP l.row.toRowW d [] (fun f vs => PySem.call f vs) := by
  refine Att.attach_call hn hdf ?_
  intro w s₀ s₁ mg mb fa o pm cd doc a vs ns G Y ho hd hcd hmg hobj hints hlen hg
  have KX := hY w _ Y
  obtain ⟨fd, hbind, hF⟩ := F w mg fa _ KX G.T.g hmg
  have hz : ns.length ≤ sizeLine := Nat.le_trans hlen (by decide)
  have rv := vals_ints hints
  have lv := hints.length
  by_cases e : (K w.params).lookup a = none
  · refine runG KX G.T.g G.T.b G.T.builtins G.T.nolimit hg hobj hr hF hbind (upd (fun _ => none) a (.frz { cls := .type "list", data := .seq vs.toArray } (.lst (ns.map V.int)))) ?_ ?_ (.inr e) (hsp _ _ _ ns hlen (.inl (.inr ⟨_, upd_same⟩)))
    · intro b u z
      by_cases h : b = a
      · subst h
        rw [upd_same] at z
        cases z
        exact ⟨rfl, _, rfl⟩
      · rw [upd_ne h] at z
        cases z
    · intro b u z
      by_cases h : b = a
      · subst h
        rw [upd_same] at z
        cases z
        exact ⟨hobj, by rw [List.length_map]; exact hz, vs, _, rv, hobj⟩
      · rw [upd_ne h] at z
        cases z
  · obtain ⟨ob, e2⟩ := Option.ne_none_iff_exists'.mp e
    have e3 := KX a ob e2
    rw [hobj] at e3
    cases e3
    refine runG KX G.T.g G.T.b G.T.builtins G.T.nolimit hg hobj hr hF hbind (fun _ => none) (fun _ _ z => nomatch z) (fun _ _ z => nomatch z) (.inl rfl) (hsp _ _ _ ns hlen (.inr ⟨_, vs.toArray, _, e2, rfl, rfl, rfl, ?_, by simpa using rv⟩))
    rw [List.size_toArray, lv]
    exact hz
end Bd
namespace Bd
open PySem PySem.Spec PyProof.Rows L2 HT
/-! ### texts of data -/
/-- data that has a text of bounded size: W bounds its weight -/
structure Rp (d : PyData) (n W : Nat) : Prop where
  lay : d.canLay0 = true
  dep : d.depth ≤ n
  sho : d.showable = true
  sml : d.leavesShort 100 = true
  wei : d.weight ≤ W
theorem rp_int {i : Int} (h0 : -(2 ^ 90) < i) (h1 : i < 2 ^ 90) : Rp (.int i) 0 90 := by
  have hl : i.natAbs.log2 < 90 := PySem.Flt.log2_lt_of (by decide) (by omega)
  refine ⟨rfl, Nat.le_refl _, ?_, ?_, ?_⟩
  · show decide (i.natAbs.log2 < 1920) = true
    exact decide_eq_true (by omega)
  · show decide ((PyData.shown (.int i)).length ≤ 100) = true
    refine decide_eq_true ?_
    show (Str.ofString (toString i)).length ≤ 100
    rw [PySem.ofString_length]
    have := int_text_length_le (a := i) (k := 90) (by decide) hl
    omega
  · show (if i == 0 then 0 else i.natAbs.log2 + 1) ≤ 90
    split <;> omega
theorem rp_all {n W : Nat} : ∀ {xs : List PyData}, (∀ x ∈ xs, Rp x n W) → PyData.canLayAll0 xs = true ∧ PyData.depthAll xs ≤ n ∧ PyData.showableAll xs = true ∧ PyData.leavesShortAll 100 xs = true ∧ PyData.weightAll xs ≤ xs.length * (W + 1)
  | [], _ => ⟨rfl, Nat.zero_le _, rfl, rfl, Nat.zero_le _⟩
  | x :: xs, h => by
    obtain ⟨a1, a2, a3, a4, a5⟩ := h x List.mem_cons_self
    obtain ⟨b1, b2, b3, b4, b5⟩ := rp_all (xs := xs) fun y hy => h y (List.mem_cons_of_mem _ hy)
    refine ⟨by rw [PyData.canLayAll0, a1, b1]; rfl, by rw [PyData.depthAll]; exact Nat.max_le.mpr ⟨a2, b2⟩, by rw [PyData.showableAll, a3, b3]; rfl, by rw [PyData.leavesShortAll, a4, b4]; rfl, ?_⟩
    rw [PyData.weightAll, List.length_cons, Nat.succ_mul]
    omega
theorem rp_list {n W : Nat} {xs : List PyData} (h : ∀ x ∈ xs, Rp x n W) : Rp (.list xs) (n + 1) (xs.length * (W + 1)) := by
  obtain ⟨a1, a2, a3, a4, a5⟩ := rp_all h
  exact ⟨by rw [PyData.canLay0]; exact a1, by rw [PyData.depth]; omega, by rw [PyData.showable]; exact a3, by rw [PyData.leavesShort]; exact a4, by rw [PyData.weight]; exact a5⟩
theorem rp_tup {n W : Nat} {xs : List PyData} (h : ∀ x ∈ xs, Rp x n W) : Rp (.tuple xs) (n + 1) (xs.length * (W + 1)) := by
  obtain ⟨a1, a2, a3, a4, a5⟩ := rp_all h
  exact ⟨by rw [PyData.canLay0]; exact a1, by rw [PyData.depth]; omega, by rw [PyData.showable]; exact a3, by rw [PyData.leavesShort]; exact a4, by rw [PyData.weight]; exact a5⟩
theorem Rp.up {d : PyData} {n m W V : Nat} (h : Rp d n W) (h1 : n ≤ m) (h2 : W ≤ V) : Rp d m V := ⟨h.lay, Nat.le_trans h.dep h1, h.sho, h.sml, Nat.le_trans h.wei h2⟩
theorem Rp.fits {d : PyData} {n W : Nat} (h : Rp d n W) (hW : W ≤ 100000) : d.shown.length ≤ sizeLine := by
  have h1 := PyData.shown_le 100 (by decide) d h.sml
  have h2 := h.wei
  rw [sizeLine_eq]
  omega
section
variable {X : Cx}
/-- repr of data at any depth -/
theorem call_reprD (hg : X.A.guards = some []) (hu : X.A.units + 64 < cLine) : CallR X (.builtin "repr") (fun xs H Q => ∃ (a : Addr) (d : PyData) (n W : Nat), xs = [.ref a] ∧ Dp X.K H (.ref a) d ∧ Rp d n W ∧ n ≤ 50 ∧ W ≤ 100000 ∧ Q (.str d.shown) H) := by
  intro pins s σ H xs us Q I r h
  obtain ⟨a, d, n, W, rfl, hd, hr, hn, hW, q⟩ := h
  obtain ⟨u, rfl, rx⟩ := vals1 r
  cases (show u = Value.ref a from rx)
  obtain ⟨as, rd⟩ := Dp.reads I d (.ref a) (.ref a) hd rfl
  refine repr_of_reads' rd hr.sho (PyData.noDict_hsm (PyData.hasDict_of_canLay d hr.lay)) hg (by have := hr.dep; omega) (fun b o e => e) (fun h' u tk hk => ?_) (hr.fits hW)
  exact ⟨.str d.shown, H, I.kept hk, ⟨u, rfl⟩, q⟩
end
end Bd
namespace Bd
open PySem PySem.Spec PyProof.Rows L2 HT
theorem rp_two {d e : PyData} {n W : Nat} (h1 : Rp d n W) (h2 : Rp e n W) : Rp (.list [d, e]) (n + 1) (2 * (W + 1)) := rp_list fun x hx => by
  rcases List.mem_cons.mp hx with rfl | hx
  · exact h1
  · rcases List.mem_cons.mp hx with rfl | hx
    · exact h2
    · cases hx
theorem rp_nat {i : Nat} (h : i ≤ 100) : Rp (.int i) 0 90 := rp_int (by omega) (by omega)
theorem rp_pair {p : Nat × Nat} (h1 : p.1 ≤ 100) (h2 : p.2 ≤ 100) : Rp (pairD p) 1 182 := rp_tup (n := 0) (W := 90) (xs := [.int p.1, .int p.2]) fun x hx => by
  rcases List.mem_cons.mp hx with rfl | hx
  · exact rp_nat h1
  · rcases List.mem_cons.mp hx with rfl | hx
    · exact rp_nat h2
    · cases hx
theorem rp_house {rooms : Nat} {ds : List (Nat × Nat)} (h : Doors rooms ds) (h1 : rooms ≤ 100) (h2 : ds.length ≤ 100) : Rp (houseD rooms ds) 3 40000 := by
  have hd : Rp (doorsD ds) 2 18300 := by
    have := rp_list (n := 1) (W := 182) (xs := ds.map pairD) fun x hx => by
      obtain ⟨p, hp, rfl⟩ := List.mem_map.mp hx
      obtain ⟨q1, q2, _⟩ := h p hp
      exact rp_pair (by omega) (by omega)
    refine this.up (by decide) ?_
    rw [List.length_map]
    omega
  have := rp_tup (n := 2) (W := 18300) (xs := [.int rooms, doorsD ds]) fun x hx => by
    rcases List.mem_cons.mp hx with rfl | hx
    · exact (rp_nat h1).up (by decide) (by decide)
    · rcases List.mem_cons.mp hx with rfl | hx
      · exact hd
      · cases hx
  exact this.up (by decide) (by show 2 * (18300 + 1) ≤ 40000; decide)
theorem rp_ints {cs : List Int} (h : ∀ x ∈ cs, 0 ≤ x ∧ x < 10 ^ 20) (h2 : cs.length ≤ 100) : Rp (.list (cs.map .int)) 3 40000 := by
  have := rp_list (n := 0) (W := 90) (xs := cs.map .int) fun x hx => by
    obtain ⟨i, hi, rfl⟩ := List.mem_map.mp hx
    obtain ⟨q1, q2⟩ := h i hi
    exact rp_int (by omega) (by omega)
  refine this.up (by decide) ?_
  rw [List.length_map]
  omega
theorem leave_one (r : Nat) : ∀ z : List Dc, (∀ x ∈ z, x.1.1 ≠ x.1.2) → leaveM z [r] = metAt z r := by
  intro z h
  rw [← atRoom_sum r z h]
  unfold leaveM
  have e : z.filter (lvAt [r]) = z.filter (atRoom r) := by
    refine List.filter_congr fun x hx => ?_
    have hn := h x hx
    unfold lvAt atRoom
    by_cases c1 : x.1.1 = r
    · have c2 : ¬ x.1.2 = r := fun q => hn (c1.trans q.symm)
      simp [c1, c2]
    · by_cases c2 : x.1.2 = r
      · have c3 : ¬ r = x.1.1 := fun q => c1 q.symm
        simp [c1, c2, c3]
      · have c3 : ¬ r = x.1.1 := fun q => c1 q.symm
        have c4 : ¬ r = x.1.2 := fun q => c2 q.symm
        simp [c1, c2, c3, c4]
  rw [e]
def spLaw (K : PySem.W.Frag) : Sp := fun vs H Q _ => ∃ (a : Addr) (ns : List Int), vs = [.ref a] ∧ SqL K H a (ns.map V.int) ∧ ns.length ≤ 63 ∧ ∀ H', Q (.bl true) H'
end Bd
namespace Bd
open PySem PySem.Spec PyProof.Rows L2
section
variable {P : Program} {w : World} {A : Around} {E : Value → Shared → Prop} {s : Shared}
/-- a walk from its m-th item on -/
theorem walk_from {I : Addr} {fp wr : List Addr} {G : Array GenState → Array GenState → Prop} {n m k : Nat} {R : Nat → Value → Prop} {St : Nat → Shared → Prop} (W : WalksS P w A I fp wr G n R St) (e : k + m = n) :
    WalksS P w A I fp wr G k (fun i => R (i + m)) (fun i => St (i + m)) where
  sub := W.sub
  grefl := W.grefl
  gtrans := W.gtrans
  frame := fun i => W.frame (i + m)
  item := fun i s Q E hi st hQ => W.item (i + m) s Q E (by omega) st fun v s' hv hs' => hQ v s' hv (by rw [Nat.add_right_comm]; exact hs')
  done := fun s Q E st => W.done s Q E (by rw [← e]; exact st)
  self := fun i => W.self (i + m)
/-- first, *others = a list -/
theorem unpack_star {l : Addr} {its : Array Value} {x : Value} {xs : List Value} {Q : List Value → Shared → Prop} (hh : A.handled = none) (hl : s.heap.IsList l its) (hi : its.toList = x :: xs) (hz : its.size ≤ 100000)
    (hQ : ∀ (h' : Heap) (tk : Nat), (∀ b o, s.heap.get? b = some o → h'.get? b = some o) → Q [x, .ref h'.objs.size] { s with heap := h'.push { cls := .type "list", data := .seq xs.toArray }, toks := tk }) :
    wpAny (model P w) A (unpackItems (.ref l) 2 (some 1)) Q E s := by
  obtain ⟨o, ho, _⟩ := id hl
  have lt : l < s.heap.objs.size := Heap.lt_size ho
  have ne : l ≠ s.heap.objs.size := Nat.ne_of_lt lt
  have sz : its.size = xs.length + 1 := by rw [← Array.length_toList, hi, List.length_cons]
  have h0 : its[0]? = some x := by rw [← Array.getElem?_toList, hi]; rfl
  unfold unpackItems
  refine wpAny_bind ?_
  unfold notIterableAtAll
  refine wpAny_bind (wpAny_specialOf hl.typeIs slot_list_iter.lookup (wpAny_pure ?_))
  simp only [Bool.false_eq_true, if_false]
  refine wpAny_bind (wpAny_holding (wpAny_pyIter_list hl ?_))
  refine wpAny_bind (wpAny_holding (PySem.W.kun_draw ne 1 0 _ _ ⟨_, Heap.get?_push_size _ rfl, rfl, rfl⟩ (hl.push _) (by omega) fun h1 it1 sb => ?_))
  have e1 : (its.toList.drop 0).take 1 = [x] := by rw [List.drop_zero, hi]; rfl
  rw [e1, if_neg (by simp)]
  have hl1 : h1.IsList l its := (hl.push _).extBut sb.extBut ne
  have keep1 : ∀ b o, s.heap.get? b = some o → h1.get? b = some o := fun b o e => sb.extBut b o (Nat.ne_of_lt (Heap.lt_size e)) (Heap.get?_push_of_some _ e)
  have W := walk_from (m := 1) (k := xs.length) ((Walks.list (prog := P) (w := w) (A := A.in1) (by simp [hh]) s.heap.objs.size l ne its).toS) (by omega)
  have big : s.heap.objs.size < h1.objs.size := by
    obtain ⟨_, q, _⟩ := it1
    exact Heap.lt_size q
  refine wpAny_bind (wpAny_holding (wpAny_collect_iter (s := { s with heap := h1 }) (.inr (.inr (.inl rfl))) W (fun i s st => ?_) ⟨it1, hl1⟩ (fun b hb => ?_) (by simp) (fun s2 acc mv ia => ?_) (by rw [sizeLine_eq]; omega)))
  · exact st.1.typeIs
  · rcases List.mem_cons.mp hb with rfl | hb
    · exact big
    · rw [List.mem_singleton.mp hb]; exact Nat.lt_trans lt big
  · have eacc : acc.toList = xs := by
      apply List.ext_getElem?
      intro i
      obtain ⟨a1, a2⟩ := ia
      by_cases hi2 : i < xs.length
      · have hlt : i < acc.size := by omega
        have := a2 i acc[i] (by simp [hlt])
        rw [Array.getElem?_toList, Array.getElem?_eq_getElem hlt, ← this, ← Array.getElem?_toList, hi]
        rfl
      · rw [List.getElem?_eq_none (by rw [Array.length_toList]; omega), List.getElem?_eq_none (by omega)]
    rw [eacc]
    show wpAny _ _ (if xs.length < 0 then _ else _) _ _ _
    rw [if_neg (by omega)]
    show wpAny _ _ (newList (xs.take (xs.length - 0)) >>= _) _ _ _
    rw [Nat.sub_zero, List.take_length]
    obtain ⟨hp, g, d, tk, os⟩ := s2
    have eg : g = s.gens := mv.gens
    have ed : d = s.drawn := mv.drawn
    have eo : os = s.os := mv.os
    subst eg ed eo
    refine wpAny_bind (wpAny_newObj_type (wpAny_pure ?_))
    have k2 : ∀ b o, s.heap.get? b = some o → hp.get? b = some o := fun b o e => mv.heap b o (by
      intro z
      exact absurd (List.mem_singleton.mp z) (Nat.ne_of_lt (Heap.lt_size e))) (keep1 b o e)
    have e3 : List.drop xs.length xs = [] := List.drop_length
    rw [e3]
    exact hQ hp tk k2
end
section
variable {X : Cx}
/-- first, *others = a list -/
def gStar (K : PySem.W.Frag) (t u : TG) : TG := fun v σ H Q => ∃ a x xs, v = .ref a ∧ SqL K H a (x :: xs) ∧ xs.length ≤ 99999 ∧ ∀ p, H p = none → t x σ (upd H p (.lst xs)) fun σ1 H1 => u (.ref p) σ1 H1 Q
theorem pg_star {e1 e2 : Expr} {k : Nat} {sp pos : Pos} {t u : TG} (hc : X.calm = true) (h1 : PG X e1 t) (h2 : PG X e2 u)
    (hs : assignEach [e1, .Starred e2 sp] X.env = [(false, assign e1 X.env), (true, assign e2 X.env)] := by rfl) : PG X (.Tuple [e1, .Starred e2 sp] k pos) (gStar X.K t u) := by
  refine ⟨fun pins s σ H v w Q I r hw => ?_⟩
  obtain ⟨a, x, xs, rfl, hq, hz, go⟩ := hw
  cases r
  obtain ⟨its, rv, pl, _⟩ := I.list hq
  obtain ⟨w1, ws, rfl, r1, rs⟩ : ∃ w1 ws, its = w1 :: ws ∧ RelV x w1 ∧ Vals xs ws := by
    cases rv with
    | cons r1 rs => exact ⟨_, _, rfl, r1, rs⟩
  have lw := rs.length
  rw [PyProof.Rows.assign_Tuple]
  refine wpAny_bind (wpAny_standAt ?_)
  unfold unpack; rw [hs]
  show wpAny _ _ (holding [Value.ref a] (unpackItems (.ref a) 2 (some 1)) >>= fun z => assignInOrder [assign e1 X.env, assign e2 X.env] z) _ _ s
  refine wpAny_bind (wpAny_holding (unpack_star (x := w1) (xs := ws) (I.ok.hd hc) pl.isList (by simp) (by rw [List.size_toArray, List.length_cons]; omega) fun h' tk kk => ?_))
  have I1 : Inv X pins σ H { s with heap := h', toks := tk } := I.kept kk
  have new : H h'.objs.size = none := I1.hok.fresh (Nat.le_refl _)
  have I2 : Inv X pins σ (upd H h'.objs.size (.lst xs)) { s with heap := h'.push { cls := .type "list", data := .seq ws.toArray }, toks := tk } :=
    I1.laid (t' := tk) (fun b u e => Heap.get?_push_of_some _ e) (Nat.le_refl _) ⟨by rw [sizeLine_eq]; omega, ws, 0, rs, Heap.get?_push_size _ rfl⟩
  show wpAny _ _ (do holding [Value.ref h'.objs.size] (assign e1 X.env w1); assignInOrder [assign e2 X.env] [.ref h'.objs.size]) _ _ _
  refine wpAny_bind (wpAny_holding (thn (h1.run pins _ σ _ x w1 _ I2 r1 (go _ new)) fun _ s3 ⟨σ1, H1, I3, q1⟩ => ?_))
  show wpAny _ _ (do holding [] (assign e2 X.env (.ref h'.objs.size)); assignInOrder [] []) _ _ _
  refine wpAny_bind (wpAny_holding (thn (h2.run pins _ σ1 _ (.ref h'.objs.size) (.ref h'.objs.size) _ I3 rfl q1) fun _ s4 ⟨σ2, H2, I4, q2⟩ => ?_))
  exact assignInOrder_nil ⟨σ2, H2, I4, q2⟩
end
end Bd
namespace Bd
open PySem PySem.Spec PyProof.Rows L2 HT TL
/-! ### houses as texts -/
def numS (n : Nat) : Str := Str.ofString (toString ((n : Nat) : Int))
def spc : Str := " "
def lf : Str := "\n"
def roomsW (n : Nat) : List Str := ["rooms", numS n]
def doorW (d : Nat × Nat) : List Str := ["door", numS d.1, numS d.2]
def roomsRow (n : Nat) : Str := Str.join spc (roomsW n)
def doorRow (d : Nat × Nat) : Str := Str.join spc (doorW d)
def rowsOf (n : Nat) (ds : List (Nat × Nat)) : List Str := roomsRow n :: ds.map doorRow
def houseS (n : Nat) (ds : List (Nat × Nat)) : Str := Str.join lf (rowsOf n ds)
theorem tl_numS (n : Nat) : tl (numS n) = numL n := tl_num n
theorem numS_inj {m n : Nat} (h : numS m = numS n) : m = n := numL_inj (by rw [← tl_numS, ← tl_numS, h])
theorem tl_spc : tl spc = [32] := by decide +kernel
theorem tl_lf : tl lf = [10] := by decide +kernel
theorem tl_roomsW : tl ("rooms" : Str) = [114, 111, 111, 109, 115] := by decide +kernel
theorem tl_doorW : tl ("door" : Str) = [100, 111, 111, 114] := by decide +kernel
theorem free_num {n s : Nat} (h : s < 48 ∨ 57 < s) : s ∉ tl (numS n) := by rw [tl_numS]; exact numL_free h
theorem roomsW_free {n s : Nat} (h : s = 32 ∨ s = 10) : ∀ p ∈ roomsW n, s ∉ tl p := by
  intro p hp
  rcases List.mem_cons.mp hp with rfl | hp
  · rw [tl_roomsW]; rcases h with rfl | rfl <;> decide
  · rw [List.mem_singleton.mp hp]; exact free_num (by omega)
theorem doorW_free {d : Nat × Nat} {s : Nat} (h : s = 32 ∨ s = 10) : ∀ p ∈ doorW d, s ∉ tl p := by
  intro p hp
  rcases List.mem_cons.mp hp with rfl | hp
  · rw [tl_doorW]; rcases h with rfl | rfl <;> decide
  · rcases List.mem_cons.mp hp with rfl | hp
    · exact free_num (by omega)
    · rw [List.mem_singleton.mp hp]; exact free_num (by omega)
theorem joinL_free {s : Nat} {S : List Nat} (hS : s ∉ S) : ∀ ps : List (List Nat), (∀ p ∈ ps, s ∉ p) → s ∉ joinL S ps
  | [], _ => by unfold joinL; simp
  | [p], h => by unfold joinL; exact h p (by simp)
  | p :: q :: r, h => by
    have ih := joinL_free hS (q :: r) fun x hx => h x (List.mem_cons_of_mem _ hx)
    have h1 := h p List.mem_cons_self
    unfold joinL
    simp only [List.mem_append, not_or]
    first
      | exact ⟨⟨h1, hS⟩, ih⟩
      | exact ⟨h1, hS, ih⟩
theorem row_free {ws : List Str} (h : ∀ p ∈ ws, 10 ∉ tl p) : 10 ∉ tl (Str.join spc ws) := by
  rw [tl_join, tl_spc]
  refine joinL_free (by decide) _ fun p hp => ?_
  obtain ⟨x, hx, rfl⟩ := List.mem_map.mp hp
  exact h x hx
theorem rows_free {n : Nat} {ds : List (Nat × Nat)} : ∀ p ∈ rowsOf n ds, 10 ∉ tl p := by
  intro p hp
  rcases List.mem_cons.mp hp with rfl | hp
  · exact row_free (roomsW_free (.inr rfl))
  · obtain ⟨d, _, rfl⟩ := List.mem_map.mp hp
    exact row_free (doorW_free (.inr rfl))
theorem split_house (n : Nat) (ds : List (Nat × Nat)) : Txt.split (houseS n ds) lf = rowsOf n ds := by
  have := split_join (y := lf) (s := 10) (S := []) tl_lf (by decide +kernel) (parts := rowsOf n ds) (by unfold rowsOf; simp) rows_free
  rw [join_eq] at this
  exact this
theorem split_rooms (n : Nat) : Txt.split (roomsRow n) spc = roomsW n := by
  have := split_join (y := spc) (s := 32) (S := []) tl_spc (by decide +kernel) (parts := roomsW n) (by unfold roomsW; simp) (roomsW_free (.inl rfl))
  rw [join_eq] at this
  exact this
theorem split_door (d : Nat × Nat) : Txt.split (doorRow d) spc = doorW d := by
  have := split_join (y := spc) (s := 32) (S := []) tl_spc (by decide +kernel) (parts := doorW d) (by unfold doorW; simp) (doorW_free (.inl rfl))
  rw [join_eq] at this
  exact this
theorem roomsRow_inj {m n : Nat} (h : roomsRow m = roomsRow n) : m = n := by
  have e : roomsW m = roomsW n := by rw [← split_rooms, ← split_rooms, h]
  unfold roomsW at e
  injection e with _ e
  injection e with e _
  exact numS_inj e
theorem doorRow_inj {c d : Nat × Nat} (h : doorRow c = doorRow d) : c = d := by
  have e : doorW c = doorW d := by rw [← split_door, ← split_door, h]
  unfold doorW at e
  injection e with _ e
  injection e with e1 e
  injection e with e2 _
  exact Prod.ext (numS_inj e1) (numS_inj e2)
theorem houseS_inj {m n : Nat} {cs ds : List (Nat × Nat)} (h : houseS m cs = houseS n ds) : m = n ∧ cs = ds := by
  have e : rowsOf m cs = rowsOf n ds := by rw [← split_house, ← split_house, h]
  unfold rowsOf at e
  injection e with e1 e2
  refine ⟨roomsRow_inj e1, ?_⟩
  clear e1 h
  induction cs generalizing ds with
  | nil =>
    cases ds with
    | nil => rfl
    | cons d ds => cases e2
  | cons c cs ih =>
    cases ds with
    | nil => cases e2
    | cons d ds =>
      rw [List.map_cons, List.map_cons] at e2
      injection e2 with e3 e4
      rw [doorRow_inj e3, ih e4]
/-! sizes -/
theorem numS_len {n : Nat} (h : n ≤ 99) : (numS n).length ≤ 2 := by
  rw [len_tl, tl_numS]
  exact numL_len (by decide) (by omega)
theorem numS_pos (n : Nat) : 1 ≤ (numS n).length := by
  rw [len_tl, tl_numS]
  exact List.length_pos_iff.mpr (numL_ne n)
theorem str_len (s : String) (n : Nat) (h : (Str.ofString s).length = n := by decide +kernel) : (Str.ofString s).length = n := h
theorem roomsRow_len {n : Nat} (h : n ≤ 99) : (roomsRow n).length ≤ 8 := by
  have h1 := numS_len h
  show ((("rooms" : Str) ++ spc) ++ numS n).length ≤ 8
  rw [Str.length_append, Str.length_append]
  have h2 : ("rooms" : Str).length = 5 := by decide +kernel
  have h3 : spc.length = 1 := by decide +kernel
  omega
theorem doorRow_len {d : Nat × Nat} (h1 : d.1 ≤ 99) (h2 : d.2 ≤ 99) : (doorRow d).length ≤ 10 := by
  have a1 := numS_len h1
  have a2 := numS_len h2
  show ((("door" : Str) ++ spc) ++ ((numS d.1 ++ spc) ++ numS d.2)).length ≤ 10
  rw [Str.length_append, Str.length_append, Str.length_append, Str.length_append]
  have h3 : ("door" : Str).length = 4 := by decide +kernel
  have h4 : spc.length = 1 := by decide +kernel
  omega
theorem houseS_len {n : Nat} {ds : List (Nat × Nat)} (hn : n ≤ 99) (hd : ds.length ≤ 100) (ok : ∀ d ∈ ds, d.1 ≤ 99 ∧ d.2 ≤ 99) : (houseS n ds).length ≤ 2000 := by
  have h1 := StrLaws.join_length_le lf (rowsOf n ds)
  have h2 : lf.length = 1 := by decide +kernel
  have h3 : ∀ es : List (Nat × Nat), (∀ d ∈ es, d.1 ≤ 99 ∧ d.2 ≤ 99) → (((es.map doorRow).map (·.length)).sum) ≤ es.length * 10 := by
    intro es
    induction es with
    | nil => intro _; exact Nat.le_refl _
    | cons d es ih =>
      intro h
      have := ih fun x hx => h x (List.mem_cons_of_mem _ hx)
      obtain ⟨q1, q2⟩ := h d List.mem_cons_self
      have := doorRow_len q1 q2
      rw [List.map_cons, List.map_cons, List.sum_cons, List.length_cons]
      omega
  have h4 := h3 ds ok
  have h5 := roomsRow_len hn
  unfold houseS
  unfold rowsOf at h1 ⊢
  rw [List.map_cons, List.sum_cons, List.length_cons, List.length_map, h2] at h1
  omega
end Bd
namespace Bd
open PySem PySem.Spec PyProof.Rows L2 HT TL
def figS : Str := "0123456789"
theorem tl_figS : tl figS = [48, 49, 50, 51, 52, 53, 54, 55, 56, 57] := by decide +kernel
theorem fig_mem {c : Nat} (h1 : 48 ≤ c) (h2 : c ≤ 57) : c ∈ figS.cps.toList := by
  show c ∈ tl figS
  rw [tl_figS]
  have : c = 48 ∨ c = 49 ∨ c = 50 ∨ c = 51 ∨ c = 52 ∨ c = 53 ∨ c = 54 ∨ c = 55 ∨ c = 56 ∨ c = 57 := by omega
  rcases this with rfl | rfl | rfl | rfl | rfl | rfl | rfl | rfl | rfl | rfl <;> decide
theorem numS_digit {n : Nat} {c : Nat} {i : Nat} (h : (numS n).cps[i]? = some c) : 48 ≤ c ∧ c ≤ 57 := by
  have hm : c ∈ numL n := by
    rw [← tl_numS]
    exact List.mem_of_getElem? (by rw [show tl (numS n) = (numS n).cps.toList from rfl, Array.getElem?_toList]; exact h)
  exact numL_digits n c hm
theorem numS_two {n : Nat} (h1 : 10 ≤ n) (h2 : n ≤ 99) : (numS n).cps.toList = [48 + n / 10, 48 + n % 10] := by
  show tl (numS n) = _
  rw [tl_numS, numL_step h1, numL_lt (by omega)]
  rfl
theorem numS_one {n : Nat} (h : n < 10) : (numS n).cps.toList = [48 + n] := by
  show tl (numS n) = _
  rw [tl_numS, numL_lt h]
theorem cut_from (xs : List V) (t : Nat) (h : t ≤ xs.length) : cutV xs (some (t : Int)) none = xs.drop t := by
  unfold cutV
  rw [HT.sIx_nat, HT.sIx_none, Nat.min_eq_left h]
  exact List.take_of_length_le (by rw [List.length_drop]; exact Nat.le_refl _)
theorem cut_to (xs : List V) (t : Nat) (h : t ≤ xs.length) : cutV xs none (some (t : Int)) = xs.take t := by
  unfold cutV
  rw [HT.sIx_nat, HT.sIx_none, Nat.min_eq_left h]
  rfl
def spNumber : Sp := fun vs H Q _ => ∃ n : Nat, vs = [.str (numS n)] ∧ n ≤ 99 ∧ ∀ H', Same H H' → Q (.int n) H'
def spNumbers : Sp := fun vs H Q _ => ∃ (row wd : Str) (ms : List Nat), vs = [.str row, .str wd, .int ms.length] ∧ Txt.split row spc = wd :: ms.map numS ∧ row.length ≤ 1000 ∧ ms.length ≤ 100 ∧ (∀ m ∈ ms, m ≤ 99) ∧
  ∀ H' p, Same H H' → H p = none → H' p = some (.lst ((natsL ms).map V.int)) → Q (.ref p) H'
def spDoor : Sp := fun vs H Q _ => ∃ (d : Nat × Nat) (rooms : Nat), vs = [.str (doorRow d), .int rooms] ∧ d.1 < rooms ∧ d.2 < rooms ∧ d.1 ≠ d.2 ∧ rooms ≤ 99 ∧
  ∀ H' p, Same H H' → H p = none → H' p = some (.tup [.int d.1, .int d.2]) → Q (.ref p) H'
def spRead (K : PySem.W.Frag) : Sp := fun vs H Q _ => ∃ (rooms : Nat) (ds : List (Nat × Nat)), vs = [.str (houseS rooms ds)] ∧ 0 < rooms ∧ rooms ≤ 10 ∧ ds.length ≤ 24 ∧ Doors rooms ds ∧
  ∀ H' p d vs, Same H H' → H d = none → H' p = some (.tup [.int rooms, .ref d]) → H' d = some (.lst vs) → DpAll K H' vs (ds.map pairD) → Q (.ref p) H'
def spWritten (K : PySem.W.Frag) : Sp := fun vs H Q _ => ∃ (hv : V) (rooms : Nat) (ds : List (Nat × Nat)), vs = [hv] ∧ Dp K H hv (houseD rooms ds) ∧ rooms ≤ 99 ∧ ds.length ≤ 100 ∧ Doors rooms ds ∧ ∀ H', Same H H' → Q (.str (houseS rooms ds)) H'
def spSpelt (K : PySem.W.Frag) : Sp := fun vs H Q _ => ∃ (dv : V) (rooms : Nat) (ds : List (Nat × Nat)), vs = [.int rooms, dv] ∧ Dp K H dv (doorsD ds) ∧ rooms ≤ 99 ∧ ds.length ≤ 100 ∧ Doors rooms ds ∧ ∀ H', Same H H' → Q (.str (houseS rooms ds)) H'
theorem small_str {n : Nat} (h : n ≤ 100000) : n ≤ sizeLine := by rw [sizeLine_eq]; omega
/-- a number as Python writes it -/
theorem num_is (n : Nat) : ((toString ((n : Nat) : Int) : String) : Str) = numS n := rfl
end Bd
namespace Bd
open PySem PySem.Spec PyProof.Rows L2 HT
def topS (i : Nat) : Stmt := PySem.Challenge.pw_bothdoors_k01_houses_as_texts.main.body.getD i (.Pass ⟨0, 0, 0, 0⟩)
abbrev sLawDraw : Stmt := topS 15
theorem scLawDraw : FnScope ["bag", "many", "left"] ["bag", "many"] (defScope sLawDraw) := ⟨rfl, rfl, rfl, by decide +kernel, rfl, by decide +kernel, by decide +kernel⟩
section
variable {P : Program} {w : World} {K : PySem.W.Frag} {mg : Str → Option Value} {base : Heap}
theorem ok_draw {f : Addr} {fd : FuncData} (F : Fun K "_law_draw" "_law_draw" sLawDraw f fd) (m_len : mg "len" = none) : FnOk P w K mg base CX0 1 f fd ["bag", "many"] spDraw := by
  have sc := scLawDraw
  refine F.ok scLawDraw (fun vs H Q E h => ?_) (fun cdv A outer s H vs Q E hr h => ?_)
  · obtain ⟨a, c, m, rfl, _⟩ := h
    rfl
  · obtain ⟨a, c, m, rfl, hB, hm0, hm1, q⟩ := h
    have hu := hu_of hr
    refine ⟨_, (pss_cons (ps_while PassesOwn.never (PW.pt (pw_and (pt_cmpR op_lt (pe_ix ix_list (pv 0) pe_int (fun _ _ => rfl)) (pe_callB call_len_seq (by rfl) m_len PySem.boot_len (pa_cons (pe_ix ix_list (pv 0) pe_int (fun _ _ => rfl)) pa_nil)) (nomark _)) (pw_and1 (pt_cmpR op_eq (pe_ix ix_list (pe_ix ix_list (pv 0) pe_int (fun _ _ => rfl)) (pe_ix ix_list (pv 0) pe_int (fun _ _ => rfl)) (fun _ _ => rfl)) pe_int (nomark _)))))
    (pss_one (ps_asg (pe_op op_add (pe_ix ix_list (pv 0) pe_int (fun _ _ => rfl)) pe_int) (pg_sub (pv 0) pe_int set_list))))
  (pss_cons (ps_if (pt_cmpR op_lt (pe_ix ix_list (pv 0) pe_int (fun _ _ => rfl)) (pe_callB call_len_seq (by rfl) m_len PySem.boot_len (pa_cons (pe_ix ix_list (pv 0) pe_int (fun _ _ => rfl)) pa_nil)) (nomark _))
    (pss_cons (ps_set (i := 2) sc.nd rfl (.inl rfl) (pe_ix ix_list (pe_ix ix_list (pv 0) pe_int (fun _ _ => rfl)) (pe_ix ix_list (pv 0) pe_int (fun _ _ => rfl)) (fun _ _ => rfl)))
  (pss_cons (ps_asg (pe_op op_fdivW (pv 2) (pv 1)) (pg_sub (pe_ix ix_list (pv 0) pe_int (fun _ _ => rfl)) (pe_ix ix_list (pv 0) pe_int (fun _ _ => rfl)) set_list))
  (pss_one (ps_ret (pe_op op_mod (pv 2) (pv 1))))))
    pss_nil)
  (pss_cons (ps_asg (pe_op op_add (pe_ix ix_list (pv 0) pe_int (fun _ _ => rfl)) pe_int) (pg_sub (pv 0) pe_int set_list))
  (pss_cons (ps_asg (pe_op op_mod (pe_op op_add (pe_op op_add (pe_op op_add (pe_op op_pow (pe_ix ix_list (pv 0) pe_int (fun _ _ => rfl)) pe_int) (pe_op op_mul pe_int (pe_ix ix_list (pv 0) pe_int (fun _ _ => rfl)))) (pe_op op_mul pe_int (pe_ix ix_list (pv 0) pe_int (fun _ _ => rfl)))) pe_int) (pe_op op_sub (pe_op op_pow pe_int pe_int) pe_int)) (pg_sub (pv 0) pe_int set_list))
  (pss_one (ps_ret (pe_op op_mod (pe_op op_fdiv (pe_ix ix_list (pv 0) pe_int (fun _ _ => rfl)) pe_int) (pv 1)))))))), ?_⟩
    obtain ⟨⟨ls, i0, s0, t0, hA, hC, hi0, hls, hs0, hs1⟩, hne⟩ := hB
    refine ⟨fun n σ H' => ∃ i : Int, σ = [some (.ref a), some (.int m), none] ∧ n = (ls.length - i).toNat ∧ 0 ≤ i ∧ H' a = some (.lst (bagL c i s0 t0)) ∧ H' c = some (.lst (ls.map V.int)) ∧ Kp [a, c] H H',
      ⟨_, i0, rfl, rfl, hi0, hA, hC, Kp.refl⟩, ?_⟩
    rintro n σ H1 ⟨i, rfl, rfl, hi, hA, hC, k1⟩
    -- bag[1] < len(bag[0])
    have sA : SqL K H1 a (bagL c i s0 t0) := .inl (.inl hA)
    have sC : SqL K H1 c (ls.map V.int) := .inl (.inl hC)
    refine ⟨_, rfl, _, _, _, _, rfl, rfl, sA, rfl, _, rfl, _, _, _, _, rfl, rfl, sA, rfl, _, _, rfl, .inl sC, _, _, rfl, rfl, _, rfl, ite2 (fun e => ?_) (fun e => ?_)⟩
    · -- bag[0][bag[1]] == 0
      rw [List.length_map] at e
      have hi2 : i < ls.length := of_decide_eq_true e
      have hj : i.toNat < ls.length := by omega
      obtain ⟨j, rfl⟩ : ∃ j : Nat, i = (j : Int) := ⟨i.toNat, by omega⟩
      have hj : j < ls.length := by omega
      have g : (ls.map V.int)[j]? = some (.int ls[j]) := by rw [List.getElem?_map, List.getElem?_eq_getElem hj]; rfl
      refine ⟨_, rfl, _, _, _, _, rfl, rfl, sA, rfl, _, rfl, _, _, _, _, rfl, rfl, sA, rfl, _, _, _, _, rfl, rfl, sC, atI_nat g, rfl, _, rfl, ite2 (fun e2 => ?_) (fun e2 => ?_)⟩
      · -- bag[1] = bag[1] + 1
        refine ⟨fun σ' H' => ∃ i : Int, σ' = [some (.ref a), some (.int m), none] ∧ (ls.length - i).toNat < (ls.length - (j : Int)).toNat ∧ 0 ≤ i ∧ H' a = some (.lst (bagL c i s0 t0)) ∧ H' c = some (.lst (ls.map V.int)) ∧ Kp [a, c] H H', fun σ' H' hN => ?_, ?_⟩
        · obtain ⟨i, h1, h2, h3⟩ := hN
          exact ⟨_, h2, i, h1, rfl, h3⟩
        · refine ⟨_, rfl, _, _, _, _, rfl, rfl, sA, rfl, _, _, rfl, rfl, _, rfl, _, _, _, 1, rfl, rfl, hA, rfl, ?_⟩
          exact ⟨_, rfl, by omega, by omega, upd_same, by rw [upd_ne (Ne.symm hne)]; exact hC, k1.wr (by simp)⟩
      · -- behind the loop, an item there
        refine ⟨_, rfl, _, _, _, _, rfl, rfl, sA, rfl, _, rfl, _, _, _, _, rfl, rfl, sA, rfl, _, _, rfl, .inl sC, _, _, rfl, rfl, _, rfl, ifT (by rw [List.length_map]; exact e) ?_⟩
        refine ⟨_, rfl, _, _, _, _, rfl, rfl, sA, rfl, _, rfl, _, _, _, _, rfl, rfl, sA, rfl, _, _, _, _, rfl, rfl, sC, atI_nat g, ?_⟩
        refine ⟨_, rfl, _, rfl, _, _, rfl, rfl, wide_div hm0 (b := 1000) (by omega) (by decide) (by decide), ?_⟩
        refine ⟨_, rfl, _, _, _, _, rfl, rfl, sA, rfl, _, rfl, _, _, _, _, rfl, rfl, sA, rfl, _, _, _, j, rfl, rfl, hC, ?_, ?_⟩
        · unfold ixN
          rw [List.length_map, if_pos (by omega), if_pos (by omega)]
          simp
        · refine ⟨_, rfl, _, rfl, _, _, rfl, rfl, hm0, ?_⟩
          refine q _ _ (Int.emod_nonneg _ (by omega)) (Int.emod_lt_of_pos _ hm0) ⟨⟨ls.set j (ls[j] / m), _, s0, t0, ?_, ?_, hi, ?_, hs0, hs1⟩, hne⟩ (k1.wr (by simp))
          · rw [upd_ne hne]; exact hA
          · rw [upd_same, List.map_set]
          · rw [List.length_set]; exact hls
    · -- behind the loop, none left
      refine ⟨_, rfl, _, _, _, _, rfl, rfl, sA, rfl, _, rfl, _, _, _, _, rfl, rfl, sA, rfl, _, _, rfl, .inl sC, _, _, rfl, rfl, _, rfl, ifF e ?_⟩
      -- bag[3] = bag[3] + 1
      refine ⟨_, rfl, _, _, _, _, rfl, rfl, sA, rfl, _, _, rfl, rfl, _, rfl, _, _, _, 3, rfl, rfl, hA, rfl, ?_⟩
      have sA2 : SqL K (upd H1 a (.lst (bagL c i s0 (t0 + 1)))) a (bagL c i s0 (t0 + 1)) := .inl (.inl upd_same)
      -- bag[2] = (bag[2] ** 3 + 48271 * bag[2] + 2039 * bag[3] + 7) % (2 ** 61 - 1)
      refine ⟨_, rfl, _, _, _, _, rfl, rfl, sA2, rfl, _, _, rfl, rfl, ⟨by decide, by decide, by omega⟩, _, rfl, _, _, _, _, rfl, rfl, sA2, rfl, _, _, rfl, rfl, .inl ⟨by decide, by decide⟩, _, _, rfl, rfl, _, rfl, _, _, _, _, rfl, rfl, sA2, rfl, _, _, rfl, rfl, .inl ⟨by decide, by decide⟩, _, _, rfl, rfl, _, _, rfl, rfl,
        _, _, rfl, rfl, ⟨by decide, by decide, by decide⟩, _, _, rfl, rfl, _, _, rfl, rfl, (by show (0 : Int) < 2 ^ 61 - 1; decide), _, rfl, _, _, _, 2, rfl, rfl, upd_same, rfl, ?_⟩
      rw [upd_upd]
      have hz0 : 0 ≤ ((s0 ^ Int.toNat 3 + 48271 * s0 + 2039 * (t0 + 1) + 7) % (2 ^ Int.toNat 61 - 1)) := Int.emod_nonneg _ (by decide)
      have hz1 : ((s0 ^ Int.toNat 3 + 48271 * s0 + 2039 * (t0 + 1) + 7) % (2 ^ Int.toNat 61 - 1)) < 2 ^ 63 := Int.lt_of_lt_of_le (Int.emod_lt_of_pos _ (by decide)) (by decide)
      have sA3 : SqL K (upd H1 a (.lst (bagL c i ((s0 ^ Int.toNat 3 + 48271 * s0 + 2039 * (t0 + 1) + 7) % (2 ^ Int.toNat 61 - 1)) (t0 + 1)))) a (bagL c i ((s0 ^ Int.toNat 3 + 48271 * s0 + 2039 * (t0 + 1) + 7) % (2 ^ Int.toNat 61 - 1)) (t0 + 1)) := .inl (.inl upd_same)
      refine ⟨_, rfl, _, _, _, _, rfl, rfl, sA3, rfl, _, _, rfl, rfl, ⟨by decide, by decide⟩, _, rfl, _, _, rfl, rfl, hm0, ?_⟩
      refine q _ _ (Int.emod_nonneg _ (by omega)) (Int.emod_lt_of_pos _ hm0) ⟨⟨ls, i, ((s0 ^ Int.toNat 3 + 48271 * s0 + 2039 * (t0 + 1) + 7) % (2 ^ Int.toNat 61 - 1)), t0 + 1, upd_same, ?_, hi, hls, hz0, hz1⟩, hne⟩ (k1.wr (by simp))
      rw [upd_ne (Ne.symm hne)]; exact hC
end
end Bd
namespace Bd
open PySem PySem.Spec PyProof.Rows L2 HT
abbrev sLawBag : Stmt := topS 14
theorem scLawBag : FnScope ["script", "seed", "cell"] ["script"] (defScope sLawBag) := ⟨rfl, rfl, rfl, by decide +kernel, rfl, by decide +kernel, by decide +kernel⟩
section
variable {P : Program} {w : World} {K : PySem.W.Frag} {mg : Str → Option Value} {base : Heap}
theorem ok_bag {f : Addr} {fd : FuncData} (F : Fun K "_law_bag" "_law_bag" sLawBag f fd) (m_abs : mg "abs" = none) : FnOk P w K mg base CX0 1 f fd ["script"] (spBag K) := by
  have sc := scLawBag
  refine F.ok scLawBag (fun vs H Q E h => ?_) (fun cdv A outer s H vs Q E hr h => ?_)
  · obtain ⟨a, ns, rfl, _⟩ := h
    rfl
  · obtain ⟨a, ns, rfl, hS, hlen, q⟩ := h
    have hu := hu_of hr
    refine ⟨_, (pss_cons (ps_set (i := 1) sc.nd rfl (.inl rfl) pe_int)
  (pss_cons (ps_for PassesOwn.never rfl (pi_list (pe_slice sl_list (pv 0) po_none (po_some pe_int))) (pg_name (i := 2) sc.nd rfl (.inl rfl))
    (pss_one (ps_set (i := 1) sc.nd rfl (.inl rfl) (pe_op op_mod (pe_op op_add (pe_op op_add (pe_op op_mul (pv 1) pe_int) (pe_op op_mod (pv 2) pe_int)) pe_int) (pe_op op_sub (pe_op op_pow pe_int pe_int) pe_int)))))
  (pss_one (ps_ret (pe_lst (pa_cons (pe_lc (own := [("cell", 2)]) (g := gName 2) (tt := tYes) (by rfl) sc.nd  (pi_list (pe_slice sl_list (pv 0) po_none (po_some pe_int))) (blkOk_by (own := [("cell", 2)]) (N := ["script", "seed", "cell"]) (sc := defScope sLawBag) (by decide +kernel)) (fun _ _ _ _ _ => (pg_name (i := 2) sc.nd rfl (.inl rfl))) (fun _ _ _ _ _ => pts_nil) (fun _ _ _ _ _ => (pe_op op_mod (pe_callB call_abs (by rfl) m_abs (by decide +kernel) (pa_cons (pv 2) pa_nil)) (pe_op op_powW (pe_op op_pow pe_int pe_int) pe_int)))) (pa_cons pe_int (pa_cons (pv 1) (pa_cons pe_int pa_nil))))))))), ?_⟩
    refine ⟨_, rfl, 60, rfl, a, ns.map V.int, rfl, hS, fun D nD => ?_⟩
    obtain ⟨ms, em, lm⟩ := cut_ints ns none (some 60)
    rw [em]
    have k0 : Same H (upd H D (.lst (ms.map V.int))) := same_new nD
    refine ⟨D, rfl, ⟨_, .inl (.inl upd_same)⟩, for_list (K := K) (a := D) (xs := ms.map V.int) (fun i σ H2 => ∃ (s0 : Int) (v : Option V), σ = [some (.ref a), some (.int s0), v] ∧ 0 ≤ s0 ∧ s0 < 2 ^ 63 ∧ H2 = upd H D (.lst (ms.map V.int)))
      ⟨29, none, rfl, by decide, by decide, rfl⟩ (fun i σ H2 _ ⟨_, _, _, _, _, e⟩ => by rw [e]; exact .inl (.inl upd_same)) ?_ ?_⟩
    · rintro i x σ H2 hx ⟨s0, v, rfl, h0, h1, rfl⟩
      obtain ⟨z, rfl, hz⟩ := ints_at hx
      refine ⟨_, rfl, _, _, rfl, rfl, .inl ⟨by omega, by omega⟩, _, rfl, _, _, rfl, rfl, (by show (0 : Int) < 2305843009213693921; decide), _, _, rfl, rfl, _, _, rfl, rfl, _, _, rfl, rfl, ⟨by decide, by decide, by decide⟩, _, _, rfl, rfl, _, _, rfl, rfl, (by show (0 : Int) < 2 ^ 61 - 1; decide), ?_⟩
      exact ⟨_, _, rfl, Int.emod_nonneg _ (by decide), Int.lt_of_lt_of_le (Int.emod_lt_of_pos _ (by decide)) (by decide), rfl⟩
    · rintro σ H2 ⟨s0, v, rfl, h0, h1, rfl⟩
      refine ⟨_, rfl, 60, rfl, a, ns.map V.int, rfl, k0.seq hS, fun D2 nD2 => ?_⟩
      rw [em]
      refine ⟨D2, rfl, ⟨_, .inl (.inl upd_same)⟩, fun L nL => ?_⟩
      refine lc_list (K := K) (a := D2) (xs := ms.map V.int) (fun i H3 => ∃ ys : List Int, ys.length = i ∧ H3 = upd (upd (upd H D (.lst (ms.map V.int))) D2 (.lst (ms.map V.int))) L (.lst (ys.map V.int))) ⟨[], rfl, rfl⟩ ?_ ?_ ?_
      · rintro i H3 _ ⟨ys, _, rfl⟩
        exact (same_new nL).seq (.inl (.inl upd_same))
      · rintro i x H3 hx ⟨ys, ly, rfl⟩
        obtain ⟨z, rfl, hz⟩ := ints_at hx
        have hi := lt_of_at hz
        refine ⟨rfl, _, rfl, _, rfl, _, _, rfl, rfl, ⟨by decide, by decide, by decide⟩, _, _, rfl, rfl, ⟨by decide, (by show (Builtin.Int.intBits (10 ^ Int.toNat 60) : Int) * 10 ≤ 2 ^ 27; decide +kernel)⟩, _, _, rfl, rfl, (by show (0 : Int) < (10 ^ Int.toNat 60) ^ Int.toNat 10; decide +kernel), ys.map V.int, upd_same, ?_, ?_⟩
        · rw [List.length_map]
          exact small1000 (by omega)
        · refine ⟨ys ++ [(if z < 0 then -z else z) % (10 ^ Int.toNat 60) ^ Int.toNat 10], by rw [List.length_append, ly]; rfl, ?_⟩
          rw [upd_upd, List.map_append]
          rfl
      · rintro H3 ⟨ys, ly, rfl⟩
        rw [List.length_map] at ly
        refine ⟨_, rfl, (by show 4 ≤ sizeLine; decide), fun p np => ?_⟩
        have hpL : p ≠ L := fun e => by rw [e, upd_same] at np; cases np
        have k3 : Same H (upd (upd (upd H D (.lst (ms.map V.int))) D2 (.lst (ms.map V.int))) L (.lst (ys.map V.int))) := (k0.trans (same_new nD2)).trans (same_new nL)
        refine q p L _ (k3.trans (same_new np)) (k3.free np) ((k0.trans (same_new nD2)).free nL) ⟨⟨ys, 0, s0, 0, upd_same, by rw [upd_ne hpL.symm, upd_same], by decide, by omega, h0, h1⟩, hpL⟩
end
end Bd
namespace Bd
open PySem PySem.Spec PyProof.Rows L2 HT
abbrev sLawGround : Stmt := topS 16
theorem scLawGround : FnScope ["bag", "most", "wide", "rooms", "doors", "k", "one", "pair"] ["bag", "most", "wide"] (defScope sLawGround) := ⟨rfl, rfl, rfl, by decide +kernel, rfl, by decide +kernel, by decide +kernel⟩
section
variable {P : Program} {w : World} {K : PySem.W.Frag} {mg : Str → Option Value} {base : Heap}
theorem ok_ground {f : Addr} {fd : FuncData} (F : Fun K "_law_ground" "_law_ground" sLawGround f fd) (cal_law_draw : Ca P w K mg base 1 "_law_draw" spDraw) (m_len : mg "len" = none) (m_range : mg "range" = none) (m_int : mg "int" = none) :
    FnOk P w K mg base CX0 2 f fd ["bag", "most", "wide"] (spGround K) := by
  have sc := scLawGround
  refine F.ok scLawGround (fun vs H Q E h => ?_) (fun cdv A outer s H vs Q E hr h => ?_)
  · obtain ⟨a, c, m, w, rfl, _⟩ := h
    rfl
  · obtain ⟨a, c, most, wide, rfl, hB, hm0, hm1, hw1, q⟩ := h
    have hu := hu_of hr
    refine ⟨_, (pss_cons (ps_set (i := 3) sc.nd rfl (.inl rfl) (pe_op op_add pe_int (pe_u cal_law_draw hr (by first | decide | exact Nat.le_refl _ | omega) (by rfl) (pa_cons (pv 0) (pa_cons (pe_ix ix_list (pe_lst (pa_cons pe_int (pa_cons (pv 1) pa_nil))) (pe_u cal_law_draw hr (by first | decide | exact Nat.le_refl _ | omega) (by rfl) (pa_cons (pv 0) (pa_cons pe_int pa_nil))) (fun _ _ => rfl)) pa_nil)))))
  (pss_cons (ps_set (i := 4) sc.nd rfl (.inl rfl) (pe_lst pa_nil))
  (pss_cons (ps_for PassesOwn.never rfl (pi_range1 (by rfl) m_range (pa_cons (pe_op op_mul (pe_ix ix_list (pe_lst (pa_cons (pe_u cal_law_draw hr (by first | decide | exact Nat.le_refl _ | omega) (by rfl) (pa_cons (pv 0) (pa_cons pe_int pa_nil))) (pa_cons (pe_u cal_law_draw hr (by first | decide | exact Nat.le_refl _ | omega) (by rfl) (pa_cons (pv 0) (pa_cons (pe_op op_add (pv 2) pe_int) pa_nil))) pa_nil))) (pe_u cal_law_draw hr (by first | decide | exact Nat.le_refl _ | omega) (by rfl) (pa_cons (pv 0) (pa_cons pe_int pa_nil))) (fun _ _ => rfl)) (pe_callTy call_int1 (by rfl) m_int (by decide +kernel) (pa_cons (pe_cmpR op_gt (pv 3) pe_int (nomark _)) pa_nil))) pa_nil)) (pg_name (i := 5) sc.nd rfl (.inl rfl))
    (pss_cons (ps_set (i := 6) sc.nd rfl (.inl rfl) (pe_u cal_law_draw hr (by first | decide | exact Nat.le_refl _ | omega) (by rfl) (pa_cons (pv 0) (pa_cons (pv 3) pa_nil))))
  (pss_cons (ps_set (i := 7) sc.nd rfl (.inl rfl) (pe_tup (pa_cons (pv 6) (pa_cons (pe_op op_mod (pe_op op_add (pe_op op_add (pv 6) pe_int) (pe_u cal_law_draw hr (by first | decide | exact Nat.le_refl _ | omega) (by rfl) (pa_cons (pv 0) (pa_cons (pe_op op_sub (pv 3) pe_int) pa_nil)))) (pv 3)) pa_nil))))
  (pss_mid (ps_if (PW.pt (pw_and (pt_cmpR (op_neD hr.units) (pv 4) (pe_lst pa_nil) (nomark _)) (pw_and1 (pt_cmpR op_eq (pe_u cal_law_draw hr (by first | decide | exact Nat.le_refl _ | omega) (by rfl) (pa_cons (pv 0) (pa_cons pe_int pa_nil))) pe_int (nomark _)))))
    (pss_one (ps_set (i := 7) sc.nd rfl (.inl rfl) (pe_stepT (pe_ix ix_list (pv 4) (pe_u cal_law_draw hr (by first | decide | exact Nat.le_refl _ | omega) (by rfl) (pa_cons (pv 0) (pa_cons (pe_callB call_len_seq (by rfl) m_len PySem.boot_len (pa_cons (pv 4) pa_nil)) pa_nil))) (fun _ _ => rfl)) (pe_un un_neg pe_int))))
    pss_nil)
  (pss_one (ps_expr (pe_bm PySem.F.plainAttrs_list PySem.F.slot_list_append PySem.F.type_list_append mt_append (pv 4) (pa_cons (pv 7) pa_nil))))))))
  (pss_one (ps_ret (pe_tup (pa_cons (pv 3) (pa_cons (pv 4) pa_nil)))))))), ?_⟩
    -- rooms = 1 + draw(bag, [4, most][draw(bag, 2)])
    refine ⟨_, rfl, _, rfl, (by show 2 ≤ sizeLine; decide), fun p1 n1 => ?_⟩
    refine ⟨_, rfl, a, c, 2, rfl, hB.new n1, by decide, by decide, fun r1 H1 h1a h1b B1 k1 => ?_⟩
    obtain ⟨v1, e1, f1⟩ := atI_two (x := V.int 4) (y := V.int most) h1a h1b
    obtain ⟨m1, rfl, m1a, m1b, m1c⟩ : ∃ m : Nat, v1 = .int (m : Int) ∧ 0 < m ∧ m ≤ max 4 most ∧ m ≤ 10 := by
      rcases f1 with rfl | rfl
      · exact ⟨4, rfl, by omega, by omega, by omega⟩
      · exact ⟨most, rfl, by omega, by omega, by omega⟩
    have s1 : SqL K H1 p1 [V.int 4, V.int most] := .inl (.inl (k1.at upd_same (hB.out n1)))
    refine ⟨_, _, _, _, rfl, rfl, s1, e1, ?_⟩
    refine ⟨a, c, _, rfl, B1, by omega, by omega, fun r2 H2 h2a h2b B2 k2 => ?_⟩
    refine ⟨_, _, rfl, rfl, ?_⟩
    obtain ⟨rooms, er, r0, r1'⟩ : ∃ rooms : Nat, 1 + r2 = (rooms : Int) ∧ 0 < rooms ∧ rooms ≤ m1 := ⟨(1 + r2).toNat, by omega, by omega, by omega⟩
    show gName 3 (V.int (1 + r2)) _ _ _
    rw [er]
    -- doors = []
    refine ⟨Nat.zero_le _, fun D nD => ?_⟩
    have oD := B2.out nD
    have k02 : Kp [a, c] H H2 := ((Kp.refl.new (hid_none n1)).trans k1).trans k2
    have k03 : Kp [a, c] H (upd H2 D (.lst [])) := k02.new (k02.free nD)
    -- range([draw(bag, 6), draw(bag, wide + 1)][draw(bag, 2)] * int(rooms > 1))
    refine ⟨_, rfl, a, c, 6, rfl, B2.new nD, by decide, by decide, fun r3 H3 h3a h3b B3 k3 => ?_⟩
    refine ⟨_, rfl, _, rfl, _, _, rfl, rfl, a, c, _, rfl, B3, by omega, by omega, fun r4 H4 h4a h4b B4 k4 => ?_⟩
    refine ⟨(by show 2 ≤ sizeLine; decide), fun p2 n2 => ?_⟩
    refine ⟨_, rfl, a, c, 2, rfl, B4.new n2, by decide, by decide, fun r5 H5 h5a h5b B5 k5 => ?_⟩
    obtain ⟨v5, e5, f5⟩ := atI_two (x := V.int r3) (y := V.int r4) h5a h5b
    obtain ⟨m5, rfl, m5b⟩ : ∃ m : Nat, v5 = .int (m : Int) ∧ m ≤ max 5 wide := by
      rcases f5 with rfl | rfl
      · exact ⟨r3.toNat, by rw [Int.toNat_of_nonneg h3a], by omega⟩
      · exact ⟨r4.toNat, by rw [Int.toNat_of_nonneg h4a], by omega⟩
    have s5 : SqL K H5 p2 [V.int r3, V.int r4] := .inl (.inl (k5.at upd_same (B4.out n2)))
    have m5c : m5 ≤ 24 := by omega
    refine ⟨_, _, _, _, rfl, rfl, s5, e5, ?_⟩
    refine ⟨_, rfl, _, _, rfl, rfl, .inr ⟨_, rfl, ?_⟩⟩
    have D5 : H5 D = some (.lst []) := k5.at (by rw [upd_ne (ne_new (k4.at (k3.at upd_same oD) oD) n2).symm]; exact k4.at (k3.at upd_same oD) oD) oD
    have k05 : Kp [a, c] H H5 := (((k03.trans k3).trans k4).new (((k03.trans k3).trans k4).free n2)).trans k5
    have nDH : hid [a, c] H D = none := k02.free nD
    -- the number of turns
    obtain ⟨n, en, hn1, hn2⟩ : ∃ n : Nat, (m5 : Int) * (if decide ((1 : Int) < (rooms : Int)) = true then 1 else 0) = (n : Int) ∧ n ≤ m5 ∧ (0 < n → 1 < rooms) := by
      by_cases h : (1 : Int) < (rooms : Int)
      · exact ⟨m5, by rw [if_pos (decide_eq_true h), Int.mul_one], Nat.le_refl _, fun _ => by omega⟩
      · exact ⟨0, by rw [if_neg (by rw [decide_eq_false h]; decide), Int.mul_zero]; rfl, Nat.zero_le _, fun h => absurd h (by decide)⟩
    refine ⟨_, _, rfl, rfl, .inl ⟨by omega, by omega⟩, ?_⟩
    refine ⟨(n : Int), congrArg (fun z => [V.int z]) en, by omega, by omega, for_range (lo := 0) (n := n) (fun i σ H6 => ∃ (ds : List (Nat × Nat)) (vs : List V) (x y z : Option V), σ = [some (.ref a), some (.int most), some (.int wide), some (.int rooms), some (.ref D), x, y, z] ∧ H6 D = some (.lst vs) ∧ DpAll K (hid [a, c, D] H6) vs (ds.map pairD) ∧ ds.length = i ∧ Doors rooms ds ∧ Bag H6 a c ∧ Kp [a, c] H H6)
      ⟨[], [], none, none, none, rfl, D5, .nil, rfl, (fun d hd => by cases hd), B5, k05⟩ ?_ ?_⟩
    · rintro i σ H6 hi ⟨ds, vs, x, y, z, rfl, hD, hds, hlen, hok, B6, k6⟩
      have r1 : 1 < rooms := hn2 (by omega)
      have sub : ∀ b ∈ [a, c], b ∈ [a, c, D] := fun b hb => by simp only [List.mem_cons, List.not_mem_nil, or_false] at hb ⊢; rcases hb with z | z <;> simp [z]
      have d6 : Dp K (hid [a, c] H6) (.ref D) (doorsD ds) := .lst (.inl (.inl (hid_of hD oD))) (dps_same (hid_sub sub) hds)
      -- one = draw(bag, rooms)
      refine ⟨_, rfl, _, rfl, a, c, _, rfl, B6, by omega, by omega, fun r7 H7 h7a h7b B7 k7 => ?_⟩
      -- pair = (one, (one + 1 + draw(bag, rooms - 1)) % rooms)
      refine ⟨_, rfl, _, rfl, _, _, rfl, rfl, _, rfl, _, rfl, _, _, rfl, rfl, a, c, _, rfl, B7, by omega, by omega, fun r8 H8 h8a h8b B8 k8 => ?_⟩
      refine ⟨_, _, rfl, rfl, _, rfl, _, _, rfl, rfl, (by show (0 : Int) < rooms; omega), (by show 2 ≤ sizeLine; decide), fun p3 n3 => ?_⟩
      obtain ⟨x1, rfl⟩ : ∃ x : Nat, r7 = (x : Int) := ⟨r7.toNat, by omega⟩
      obtain ⟨x8, rfl⟩ : ∃ x : Nat, r8 = (x : Int) := ⟨r8.toNat, by omega⟩
      have ex : ((x1 : Int) + 1 + (x8 : Int)) % (rooms : Int) = (((x1 + 1 + x8) % rooms : Nat) : Int) := rfl
      have ok1 : x1 < rooms ∧ (x1 + 1 + x8) % rooms < rooms ∧ x1 ≠ (x1 + 1 + x8) % rooms := by
        refine ⟨by omega, Nat.mod_lt _ (by omega), fun z => ?_⟩
        by_cases hs : x1 + 1 + x8 < rooms
        · rw [Nat.mod_eq_of_lt hs] at z; omega
        · rw [Nat.mod_eq_sub_mod (by omega), Nat.mod_eq_of_lt (by omega)] at z; omega
      have k68 : Kp [a, c] H6 H8 := k7.trans k8
      have D8 : H8 D = some (.lst vs) := k68.at hD oD
      have o3 : p3 ≠ D := ne_new D8 n3
      have k9 : Kp [a, c] H6 (upd H8 p3 (.tup [.int (x1 : Int), .int (((x1 : Int) + 1 + (x8 : Int)) % (rooms : Int))])) := k68.new (k68.free n3)
      have hds9 := dps_same (k9.mono sub) hds
      have D9 : (upd H8 p3 (.tup [.int (x1 : Int), .int (((x1 : Int) + 1 + (x8 : Int)) % (rooms : Int))])) D = some (.lst vs) := by rw [upd_ne o3.symm]; exact D8
      have B9 := B8.new (o := .tup [.int (x1 : Int), .int (((x1 : Int) + 1 + (x8 : Int)) % (rooms : Int))]) n3
      have p9 : Dp K (hid [a, c, D] (upd H8 p3 (.tup [.int (x1 : Int), .int (((x1 : Int) + 1 + (x8 : Int)) % (rooms : Int))]))) (.ref p3) (pairD (x1, (x1 + 1 + x8) % rooms)) := by
        refine mk_pair (hid_of upd_same ?_) (.int _) ?_
        · intro z
          simp only [List.mem_cons, List.not_mem_nil, or_false] at z
          have := B8.out n3
          rcases z with z | z | z
          · exact this (by simp [z])
          · exact this (by simp [z])
          · exact o3 z
        · rw [ex]; exact .int _
      have k69 : Kp [a, c] H (upd H8 p3 (.tup [.int (x1 : Int), .int (((x1 : Int) + 1 + (x8 : Int)) % (rooms : Int))])) := k6.trans k9
      generalize hG : upd H8 p3 (.tup [.int (x1 : Int), .int (((x1 : Int) + 1 + (x8 : Int)) % (rooms : Int))]) = H9 at hds9 D9 B9 p9 k69 k9
      refine ⟨fun σ' H' => ∃ (p : Addr) (d : Nat × Nat), σ' = [some (.ref a), some (.int most), some (.int wide), some (.int rooms), some (.ref D), some (.int (0 + (i : Int))), some (.int (x1 : Int)), some (.ref p)] ∧ H' D = some (.lst vs) ∧
        DpAll K (hid [a, c, D] H') vs (ds.map pairD) ∧ Dp K (hid [a, c, D] H') (.ref p) (pairD d) ∧ (d.1 < rooms ∧ d.2 < rooms ∧ d.1 ≠ d.2) ∧ Bag H' a c ∧ Kp [a, c] H H', ?_, ?_⟩
      · -- if doors != [] and draw(bag, 5) == 0
        have s9 : Dp K H9 (.ref D) (doorsD ds) := .lst (.inl (.inl D9)) (dps_same hid_same hds9)
        refine ⟨_, rfl, Nat.zero_le _, fun q1 nq1 => ⟨doorsD ds, .list [], dp_same (same_new nq1) s9, .lst (.inl (.inl upd_same)) .nil, (shp_doors (n := 0) ds).ok (by decide), rfl, _, rfl, ite2 (fun e => ?_) (fun e => ?_)⟩⟩
        · have hne : ds ≠ [] := fun z => by
            rw [z] at e
            exact absurd e (by decide)
          have hpos : 0 < ds.length := List.length_pos_iff.mpr hne
          have hvl : vs.length = ds.length := by rw [dps_len hds, List.length_map]
          have nDq : D ≠ q1 := (ne_new D9 nq1).symm
          refine ⟨_, rfl, a, c, 5, rfl, B9.new nq1, by decide, by decide, fun r10 H10 h10a h10b B10 k10 => ⟨rfl, _, rfl, ite2 (fun e2 => ?_) (fun e2 => ?_)⟩⟩
          all_goals
            have k11 : Kp [a, c] H9 H10 := (Kp.refl.new (hid_none nq1)).trans k10
            have D10 : H10 D = some (.lst vs) := k11.at D9 oD
            have hds10 := dps_same (k11.mono sub) hds9
          · refine ⟨_, rfl, _, rfl, _, rfl, _, _, rfl, .inl (.inl (.inl D10)), a, c, _, rfl, B10, by omega, by omega, fun r11 H11 h11a h11b B11 k12 => ?_⟩
            obtain ⟨j, rfl⟩ : ∃ j : Nat, r11 = (j : Int) := ⟨r11.toNat, by omega⟩
            have hj : j < ds.length := by omega
            have D11 : H11 D = some (.lst vs) := k12.at D10 oD
            have hds11 := dps_same (k12.mono sub) hds10
            obtain ⟨v, ev, dv⟩ := dps_at hds11 (i := j) (d := pairD ds[j]) (by rw [List.getElem?_map, List.getElem?_eq_getElem hj]; rfl)
            obtain ⟨pa, xa, ya, rfl, sp, dx, dy⟩ := dp_pair dv
            obtain rfl := dp_int dx
            obtain rfl := dp_int dy
            have okj := hok ds[j] (List.getElem_mem hj)
            refine ⟨_, _, _, _, rfl, rfl, .inl (.inl D11), atI_nat ev, _, rfl, _, _, _, _, rfl, rfl, same_tup hid_same sp, .inr rfl, (fun z => absurd z (by decide)), fun _ p np => ?_⟩
            have ep : p ≠ D := ne_new D11 np
            have k13 : Kp [a, c] H9 (upd H11 p (.tup [.int (ds[j].2 : Int), .int (ds[j].1 : Int)])) := (k11.trans k12).new ((k11.trans k12).free np)
            refine ⟨p, (ds[j].2, ds[j].1), rfl, by rw [upd_ne ep.symm]; exact D11, dps_same (k13.mono sub) hds9, mk_pair (hid_of upd_same ?_) (.int _) (.int _), ⟨okj.2.1, okj.1, okj.2.2.symm⟩, B11.new np, k69.trans k13⟩
            intro z
            simp only [List.mem_cons, List.not_mem_nil, or_false] at z
            have := B11.out np
            rcases z with z | z | z
            · exact this (by simp [z])
            · exact this (by simp [z])
            · exact ep z
          · exact ⟨p3, _, rfl, D10, hds10, dp_same (k11.mono sub) p9, ok1, B10, k69.trans k11⟩
        · refine ifF (by decide) ?_
          have k11 : Kp [a, c] H9 (upd H9 q1 (.lst [])) := Kp.refl.new (hid_none nq1)
          exact ⟨p3, _, rfl, k11.at D9 oD, dps_same (k11.mono sub) hds9, dp_same (k11.mono sub) p9, ok1, B9.new nq1, k69.trans k11⟩
      · rintro σ' H' ⟨p, d, rfl, hD', hds', hp', hok', B', k'⟩
        have hvl : vs.length = ds.length := by rw [dps_len hds, List.length_map]
        refine ⟨_, rfl, .inl ⟨rfl, _, .inl (.inl hD')⟩, _, rfl, _, _, _, rfl, rfl, hD', small1000 (by omega), ?_⟩
        refine ⟨ds ++ [d], vs ++ [.ref p], _, _, _, rfl, upd_same, ?_, by rw [List.length_append, hlen]; rfl, ?_, B'.wr oD, k'.new nDH⟩
        · rw [List.map_append]
          have kk : Same (hid [a, c, D] H') (hid [a, c, D] (upd H' D (.lst (vs ++ [.ref p])))) := Kp.refl.wr (by simp)
          exact dps_app (dps_same kk hds') (.cons (dp_same kk hp') .nil)
        · intro x hx
          rcases List.mem_append.mp hx with hx | hx
          · exact hok x hx
          · rw [List.mem_singleton.mp hx]; exact hok'
    · rintro σ H6 ⟨ds, vs, x, y, z, rfl, hD, hds, hlen, hok, B6, k6⟩
      refine ⟨_, rfl, _, rfl, (by show 2 ≤ sizeLine; decide), fun p np => ?_⟩
      refine q _ _ rooms ds r0 (by omega) (by omega) hok (B6.new np) (k6.new (k6.free np)) (mk_pair (hid_of upd_same (B6.out np)) (.int _) ?_)
      refine .lst (.inl (.inl (hid_of (by rw [upd_ne (ne_new hD np).symm]; exact hD) oD))) (dps_same (fun b o e => ?_) hds)
      obtain ⟨e1, e2⟩ := of_hid e
      refine hid_of ?_ (fun z => e2 (by simp only [List.mem_cons, List.not_mem_nil, or_false] at z ⊢; rcases z with z | z <;> simp [z]))
      rw [upd_ne (ne_of_none e1 np)]
      exact e1
end
end Bd
namespace Bd
open PySem PySem.Spec PyProof.Rows L2 HT TL
abbrev sWhole : Stmt := topS 5
theorem scWhole : FnScope ["figures", "sign"] ["figures"] (defScope sWhole) := ⟨rfl, rfl, rfl, by decide +kernel, rfl, by decide +kernel, by decide +kernel⟩
abbrev sNumbers : Stmt := topS 12
theorem scNumbers : FnScope ["row", "word", "many", "words", "numbers", "figures"] ["row", "word", "many"] (defScope sNumbers) := ⟨rfl, rfl, rfl, by decide +kernel, rfl, by decide +kernel, by decide +kernel⟩
section
variable {P : Program} {w : World} {K : PySem.W.Frag} {mg : Str → Option Value} {base : Heap}
theorem ok_number {f : Addr} {fd : FuncData} {t1 t2 : Tok} (F : Fun K "whole" "whole" sWhole f fd) (mg_MOST_FIGURES : mg "MOST_FIGURES" = some (.int 9 t1)) (mg_FIGURES : mg "FIGURES" = some (.str figS t2)) (m_len : mg "len" = none) (m_all : mg "all" = none) (m_int : mg "int" = none) :
    FnOk P w K mg base CX0 1 f fd ["figures"] spNumber := by
  have sc := scWhole
  refine F.ok scWhole (fun vs H Q E h => ?_) (fun cdv A outer s H vs Q E hr h => ?_)
  · obtain ⟨n, rfl, _⟩ := h
    rfl
  · obtain ⟨n, rfl, hn, q⟩ := h
    refine ⟨_, (pss_cons (ps_if (PW.pt (pw_or (pt_not (pt_chain op_le op_le pe_int (pe_callB call_len_str (by rfl) m_len PySem.boot_len (pa_cons (pv 0) pa_nil)) (pe_glob (v := .int 9) rfl mg_MOST_FIGURES ⟨_, rfl⟩))) (pw_or1 (pt_not (pt_val (pe_callB (cr_all rfl) (by rfl) m_all (by decide +kernel) (pa_cons (pe_lc (own := [("sign", 1)]) (g := gName 1) (tt := tYes) (by rfl) sc.nd  (pi_str (pv 0)) (blkOk_by (own := [("sign", 1)]) (N := ["figures", "sign"]) (sc := defScope sWhole) (by decide +kernel)) (fun _ _ _ _ _ => (pg_name (i := 1) sc.nd rfl (.inl rfl))) (fun _ _ _ _ _ => pts_nil) (fun _ _ _ _ _ => (pe_cmpR op_in_sign (pv 1) (pe_glob (v := .str figS) rfl mg_FIGURES ⟨_, rfl⟩) rfl))) pa_nil)))))))
    (pss_one (ps_ret pe_non))
    pss_nil)
  (pss_cons (ps_if (PW.pt (pw_and (pt_cmpR op_gt (pe_callB call_len_str (by rfl) m_len PySem.boot_len (pa_cons (pv 0) pa_nil)) pe_int (nomark _)) (pw_and1 (pt_cmpR op_eq (pe_ix ix_str (pv 0) pe_int (fun _ _ => rfl)) pe_str (nomark _)))))
    (pss_one (ps_ret pe_non))
    pss_nil)
  (pss_one (ps_ret (pe_callTy call_int_str (by rfl) m_int (by decide +kernel) (pa_cons (pv 0) pa_nil)))))), ?_⟩
    have l1 := numS_pos n
    have l2 := numS_len hn
    have ls : (numS n).length ≤ sizeLine := small_str (by omega)
    -- 1 <= len(figures) <= 9
    refine ⟨_, rfl, _, rfl, ls, _, _, rfl, rfl, _, rfl, ifT (decide_eq_true (by omega)) ⟨_, _, rfl, rfl, _, rfl, ifF (by rw [decide_eq_true (by omega)]; decide) ?_⟩⟩
    -- all figures
    refine ⟨_, rfl, _, rfl, fun D nD => ?_⟩
    refine lc_it (walk_str (z := numS n)) (fun i H1 => Same H H1 ∧ H1 D = some (.lst ((List.replicate i true).map V.bl))) ⟨same_new nD, upd_same⟩ (fun _ _ _ _ => trivial) ?_ ?_
    · rintro i x H1 H2 hi ⟨k1, hD⟩ ⟨rfl, c, hc, rfl⟩
      obtain ⟨c1, c2⟩ := numS_digit hc
      refine ⟨rfl, _, rfl, c, figS, rfl, rfl, ?_⟩
      rw [decide_eq_true (fig_mem c1 c2)]
      refine ⟨_, hD, ?_, fun b o z => ?_, ?_⟩
      · rw [List.length_map, List.length_replicate]
        exact small1000 (by have : (numS n).cps.size = (numS n).length := rfl; omega)
      · rw [upd_ne (ne_of_none z nD)]; exact k1 b o z
      · rw [upd_same, List.replicate_succ', List.map_append]; rfl
    · rintro H1 ⟨k1, hD⟩
      refine ⟨D, _, rfl, .inl (.inl hD), ?_⟩
      have e : (List.replicate (numS n).cps.size true).all id = true := by
        rw [List.all_eq_true]
        intro z hz
        exact (List.mem_replicate.mp hz).2
      rw [e]
      refine ⟨_, rfl, ifF (by decide) ?_⟩
      have fin : Q (.int n) H1 := q H1 k1
      have it : PySem.intText? (numS n) = some (n : Int) := int_num (by rw [← tl_numS, ← len_tl]; omega)
      -- no 0 ahead
      by_cases h10 : 10 ≤ n
      · have e2 := numS_two h10 hn
        have el : (numS n).length = 2 := by rw [len_tl]; show (numS n).cps.toList.length = 2; rw [e2]; rfl
        refine ⟨_, rfl, _, rfl, ls, _, _, rfl, rfl, _, rfl, ifT (decide_eq_true (by rw [el]; decide)) ?_⟩
        refine ⟨_, rfl, _, _, 48 + n / 10, rfl, rfl, ls, by rw [e2]; rfl, rfl, _, rfl, ifF (fun z => ?_) ?_⟩
        · have h0 := of_decide_eq_true z
          have h1 : (⟨#[48 + n / 10]⟩ : Str) = "0" := V.str.inj h0
          have h2 := congrArg tl h1
          have h3 : tl ("0" : Str) = [48] := by decide +kernel
          rw [h3] at h2
          have h4 : [48 + n / 10] = [48] := h2
          injection h4 with h4 _
          omega
        · exact ⟨_, rfl, _, _, rfl, it, by omega, fin⟩
      · have e2 := numS_one (n := n) (by omega)
        have el : (numS n).length = 1 := by rw [len_tl]; show (numS n).cps.toList.length = 1; rw [e2]; rfl
        refine ⟨_, rfl, _, rfl, ls, _, _, rfl, rfl, _, rfl, ifF (by rw [el]; decide) (ifF (by decide) ?_)⟩
        exact ⟨_, rfl, _, _, rfl, it, by omega, fin⟩
theorem ok_numbers {f : Addr} {fd : FuncData} (F : Fun K "_numbers" "_numbers" sNumbers f fd) (cal_whole : Ca P w K mg base 1 "whole" spNumber) (m_len : mg "len" = none) :
    FnOk P w K mg base CX0 2 f fd ["row", "word", "many"] spNumbers := by
  have sc := scNumbers
  refine F.ok scNumbers (fun vs H Q E h => ?_) (fun cdv A outer s H vs Q E hr h => ?_)
  · obtain ⟨a, b, n, rfl, _⟩ := h
    rfl
  · obtain ⟨row, wd, ms, rfl, sp, hrow, hml, hms, q⟩ := h
    refine ⟨_, (pss_cons (ps_set (i := 3) sc.nd rfl (.inl rfl) (pe_split (pv 0) pe_str))
  (pss_cons (ps_if (PW.pt (pw_or (pt_cmpR op_ne (pe_ix ix_list (pv 3) pe_int (fun _ _ => rfl)) (pv 1) (nomark _)) (pw_or1 (pt_cmpR op_ne (pe_callB call_len_seq (by rfl) m_len PySem.boot_len (pa_cons (pv 3) pa_nil)) (pe_op op_add (pv 2) pe_int) (nomark _)))))
    (pss_one ps_never)
    pss_nil)
  (pss_cons (ps_setLc (i := 4) (own := [("figures", 5)]) (g := gName 5) (tt := tYes) (by rfl) sc.nd rfl rfl (sw_true rfl rfl rfl (by decide +kernel)) (pi_list (pe_slice sl_list (pv 3) (po_some pe_int) po_none)) (blkOk_by (own := [("figures", 5)]) (N := ["row", "word", "many", "words", "numbers", "figures"]) (sc := defScope sNumbers) (by decide +kernel)) (fun _ _ _ _ _ => (pg_name (i := 5) sc.nd rfl (.inl rfl))) (fun _ _ _ _ _ => pts_nil) (fun _ _ _ _ _ => (pe_u cal_whole hr (by first | decide | exact Nat.le_refl _ | omega) (by rfl) (pa_cons (pv 5) pa_nil))))
  (pss_cons (ps_if (pt_cmpR op_in_seq pe_non (pv 4) rfl)
    (pss_one ps_never)
    pss_nil)
  (pss_one (ps_ret (pv 4))))))), ?_⟩
    refine ⟨_, rfl, ⟨_, rfl⟩, row, spc, rfl, rfl, by decide +kernel, small_str (by omega), fun W nW => ?_⟩
    rw [sp]
    have k0 : Same H (upd H W (.lst ((wd :: ms.map numS).map V.str))) := same_new nW
    have hW : (upd H W (.lst ((wd :: ms.map numS).map V.str))) W = some (.lst ((wd :: ms.map numS).map V.str)) := upd_same
    generalize upd H W (.lst ((wd :: ms.map numS).map V.str)) = H1 at k0 hW ⊢
    have at0 : atI ((wd :: ms.map numS).map V.str) 0 = some (.str wd) := atI_nat (j := 0) rfl
    refine ⟨_, rfl, _, _, _, _, rfl, rfl, .inl (.inl hW), at0, _, rfl, rfl, _, rfl, ifF (by rw [decide_eq_true rfl]; decide) ?_⟩
    refine ⟨_, rfl, _, _, rfl, .inl (.inl (.inl hW)), _, rfl, _, _, rfl, rfl, rfl, _, rfl, ifF ?_ ?_⟩
    · rw [decide_eq_true (congrArg V.int (by rw [List.length_map, List.length_cons, List.length_map]; omega))]; decide
    refine ⟨_, rfl, 1, rfl, W, _, rfl, .inl (.inl hW), fun C nC => ?_⟩
    have ec : cutV ((wd :: ms.map numS).map V.str) (some 1) none = (ms.map numS).map V.str := cut_from _ 1 (by simp)
    rw [ec]
    have k1 := k0.trans (same_new (o := .lst ((ms.map numS).map V.str)) nC)
    have hC : (upd H1 C (.lst ((ms.map numS).map V.str))) C = some (.lst ((ms.map numS).map V.str)) := upd_same
    generalize upd H1 C (.lst ((ms.map numS).map V.str)) = H2 at k1 hC ⊢
    refine ⟨C, rfl, ⟨_, .inl (.inl hC)⟩, fun D nD => ?_⟩
    have nDH := k1.free nD
    refine lc_list (K := K) (a := C) (xs := (ms.map numS).map V.str) (fun i H3 => Same H2 H3 ∧ H3 D = some (.lst ((natsL (ms.take i)).map V.int))) ⟨same_new nD, upd_same⟩ (fun i H3 _ ⟨k3, _⟩ => .inl (.inl (k3 _ _ hC))) ?_ ?_
    · rintro i x H3 hx ⟨k3, hD⟩
      have hi := lt_of_at hx
      rw [List.length_map, List.length_map] at hi
      have ex : x = .str (numS ms[i]) := by
        rw [List.getElem?_map, List.getElem?_map, List.getElem?_eq_getElem hi] at hx
        exact (Option.some.inj hx).symm
      subst ex
      refine ⟨rfl, _, rfl, ms[i], rfl, hms _ (List.getElem_mem hi), fun H4 k4 => ⟨_, k4 _ _ hD, ?_, fun b o z => ?_, ?_⟩⟩
      · rw [List.length_map, natsL_len, List.length_take]; exact small1000 (by omega)
      · rw [upd_ne (ne_of_none z nD)]; exact k4 _ _ (k3 _ _ z)
      · rw [upd_same, take_snoc (List.getElem?_eq_getElem hi)]
        unfold natsL
        rw [List.map_append, List.map_append]; rfl
    · rintro H3 ⟨k3, hD⟩
      rw [List.length_map, List.length_map, List.take_of_length_le (Nat.le_refl _)] at hD
      have nin : inV .non ((natsL ms).map V.int) = false := by
        unfold inV
        rw [List.any_map]
        induction natsL ms with
        | nil => rfl
        | cons x xs ih => rw [List.any_cons, ih]; rfl
      have fl : ((natsL ms).map V.int).all flatV = true := by
        rw [List.all_map, List.all_eq_true]
        intro x _
        rfl
      refine ⟨_, rfl, D, _, rfl, .inl (.inl (.inl hD)), rfl, fl, ?_⟩
      rw [nin]
      refine ⟨_, rfl, ifF (by decide) ⟨_, rfl, ?_⟩⟩
      exact q H3 D (k1.trans k3) nDH hD
end
end Bd
namespace Bd
open PySem PySem.Spec PyProof.Rows L2 HT TL
abbrev sDoor : Stmt := topS 11
theorem scDoor : FnScope ["row", "rooms", "a", "b"] ["row", "rooms"] (defScope sDoor) := ⟨rfl, rfl, rfl, by decide +kernel, rfl, by decide +kernel, by decide +kernel⟩
abbrev sRead : Stmt := topS 9
theorem scRead : FnScope ["text", "first", "others", "rooms", "row"] ["text"] (defScope sRead) := ⟨rfl, rfl, rfl, by decide +kernel, rfl, by decide +kernel, by decide +kernel⟩
abbrev sWritten : Stmt := topS 10
theorem scWritten : FnScope ["house", "rooms", "doors", "a", "b"] ["house"] (defScope sWritten) := ⟨rfl, rfl, rfl, by decide +kernel, rfl, by decide +kernel, by decide +kernel⟩
abbrev sLawSpelt : Stmt := topS 18
theorem scLawSpelt : FnScope ["rooms", "doors", "line", "one", "other"] ["rooms", "doors"] (defScope sLawSpelt) := ⟨rfl, rfl, rfl, by decide +kernel, rfl, by decide +kernel, by decide +kernel⟩
theorem rooms_js (n : Nat) : (Str.empty ++ ("rooms " : Str)) ++ numS n = roomsRow n := by
  refine ext_tl ?_
  have e0 : tl Str.empty = [] := rfl
  have e1 : tl ("rooms " : Str) = [114, 111, 111, 109, 115, 32] := by decide +kernel
  unfold roomsRow
  rw [tl_append, tl_append, e0, e1, tl_join, tl_spc]
  unfold roomsW
  rw [List.map_cons, List.map_cons, List.map_nil, tl_roomsW]
  rfl
theorem rooms_js2 (n : Nat) : ("rooms " : Str) ++ numS n = roomsRow n := by
  refine ext_tl ?_
  have e0 : tl Str.empty = [] := rfl
  rw [← rooms_js, tl_append, tl_append, tl_append, e0, List.nil_append]
theorem num_small {n : Nat} (h : n ≤ 99) : ((n : Int)).natAbs.log2 < 1920 := Nat.lt_trans (PySem.Flt.log2_lt_of (k := 90) (by decide) (by omega)) (by decide)
theorem len_rooms : ("rooms " : Str).length = 6 := by decide +kernel
theorem len_door : ("door " : Str).length = 5 := by decide +kernel
theorem len_lf : ("\n" : Str).length = 1 := by decide +kernel
theorem len_spc : (" " : Str).length = 1 := by decide +kernel
theorem len_emp : Str.empty.length = 0 := rfl
theorem tl_doorRow (d : Nat × Nat) : tl (doorRow d) = tl ("door " : Str) ++ (tl (numS d.1) ++ ([32] ++ tl (numS d.2))) := by
  have e1 : tl ("door " : Str) = [100, 111, 111, 114, 32] := by decide +kernel
  unfold doorRow
  rw [e1, tl_join, tl_spc]
  unfold doorW
  rw [List.map_cons, List.map_cons, List.map_cons, List.map_nil, tl_doorW]
  rfl
theorem door_js (d : Nat × Nat) : (((Str.empty ++ ("door " : Str)) ++ numS d.1) ++ (" " : Str)) ++ numS d.2 = doorRow d := by
  refine ext_tl ?_
  have e0 : tl Str.empty = [] := rfl
  have e2 : tl (" " : Str) = [32] := tl_spc
  rw [tl_doorRow, tl_append, tl_append, tl_append, tl_append, e0, e2, List.nil_append, List.append_assoc, List.append_assoc]
theorem joinL_snoc (S q : List Nat) : ∀ ps : List (List Nat), ps ≠ [] → joinL S (ps ++ [q]) = joinL S ps ++ (S ++ q)
  | [], h => absurd rfl h
  | [p], _ => by rfl
  | p :: r :: rs, _ => by
    have ih := joinL_snoc S q (r :: rs) (by simp)
    show p ++ (S ++ joinL S ((r :: rs) ++ [q])) = (p ++ (S ++ joinL S (r :: rs))) ++ (S ++ q)
    rw [ih, List.append_assoc, List.append_assoc]
theorem house_snoc (n : Nat) (ds : List (Nat × Nat)) (d : Nat × Nat) : ((((houseS n ds ++ ("\n" : Str)) ++ ("door " : Str)) ++ numS d.1) ++ (" " : Str)) ++ numS d.2 = houseS n (ds ++ [d]) := by
  refine ext_tl ?_
  have e2 : tl (" " : Str) = [32] := tl_spc
  have e3 : tl ("\n" : Str) = [10] := tl_lf
  unfold houseS rowsOf
  rw [tl_append, tl_append, tl_append, tl_append, tl_append, e2, e3, tl_join, tl_join, List.map_append, List.map_cons, List.map_cons, List.map_append, List.map_cons, List.map_nil, List.map_cons, List.map_nil, ← List.cons_append, joinL_snoc _ _ _ (by simp), tl_doorRow, tl_lf]
  simp only [List.append_assoc]
theorem houseS_sum {n : Nat} {ds : List (Nat × Nat)} (hn : n ≤ 99) (hd : ds.length ≤ 100) (ok : ∀ d ∈ ds, d.1 ≤ 99 ∧ d.2 ≤ 99) : ((rowsOf n ds).map (·.length)).sum + (rowsOf n ds).length * lf.length ≤ 2000 := by
  have h2 : lf.length = 1 := by decide +kernel
  have h3 : ∀ es : List (Nat × Nat), (∀ d ∈ es, d.1 ≤ 99 ∧ d.2 ≤ 99) → (((es.map doorRow).map (·.length)).sum) ≤ es.length * 10 := by
    intro es
    induction es with
    | nil => intro _; exact Nat.le_refl _
    | cons d es ih =>
      intro h
      have := ih fun x hx => h x (List.mem_cons_of_mem _ hx)
      obtain ⟨q1, q2⟩ := h d List.mem_cons_self
      have := doorRow_len q1 q2
      rw [List.map_cons, List.map_cons, List.sum_cons, List.length_cons]
      omega
  have h4 := h3 ds ok
  have h5 := roomsRow_len hn
  unfold rowsOf
  rw [List.map_cons, List.sum_cons, List.length_cons, List.length_map, h2]
  omega
theorem house_nil (n : Nat) : houseS n [] = roomsRow n := rfl
section
variable {P : Program} {w : World} {K : PySem.W.Frag} {mg : Str → Option Value} {base : Heap}
theorem ok_door {f : Addr} {fd : FuncData} (F : Fun K "_door" "_door" sDoor f fd) (cal_numbers : Ca P w K mg base 2 "_numbers" spNumbers) : FnOk P w K mg base CX0 3 f fd ["row", "rooms"] spDoor := by
  have sc := scDoor
  refine F.ok scDoor (fun vs H Q E h => ?_) (fun cdv A outer s H vs Q E hr h => ?_)
  · obtain ⟨d, n, rfl, _⟩ := h
    rfl
  · obtain ⟨d, rooms, rfl, h1, h2, h3, hro, q⟩ := h
    refine ⟨_, (pss_cons (ps_asg (pe_u cal_numbers hr (by first | decide | exact Nat.le_refl _ | omega) (by rfl) (pa_cons (pv 0) (pa_cons pe_str (pa_cons pe_int pa_nil)))) (pg_unl (by rfl) (pgs_cons (pg_name (i := 2) sc.nd rfl (.inl rfl)) (pgs_cons (pg_name (i := 3) sc.nd rfl (.inl rfl)) pgs_nil))))
  (pss_cons (ps_if (PW.pt (pw_or (pt_cmpR op_ge (pv 2) (pv 1) (nomark _)) (pw_or1 (pt_cmpR op_ge (pv 3) (pv 1) (nomark _)))))
    (pss_one ps_never)
    pss_nil)
  (pss_cons (ps_if (pt_cmpR op_eq (pv 2) (pv 3) (nomark _))
    (pss_one ps_never)
    pss_nil)
  (pss_one (ps_ret (pe_tup (pa_cons (pv 2) (pa_cons (pv 3) pa_nil)))))))), ?_⟩
    refine ⟨_, rfl, doorRow d, "door", [d.1, d.2], rfl, split_door d, Nat.le_trans (doorRow_len (by omega) (by omega)) (by decide), (by show 2 ≤ 100; decide), fun m hm => ?_, fun H1 p k1 np hp => ?_⟩
    · simp only [List.mem_cons, List.not_mem_nil, or_false] at hm
      omega
    refine ⟨p, _, rfl, .inl (.inl hp), rfl, _, _, rfl, _, _, rfl, rfl, ?_⟩
    refine ⟨_, rfl, _, rfl, _, _, rfl, rfl, _, rfl, ifF (by rw [decide_eq_false (show ¬ (rooms : Int) ≤ (d.1 : Int) by omega)]; decide) ?_⟩
    refine ⟨_, rfl, _, rfl, _, _, rfl, rfl, _, rfl, ifF (by rw [decide_eq_false (show ¬ (rooms : Int) ≤ (d.2 : Int) by omega)]; decide) ?_⟩
    refine ⟨_, rfl, _, rfl, rfl, _, rfl, ifF (fun z => ?_) ?_⟩
    · have e : (d.1 : Int) = (d.2 : Int) := V.int.inj (of_decide_eq_true z)
      omega
    refine ⟨_, rfl, _, rfl, (by show 2 ≤ sizeLine; decide), fun t nt => ?_⟩
    exact q _ t (k1.trans (same_new nt)) (k1.free nt) upd_same
theorem ok_read {f : Addr} {fd : FuncData} {t1 t2 : Tok} (F : Fun K "read" "read" sRead f fd) (cal_numbers : Ca P w K mg base 2 "_numbers" spNumbers) (cal_door : Ca P w K mg base 3 "_door" spDoor) (mg_MOST_ROOMS : mg "MOST_ROOMS" = some (.int 10 t1)) (mg_MOST_DOORS : mg "MOST_DOORS" = some (.int 24 t2)) (m_len : mg "len" = none) :
    FnOk P w K mg base CX0 4 f fd ["text"] (spRead K) := by
  have sc := scRead
  refine F.ok scRead (fun vs H Q E h => ?_) (fun cdv A outer s H vs Q E hr h => ?_)
  · obtain ⟨d, n, rfl, _⟩ := h
    rfl
  · obtain ⟨rooms, ds, rfl, r0, r10, hld, hok, q⟩ := h
    refine ⟨_, (pss_cons (ps_asg (pe_split (pv 0) pe_str) (pg_star (by rfl) (pg_name (i := 1) sc.nd rfl (.inl rfl)) (pg_name (i := 2) sc.nd rfl (.inl rfl))))
  (pss_cons (ps_set (i := 3) sc.nd rfl (.inr rfl) (pe_ix ix_list (pe_u cal_numbers hr (by first | decide | exact Nat.le_refl _ | omega) (by rfl) (pa_cons (pv 1) (pa_cons pe_str (pa_cons pe_int pa_nil)))) pe_int (fun _ _ => rfl)))
  (pss_cons (ps_if (pt_not (pt_chain op_le op_le pe_int (pv 3) (pe_glob (v := .int 10) rfl mg_MOST_ROOMS ⟨_, rfl⟩)))
    (pss_one ps_never)
    pss_nil)
  (pss_cons (ps_if (pt_cmpR op_gt (pe_callB call_len_seq (by rfl) m_len PySem.boot_len (pa_cons (pv 2) pa_nil)) (pe_glob (v := .int 24) rfl mg_MOST_DOORS ⟨_, rfl⟩) (nomark _))
    (pss_one ps_never)
    pss_nil)
  (pss_one (ps_ret (pe_tup (pa_cons (pv 3) (pa_cons (pe_lc (own := [("row", 4)]) (g := gName 4) (tt := tYes) (by rfl) sc.nd  (pi_list (pv 2)) (blkOk_by (own := [("row", 4)]) (N := ["text", "first", "others", "rooms", "row"]) (sc := defScope sRead) (by decide +kernel)) (fun _ _ _ _ _ => (pg_name (i := 4) sc.nd rfl (.inl rfl))) (fun _ _ _ _ _ => pts_nil) (fun _ _ _ _ _ => (pe_u cal_door hr (by first | decide | exact Nat.le_refl _ | omega) (by rfl) (pa_cons (pv 4) (pa_cons (pv 3) pa_nil))))) pa_nil))))))))), ?_⟩
    have hl := houseS_len (n := rooms) (ds := ds) (by omega) (by omega) fun d hd => ⟨by have := (hok d hd).1; omega, by have := (hok d hd).2.1; omega⟩
    -- first, *others = text.split('\n')
    refine ⟨_, rfl, ⟨_, rfl⟩, houseS rooms ds, lf, rfl, rfl, by decide +kernel, small_str (by omega), fun W nW => ?_⟩
    rw [split_house]
    refine ⟨W, .str (roomsRow rooms), (ds.map doorRow).map V.str, rfl, .inl (.inl upd_same), by rw [List.length_map, List.length_map]; omega, fun O nO => ?_⟩
    have k1 : Same H (upd (upd H W (.lst ((rowsOf rooms ds).map V.str))) O (.lst ((ds.map doorRow).map V.str))) := (same_new nW).trans (same_new nO)
    have hO : (upd (upd H W (.lst ((rowsOf rooms ds).map V.str))) O (.lst ((ds.map doorRow).map V.str))) O = some (.lst ((ds.map doorRow).map V.str)) := upd_same
    generalize upd (upd H W (.lst ((rowsOf rooms ds).map V.str))) O (.lst ((ds.map doorRow).map V.str)) = H1 at k1 hO ⊢
    -- rooms
    refine ⟨_, rfl, roomsRow rooms, "rooms", [rooms], rfl, split_rooms rooms, Nat.le_trans (roomsRow_len (by omega)) (by decide), (by show 1 ≤ 100; decide), (fun m hm => by rw [List.mem_singleton.mp hm]; omega), fun H2 p k2 np hp => ?_⟩
    refine ⟨_, _, _, _, rfl, rfl, .inl (.inl hp), rfl, ?_⟩
    have hO2 := k2 _ _ hO
    have k12 := k1.trans k2
    refine ⟨_, rfl, _, _, rfl, rfl, _, rfl, ifT (decide_eq_true (show (1 : Int) ≤ (rooms : Int) by omega)) ⟨_, _, rfl, rfl, _, rfl, ifF (by rw [decide_eq_true (show (rooms : Int) ≤ 10 by omega)]; decide) ?_⟩⟩
    refine ⟨_, rfl, _, _, rfl, .inl (.inl (.inl hO2)), _, _, rfl, rfl, _, rfl, ifF (by rw [decide_eq_false (by rw [List.length_map, List.length_map]; omega)]; decide) ?_⟩
    -- the doors
    refine ⟨_, rfl, _, rfl, O, rfl, ⟨_, .inl (.inl hO2)⟩, fun D nD => ?_⟩
    have nDH := k12.free nD
    refine lc_list (K := K) (a := O) (xs := (ds.map doorRow).map V.str) (fun i H3 => Same H2 H3 ∧ ∃ ps : List Addr, H3 D = some (.lst (ps.map V.ref)) ∧ ps.length = i ∧ DpAll K (hid [D] H3) (ps.map V.ref) ((ds.take i).map pairD)) ⟨same_new nD, [], upd_same, rfl, .nil⟩ (fun i H3 _ ⟨k3, _⟩ => .inl (.inl (k3 _ _ hO2))) ?_ ?_
    · rintro i x H3 hx ⟨k3, ps, hD, lp, dp⟩
      have hi := lt_of_at hx
      rw [List.length_map, List.length_map] at hi
      have ex : x = .str (doorRow ds[i]) := by
        rw [List.getElem?_map, List.getElem?_map, List.getElem?_eq_getElem hi] at hx
        exact (Option.some.inj hx).symm
      subst ex
      obtain ⟨o1, o2, o3⟩ := hok ds[i] (List.getElem_mem hi)
      refine ⟨rfl, _, rfl, _, rfl, ds[i], rooms, rfl, o1, o2, o3, by omega, fun H4 p4 k4 np4 hp4 => ?_⟩
      have hD4 := k4 _ _ hD
      have neD : p4 ≠ D := ne_new hD np4
      refine ⟨_, hD4, ?_, fun b o z => ?_, ps ++ [p4], ?_, by rw [List.length_append, lp]; rfl, ?_⟩
      · rw [List.length_map]; exact small1000 (by omega)
      · rw [upd_ne (ne_of_none z nD)]; exact k4 _ _ (k3 _ _ z)
      · rw [upd_same, List.map_append]; rfl
      · rw [List.map_append, take_snoc (List.getElem?_eq_getElem hi), List.map_append]
        have kk : Same (hid [D] H3) (hid [D] (upd H4 D (.lst (ps.map V.ref ++ [.ref p4])))) := Kp.trans (Kp.same k4 : Kp [D] H3 H4) (Kp.refl.wr (by simp))
        refine dps_app (dps_same kk dp) (.cons (mk_pair (hid_of (by rw [upd_ne neD]; exact hp4) (by simp [neD])) (.int _) (.int _)) .nil)
    · rintro H3 ⟨k3, ps, hD, lp, dp⟩
      rw [List.length_map, List.length_map, List.take_of_length_le (Nat.le_refl _)] at dp
      refine ⟨(by show 2 ≤ sizeLine; decide), fun t nt => ?_⟩
      have k4 := same_new (o := .tup [.int (rooms : Int), .ref D]) nt
      exact q _ t D (ps.map V.ref) ((k12.trans k3).trans k4) nDH upd_same (k4 _ _ hD) (dps_same k4 (dps_same hid_same dp))
theorem ok_written {f : Addr} {fd : FuncData} (F : Fun K "written" "written" sWritten f fd) : FnOk P w K mg base CX0 1 f fd ["house"] (spWritten K) := by
  have sc := scWritten
  refine F.ok scWritten (fun vs H Q E h => ?_) (fun cdv A outer s H vs Q E hr h => ?_)
  · obtain ⟨d, n, ds, rfl, _⟩ := h
    rfl
  · obtain ⟨hv, rooms, ds, rfl, hh, hro, hld, hok, q⟩ := h
    refine ⟨_, (pss_cons (ps_asg (pv 0) (pg_tup (by rfl) (pgs_cons (pg_name (i := 1) sc.nd rfl (.inl rfl)) (pgs_cons (pg_name (i := 2) sc.nd rfl (.inl rfl)) pgs_nil))))
  (pss_one (ps_ret (pe_join pe_str (pe_op op_cat (pe_lst (pa_cons (pe_joined (.cons pe_str (.cons (pe_fmt (pv 1)) .nil))) pa_nil)) (pe_lc (own := [("a", 3), ("b", 4)]) (g := gTup K 2 (gCons (gName 3) (gCons (gName 4) gNil))) (tt := tYes) (by rfl) sc.nd  (pi_list (pv 2)) (blkOk_by (own := [("a", 3), ("b", 4)]) (N := ["house", "rooms", "doors", "a", "b"]) (sc := defScope sWritten) (by decide +kernel)) (fun _ _ _ _ _ => (pg_tup (by rfl) (pgs_cons (pg_name (i := 3) sc.nd rfl (.inl rfl)) (pgs_cons (pg_name (i := 4) sc.nd rfl (.inl rfl)) pgs_nil)))) (fun _ _ _ _ _ => pts_nil) (fun _ _ _ _ _ => (pe_joined (.cons pe_str (.cons (pe_fmt (pv 3)) (.cons pe_str (.cons (pe_fmt (pv 4)) .nil)))))))))))), ?_⟩
    obtain ⟨ah, ad, vs, rfl, t1, l1, a1⟩ := house_of hh
    have hvl : vs.length = ds.length := by rw [dps_len a1, List.length_map]
    have hl := houseS_len (n := rooms) (ds := ds) (by omega) (by omega) fun d hd => ⟨by have := (hok d hd).1; omega, by have := (hok d hd).2.1; omega⟩
    refine ⟨_, rfl, ah, _, rfl, t1, rfl, _, _, rfl, _, _, rfl, rfl, ?_⟩
    refine ⟨⟨_, rfl⟩, ?_⟩
    have z1 := numS_len hro
    refine ⟨_, rfl, small_str (by rw [Str.length_append, len_emp, len_rooms]; omega), _, rfl, .inr ⟨_, rfl, num_small hro, numS rooms, rfl, small_str (by rw [Str.length_append, Str.length_append, len_emp, len_rooms]; omega), ?_⟩⟩
    rw [rooms_js]
    refine ⟨(by show 1 ≤ sizeLine; decide), fun p np => ?_⟩
    have k1 : Same H (upd H p (.lst [.str (roomsRow rooms)])) := same_new np
    have hp : (upd H p (.lst [.str (roomsRow rooms)])) p = some (.lst [.str (roomsRow rooms)]) := upd_same
    generalize upd H p (.lst [.str (roomsRow rooms)]) = H1 at k1 hp ⊢
    refine ⟨_, rfl, ad, rfl, ⟨_, k1.seq l1⟩, fun D nD => ?_⟩
    have nDH := k1.free nD
    refine lc_list (K := K) (a := ad) (xs := vs) (g := gTup K 2 (gCons (gName 3) (gCons (gName 4) gNil))) (tt := tYes) (te := fun σ H Q => tJs [tC (V.str "door "), tFmt (tVar 3), tC (V.str " "), tFmt (tVar 4)] Str.empty σ H fun out H1 => Q (V.str out) H1) (fun i H3 => Same H1 H3 ∧ H3 D = some (.lst (((ds.take i).map doorRow).map V.str))) ⟨same_new nD, upd_same⟩ (fun i H3 _ ⟨k3, _⟩ => (k1.trans k3).seq l1) ?_ ?_
    · rintro i x H3 hx ⟨k3, hD⟩
      obtain ⟨d, pp, ed, rfl, tp⟩ := pairs_at a1 hx
      obtain ⟨ok1, ok2, ok3⟩ := hok d (List.mem_of_getElem? ed)
      have y1 := numS_len (n := d.1) (by omega)
      have y2 := numS_len (n := d.2) (by omega)
      have hi := lt_of_at hx
      refine ⟨pp, _, rfl, same_tup (k1.trans k3) tp, rfl, _, _, rfl, _, _, rfl, rfl, rfl, ?_⟩
      refine ⟨_, rfl, small_str (by rw [Str.length_append, len_emp, len_door]; omega), _, rfl, .inr ⟨_, rfl, num_small (by omega), numS d.1, rfl, small_str (by rw [Str.length_append, Str.length_append, len_emp, len_door]; omega), ?_⟩⟩
      refine ⟨_, rfl, small_str (by rw [Str.length_append, Str.length_append, Str.length_append, len_emp, len_door, len_spc]; omega), _, rfl, .inr ⟨_, rfl, num_small (by omega), numS d.2, rfl, small_str (by rw [Str.length_append, Str.length_append, Str.length_append, Str.length_append, len_emp, len_door, len_spc]; omega), ?_⟩⟩
      rw [door_js]
      refine ⟨_, hD, ?_, fun b o z => ?_, ?_⟩
      · rw [List.length_map, List.length_map]
        exact small1000 (by have := List.length_take_le i ds; omega)
      · rw [upd_ne (ne_of_none z nD)]; exact k3 b o z
      · rw [upd_same, take_snoc ed, List.map_append, List.map_append]; rfl
    · rintro H3 ⟨k3, hD⟩
      rw [hvl, List.take_of_length_le (Nat.le_refl _)] at hD
      refine ⟨p, D, _, _, rfl, rfl, k3 _ _ hp, hD, small_str (by rw [List.length_map, List.length_map]; show 1 + ds.length ≤ 100000; omega), fun R nR => ?_⟩
      have k4 := (k1.trans k3).trans (same_new (o := .lst ([.str (roomsRow rooms)] ++ (ds.map doorRow).map V.str)) nR)
      refine ⟨lf, R, rowsOf rooms ds, rfl, rfl, .inl (.inl (.inl upd_same)), ?_, ?_⟩
      · have h := houseS_sum hro hld fun d hd => ⟨by have := (hok d hd).1; omega, by have := (hok d hd).2.1; omega⟩
        omega
      · have e : Txt.join lf (rowsOf rooms ds) = houseS rooms ds := join_eq _ _
        rw [e]
        exact q _ k4
theorem ok_spelt {f : Addr} {fd : FuncData} (F : Fun K "_law_spelt" "_law_spelt" sLawSpelt f fd) (m_str : mg "str" = none) : FnOk P w K mg base CX0 1 f fd ["rooms", "doors"] (spSpelt K) := by
  have sc := scLawSpelt
  refine F.ok scLawSpelt (fun vs H Q E h => ?_) (fun cdv A outer s H vs Q E hr h => ?_)
  · obtain ⟨d, n, ds, rfl, _⟩ := h
    rfl
  · obtain ⟨dv, rooms, ds, rfl, hh, hro, hld, hok, q⟩ := h
    refine ⟨_, (pss_cons (ps_set (i := 2) sc.nd rfl (.inl rfl) (pe_op op_add_str pe_str (pe_callTy call_str_int (by rfl) m_str (by decide +kernel) (pa_cons (pv 0) pa_nil))))
  (pss_cons (ps_for PassesOwn.never rfl (pi_list (pv 1)) (pg_tup (by rfl) (pgs_cons (pg_name (i := 3) sc.nd rfl (.inl rfl)) (pgs_cons (pg_name (i := 4) sc.nd rfl (.inl rfl)) pgs_nil)))
    (pss_one (ps_set (i := 2) sc.nd rfl (.inl rfl) (pe_op op_add_str (pe_op op_add_str (pe_op op_add_str (pe_op op_add_str (pe_op op_add_str (pv 2) pe_str) pe_str) (pe_callTy call_str_int (by rfl) m_str (by decide +kernel) (pa_cons (pv 3) pa_nil))) pe_str) (pe_callTy call_str_int (by rfl) m_str (by decide +kernel) (pa_cons (pv 4) pa_nil))))))
  (pss_one (ps_ret (pv 2))))), ?_⟩
    obtain ⟨ad, vs, rfl, l1, a1⟩ := dp_list hh
    have hvl : vs.length = ds.length := by rw [dps_len a1, List.length_map]
    have z1 := numS_len hro
    -- line = 'rooms ' + str(rooms)
    refine ⟨_, rfl, (rooms : Int), rfl, num_small hro, ("rooms " : Str), numS rooms, rfl, rfl, small_str (by rw [len_rooms]; omega), ?_⟩
    show gName 2 (V.str (("rooms " : Str) ++ numS rooms)) _ _ _
    rw [rooms_js2, ← house_nil]
    have hls : ∀ i : Nat, (houseS rooms (ds.take i)).length ≤ 2000 := fun i => houseS_len (by omega) (by have := List.length_take_le' i ds; omega) fun d hd => ⟨by have := (hok d (List.mem_of_mem_take hd)).1; omega, by have := (hok d (List.mem_of_mem_take hd)).2.1; omega⟩
    refine ⟨_, rfl, ad, rfl, ⟨_, l1⟩, for_list (K := K) (a := ad) (xs := vs) (fun i σ H1 => ∃ x y, σ = [some (.int (rooms : Int)), some (.ref ad), some (.str (houseS rooms (ds.take i))), x, y] ∧ H1 = H) ⟨_, _, rfl, rfl⟩ (fun i σ H1 _ ⟨_, _, _, e⟩ => by rw [e]; exact l1) ?_ ?_⟩
    · rintro i x σ H1 hx ⟨_, _, rfl, rfl⟩
      obtain ⟨d, pp, ed, rfl, tp⟩ := pairs_at a1 hx
      obtain ⟨ok1, ok2, ok3⟩ := hok d (List.mem_of_getElem? ed)
      have y1 := numS_len (n := d.1) (by omega)
      have y2 := numS_len (n := d.2) (by omega)
      have hl := hls i
      refine ⟨pp, _, rfl, tp, rfl, _, _, rfl, _, _, rfl, rfl, ?_⟩
      refine ⟨_, rfl, houseS rooms (ds.take i), ("\n" : Str), rfl, rfl, small_str (by rw [len_lf]; omega), _, ("door " : Str), rfl, rfl, small_str (by rw [Str.length_append, len_lf, len_door]; omega), _, rfl, (d.1 : Int), rfl, num_small (by omega), _, numS d.1, rfl, rfl, small_str (by rw [Str.length_append, Str.length_append, len_lf, len_door]; omega), ?_⟩
      refine ⟨_, (" " : Str), rfl, rfl, small_str (by rw [Str.length_append, Str.length_append, Str.length_append, len_lf, len_door, len_spc]; omega), _, rfl, (d.2 : Int), rfl, num_small (by omega), _, numS d.2, rfl, rfl, small_str (by rw [Str.length_append, Str.length_append, Str.length_append, Str.length_append, len_lf, len_door, len_spc]; omega), ?_⟩
      rw [house_snoc, ← take_snoc ed]
      exact ⟨_, _, rfl, rfl⟩
    · rintro σ H1 ⟨_, _, rfl, rfl⟩
      rw [hvl, List.take_of_length_le (Nat.le_refl _)]
      exact ⟨_, rfl, q _ (fun b o z => z)⟩
end
end Bd
namespace Bd
open PySem PySem.Spec PyProof.Rows L2 HT
/-- ints and texts, and lists and tuples of such, at most n deep, of at most 1000 things each -/
inductive Gs : Nat → PyData → Prop
  | int (n : Nat) (i : Int) : Gs n (.int i)
  | str (n : Nat) (x : Str) : Gs n (.str x)
  | lst {n : Nat} {ds : List PyData} (h : ∀ d ∈ ds, Gs n d) (l : ds.length ≤ 1000) : Gs (n + 1) (.list ds)
  | tup {n : Nat} {ds : List PyData} (h : ∀ d ∈ ds, Gs n d) (l : ds.length ≤ 1000) : Gs (n + 1) (.tuple ds)
theorem Gs.of {n : Nat} {d : PyData} (h : Gd n d) : Gs n d := by
  induction h with
  | int n i => exact .int n i
  | lst h l ih => exact .lst ih l
  | tup h l ih => exact .tup ih l
def spAlikeS (K : PySem.W.Frag) : Nat → Sp
  | 0 => fun _ _ _ _ => False
  | n + 1 => fun vs H Q _ => ∃ (v u : V) (d : PyData), vs = [v, u] ∧ Dp K H v d ∧ Dp K H u d ∧ Gs n d ∧ ∀ H', Same H H' → Q (.bl true) H'
abbrev sLawAlike : Stmt := topS 17
theorem scLawAlike : FnScope ["found", "due", "k"] ["found", "due"] (defScope sLawAlike) := ⟨rfl, rfl, rfl, by decide +kernel, rfl, by decide +kernel, by decide +kernel⟩
section
variable {P : Program} {w : World} {K : PySem.W.Frag} {mg : Str → Option Value} {base : Heap}
theorem ok_alike {f : Addr} {fd : FuncData} (F : Fun K "_law_alike" "_law_alike" sLawAlike f fd) (b : Binds K fd ["found", "due"] []) (g : mg "_law_alike" = some (.ref f)) (m_isinstance : mg "isinstance" = none) (m_list : mg "list" = none) (m_tuple : mg "tuple" = none) (m_int : mg "int" = none) (m_bool : mg "bool" = none) (m_str : mg "str" = none) (m_len : mg "len" = none) (m_all : mg "all" = none) (m_range : mg "range" = none) :
    ∀ n : Nat, FnOk P w K mg base CX0 n f fd ["found", "due"] (spAlikeS K n) := by
  intro n
  induction n with
  | zero => exact ⟨fun _ _ _ _ h => h.elim, fun _ _ _ _ _ _ _ _ _ _ _ _ _ h => h.elim⟩
  | succ n ih =>
  have sc := scLawAlike
  have cal_law_alike : Ca P w K mg base n "_law_alike" (spAlikeS K n) := ⟨f, fd, _, ih, g, F.kp, b⟩
  refine F.ok scLawAlike (fun vs H Q E h => ?_) (fun cdv A outer s H vs Q E hr h => ?_)
  · obtain ⟨v, u, d, rfl, _⟩ := h
    rfl
  · obtain ⟨v, u, d, rfl, hv, hu, gd, q⟩ := h
    refine ⟨_, (pss_cons (ps_if (pt_val (pe_callB call_isiT (by rfl) m_isinstance (by decide +kernel) (pa_cons (pv 1) (pa_cons (pe_tup (pa_cons (pe_bltn (v := V.ty "list") (by rfl) m_list (by decide +kernel) rfl) (pa_cons (pe_bltn (v := V.ty "tuple") (by rfl) m_tuple (by decide +kernel) rfl) pa_nil))) pa_nil))))
    (pss_cons (ps_if (PW.pt (pw_or (pt_not (pt_val (pe_callB call_isiT (by rfl) m_isinstance (by decide +kernel) (pa_cons (pv 0) (pa_cons (pe_tup (pa_cons (pe_bltn (v := V.ty "list") (by rfl) m_list (by decide +kernel) rfl) (pa_cons (pe_bltn (v := V.ty "tuple") (by rfl) m_tuple (by decide +kernel) rfl) pa_nil))) pa_nil))))) (pw_or1 (pt_cmpR op_ne (pe_callB call_isi (by rfl) m_isinstance (by decide +kernel) (pa_cons (pv 0) (pa_cons (pe_bltn (v := V.ty "list") (by rfl) m_list (by decide +kernel) rfl) pa_nil))) (pe_callB call_isi (by rfl) m_isinstance (by decide +kernel) (pa_cons (pv 1) (pa_cons (pe_bltn (v := V.ty "list") (by rfl) m_list (by decide +kernel) rfl) pa_nil))) (nomark _)))))
    (pss_one (ps_ret pe_bl))
    pss_nil)
  (pss_one (ps_ret (pe_and (pe_cmpR op_eq (pe_callB call_len_seq (by rfl) m_len PySem.boot_len (pa_cons (pv 0) pa_nil)) (pe_callB call_len_seq (by rfl) m_len PySem.boot_len (pa_cons (pv 1) pa_nil)) (nomark _)) (pe_one (pe_callB (cr_all rfl) (by rfl) m_all (by decide +kernel) (pa_cons (pe_lc (own := [("k", 2)]) (g := gName 2) (tt := tYes) (by rfl) sc.nd  (pi_range1 (by rfl) m_range (pa_cons (pe_callB call_len_seq (by rfl) m_len PySem.boot_len (pa_cons (pv 1) pa_nil)) pa_nil)) (blkOk_by (own := [("k", 2)]) (N := ["found", "due", "k"]) (sc := defScope sLawAlike) (by decide +kernel)) (fun _ _ _ _ _ => (pg_name (i := 2) sc.nd rfl (.inl rfl))) (fun _ _ _ _ _ => pts_nil) (fun _ _ _ _ _ => (pe_u cal_law_alike hr (by first | decide | exact Nat.le_refl _ | omega) (by rfl) (pa_cons (pe_ix (ixK (rIx K) ix_seq) (pv 0) (pv 2) (fun _ _ => rfl)) (pa_cons (pe_ix (ixK (rIx K) ix_seq) (pv 1) (pv 2) (fun _ _ => rfl)) pa_nil))))) pa_nil)))))))
    pss_nil)
  (pss_cons (ps_if (PW.pt (pw_or (pt_val (pe_callB call_isi (by rfl) m_isinstance (by decide +kernel) (pa_cons (pv 1) (pa_cons (pe_bltn (v := V.ty "bool") (by rfl) m_bool (by decide +kernel) rfl) pa_nil)))) (pw_or1 (pt_val (pe_callB call_isi (by rfl) m_isinstance (by decide +kernel) (pa_cons (pv 0) (pa_cons (pe_bltn (v := V.ty "bool") (by rfl) m_bool (by decide +kernel) rfl) pa_nil)))))))
    (pss_one (ps_ret (pe_and (pe_callB call_isi (by rfl) m_isinstance (by decide +kernel) (pa_cons (pv 1) (pa_cons (pe_bltn (v := V.ty "bool") (by rfl) m_bool (by decide +kernel) rfl) pa_nil))) (pe_and (pe_callB call_isi (by rfl) m_isinstance (by decide +kernel) (pa_cons (pv 0) (pa_cons (pe_bltn (v := V.ty "bool") (by rfl) m_bool (by decide +kernel) rfl) pa_nil))) (pe_one (pe_cmpR op_eq (pv 0) (pv 1) (nomark _)))))))
    pss_nil)
  (pss_cons (ps_if (PW.pt (pw_or (pt_val (pe_callB call_isi (by rfl) m_isinstance (by decide +kernel) (pa_cons (pv 1) (pa_cons (pe_bltn (v := V.ty "str") (by rfl) m_str (by decide +kernel) rfl) pa_nil)))) (pw_or1 (pt_val (pe_callB call_isi (by rfl) m_isinstance (by decide +kernel) (pa_cons (pv 0) (pa_cons (pe_bltn (v := V.ty "str") (by rfl) m_str (by decide +kernel) rfl) pa_nil)))))))
    (pss_one (ps_ret (pe_and (pe_callB call_isi (by rfl) m_isinstance (by decide +kernel) (pa_cons (pv 1) (pa_cons (pe_bltn (v := V.ty "str") (by rfl) m_str (by decide +kernel) rfl) pa_nil))) (pe_and (pe_callB call_isi (by rfl) m_isinstance (by decide +kernel) (pa_cons (pv 0) (pa_cons (pe_bltn (v := V.ty "str") (by rfl) m_str (by decide +kernel) rfl) pa_nil))) (pe_one (pe_cmpR op_eq (pv 0) (pv 1) (nomark _)))))))
    pss_nil)
  (pss_one (ps_ret (pe_and (pe_callB call_isi (by rfl) m_isinstance (by decide +kernel) (pa_cons (pv 0) (pa_cons (pe_bltn (v := V.ty "int") (by rfl) m_int (by decide +kernel) rfl) pa_nil))) (pe_one (pe_cmpR op_eq (pv 0) (pv 1) (nomark _))))))))), ?_⟩
    have z2 : (2 : Nat) ≤ sizeLine := by decide
    cases gd with
    | int _ i =>
      obtain rfl := dp_int hv
      obtain rfl := dp_int hu
      refine ⟨_, rfl, z2, fun T nT => ⟨_, T, _, _, _, false, rfl, upd_same, .cons (.ty _) (.cons (.ty _) .nil), .base (.int i), kit_two (v := false) (u := false) (by decide +kernel) (by decide +kernel), _, rfl, iteF ?_⟩⟩
      refine ⟨_, rfl, _, _, _, _, false, rfl, .ty _, .base (.int i), kit_ty (by decide +kernel), _, rfl, iteF ?_⟩
      refine ⟨_, rfl, _, _, _, _, false, rfl, .ty _, .base (.int i), kit_ty (by decide +kernel), _, rfl, iteF ?_⟩
      refine ⟨_, rfl, _, _, _, _, false, rfl, .ty _, .base (.int i), kit_ty (by decide +kernel), _, rfl, iteF ?_⟩
      refine ⟨_, rfl, _, _, _, _, false, rfl, .ty _, .base (.int i), kit_ty (by decide +kernel), _, rfl, iteF ?_⟩
      refine ⟨_, rfl, _, _, _, _, true, rfl, .ty _, .base (.int i), kit_ty (by decide +kernel), _, rfl, iteT ?_⟩
      refine ⟨_, rfl, _, rfl, rfl, ?_⟩
      rw [decide_eq_true rfl]
      exact q _ (same_new nT)
    | str _ x =>
      obtain rfl : v = .str x := by cases hv; rfl
      obtain rfl : u = .str x := by cases hu; rfl
      refine ⟨_, rfl, z2, fun T nT => ⟨_, T, _, _, _, false, rfl, upd_same, .cons (.ty _) (.cons (.ty _) .nil), .base (.str x), kit_two (v := false) (u := false) (by decide +kernel) (by decide +kernel), _, rfl, iteF ?_⟩⟩
      refine ⟨_, rfl, _, _, _, _, false, rfl, .ty _, .base (.str x), kit_ty (by decide +kernel), _, rfl, iteF ?_⟩
      refine ⟨_, rfl, _, _, _, _, false, rfl, .ty _, .base (.str x), kit_ty (by decide +kernel), _, rfl, iteF ?_⟩
      refine ⟨_, rfl, _, _, _, _, true, rfl, .ty _, .base (.str x), kit_ty (by decide +kernel), _, rfl, iteT ?_⟩
      refine ⟨_, rfl, _, _, _, _, true, rfl, .ty _, .base (.str x), kit_ty (by decide +kernel), _, rfl, iteT ?_⟩
      refine ⟨_, rfl, _, _, _, _, true, rfl, .ty _, .base (.str x), kit_ty (by decide +kernel), _, rfl, iteT ?_⟩
      refine ⟨_, rfl, _, rfl, rfl, ?_⟩
      rw [decide_eq_true rfl]
      exact q _ (same_new nT)
    | @lst n ds h l =>
      obtain ⟨av, xs, rfl, sv, dv⟩ := dp_list hv
      obtain ⟨au, ys, rfl, su, du⟩ := dp_list hu
      have lx : xs.length = _ := dps_len dv
      have ly : ys.length = _ := dps_len du
      refine ⟨_, rfl, z2, fun T nT => ⟨_, T, _, _, _, true, rfl, upd_same, .cons (.ty _) (.cons (.ty _) .nil), tyx_list (Same.seq (same_new nT) su), kit_two (v := true) (u := false) (by decide +kernel) (by decide +kernel), _, rfl, iteT ?_⟩⟩
      have k1 : Same H (upd H T (.tup [.ty "list", .ty "tuple"])) := same_new nT
      refine ⟨_, rfl, z2, fun T2 nT2 => ⟨_, T2, _, _, _, true, rfl, upd_same, .cons (.ty _) (.cons (.ty _) .nil), tyx_list (Same.seq (k1.trans (same_new nT2)) sv), kit_two (v := true) (u := false) (by decide +kernel) (by decide +kernel), _, rfl, ifF (by decide) ?_⟩⟩
      have k2 := k1.trans (same_new (o := .tup [.ty "list", .ty "tuple"]) nT2)
      generalize hG : upd (upd H T (.tup [.ty "list", .ty "tuple"])) T2 (.tup [.ty "list", .ty "tuple"]) = H2 at k2 ⊢
      refine ⟨_, rfl, _, _, _, _, true, rfl, .ty _, tyx_list (Same.seq k2 sv), kit_ty (by decide +kernel), _, rfl, _, _, _, _, true, rfl, .ty _, tyx_list (Same.seq k2 su), kit_ty (by decide +kernel), rfl, _, rfl, ifF (by decide) ?_⟩
      refine ⟨_, rfl, _, _, rfl, .inl (Same.seq k2 sv), _, rfl, _, _, rfl, .inl (Same.seq k2 su), rfl, _, rfl, ifT (decide_eq_true (congrArg V.int (by rw [lx, ly]))) ?_⟩
      refine ⟨_, rfl, _, _, rfl, .inl (Same.seq k2 su), _, rfl, by omega, by omega, fun D nD => ?_⟩
      have nDH : H D = none := k2.free nD
      refine lc_range (lo := 0) (n := ys.length) (fun i H3 => Same H H3 ∧ H3 D = some (.lst ((List.replicate i true).map V.bl))) ⟨k2.trans (same_new nD), upd_same⟩ ?_ ?_
      · rintro i H3 hi ⟨k3, hD⟩
        have hid : i < ds.length := by omega
        obtain ⟨x, ex, dx⟩ := dps_at dv (i := i) (List.getElem?_eq_getElem hid)
        obtain ⟨y, ey, dy⟩ := dps_at du (i := i) (List.getElem?_eq_getElem hid)
        refine ⟨rfl, _, rfl, _, rfl, .inl ⟨_, _, _, _, rfl, rfl, Same.seq k3 sv, by rw [Int.zero_add]; exact atI_nat ex, _, rfl, _, rfl, .inl ⟨_, _, _, _, rfl, rfl, Same.seq k3 su, by rw [Int.zero_add]; exact atI_nat ey, ?_⟩⟩⟩
        refine ⟨_, _, ds[i], rfl, dp_same k3 dx, dp_same k3 dy, h _ (List.getElem_mem hid), fun H4 k4 => ⟨_, k4 _ _ hD, ?_, fun b o e => ?_, ?_⟩⟩
        · rw [List.length_map, List.length_replicate]
          exact small1000 (by omega)
        · rw [upd_ne (ne_of_none e nDH)]
          exact k4 _ _ (k3 _ _ e)
        · rw [upd_same, List.replicate_succ', List.map_append]
          rfl
      · rintro H3 ⟨k3, hD⟩
        refine ⟨D, List.replicate ys.length true, rfl, .inl (.inl hD), ?_⟩
        have e : (List.replicate ys.length true).all id = true := by
          rw [List.all_eq_true]
          intro z hz
          exact (List.mem_replicate.mp hz).2
        rw [e]
        exact q H3 k3
    | @tup n ds h l =>
      obtain ⟨av, xs, rfl, sv, dv⟩ := dp_tup hv
      obtain ⟨au, ys, rfl, su, du⟩ := dp_tup hu
      have lx : xs.length = _ := dps_len dv
      have ly : ys.length = _ := dps_len du
      refine ⟨_, rfl, z2, fun T nT => ⟨_, T, _, _, _, true, rfl, upd_same, .cons (.ty _) (.cons (.ty _) .nil), tyx_tup (same_tup (same_new nT) su), kit_two (v := false) (u := true) (by decide +kernel) (by decide +kernel), _, rfl, iteT ?_⟩⟩
      have k1 : Same H (upd H T (.tup [.ty "list", .ty "tuple"])) := same_new nT
      refine ⟨_, rfl, z2, fun T2 nT2 => ⟨_, T2, _, _, _, true, rfl, upd_same, .cons (.ty _) (.cons (.ty _) .nil), tyx_tup (same_tup (k1.trans (same_new nT2)) sv), kit_two (v := false) (u := true) (by decide +kernel) (by decide +kernel), _, rfl, ifF (by decide) ?_⟩⟩
      have k2 := k1.trans (same_new (o := .tup [.ty "list", .ty "tuple"]) nT2)
      generalize hG : upd (upd H T (.tup [.ty "list", .ty "tuple"])) T2 (.tup [.ty "list", .ty "tuple"]) = H2 at k2 ⊢
      refine ⟨_, rfl, _, _, _, _, false, rfl, .ty _, tyx_tup (same_tup k2 sv), kit_ty (by decide +kernel), _, rfl, _, _, _, _, false, rfl, .ty _, tyx_tup (same_tup k2 su), kit_ty (by decide +kernel), rfl, _, rfl, ifF (by decide) ?_⟩
      refine ⟨_, rfl, _, _, rfl, .inr (same_tup k2 sv), _, rfl, _, _, rfl, .inr (same_tup k2 su), rfl, _, rfl, ifT (decide_eq_true (congrArg V.int (by rw [lx, ly]))) ?_⟩
      refine ⟨_, rfl, _, _, rfl, .inr (same_tup k2 su), _, rfl, by omega, by omega, fun D nD => ?_⟩
      have nDH : H D = none := k2.free nD
      refine lc_range (lo := 0) (n := ys.length) (fun i H3 => Same H H3 ∧ H3 D = some (.lst ((List.replicate i true).map V.bl))) ⟨k2.trans (same_new nD), upd_same⟩ ?_ ?_
      · rintro i H3 hi ⟨k3, hD⟩
        have hid : i < ds.length := by omega
        obtain ⟨x, ex, dx⟩ := dps_at dv (i := i) (List.getElem?_eq_getElem hid)
        obtain ⟨y, ey, dy⟩ := dps_at du (i := i) (List.getElem?_eq_getElem hid)
        refine ⟨rfl, _, rfl, _, rfl, .inr (.inl ⟨_, _, _, _, rfl, rfl, same_tup k3 sv, by rw [Int.zero_add]; exact atI_nat ex, _, rfl, _, rfl, .inr (.inl ⟨_, _, _, _, rfl, rfl, same_tup k3 su, by rw [Int.zero_add]; exact atI_nat ey, ?_⟩)⟩)⟩
        refine ⟨_, _, ds[i], rfl, dp_same k3 dx, dp_same k3 dy, h _ (List.getElem_mem hid), fun H4 k4 => ⟨_, k4 _ _ hD, ?_, fun b o e => ?_, ?_⟩⟩
        · rw [List.length_map, List.length_replicate]
          exact small1000 (by omega)
        · rw [upd_ne (ne_of_none e nDH)]
          exact k4 _ _ (k3 _ _ e)
        · rw [upd_same, List.replicate_succ', List.map_append]
          rfl
      · rintro H3 ⟨k3, hD⟩
        refine ⟨D, List.replicate ys.length true, rfl, .inl (.inl hD), ?_⟩
        have e : (List.replicate ys.length true).all id = true := by
          rw [List.all_eq_true]
          intro z hz
          exact (List.mem_replicate.mp hz).2
        rw [e]
        exact q H3 k3
end
end Bd
namespace Bd
open PySem PySem.Spec PyProof.Rows L2 HT
abbrev sLawOtherwise : Stmt := topS 19
theorem scLawOtherwise : FnScope ["bag", "site", "rooms", "doors", "way", "at", "pair"] ["bag", "site"] (defScope sLawOtherwise) := ⟨rfl, rfl, rfl, by decide +kernel, rfl, by decide +kernel, by decide +kernel⟩
theorem cut_from2 (xs : List V) (t : Nat) : cutV xs (some (t : Int)) none = xs.drop t := by
  by_cases h : t ≤ xs.length
  · exact cut_from xs t h
  · unfold cutV
    rw [HT.sIx_nat, HT.sIx_none, Nat.min_eq_right (by omega), List.drop_of_length_le (by omega), List.drop_of_length_le (by omega)]
    exact List.take_nil
theorem cut_mid (xs : List V) (t u : Nat) (h : t ≤ xs.length) : cutV xs (some (t : Int)) (some (u : Int)) = (xs.drop t).take (u - t) := by
  unfold cutV
  rw [HT.sIx_nat, HT.sIx_nat, Nat.min_eq_left h]
  by_cases hu : u ≤ xs.length
  · rw [Nat.min_eq_left hu]
  · rw [Nat.min_eq_right (by omega), List.take_of_length_le (by rw [List.length_drop]; exact Nat.le_refl _), List.take_of_length_le (by rw [List.length_drop]; omega)]
theorem dps_drop {K : PySem.W.Frag} {H : Hp} : ∀ {ds : List PyData} {vs : List V} (n : Nat), DpAll K H vs ds → DpAll K H (vs.drop n) (ds.drop n)
  | _, _, 0, h => h
  | [], _, n + 1, h => by cases h; exact .nil
  | d :: ds, _, n + 1, h => by
    cases h with
    | cons h1 h2 => exact dps_drop n h2
theorem dps_take {K : PySem.W.Frag} {H : Hp} : ∀ {ds : List PyData} {vs : List V} (n : Nat), DpAll K H vs ds → DpAll K H (vs.take n) (ds.take n)
  | _, _, 0, h => by rw [List.take_zero, List.take_zero]; exact .nil
  | [], _, n + 1, h => by cases h; exact .nil
  | d :: ds, _, n + 1, h => by
    cases h with
    | cons h1 h2 => exact .cons h1 (dps_take n h2)
def swapD (d : Nat × Nat) : Nat × Nat := (d.2, d.1)
theorem doors_sub {rooms : Nat} {ds es : List (Nat × Nat)} (h : Doors rooms ds) (s : ∀ d ∈ es, d ∈ ds ∨ swapD d ∈ ds) : Doors rooms es := fun d hd => by
  rcases s d hd with s | s
  · exact h d s
  · have := h _ s
    exact ⟨this.2.1, this.1, fun z => this.2.2 z.symm⟩
theorem doors_more {rooms n : Nat} {ds : List (Nat × Nat)} (h : Doors rooms ds) (hn : rooms ≤ n) : Doors n ds := fun d hd => by
  have := h d hd
  exact ⟨by omega, by omega, this.2.2⟩
theorem other_end {K : PySem.W.Frag} {H H2 H3 : Hp} {a c R p : Addr} {rooms : Nat} {es : List (Nat × Nat)} {ws : List V} (k : Kp [a, c] H H2) (B2 : Bag H2 a c) (k3 : Same H2 H3) (nR : H2 R = none) (hR : H3 R = some (.lst ws))
    (aw : DpAll K (hid [a, c] H3) ws (es.map pairD)) (np : H3 p = none) :
    Bag (upd H3 p (.tup [.int rooms, .ref R])) a c ∧ Kp [a, c] H (upd H3 p (.tup [.int rooms, .ref R])) ∧ Dp K (hid [a, c] (upd H3 p (.tup [.int rooms, .ref R]))) (.ref p) (houseD rooms es) := by
  have k4 := k3.trans (same_new (o := .tup [.int rooms, .ref R]) np)
  have k34 : Kp [a, c] H3 (upd H3 p (.tup [.int rooms, .ref R])) := Kp.same (same_new np)
  have B4 := B2.keep k3
  refine ⟨B2.keep k4, k.trans (Kp.same k4), mk_pair (hid_of upd_same (B4.out np)) (.int _) (.lst (.inl (.inl (hid_of ?_ (B2.out nR)))) (dps_same k34 aw))⟩
  rw [upd_ne (ne_new hR np).symm]
  exact hR
def spOtherwise (K : PySem.W.Frag) : Sp := fun vs H Q _ => ∃ (a c : Addr) (sv : V) (rooms : Nat) (ds : List (Nat × Nat)), vs = [.ref a, sv] ∧ Bag H a c ∧ Dp K (hid [a, c] H) sv (houseD rooms ds) ∧ 0 < rooms ∧ rooms ≤ 10 ∧ ds.length ≤ 24 ∧ Doors rooms ds ∧
  ∀ p H' rooms' es, 0 < rooms' → rooms' ≤ 10 → es.length ≤ 24 → Doors rooms' es → Bag H' a c → Kp [a, c] H H' → Dp K (hid [a, c] H') (.ref p) (houseD rooms' es) → Q (.ref p) H'
section
variable {P : Program} {w : World} {K : PySem.W.Frag} {mg : Str → Option Value} {base : Heap}
theorem ok_otherwise {f : Addr} {fd : FuncData} (F : Fun K "_law_otherwise" "_law_otherwise" sLawOtherwise f fd) (cal_law_draw : Ca P w K mg base 1 "_law_draw" spDraw) (m_len : mg "len" = none) (m_max : mg "max" = none) (m_min : mg "min" = none) (m_list : mg "list" = none) :
    FnOk P w K mg base CX0 2 f fd ["bag", "site"] (spOtherwise K) := by
  have sc := scLawOtherwise
  refine F.ok scLawOtherwise (fun vs H Q E h => ?_) (fun cdv A outer s H vs Q E hr h => ?_)
  · obtain ⟨a, c, sv, rooms, ds, rfl, _⟩ := h
    rfl
  · obtain ⟨a, c, sv, rooms, ds, rfl, hB, hs, r0, r1, hld, hok, q⟩ := h
    refine ⟨_, (pss_cons (ps_asg (pv 1) (pg_tup (by rfl) (pgs_cons (pg_name (i := 2) sc.nd rfl (.inl rfl)) (pgs_cons (pg_name (i := 3) sc.nd rfl (.inl rfl)) pgs_nil))))
  (pss_cons (ps_set (i := 4) sc.nd rfl (.inl rfl) (pe_u cal_law_draw hr (by first | decide | exact Nat.le_refl _ | omega) (by rfl) (pa_cons (pv 0) (pa_cons pe_int pa_nil))))
  (pss_cons (ps_set (i := 5) sc.nd rfl (.inl rfl) (pe_u cal_law_draw hr (by first | decide | exact Nat.le_refl _ | omega) (by rfl) (pa_cons (pv 0) (pa_cons (pe_callB (call_max2 rfl) (by rfl) m_max (by decide +kernel) (pa_cons pe_int (pa_cons (pe_callB call_len_seq (by rfl) m_len PySem.boot_len (pa_cons (pv 3) pa_nil)) pa_nil))) pa_nil))))
  (pss_cons (ps_if (pt_cmpR op_eq (pv 4) pe_int (nomark _))
    (pss_one (ps_ret (pe_tup (pa_cons (pv 2) (pa_cons (pe_op op_cat (pe_slice sl_list (pv 3) (po_some (pv 5)) po_none) (pe_slice sl_list (pv 3) po_none (po_some (pv 5)))) pa_nil)))))
    pss_nil)
  (pss_cons (ps_if (pt_cmpR op_eq (pv 4) pe_int (nomark _))
    (pss_one (ps_ret (pe_tup (pa_cons (pv 2) (pa_cons (pe_op op_cat (pe_op op_cat (pe_slice sl_list (pv 3) po_none (po_some (pv 5))) (pe_lc (own := [("pair", 6)]) (g := gName 6) (tt := tYes) (by rfl) sc.nd  (pi_list (pe_slice sl_list (pv 3) (po_some (pv 5)) (po_some (pe_op op_add (pv 5) pe_int)))) (blkOk_by (own := [("pair", 6)]) (N := ["bag", "site", "rooms", "doors", "way", "at", "pair"]) (sc := defScope sLawOtherwise) (by decide +kernel)) (fun _ _ _ _ _ => (pg_name (i := 6) sc.nd rfl (.inl rfl))) (fun _ _ _ _ _ => pts_nil) (fun _ _ _ _ _ => (teK (tStepT K _ _) (pe_stepT (pv 6) (pe_un un_neg pe_int)))))) (pe_slice sl_list (pv 3) (po_some (pe_op op_add (pv 5) pe_int)) po_none)) pa_nil)))))
    pss_nil)
  (pss_cons (ps_if (pt_cmpR op_eq (pv 4) pe_int (nomark _))
    (pss_one (ps_ret (pe_tup (pa_cons (pv 2) (pa_cons (pe_op op_cat (pe_slice sl_list (pv 3) po_none (po_some (pv 5))) (pe_slice sl_list (pv 3) (po_some (pe_op op_add (pv 5) pe_int)) po_none)) pa_nil)))))
    pss_nil)
  (pss_one (ps_ret (pe_tup (pa_cons (pe_callB (call_min2 rfl) (by rfl) m_min (by decide +kernel) (pa_cons pe_int (pa_cons (pe_op op_add (pv 2) pe_int) pa_nil))) (pa_cons (pe_callTy call_list_of (by rfl) m_list (by decide +kernel) (pa_cons (pv 3) pa_nil)) pa_nil))))))))))), ?_⟩
    obtain ⟨s, ad, vs, rfl, t1, l1, a1⟩ := house_of hs
    have hvl : vs.length = ds.length := by rw [dps_len a1, List.length_map]
    -- rooms, doors = site
    refine ⟨_, rfl, s, _, rfl, same_tup hid_same t1, rfl, _, _, rfl, _, _, rfl, rfl, ?_⟩
    -- way, at
    refine ⟨_, rfl, a, c, 4, rfl, hB, by decide, by decide, fun wy H1 w0 w4 B1 k1 => ?_⟩
    have l1' : SqL K H1 ad vs := Same.seq hid_same (Same.seq k1 l1)
    refine ⟨_, rfl, _, rfl, _, _, rfl, .inl l1', _, _, rfl, a, c, _, rfl, B1, ?_, ?_, fun at' H2 at0 at1 B2 k2 => ?_⟩
    · split <;> omega
    · rw [hvl]; split <;> omega
    rw [hvl] at at1
    obtain ⟨k, rfl⟩ : ∃ k : Nat, at' = (k : Int) := ⟨at'.toNat, by omega⟩
    have hk : k ≤ vs.length := by
      rw [hvl]
      split at at1 <;> omega
    have k12 := k1.trans k2
    have l2 : SqL K H2 ad vs := Same.seq hid_same (Same.seq k12 l1)
    have a2 := dps_same k12 a1
    have fin : ∀ {H3 : Hp} {R : Addr} {ws : List V} {es : List (Nat × Nat)}, Same H2 H3 → H2 R = none → H3 R = some (.lst ws) → DpAll K (hid [a, c] H3) ws (es.map pairD) → es.length ≤ 24 → (∀ d ∈ es, d ∈ ds ∨ swapD d ∈ ds) →
        ∀ p, H3 p = none → Q (.ref p) (upd H3 p (.tup [.int (rooms : Int), .ref R])) := fun k3 nR hR aw le sub p np => by
      obtain ⟨e1, e2, e3⟩ := other_end k12 B2 k3 nR hR aw np
      exact q _ _ _ _ r0 r1 le (doors_sub hok sub) e1 e2 e3
    refine ⟨_, rfl, rfl, _, rfl, ite2 (fun e => ?_) (fun e => ?_)⟩
    · -- doors[at:] + doors[:at]
      refine ⟨_, rfl, _, rfl, _, rfl, (k : Int), rfl, ad, _, rfl, l2, fun C nC => ?_⟩
      rw [cut_from2]
      have k3 : Same H2 (upd H2 C (.lst (vs.drop k))) := same_new nC
      have hC : (upd H2 C (.lst (vs.drop k))) C = some (.lst (vs.drop k)) := upd_same
      generalize upd H2 C (.lst (vs.drop k)) = H3 at k3 hC ⊢
      refine ⟨_, rfl, _, rfl, (k : Int), rfl, ad, _, rfl, Same.seq k3 l2, fun G nG => ?_⟩
      rw [cut_to _ _ hk]
      have k4 := k3.trans (same_new (o := .lst (vs.take k)) nG)
      have hC4 := (same_new (o := .lst (vs.take k)) nG) _ _ hC
      have hG : (upd H3 G (.lst (vs.take k))) G = some (.lst (vs.take k)) := upd_same
      generalize upd H3 G (.lst (vs.take k)) = H4 at k4 hC4 hG ⊢
      refine ⟨C, G, _, _, rfl, rfl, hC4, hG, small_str (by rw [List.length_drop, List.length_take]; omega), fun R nR => ?_⟩
      have k5 := k4.trans (same_new (o := .lst (vs.drop k ++ vs.take k)) nR)
      have a5 := dps_same (Kp.same k5) a2
      refine ⟨(by show 2 ≤ sizeLine; decide), fin (es := ds.drop k ++ ds.take k) k5 (k4.free nR) upd_same ?_ ?_ ?_⟩
      · rw [List.map_append, List.map_drop, List.map_take]
        exact dps_app (dps_drop k a5) (dps_take k a5)
      · rw [List.length_append, List.length_drop, List.length_take]; omega
      · intro d hd
        rcases List.mem_append.mp hd with hd | hd
        · exact .inl (List.mem_of_mem_drop hd)
        · exact .inl (List.mem_of_mem_take hd)
    refine ⟨_, rfl, rfl, _, rfl, ite2 (fun e => ?_) (fun e => ?_)⟩
    · -- doors[:at] + [pair[::-1] for pair in doors[at:at + 1]] + doors[at + 1:]
      refine ⟨_, rfl, _, rfl, _, rfl, (k : Int), rfl, ad, _, rfl, l2, fun C nC => ?_⟩
      rw [cut_to _ _ hk]
      have k3 : Same H2 (upd H2 C (.lst (vs.take k))) := same_new nC
      have hC : (upd H2 C (.lst (vs.take k))) C = some (.lst (vs.take k)) := upd_same
      generalize upd H2 C (.lst (vs.take k)) = H3 at k3 hC ⊢
      refine ⟨_, rfl, _, rfl, (k : Int), rfl, _, rfl, _, _, rfl, rfl, ((k + 1 : Nat) : Int), rfl, ad, _, rfl, Same.seq k3 l2, fun G nG => ?_⟩
      rw [cut_mid _ _ _ hk, show k + 1 - k = 1 by omega]
      have k4 := k3.trans (same_new (o := .lst ((vs.drop k).take 1)) nG)
      have hC4 := (same_new (o := .lst ((vs.drop k).take 1)) nG) _ _ hC
      have hG : (upd H3 G (.lst ((vs.drop k).take 1))) G = some (.lst ((vs.drop k).take 1)) := upd_same
      generalize upd H3 G (.lst ((vs.drop k).take 1)) = H4 at k4 hC4 hG ⊢
      refine ⟨G, rfl, ⟨_, .inl (.inl hG)⟩, fun D nD => ?_⟩
      have am : DpAll K (hid [a, c] H4) ((vs.drop k).take 1) ((((ds.drop k).take 1)).map pairD) := by
        rw [List.map_take, List.map_drop]
        exact dps_take 1 (dps_drop k (dps_same (Kp.same k4) a2))
      have lm : ((vs.drop k).take 1).length = (((ds.drop k).take 1).map swapD).length := by
        rw [List.length_map, List.length_take, List.length_take, List.length_drop, List.length_drop, hvl]
      have nD2 := k4.free nD
      refine lc_list (K := K) (a := G) (xs := (vs.drop k).take 1) (fun i H5 => Same H4 H5 ∧ ∃ ps : List Addr, H5 D = some (.lst (ps.map V.ref)) ∧ ps.length = i ∧ DpAll K (hid [a, c, D] H5) (ps.map V.ref) (((((ds.drop k).take 1).map swapD).take i).map pairD))
        ⟨same_new nD, [], upd_same, rfl, .nil⟩ (fun i H5 _ ⟨k5, _⟩ => .inl (.inl (k5 _ _ hG))) ?_ ?_
      · rintro i x H5 hx ⟨k5, ps, hD, lp, dp⟩
        obtain ⟨d, pp, ed, rfl, tp⟩ := pairs_at am hx
        have hi := lt_of_at hx
        rw [List.length_take] at hi
        refine ⟨rfl, _, rfl, _, rfl, _, _, _, _, rfl, rfl, same_tup (hid_same.trans k5) tp, .inr rfl, (fun z => absurd z (by decide)), fun _ p np => ?_⟩
        have k6 : Same H5 (upd H5 p (.tup [.int (d.2 : Int), .int (d.1 : Int)])) := same_new np
        have hD6 := k6 _ _ hD
        have neD : p ≠ D := ne_new hD np
        have np4 := (k4.trans k5).free np
        refine ⟨_, hD6, ?_, fun b o z => ?_, ps ++ [p], ?_, by rw [List.length_append, lp]; rfl, ?_⟩
        · rw [List.length_map]; exact small1000 (by omega)
        · rw [upd_ne (ne_of_none z nD)]; exact k6 _ _ (k5 _ _ z)
        · rw [upd_same, List.map_append]; rfl
        · rw [List.map_append, take_snoc (x := swapD d) (by rw [List.getElem?_map, ed]; rfl), List.map_append]
          have kk : Same (hid [a, c, D] H5) (hid [a, c, D] (upd (upd H5 p (.tup [.int (d.2 : Int), .int (d.1 : Int)])) D (.lst (ps.map V.ref ++ [.ref p])))) := Kp.trans (Kp.same k6 : Kp [a, c, D] H5 _) (Kp.refl.wr (by simp))
          refine dps_app (dps_same kk dp) (.cons (mk_pair (hid_of (by rw [upd_ne neD]; exact upd_same) ?_) (.int _) (.int _)) .nil)
          intro z
          have := B2.out np4
          simp only [List.mem_cons, List.not_mem_nil, or_false] at z this
          rcases z with z | z | z
          · exact this (.inl z)
          · exact this (.inr z)
          · exact neD z
      · rintro H5 ⟨k5, ps, hD, lp, dp⟩
        rw [lm, List.take_of_length_le (Nat.le_refl _)] at dp
        have dp5 : DpAll K (hid [a, c] H5) (ps.map V.ref) ((((ds.drop k).take 1).map swapD).map pairD) := dps_same (hid_sub (by intro b hb; simp only [List.mem_cons, List.not_mem_nil, or_false] at hb ⊢; rcases hb with hb | hb <;> simp [hb])) dp
        have hC5 := k5 _ _ hC4
        have lp1 : ps.length ≤ 1 := by rw [lp, List.length_take]; omega
        refine ⟨C, D, _, _, rfl, rfl, hC5, hD, small_str (by rw [List.length_take, List.length_map]; omega), fun R nR => ?_⟩
        have k6 := (k4.trans k5).trans (same_new (o := .lst (vs.take k ++ ps.map V.ref)) nR)
        have dp6 := dps_same (Kp.same (same_new (o := .lst (vs.take k ++ ps.map V.ref)) nR) : Kp [a, c] H5 _) dp5
        have hR : (upd H5 R (.lst (vs.take k ++ ps.map V.ref))) R = some (.lst (vs.take k ++ ps.map V.ref)) := upd_same
        generalize upd H5 R (.lst (vs.take k ++ ps.map V.ref)) = H6 at k6 dp6 hR ⊢
        refine ⟨_, rfl, _, rfl, _, _, rfl, rfl, ((k + 1 : Nat) : Int), rfl, ad, _, rfl, Same.seq k6 l2, fun W nW => ?_⟩
        rw [cut_from2]
        have k7 := k6.trans (same_new (o := .lst (vs.drop (k + 1))) nW)
        have dp7 := dps_same (Kp.same (same_new (o := .lst (vs.drop (k + 1))) nW) : Kp [a, c] H6 _) dp6
        have hR7 := (same_new (o := .lst (vs.drop (k + 1))) nW) _ _ hR
        have hW : (upd H6 W (.lst (vs.drop (k + 1)))) W = some (.lst (vs.drop (k + 1))) := upd_same
        generalize upd H6 W (.lst (vs.drop (k + 1))) = H7 at k7 dp7 hR7 hW ⊢
        refine ⟨R, W, _, _, rfl, rfl, hR7, hW, small_str (by rw [List.length_append, List.length_take, List.length_map, List.length_drop]; omega), fun Z nZ => ?_⟩
        have k8 := k7.trans (same_new (o := .lst ((vs.take k ++ ps.map V.ref) ++ vs.drop (k + 1))) nZ)
        have dp8 := dps_same (Kp.same (same_new (o := .lst ((vs.take k ++ ps.map V.ref) ++ vs.drop (k + 1))) nZ) : Kp [a, c] H7 _) dp7
        have a8 := dps_same (Kp.same k8) a2
        refine ⟨(by show 2 ≤ sizeLine; decide), fin (es := (ds.take k ++ ((ds.drop k).take 1).map swapD) ++ ds.drop (k + 1)) k8 (k7.free nZ) upd_same ?_ ?_ ?_⟩
        · rw [List.map_append, List.map_append, List.map_drop, List.map_take]
          exact dps_app (dps_app (dps_take k a8) dp8) (dps_drop (k + 1) a8)
        · rw [List.length_append, List.length_append, List.length_map, List.length_take, List.length_take, List.length_drop, List.length_drop]; omega
        · intro d hd
          rcases List.mem_append.mp hd with hd | hd
          · rcases List.mem_append.mp hd with hd | hd
            · exact .inl (List.mem_of_mem_take hd)
            · obtain ⟨x, hx, rfl⟩ := List.mem_map.mp hd
              exact .inr (List.mem_of_mem_drop (List.mem_of_mem_take hx))
          · exact .inl (List.mem_of_mem_drop hd)
    refine ⟨_, rfl, rfl, _, rfl, ite2 (fun e => ?_) (fun e => ?_)⟩
    · -- doors[:at] + doors[at + 1:]
      refine ⟨_, rfl, _, rfl, _, rfl, (k : Int), rfl, ad, _, rfl, l2, fun C nC => ?_⟩
      rw [cut_to _ _ hk]
      have k3 : Same H2 (upd H2 C (.lst (vs.take k))) := same_new nC
      have hC : (upd H2 C (.lst (vs.take k))) C = some (.lst (vs.take k)) := upd_same
      generalize upd H2 C (.lst (vs.take k)) = H3 at k3 hC ⊢
      refine ⟨_, rfl, _, rfl, _, _, rfl, rfl, ((k + 1 : Nat) : Int), rfl, ad, _, rfl, Same.seq k3 l2, fun G nG => ?_⟩
      rw [cut_from2]
      have k4 := k3.trans (same_new (o := .lst (vs.drop (k + 1))) nG)
      have hC4 := (same_new (o := .lst (vs.drop (k + 1))) nG) _ _ hC
      have hG : (upd H3 G (.lst (vs.drop (k + 1)))) G = some (.lst (vs.drop (k + 1))) := upd_same
      generalize upd H3 G (.lst (vs.drop (k + 1))) = H4 at k4 hC4 hG ⊢
      refine ⟨C, G, _, _, rfl, rfl, hC4, hG, small_str (by rw [List.length_drop, List.length_take]; omega), fun R nR => ?_⟩
      have k5 := k4.trans (same_new (o := .lst (vs.take k ++ vs.drop (k + 1))) nR)
      have a5 := dps_same (Kp.same k5) a2
      refine ⟨(by show 2 ≤ sizeLine; decide), fin (es := ds.take k ++ ds.drop (k + 1)) k5 (k4.free nR) upd_same ?_ ?_ ?_⟩
      · rw [List.map_append, List.map_drop, List.map_take]
        exact dps_app (dps_take k a5) (dps_drop (k + 1) a5)
      · rw [List.length_append, List.length_drop, List.length_take]; omega
      · intro d hd
        rcases List.mem_append.mp hd with hd | hd
        · exact .inl (List.mem_of_mem_take hd)
        · exact .inl (List.mem_of_mem_drop hd)
    · -- min(10, rooms + 1), list(doors)
      refine ⟨_, rfl, _, _, rfl, rfl, _, _, rfl, _, rfl, ad, _, rfl, .inl l2, fun R nR => ?_⟩
      have k5 : Same H2 (upd H2 R (.lst vs)) := same_new nR
      have a5 := dps_same (Kp.same k5) a2
      refine ⟨(by show 2 ≤ sizeLine; decide), fun p np => ?_⟩
      obtain ⟨n, en, hn1, hn2⟩ : ∃ n : Nat, (if (rooms : Int) + 1 < 10 then (rooms : Int) + 1 else 10) = (n : Int) ∧ rooms ≤ n ∧ n ≤ 10 := by
        split
        · exact ⟨rooms + 1, rfl, by omega, by omega⟩
        · exact ⟨10, rfl, by omega, by omega⟩
      rw [en]
      obtain ⟨e1, e2, e3⟩ := other_end (rooms := n) (es := ds) k12 B2 k5 nR upd_same a5 np
      exact q _ _ _ _ (by omega) hn2 (by omega) (doors_more hok hn1) e1 e2 e3
end
end Bd
namespace Bd
open PySem PySem.Spec PyProof.Rows L2 HT
abbrev sLawRight : Stmt := topS 20
theorem scLawRight : FnScope ["site", "rooms", "doors", "line", "handed", "found"] ["site"] (defScope sLawRight) := ⟨rfl, rfl, rfl, by decide +kernel, rfl, by decide +kernel, by decide +kernel⟩
theorem gs_house {rooms : Nat} {ds : List (Nat × Nat)} (h : ds.length ≤ 24) : Gs 3 (houseD rooms ds) := by
  refine .tup (fun d hd => ?_) (by show 2 ≤ 1000; decide)
  rcases List.mem_cons.mp hd with rfl | hd
  · exact .int _ _
  · rw [List.mem_singleton.mp hd]
    refine .lst (fun x hx => ?_) (by rw [List.length_map]; omega)
    obtain ⟨p, _, rfl⟩ := List.mem_map.mp hx
    refine .tup (fun y hy => ?_) (by show 2 ≤ 1000; decide)
    rcases List.mem_cons.mp hy with rfl | hy
    · exact .int _ _
    · rw [List.mem_singleton.mp hy]; exact .int _ _
def spHouseRight (K : PySem.W.Frag) : Sp := fun vs H Q _ => ∃ (sv : V) (rooms : Nat) (ds : List (Nat × Nat)), vs = [sv] ∧ Dp K H sv (houseD rooms ds) ∧ 0 < rooms ∧ rooms ≤ 10 ∧ ds.length ≤ 24 ∧ Doors rooms ds ∧ ∀ H', Same H H' → Q (.bl true) H'
section
variable {P : Program} {w : World} {K : PySem.W.Frag} {mg : Str → Option Value} {base : Heap}
theorem ok_right {f : Addr} {fd : FuncData} (F : Fun K "_law_right" "_law_right" sLawRight f fd) (cal_law_spelt : Ca P w K mg base 1 "_law_spelt" (spSpelt K)) (cal_written : Ca P w K mg base 1 "written" (spWritten K)) (kw_written : Ck P w K mg base 1 "written" ["house"] id (spWritten K))
    (cal_read : Ca P w K mg base 4 "read" (spRead K)) (kw_read : Ck P w K mg base 4 "read" ["text"] id (spRead K)) (cal_law_alike : Ca P w K mg base 4 "_law_alike" (spAlikeS K 4)) (m_list : mg "list" = none) :
    FnOk P w K mg base CX0 5 f fd ["site"] (spHouseRight K) := by
  have sc := scLawRight
  refine F.ok scLawRight (fun vs H Q E h => ?_) (fun cdv A outer s H vs Q E hr h => ?_)
  · obtain ⟨sv, rooms, ds, rfl, _⟩ := h
    rfl
  · obtain ⟨sv, rooms, ds, rfl, hs, r0, r1, hld, hok, q⟩ := h
    refine ⟨_, (pss_cons (ps_asg (pv 0) (pg_tup (by rfl) (pgs_cons (pg_name (i := 1) sc.nd rfl (.inl rfl)) (pgs_cons (pg_name (i := 2) sc.nd rfl (.inl rfl)) pgs_nil))))
  (pss_cons (ps_set (i := 3) sc.nd rfl (.inl rfl) (pe_u cal_law_spelt hr (by first | decide | exact Nat.le_refl _ | omega) (by rfl) (pa_cons (pv 1) (pa_cons (pv 2) pa_nil))))
  (pss_cons (ps_set (i := 4) sc.nd rfl (.inl rfl) (pe_tup (pa_cons (pv 1) (pa_cons (pe_callTy call_list_of (by rfl) m_list (by decide +kernel) (pa_cons (pv 2) pa_nil)) pa_nil))))
  (pss_cons (ps_if (PW.pt (pw_or (pt_not (pt_val (pe_u cal_law_alike hr (by first | decide | exact Nat.le_refl _ | omega) (by rfl) (pa_cons (pe_u cal_written hr (by first | decide | exact Nat.le_refl _ | omega) (by rfl) (pa_cons (pv 4) pa_nil)) (pa_cons (pv 3) pa_nil))))) (pw_or (pt_not (pt_val (pe_u cal_law_alike hr (by first | decide | exact Nat.le_refl _ | omega) (by rfl) (pa_cons (pe_kw kw_written hr (by first | decide | exact Nat.le_refl _ | omega) (by rfl) (pk_cons (pv 4) pk_nil)) (pa_cons (pv 3) pa_nil))))) (pw_or1 (pt_cmpR (op_neD hr.units) (pv 4) (pv 0) (nomark _))))))
    (pss_one (ps_ret pe_bl))
    pss_nil)
  (pss_cons (ps_set (i := 5) sc.nd rfl (.inl rfl) (pe_u cal_read hr (by first | decide | exact Nat.le_refl _ | omega) (by rfl) (pa_cons (pv 3) pa_nil)))
  (pss_cons (ps_if (pt_not (pt_val (pe_u cal_law_alike hr (by first | decide | exact Nat.le_refl _ | omega) (by rfl) (pa_cons (pv 5) (pa_cons (pv 0) pa_nil)))))
    (pss_one (ps_ret pe_bl))
    pss_nil)
  (pss_cons (ps_expr (pe_bm PySem.F.plainAttrs_list PySem.F.slot_list_append PySem.F.type_list_append mt_append (pe_ix ix_tup (pv 5) pe_int (fun _ _ => rfl)) (pa_cons (pe_tup (pa_cons pe_int (pa_cons pe_int pa_nil))) pa_nil)))
  (pss_one (ps_ret (pe_and (pe_u cal_law_alike hr (by first | decide | exact Nat.le_refl _ | omega) (by rfl) (pa_cons (pe_kw kw_read hr (by first | decide | exact Nat.le_refl _ | omega) (by rfl) (pk_cons (pv 3) pk_nil)) (pa_cons (pv 0) pa_nil))) (pe_one (pe_cmpR op_eq (pe_u cal_written hr (by first | decide | exact Nat.le_refl _ | omega) (by rfl) (pa_cons (pe_u cal_read hr (by first | decide | exact Nat.le_refl _ | omega) (by rfl) (pa_cons (pv 3) pa_nil)) pa_nil)) (pv 3) (nomark _))))))))))))), ?_⟩
    obtain ⟨s, ad, vs, rfl, t1, l1, a1⟩ := house_of hs
    have hvl : vs.length = ds.length := by rw [dps_len a1, List.length_map]
    have h24 : ds.length ≤ 100 := by omega
    have gh : Gs 3 (houseD rooms ds) := gs_house hld
    -- rooms, doors = site
    refine ⟨_, rfl, s, _, rfl, t1, rfl, _, _, rfl, _, _, rfl, rfl, ?_⟩
    -- line
    refine ⟨_, rfl, _, rfl, _, rooms, ds, rfl, .lst l1 a1, by omega, h24, hok, fun H1 k1 => ?_⟩
    -- handed
    refine ⟨_, rfl, _, rfl, ad, _, rfl, .inl (k1.seq l1), fun L nL => ?_⟩
    refine ⟨(by show 2 ≤ sizeLine; decide), fun T nT => ?_⟩
    have k2 : Same H (upd (upd H1 L (.lst vs)) T (.tup [.int (rooms : Int), .ref L])) := (k1.trans (same_new nL)).trans (same_new nT)
    have dT : Dp K (upd (upd H1 L (.lst vs)) T (.tup [.int (rooms : Int), .ref L])) (.ref T) (houseD rooms ds) :=
      mk_pair upd_same (.int _) (.lst (.inl (.inl ((same_new nT) _ _ upd_same))) (dps_same k2 a1))
    generalize upd (upd H1 L (.lst vs)) T (.tup [.int (rooms : Int), .ref L]) = H2 at k2 dT ⊢
    -- written(handed)
    refine ⟨_, rfl, _, rooms, ds, rfl, dT, by omega, h24, hok, fun H3 k3 => ?_⟩
    refine ⟨_, rfl, _, _, .str (houseS rooms ds), rfl, .str _, .str _, .str _ _, fun H4 k4 => ⟨_, rfl, ifF (by decide) ?_⟩⟩
    refine ⟨_, rfl, _, rooms, ds, rfl, dp_same (k3.trans k4) dT, by omega, h24, hok, fun H5 k5 => ?_⟩
    refine ⟨_, rfl, _, _, .str (houseS rooms ds), rfl, .str _, .str _, .str _ _, fun H6 k6 => ⟨_, rfl, ifF (by decide) ?_⟩⟩
    have k36 := (k3.trans k4).trans (k5.trans k6)
    have k06 := k2.trans k36
    refine ⟨_, rfl, _, rfl, houseD rooms ds, houseD rooms ds, dp_same k36 dT, dp_same k06 hs, (shp_house (n := 0) rooms ds).ok (by decide), (shp_house (n := 0) rooms ds).ok (by decide), _, rfl, ifF ?_ ?_⟩
    · rw [SeqAt.eqv_refl _ (shp_house (n := 0) rooms ds).1]; decide
    -- found = read(line)
    refine ⟨_, rfl, rooms, ds, rfl, r0, r1, hld, hok, fun H7 p d us k7 nd hp hd dp => ?_⟩
    have df : Dp K H7 (.ref p) (houseD rooms ds) := mk_pair hp (.int _) (.lst (.inl (.inl hd)) dp)
    have k07 := k06.trans k7
    refine ⟨_, rfl, _, rfl, _, _, _, rfl, df, dp_same k07 hs, gh, fun H8 k8 => ⟨_, rfl, ifF (by decide) ?_⟩⟩
    have hp8 := k8 _ _ hp
    have hd8 := k8 _ _ hd
    have lu : us.length = ds.length := by rw [dps_len dp, List.length_map]
    have neq : p ≠ d := fun z => by rw [z, hd] at hp; cases hp
    -- found[1].append((0, 0))
    refine ⟨_, rfl, _, _, _, _, rfl, rfl, .inl (.inl hp8), rfl, .inl ⟨rfl, _, .inl (.inl hd8)⟩, ?_⟩
    refine ⟨(by show 2 ≤ sizeLine; decide), fun Z nZ => ?_⟩
    refine ⟨d, _, .ref Z, rfl, rfl, (same_new nZ) _ _ hd8, small1000 (by omega), ?_⟩
    have nd0 : H6 d = none := nd
    have k68 := k7.trans k8
    have k69 : Same H6 (upd (upd H8 Z (.tup [.int 0, .int 0])) d (.lst (us ++ [.ref Z]))) := fun b o z => by
      rw [upd_ne (ne_of_none z nd0)]
      exact (same_new nZ) _ _ (k68 _ _ z)
    have k09 := k06.trans k69
    generalize upd (upd H8 Z (.tup [.int 0, .int 0])) d (.lst (us ++ [.ref Z])) = H9 at k69 k09 ⊢
    -- read(text=line)
    refine ⟨_, rfl, rooms, ds, rfl, r0, r1, hld, hok, fun H10 p2 d2 us2 k10 nd2 hp2 hd2 dp2 => ?_⟩
    have df2 : Dp K H10 (.ref p2) (houseD rooms ds) := mk_pair hp2 (.int _) (.lst (.inl (.inl hd2)) dp2)
    refine ⟨_, rfl, _, _, _, rfl, df2, dp_same (k09.trans k10) hs, gh, fun H11 k11 => ⟨_, rfl, iteT ?_⟩⟩
    refine ⟨_, rfl, rooms, ds, rfl, r0, r1, hld, hok, fun H12 p3 d3 us3 k12 nd3 hp3 hd3 dp3 => ?_⟩
    have df3 : Dp K H12 (.ref p3) (houseD rooms ds) := mk_pair hp3 (.int _) (.lst (.inl (.inl hd3)) dp3)
    refine ⟨_, rooms, ds, rfl, df3, by omega, h24, hok, fun H13 k13 => ?_⟩
    refine ⟨_, rfl, rfl, ?_⟩
    rw [decide_eq_true rfl]
    exact q _ (((k09.trans k10).trans k11).trans (k12.trans k13))
end
end Bd
namespace Bd
open PySem PySem.Spec PyProof.Rows L2 HT
abbrev sLaw : Stmt := topS 21
theorem scLaw : FnScope ["script", "bag", "k", "site", "other"] ["script"] (defScope sLaw) := ⟨rfl, rfl, rfl, by decide +kernel, rfl, by decide +kernel, by decide +kernel⟩
theorem eqv_pair (c d : Nat × Nat) : PyData.eqv (pairD c) (pairD d) = decide (c = d) := by
  show (((c.1 : Int) == (d.1 : Int)) && (((c.2 : Int) == (d.2 : Int)) && true)) = _
  rw [Bool.and_true]
  by_cases h : c = d
  · subst h; simp
  · rw [decide_eq_false h]
    by_cases h1 : c.1 = d.1
    · have h2 : ¬ ((c.2 : Int) = (d.2 : Int)) := fun z => h (Prod.ext h1 (by omega))
      rw [beq_eq_false_iff_ne.mpr h2, Bool.and_false]
    · have h2 : ¬ ((c.1 : Int) = (d.1 : Int)) := fun z => h1 (by omega)
      rw [beq_eq_false_iff_ne.mpr h2, Bool.false_and]
theorem eqv_doors : ∀ ds es : List (Nat × Nat), PyData.eqvAll (ds.map pairD) (es.map pairD) = decide (ds = es)
  | [], [] => by simp [PyData.eqvAll]
  | [], e :: es => by simp [PyData.eqvAll]
  | d :: ds, [] => by simp [PyData.eqvAll]
  | d :: ds, e :: es => by
    show (PyData.eqv (pairD d) (pairD e) && PyData.eqvAll (ds.map pairD) (es.map pairD)) = _
    rw [eqv_pair, eqv_doors ds es]
    by_cases h1 : d = e <;> by_cases h2 : ds = es <;> simp [h1, h2]
theorem eqv_house (m n : Nat) (ds es : List (Nat × Nat)) : PyData.eqv (houseD m ds) (houseD n es) = decide (houseS m ds = houseS n es) := by
  show (((m : Int) == (n : Int)) && (PyData.eqvAll (ds.map pairD) (es.map pairD) && true)) = _
  rw [Bool.and_true, eqv_doors]
  by_cases h : houseS m ds = houseS n es
  · obtain ⟨h1, h2⟩ := houseS_inj h
    subst h1 h2
    simp
  · rw [decide_eq_false h]
    by_cases h1 : m = n
    · subst h1
      have h2 : ¬ ds = es := fun z => h (by rw [z])
      rw [decide_eq_false h2, Bool.and_false]
    · have h2 : ¬ ((m : Int) = (n : Int)) := fun z => h1 (by omega)
      rw [beq_eq_false_iff_ne.mpr h2, Bool.false_and]
section
variable {P : Program} {w : World} {K : PySem.W.Frag} {mg : Str → Option Value} {base : Heap}
theorem ok_law {f : Addr} {fd : FuncData} (F : Fun K "law" "law" sLaw f fd) (cal_law_bag : Ca P w K mg base 1 "_law_bag" (spBag K)) (cal_law_ground : Ca P w K mg base 2 "_law_ground" (spGround K)) (cal_law_otherwise : Ca P w K mg base 2 "_law_otherwise" (spOtherwise K))
    (cal_law_right : Ca P w K mg base 5 "_law_right" (spHouseRight K)) (cal_written : Ca P w K mg base 1 "written" (spWritten K)) (m_range : mg "range" = none) : FnOk P w K mg base CX0 6 f fd ["script"] (spLaw K) := by
  have sc := scLaw
  refine F.ok scLaw (fun vs H Q E h => ?_) (fun cdv A outer s H vs Q E hr h => ?_)
  · obtain ⟨a, ns, rfl, _⟩ := h
    rfl
  · obtain ⟨a, ns, rfl, hS, hlen, q⟩ := h
    refine ⟨_, (pss_cons (ps_set (i := 1) sc.nd rfl (.inl rfl) (pe_u cal_law_bag hr (by first | decide | exact Nat.le_refl _ | omega) (by rfl) (pa_cons (pv 0) pa_nil)))
  (pss_cons (ps_for PassesOwn.never rfl (pi_range1 (by rfl) m_range (pa_cons pe_int pa_nil)) (pg_name (i := 2) sc.nd rfl (.inl rfl))
    (pss_cons (ps_set (i := 3) sc.nd rfl (.inl rfl) (pe_u cal_law_ground hr (by first | decide | exact Nat.le_refl _ | omega) (by rfl) (pa_cons (pv 1) (pa_cons pe_int (pa_cons pe_int pa_nil)))))
  (pss_cons (ps_set (i := 4) sc.nd rfl (.inl rfl) (pe_u cal_law_otherwise hr (by first | decide | exact Nat.le_refl _ | omega) (by rfl) (pa_cons (pv 1) (pa_cons (pv 3) pa_nil))))
  (pss_cons (ps_if (PW.pt (pw_or (pt_not (pt_val (pe_u cal_law_right hr (by first | decide | exact Nat.le_refl _ | omega) (by rfl) (pa_cons (pv 3) pa_nil)))) (pw_or1 (pt_not (pt_val (pe_u cal_law_right hr (by first | decide | exact Nat.le_refl _ | omega) (by rfl) (pa_cons (pv 4) pa_nil)))))))
    (pss_one (ps_ret pe_bl))
    pss_nil)
  (pss_one (ps_if (pt_cmpR op_ne (pe_cmpR op_eq (pe_u cal_written hr (by first | decide | exact Nat.le_refl _ | omega) (by rfl) (pa_cons (pv 3) pa_nil)) (pe_u cal_written hr (by first | decide | exact Nat.le_refl _ | omega) (by rfl) (pa_cons (pv 4) pa_nil)) (nomark _)) (pe_cmpR (op_eqD hr.units) (pv 3) (pv 4) (nomark _)) (nomark _))
    (pss_one (ps_ret pe_bl))
    pss_nil))))))
  (pss_one (ps_ret pe_bl)))), ?_⟩
    refine ⟨_, rfl, a, ns, rfl, hS, hlen, fun b c H1 k1 nb nc B1 => ?_⟩
    refine ⟨5, rfl, by decide, by decide, for_range (lo := 0) (n := 5) (fun i σ H2 => ∃ x1 x2 x3, σ = [some (.ref a), some (.ref b), x1, x2, x3] ∧ Bag H2 b c) ⟨_, _, _, rfl, B1⟩ ?_ ?_⟩
    · rintro i σ H2 hi ⟨x1, x2, x3, rfl, B2⟩
      refine ⟨_, rfl, b, c, 10, 24, rfl, B2, by decide, by decide, by decide, fun hv H3 rooms ds r0 r1 lds hok B3 k3 dh => ?_⟩
      refine ⟨_, rfl, _, rfl, b, c, _, rooms, ds, rfl, B3, dh, r0, by omega, by omega, hok, fun p H4 rooms2 es s0 s1 les hok2 B4 k4 dp => ?_⟩
      have ds4 : Dp K H4 hv (houseD rooms ds) := dp_same hid_same (dp_same k4 dh)
      have do4 : Dp K H4 (.ref p) (houseD rooms2 es) := dp_same hid_same dp
      refine ⟨_, rfl, _, rooms, ds, rfl, ds4, r0, by omega, by omega, hok, fun H5 k5 => ⟨_, rfl, ifF (by decide) ?_⟩⟩
      refine ⟨_, rfl, _, rooms2, es, rfl, dp_same k5 do4, s0, s1, les, hok2, fun H6 k6 => ⟨_, rfl, ifF (by decide) ?_⟩⟩
      have k46 := k5.trans k6
      refine ⟨_, rfl, _, rooms, ds, rfl, dp_same k46 ds4, by omega, by omega, hok, fun H7 k7 => ?_⟩
      have k47 := k46.trans k7
      refine ⟨_, rfl, _, rooms2, es, rfl, dp_same k47 do4, by omega, by omega, hok2, fun H8 k8 => ?_⟩
      have k48 := k47.trans k8
      refine ⟨rfl, _, rfl, _, rfl, houseD rooms ds, houseD rooms2 es, dp_same k48 ds4, dp_same k48 do4, (shp_house (n := 0) rooms ds).ok (by decide), (shp_house (n := 0) rooms2 es).ok (by decide), rfl, _, rfl, ifF ?_ ?_⟩
      · have e : decide (V.str (houseS rooms ds) = V.str (houseS rooms2 es)) = decide (houseS rooms ds = houseS rooms2 es) := by
          by_cases h : houseS rooms ds = houseS rooms2 es
          · rw [decide_eq_true h, decide_eq_true (congrArg V.str h)]
          · rw [decide_eq_false h, decide_eq_false fun z => h (V.str.inj z)]
        rw [eqv_house, e, decide_eq_true rfl]
        decide
      · exact ⟨_, _, _, rfl, B4.keep k48⟩
    · rintro σ H2 ⟨x1, x2, x3, rfl, B2⟩
      exact q H2
end
end Bd
namespace Bd
open PySem PySem.Spec PyProof.Rows L2 HT
theorem all_mk {P : Program} {w : World} {K : PySem.W.Frag} {h : Heap} {mg : Str → Option Value} {fa : Addr} (X : K.In h) (G : h.Ns mainGlobals mg) (hfa : mg "law" = some (.ref fa))
    {f0 : Addr} {od0 an0 : Option Addr} {sl0 : Array (Option Value)} {oc0 kV0 dc0 pm0 cd0 ct0 : Value} (a0 : PySem.W.nsIn K mainGlobals "whole" = some (some (.ref f0)))
    (l0 : K.lookup f0 = some ⟨oc0, od0, .func (PySem.W.fnOf "whole" "whole" (defArgs sWhole) (defBody sWhole) (defScope sWhole) .none kV0 dc0 pm0 an0 cd0 ct0), sl0⟩) (c0 : PySem.W.codeIn K cd0 "whole" = true) (k0 : PySem.W.keepIn K (.ref f0) = true)
    {f1 : Addr} {od1 an1 : Option Addr} {sl1 : Array (Option Value)} {oc1 kV1 dc1 pm1 cd1 ct1 : Value} (a1 : PySem.W.nsIn K mainGlobals "read" = some (some (.ref f1)))
    (l1 : K.lookup f1 = some ⟨oc1, od1, .func (PySem.W.fnOf "read" "read" (defArgs sRead) (defBody sRead) (defScope sRead) .none kV1 dc1 pm1 an1 cd1 ct1), sl1⟩) (c1 : PySem.W.codeIn K cd1 "read" = true) (k1 : PySem.W.keepIn K (.ref f1) = true)
    {f2 : Addr} {od2 an2 : Option Addr} {sl2 : Array (Option Value)} {oc2 kV2 dc2 pm2 cd2 ct2 : Value} (a2 : PySem.W.nsIn K mainGlobals "written" = some (some (.ref f2)))
    (l2 : K.lookup f2 = some ⟨oc2, od2, .func (PySem.W.fnOf "written" "written" (defArgs sWritten) (defBody sWritten) (defScope sWritten) .none kV2 dc2 pm2 an2 cd2 ct2), sl2⟩) (c2 : PySem.W.codeIn K cd2 "written" = true) (k2 : PySem.W.keepIn K (.ref f2) = true)
    {f3 : Addr} {od3 an3 : Option Addr} {sl3 : Array (Option Value)} {oc3 kV3 dc3 pm3 cd3 ct3 : Value} (a3 : PySem.W.nsIn K mainGlobals "_door" = some (some (.ref f3)))
    (l3 : K.lookup f3 = some ⟨oc3, od3, .func (PySem.W.fnOf "_door" "_door" (defArgs sDoor) (defBody sDoor) (defScope sDoor) .none kV3 dc3 pm3 an3 cd3 ct3), sl3⟩) (c3 : PySem.W.codeIn K cd3 "_door" = true) (k3 : PySem.W.keepIn K (.ref f3) = true)
    {f4 : Addr} {od4 an4 : Option Addr} {sl4 : Array (Option Value)} {oc4 kV4 dc4 pm4 cd4 ct4 : Value} (a4 : PySem.W.nsIn K mainGlobals "_numbers" = some (some (.ref f4)))
    (l4 : K.lookup f4 = some ⟨oc4, od4, .func (PySem.W.fnOf "_numbers" "_numbers" (defArgs sNumbers) (defBody sNumbers) (defScope sNumbers) .none kV4 dc4 pm4 an4 cd4 ct4), sl4⟩) (c4 : PySem.W.codeIn K cd4 "_numbers" = true) (k4 : PySem.W.keepIn K (.ref f4) = true)
    {f5 : Addr} {od5 an5 : Option Addr} {sl5 : Array (Option Value)} {oc5 kV5 dc5 pm5 cd5 ct5 : Value} (a5 : PySem.W.nsIn K mainGlobals "_law_bag" = some (some (.ref f5)))
    (l5 : K.lookup f5 = some ⟨oc5, od5, .func (PySem.W.fnOf "_law_bag" "_law_bag" (defArgs sLawBag) (defBody sLawBag) (defScope sLawBag) .none kV5 dc5 pm5 an5 cd5 ct5), sl5⟩) (c5 : PySem.W.codeIn K cd5 "_law_bag" = true) (k5 : PySem.W.keepIn K (.ref f5) = true)
    {f6 : Addr} {od6 an6 : Option Addr} {sl6 : Array (Option Value)} {oc6 kV6 dc6 pm6 cd6 ct6 : Value} (a6 : PySem.W.nsIn K mainGlobals "_law_draw" = some (some (.ref f6)))
    (l6 : K.lookup f6 = some ⟨oc6, od6, .func (PySem.W.fnOf "_law_draw" "_law_draw" (defArgs sLawDraw) (defBody sLawDraw) (defScope sLawDraw) .none kV6 dc6 pm6 an6 cd6 ct6), sl6⟩) (c6 : PySem.W.codeIn K cd6 "_law_draw" = true) (k6 : PySem.W.keepIn K (.ref f6) = true)
    {f7 : Addr} {od7 an7 : Option Addr} {sl7 : Array (Option Value)} {oc7 kV7 dc7 pm7 cd7 ct7 : Value} (a7 : PySem.W.nsIn K mainGlobals "_law_ground" = some (some (.ref f7)))
    (l7 : K.lookup f7 = some ⟨oc7, od7, .func (PySem.W.fnOf "_law_ground" "_law_ground" (defArgs sLawGround) (defBody sLawGround) (defScope sLawGround) .none kV7 dc7 pm7 an7 cd7 ct7), sl7⟩) (c7 : PySem.W.codeIn K cd7 "_law_ground" = true) (k7 : PySem.W.keepIn K (.ref f7) = true)
    {f8 : Addr} {od8 an8 : Option Addr} {sl8 : Array (Option Value)} {oc8 kV8 dc8 pm8 cd8 ct8 : Value} (a8 : PySem.W.nsIn K mainGlobals "_law_alike" = some (some (.ref f8)))
    (l8 : K.lookup f8 = some ⟨oc8, od8, .func (PySem.W.fnOf "_law_alike" "_law_alike" (defArgs sLawAlike) (defBody sLawAlike) (defScope sLawAlike) .none kV8 dc8 pm8 an8 cd8 ct8), sl8⟩) (c8 : PySem.W.codeIn K cd8 "_law_alike" = true) (k8 : PySem.W.keepIn K (.ref f8) = true)
    {f9 : Addr} {od9 an9 : Option Addr} {sl9 : Array (Option Value)} {oc9 kV9 dc9 pm9 cd9 ct9 : Value} (a9 : PySem.W.nsIn K mainGlobals "_law_spelt" = some (some (.ref f9)))
    (l9 : K.lookup f9 = some ⟨oc9, od9, .func (PySem.W.fnOf "_law_spelt" "_law_spelt" (defArgs sLawSpelt) (defBody sLawSpelt) (defScope sLawSpelt) .none kV9 dc9 pm9 an9 cd9 ct9), sl9⟩) (c9 : PySem.W.codeIn K cd9 "_law_spelt" = true) (k9 : PySem.W.keepIn K (.ref f9) = true)
    {f10 : Addr} {od10 an10 : Option Addr} {sl10 : Array (Option Value)} {oc10 kV10 dc10 pm10 cd10 ct10 : Value} (a10 : PySem.W.nsIn K mainGlobals "_law_otherwise" = some (some (.ref f10)))
    (l10 : K.lookup f10 = some ⟨oc10, od10, .func (PySem.W.fnOf "_law_otherwise" "_law_otherwise" (defArgs sLawOtherwise) (defBody sLawOtherwise) (defScope sLawOtherwise) .none kV10 dc10 pm10 an10 cd10 ct10), sl10⟩) (c10 : PySem.W.codeIn K cd10 "_law_otherwise" = true) (k10 : PySem.W.keepIn K (.ref f10) = true)
    {f11 : Addr} {od11 an11 : Option Addr} {sl11 : Array (Option Value)} {oc11 kV11 dc11 pm11 cd11 ct11 : Value} (a11 : PySem.W.nsIn K mainGlobals "_law_right" = some (some (.ref f11)))
    (l11 : K.lookup f11 = some ⟨oc11, od11, .func (PySem.W.fnOf "_law_right" "_law_right" (defArgs sLawRight) (defBody sLawRight) (defScope sLawRight) .none kV11 dc11 pm11 an11 cd11 ct11), sl11⟩) (c11 : PySem.W.codeIn K cd11 "_law_right" = true) (k11 : PySem.W.keepIn K (.ref f11) = true)
    {f12 : Addr} {od12 an12 : Option Addr} {sl12 : Array (Option Value)} {oc12 kV12 dc12 pm12 cd12 ct12 : Value} (a12 : PySem.W.nsIn K mainGlobals "law" = some (some (.ref f12)))
    (l12 : K.lookup f12 = some ⟨oc12, od12, .func (PySem.W.fnOf "law" "law" (defArgs sLaw) (defBody sLaw) (defScope sLaw) .none kV12 dc12 pm12 an12 cd12 ct12), sl12⟩) (c12 : PySem.W.codeIn K cd12 "law" = true) (k12 : PySem.W.keepIn K (.ref f12) = true)
    {t_MOST_ROOMS : Tok} (z_MOST_ROOMS : PySem.W.nsIn K mainGlobals "MOST_ROOMS" = some (some (.int 10 t_MOST_ROOMS)))
    {t_MOST_DOORS : Tok} (z_MOST_DOORS : PySem.W.nsIn K mainGlobals "MOST_DOORS" = some (some (.int 24 t_MOST_DOORS)))
    {t_MOST_FIGURES : Tok} (z_MOST_FIGURES : PySem.W.nsIn K mainGlobals "MOST_FIGURES" = some (some (.int 9 t_MOST_FIGURES)))
    {t_FIGURES : Tok} (z_FIGURES : PySem.W.nsIn K mainGlobals "FIGURES" = some (some (.str figS t_FIGURES)))
    (z_abs : PySem.W.nsIn K mainGlobals "abs" = some none)
    (z_len : PySem.W.nsIn K mainGlobals "len" = some none)
    (z_range : PySem.W.nsIn K mainGlobals "range" = some none)
    (z_int : PySem.W.nsIn K mainGlobals "int" = some none)
    (z_max : PySem.W.nsIn K mainGlobals "max" = some none)
    (z_min : PySem.W.nsIn K mainGlobals "min" = some none)
    (z_list : PySem.W.nsIn K mainGlobals "list" = some none)
    (z_isinstance : PySem.W.nsIn K mainGlobals "isinstance" = some none)
    (z_tuple : PySem.W.nsIn K mainGlobals "tuple" = some none)
    (z_bool : PySem.W.nsIn K mainGlobals "bool" = some none)
    (z_str : PySem.W.nsIn K mainGlobals "str" = some none)
    (z_all : PySem.W.nsIn K mainGlobals "all" = some none)
    : ∃ fd : FuncData, (∀ (s : Shared) (v : Value), BindsTo s fd ⟨[v], []⟩ [("script", v)]) ∧ ∀ base : Heap, K.In base → base.Ns mainGlobals mg → FnG P w K mg base 6 fa fd ["script"] (spLaw K) := by
  have e := hfa.symm.trans (PySem.W.mg_of X G a12)
  cases e
  have F_whole := fun_mk (st := sWhole) l0 c0 k0
  have b_whole := F_whole.binds (ps := ["figures"]) fun _ _ _ _ _ _ us hl => match us, hl with | [_], _ => rfl
  have g_whole := PySem.W.mg_of X G a0
  have F_read := fun_mk (st := sRead) l1 c1 k1
  have b_read := F_read.binds (ps := ["text"]) fun _ _ _ _ _ _ us hl => match us, hl with | [_], _ => rfl
  have g_read := PySem.W.mg_of X G a1
  have F_written := fun_mk (st := sWritten) l2 c2 k2
  have b_written := F_written.binds (ps := ["house"]) fun _ _ _ _ _ _ us hl => match us, hl with | [_], _ => rfl
  have g_written := PySem.W.mg_of X G a2
  have F__door := fun_mk (st := sDoor) l3 c3 k3
  have b__door := F__door.binds (ps := ["row", "rooms"]) fun _ _ _ _ _ _ us hl => match us, hl with | [_, _], _ => rfl
  have g__door := PySem.W.mg_of X G a3
  have F__numbers := fun_mk (st := sNumbers) l4 c4 k4
  have b__numbers := F__numbers.binds (ps := ["row", "word", "many"]) fun _ _ _ _ _ _ us hl => match us, hl with | [_, _, _], _ => rfl
  have g__numbers := PySem.W.mg_of X G a4
  have F__law_bag := fun_mk (st := sLawBag) l5 c5 k5
  have b__law_bag := F__law_bag.binds (ps := ["script"]) fun _ _ _ _ _ _ us hl => match us, hl with | [_], _ => rfl
  have g__law_bag := PySem.W.mg_of X G a5
  have F__law_draw := fun_mk (st := sLawDraw) l6 c6 k6
  have b__law_draw := F__law_draw.binds (ps := ["bag", "many"]) fun _ _ _ _ _ _ us hl => match us, hl with | [_, _], _ => rfl
  have g__law_draw := PySem.W.mg_of X G a6
  have F__law_ground := fun_mk (st := sLawGround) l7 c7 k7
  have b__law_ground := F__law_ground.binds (ps := ["bag", "most", "wide"]) fun _ _ _ _ _ _ us hl => match us, hl with | [_, _, _], _ => rfl
  have g__law_ground := PySem.W.mg_of X G a7
  have F__law_alike := fun_mk (st := sLawAlike) l8 c8 k8
  have b__law_alike := F__law_alike.binds (ps := ["found", "due"]) fun _ _ _ _ _ _ us hl => match us, hl with | [_, _], _ => rfl
  have g__law_alike := PySem.W.mg_of X G a8
  have F__law_spelt := fun_mk (st := sLawSpelt) l9 c9 k9
  have b__law_spelt := F__law_spelt.binds (ps := ["rooms", "doors"]) fun _ _ _ _ _ _ us hl => match us, hl with | [_, _], _ => rfl
  have g__law_spelt := PySem.W.mg_of X G a9
  have F__law_otherwise := fun_mk (st := sLawOtherwise) l10 c10 k10
  have b__law_otherwise := F__law_otherwise.binds (ps := ["bag", "site"]) fun _ _ _ _ _ _ us hl => match us, hl with | [_, _], _ => rfl
  have g__law_otherwise := PySem.W.mg_of X G a10
  have F__law_right := fun_mk (st := sLawRight) l11 c11 k11
  have b__law_right := F__law_right.binds (ps := ["site"]) fun _ _ _ _ _ _ us hl => match us, hl with | [_], _ => rfl
  have g__law_right := PySem.W.mg_of X G a11
  have F_law := fun_mk (st := sLaw) l12 c12 k12
  have b_law := F_law.binds (ps := ["script"]) fun _ _ _ _ _ _ us hl => match us, hl with | [_], _ => rfl
  have g_law := PySem.W.mg_of X G a12
  have mg_MOST_ROOMS := PySem.W.mg_of X G z_MOST_ROOMS
  have mg_MOST_DOORS := PySem.W.mg_of X G z_MOST_DOORS
  have mg_MOST_FIGURES := PySem.W.mg_of X G z_MOST_FIGURES
  have mg_FIGURES := PySem.W.mg_of X G z_FIGURES
  have m_abs := PySem.W.mg_none_of X G z_abs
  have m_len := PySem.W.mg_none_of X G z_len
  have m_range := PySem.W.mg_none_of X G z_range
  have m_int := PySem.W.mg_none_of X G z_int
  have m_max := PySem.W.mg_none_of X G z_max
  have m_min := PySem.W.mg_none_of X G z_min
  have m_list := PySem.W.mg_none_of X G z_list
  have m_isinstance := PySem.W.mg_none_of X G z_isinstance
  have m_tuple := PySem.W.mg_none_of X G z_tuple
  have m_bool := PySem.W.mg_none_of X G z_bool
  have m_str := PySem.W.mg_none_of X G z_str
  have m_all := PySem.W.mg_none_of X G z_all
  refine ⟨PySem.W.fnOf "law" "law" (defArgs sLaw) (defBody sLaw) (defScope sLaw) .none kV12 dc12 pm12 an12 cd12 ct12, fun s v => .of_eq rfl, fun base _ _ => ?_⟩
  have D1 : Ca P w K mg base 1 "_law_draw" spDraw := ⟨_, _, _, ok_draw F__law_draw m_len, g__law_draw, F__law_draw.kp, b__law_draw⟩
  have D2 : Ca P w K mg base 1 "_law_bag" (spBag K) := ⟨_, _, _, ok_bag F__law_bag m_abs, g__law_bag, F__law_bag.kp, b__law_bag⟩
  have D3 : Ca P w K mg base 2 "_law_ground" (spGround K) := ⟨_, _, _, ok_ground F__law_ground D1 m_len m_range m_int, g__law_ground, F__law_ground.kp, b__law_ground⟩
  have D4 : Ca P w K mg base 1 "whole" spNumber := ⟨_, _, _, ok_number F_whole mg_MOST_FIGURES mg_FIGURES m_len m_all m_int, g_whole, F_whole.kp, b_whole⟩
  have D5 : Ca P w K mg base 2 "_numbers" spNumbers := ⟨_, _, _, ok_numbers F__numbers D4 m_len, g__numbers, F__numbers.kp, b__numbers⟩
  have D6 : Ca P w K mg base 3 "_door" spDoor := ⟨_, _, _, ok_door F__door D5, g__door, F__door.kp, b__door⟩
  have FR := ok_read (P := P) (w := w) (base := base) F_read D5 D6 mg_MOST_ROOMS mg_MOST_DOORS m_len
  have D7 : Ca P w K mg base 4 "read" (spRead K) := ⟨_, _, _, FR, g_read, F_read.kp, b_read⟩
  have FW := ok_written (P := P) (w := w) (mg := mg) (base := base) F_written
  have D8 : Ca P w K mg base 1 "written" (spWritten K) := ⟨_, _, _, FW, g_written, F_written.kp, b_written⟩
  have D9 : Ca P w K mg base 1 "_law_spelt" (spSpelt K) := ⟨_, _, _, ok_spelt F__law_spelt m_str, g__law_spelt, F__law_spelt.kp, b__law_spelt⟩
  have D10 : Ca P w K mg base 4 "_law_alike" (spAlikeS K 4) := ⟨_, _, _, ok_alike F__law_alike b__law_alike g__law_alike m_isinstance m_list m_tuple m_int m_bool m_str m_len m_all m_range 4, g__law_alike, F__law_alike.kp, b__law_alike⟩
  have D11 : Ca P w K mg base 2 "_law_otherwise" (spOtherwise K) := ⟨_, _, _, ok_otherwise F__law_otherwise D1 m_len m_max m_min m_list, g__law_otherwise, F__law_otherwise.kp, b__law_otherwise⟩
  have K8 : Ck P w K mg base 1 "written" ["house"] id (spWritten K) := ⟨_, _, _, id, FW, g_written, F_written.kp, (fun s ws hl => match ws, hl with | [_], _ => .of_eq rfl), fun r => r⟩
  have K7 : Ck P w K mg base 4 "read" ["text"] id (spRead K) := ⟨_, _, _, id, FR, g_read, F_read.kp, (fun s ws hl => match ws, hl with | [_], _ => .of_eq rfl), fun r => r⟩
  have D12 : Ca P w K mg base 5 "_law_right" (spHouseRight K) := ⟨_, _, _, ok_right F__law_right D9 D8 K8 D7 K7 D10 m_list, g__law_right, F__law_right.kp, b__law_right⟩
  exact FnG.of (ok_law F_law D2 D3 D11 D12 D8 m_range)
theorem theWalk {l : PySem.W.OpenLaw} {q : Program} {loose : List Str} {XP : (Str → Option Value) → Heap → Prop} {YP : World → Heap → Prop} {d : DefRec} {K : Params → PySem.W.Frag} (hn : l.most = some 63) (hdf : d.params.defaults = [])
    (hY : ∀ (w : World) (h : Heap), YP w h → (K w.params).In h)
    (F : ∀ (w : World) (mg : Str → Option Value) (fa : Addr) (h : Heap), (K w.params).In h → h.Ns mainGlobals mg → mg d.name = some (.ref fa) →
      ∃ fd : FuncData, (∀ (s : Shared) (u : Value), BindsTo s fd ⟨[u], []⟩ [("script", u)]) ∧ ∀ base : Heap, (K w.params).In base → base.Ns mainGlobals mg → FnG l.prog w (K w.params) mg base 6 fa fd ["script"] (spLaw (K w.params))) :
    PySem.W.WalkO q loose XP YP l.row.toRowW d [] (fun f vs => PySem.call f vs) :=
  walkG hn hdf ⟨rfl, by decide, by decide⟩ hY F fun _ _ a ns hl hS => ⟨a, ns, rfl, hS, hl, fun _ => rfl⟩
end Bd
open PySem PySem.W PyProof.Rows
set_option maxRecDepth 100000 in
set_option maxHeartbeats 0 in
theorem PySem.Challenge.cw_bothdoors_k01_houses_as_texts_holds : PySem.Challenge.rw_bothdoors_k01_houses_as_texts.Holds := by
  w_on; o_law; k_head; (case hw => w_witness2)
  k_fill
  refine Bd.theWalk (l := PySem.Challenge.rw_bothdoors_k01_houses_as_texts) rfl rfl (fun w h Y => PySem.W.kIn_of Y) ?F
  case F =>
    intro w mg fa h KX G hmg
    refine' Bd.all_mk KX G hmg ?a0 ?l0 ?c0 ?k0 ?a1 ?l1 ?c1 ?k1 ?a2 ?l2 ?c2 ?k2 ?a3 ?l3 ?c3 ?k3 ?a4 ?l4 ?c4 ?k4 ?a5 ?l5 ?c5 ?k5 ?a6 ?l6 ?c6 ?k6 ?a7 ?l7 ?c7 ?k7 ?a8 ?l8 ?c8 ?k8 ?a9 ?l9 ?c9 ?k9 ?a10 ?l10 ?c10 ?k10 ?a11 ?l11 ?c11 ?k11 ?a12 ?l12 ?c12 ?k12 ?zMOST_ROOMS ?zMOST_DOORS ?zMOST_FIGURES ?zFIGURES ?zabs ?zlen ?zrange ?zint ?zmax ?zmin ?zlist ?zisinstance ?ztuple ?zbool ?zstr ?zall
    (case a0 => k_is); (case l0 => k_is); (case c0 => k_is); (case k0 => k_is)
    (case a1 => k_is); (case l1 => k_is); (case c1 => k_is); (case k1 => k_is)
    (case a2 => k_is); (case l2 => k_is); (case c2 => k_is); (case k2 => k_is)
    (case a3 => k_is); (case l3 => k_is); (case c3 => k_is); (case k3 => k_is)
    (case a4 => k_is); (case l4 => k_is); (case c4 => k_is); (case k4 => k_is)
    (case a5 => k_is); (case l5 => k_is); (case c5 => k_is); (case k5 => k_is)
    (case a6 => k_is); (case l6 => k_is); (case c6 => k_is); (case k6 => k_is)
    (case a7 => k_is); (case l7 => k_is); (case c7 => k_is); (case k7 => k_is)
    (case a8 => k_is); (case l8 => k_is); (case c8 => k_is); (case k8 => k_is)
    (case a9 => k_is); (case l9 => k_is); (case c9 => k_is); (case k9 => k_is)
    (case a10 => k_is); (case l10 => k_is); (case c10 => k_is); (case k10 => k_is)
    (case a11 => k_is); (case l11 => k_is); (case c11 => k_is); (case k11 => k_is)
    (case a12 => k_is); (case l12 => k_is); (case c12 => k_is); (case k12 => k_is)
    (case zMOST_ROOMS => k_is)
    (case zMOST_DOORS => k_is)
    (case zMOST_FIGURES => k_is)
    (case zFIGURES => k_is)
    (case zabs => k_is)
    (case zlen => k_is)
    (case zrange => k_is)
    (case zint => k_is)
    (case zmax => k_is)
    (case zmin => k_is)
    (case zlist => k_is)
    (case zisinstance => k_is)
    (case ztuple => k_is)
    (case zbool => k_is)
    (case zstr => k_is)
    (case zall => k_is)
