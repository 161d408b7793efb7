import PyProof.Rows.All
import Wide.All
import OpenK.AllK
import Wide.FinOn
import HandS.ForMost
import HandS.Style
import HandS.IsInst
import HandS.More
import HandS.Evl
import HandS.ForExc
import HandS.SlotsOwn
import HandS.OwnIter
import HandS.IterNext
import HandS.ClsMeth
import HandS.Deep
import HandS.Zip
import HandS.Walk
import HandS.SetFor
import HandS.Defaults
import HandS.CallSlots
import KE.KExcSuper
import HandS.ExcInit
import HandS.Nested
import HandS.ExcField
import HandS.ExcIs
import HandS.TryMany
import HandS.TryOnly
import HandS.ExcOwn
import HandS.WordsExc
import KE.KExcIs
import HandS.FStr
import PyProof.Rows.RegStrFacts
import PySem.Challenge.RW_coretower_k33_pairs_as_sets
import KE.RegKSuper
set_option Elab.async false
set_option linter.all false
set_option maxRecDepth 100000
set_option maxHeartbeats 4000000
/-! ### small things over the layer: frames, loops, tests -/
namespace My
open PySem L2
section
variable {P : Program} {w : World} {K : PySem.W.Frag} {mg : Str → Option Value} {base : Heap}
/-- a def of the text, where it stands -/
structure Df (K : PySem.W.Frag) (mg : Str → Option Value) (x : Str) (st : Stmt) (ps : List Str) (f : Addr) (fd : FuncData) : Prop where
  F : Fun K x x st f fd
  g : mg x = some (.ref f)
  b : Binds K fd ps []
theorem cxK {CX : CXT} {N : List Str} {q : Str} {sc : Scope} {f : Addr} {cdv : Value} {A : Around} {outer : List Env} {s : Shared} {H : Hp} {E : XK} : (cxOf CX P w K mg base N q sc f cdv A outer s H E).K = K := rfl
theorem cxnK {CX : CXT} {N : List Str} {q : Str} {sc : Scope} {f : Addr} {cdv : Value} {A : Around} {outer : List Env} {s : Shared} {H : Hp} {E : XK} : (cxOf CX P w K mg base N q sc f cdv A outer s H E).nox.K = K := rfl
end
/-! ### frames -/
/-- what stood outside of S stands as it did -/
def Kp (S : List Addr) (H H' : Hp) : Prop := ∀ b o, b ∉ S → H b = some o → H' b = some o
theorem Kp.refl (S : List Addr) (H : Hp) : Kp S H H := fun _ _ _ h => h
theorem Kp.trans {S : List Addr} {H H1 H2 : Hp} (a : Kp S H H1) (b : Kp S H1 H2) : Kp S H H2 := fun c o hc h => b c o hc (a c o hc h)
theorem Kp.mono {S T : List Addr} {H H' : Hp} (a : Kp S H H') (h : ∀ x ∈ S, x ∈ T) : Kp T H H' := fun c o hc e => a c o (fun z => hc (h c z)) e
theorem Kp.of0 {T : List Addr} {H H' : Hp} (a : Kp [] H H') : Kp T H H' := a.mono fun x hx => nomatch hx
theorem Kp.new {S : List Addr} {H : Hp} {p : Addr} {o : HO} (h : H p = none) : Kp S H (upd H p o) := fun a u _ e => by
  rw [upd_ne (ne_of_none e h)]
  exact e
/-- a write to something that was not there at the beginning -/
theorem Kp.wr {S : List Addr} {H H' : Hp} {p : Addr} {o : HO} (a : Kp S H H') (h : H p = none) : Kp S H (upd H' p o) := fun b u hb e => by
  rw [upd_ne (ne_of_none e h)]
  exact a b u hb e
theorem Kp.put {S : List Addr} {H H' : Hp} {p : Addr} {o : HO} (a : Kp S H H') (h : p ∈ S) : Kp S H (upd H' p o) := fun b u hb e => by
  rw [upd_ne (fun z => hb (by rw [z]; exact h))]
  exact a b u hb e
theorem Kp.ls {S : List Addr} {K : PySem.W.Frag} {H H' : Hp} {a : Addr} {xs : List V} (k : Kp S H H') (ha : a ∉ S) (h : SqL K H a xs) : SqL K H' a xs := by
  rcases h with (h | ⟨o, h⟩) | h
  · exact .inl (.inl (k _ _ ha h))
  · exact .inl (.inr ⟨o, k _ _ ha h⟩)
  · exact .inr h
theorem Kp.tp {S : List Addr} {K : PySem.W.Frag} {H H' : Hp} {a : Addr} {xs : List V} (k : Kp S H H') (ha : a ∉ S) (h : SqT K H a xs) : SqT K H' a xs := by
  rcases h with (h | ⟨o, h⟩) | h
  · exact .inl (.inl (k _ _ ha h))
  · exact .inl (.inr ⟨o, k _ _ ha h⟩)
  · exact .inr h
theorem Kp.free {S : List Addr} {H H' : Hp} {p : Addr} (k : Kp S H H') (hp : H' p = none) (hs : ∀ a ∈ S, ∃ o, H' a = some o) : H p = none := by
  cases e : H p with
  | none => rfl
  | some o =>
    by_cases h : p ∈ S
    · obtain ⟨u, hu⟩ := hs p h
      rw [hp] at hu; cases hu
    · rw [k p o h e] at hp; cases hp
theorem Kp.free0 {H H' : Hp} {p : Addr} (k : Kp [] H H') (hp : H' p = none) : H p = none := k.free hp fun a h => nomatch h
theorem not1 {a b : Addr} (h : b ≠ a) : b ∉ [a] := fun z => h (List.mem_singleton.mp z)
theorem not0 {b : Addr} : b ∉ ([] : List Addr) := fun z => nomatch z
theorem sq_l {K : PySem.W.Frag} {H : Hp} {a : Addr} {xs : List V} (h : H a = some (.lst xs)) : SqL K H a xs := .inl (.inl h)
theorem sq_t {K : PySem.W.Frag} {H : Hp} {a : Addr} {xs : List V} (h : H a = some (.tup xs)) : SqT K H a xs := .inl (.inl h)
theorem small {n : Nat} (h : n ≤ 100000) : n ≤ sizeLine := Nat.le_trans h (by decide)
theorem smallL {n : Nat} (h : n ≤ 100000) : n < sizeLine := Nat.lt_of_le_of_lt h (by decide)
theorem ne_kind {H : Hp} {a b : Addr} {o u : HO} (h : H a = some o) (h' : H b = some u) (d : o ≠ u) : a ≠ b := ne_of h h' d
/-! ### subscripts -/
theorem atI_of {α : Type} {xs : List α} {i : Int} {v : α} (h0 : 0 ≤ i) (h : xs[i.toNat]? = some v) : atI xs i = some v := by
  have e := atI_nat h
  rwa [Int.toNat_of_nonneg h0] at e
theorem ixN_of {n : Nat} {i : Int} (h0 : 0 ≤ i) (h : i < n) : ixN n i = some i.toNat := by
  unfold ixN
  rw [if_pos h0, if_pos h]
theorem atI_ex {α : Type} {xs : List α} {i : Int} (h0 : 0 ≤ i) (h : i < xs.length) : ∃ v, v ∈ xs ∧ atI xs i = some v := by
  have hl : i.toNat < xs.length := by omega
  exact ⟨xs[i.toNat], List.getElem_mem hl, atI_of h0 (List.getElem?_eq_getElem hl)⟩
/-! ### isinstance -/
section
variable {K : PySem.W.Frag} {H : Hp} {Q : VK}
theorem isi_mk {x : V} {n m : String} {b : Bool} (h : TyOf K H x (.type n)) (k : kitB n m = some b) (q : Q (.bl b) H) : rIsi K [x, .ty m] H Q := ⟨x, _, _, _, b, rfl, .ty m, .base h, kit_ty k, q⟩
theorem isi_int_str {i : Int} (q : Q (.bl false) H) : rIsi K [.int i, .ty "str"] H Q := isi_mk (.int i) (by decide +kernel) q
theorem isi_str_str {i : Str} (q : Q (.bl true) H) : rIsi K [.str i, .ty "str"] H Q := isi_mk (.str i) (by decide +kernel) q
theorem isi_int_int {i : Int} (q : Q (.bl true) H) : rIsi K [.int i, .ty "int"] H Q := isi_mk (.int i) (by decide +kernel) q
theorem isi_int_bool {i : Int} (q : Q (.bl false) H) : rIsi K [.int i, .ty "bool"] H Q := isi_mk (.int i) (by decide +kernel) q
theorem isi_bl_bool {i : Bool} (q : Q (.bl true) H) : rIsi K [.bl i, .ty "bool"] H Q := isi_mk (.bl i) (by decide +kernel) q
end
theorem sc_ii {i j : Int} : scal (.int i) (.int j) = true := rfl
theorem sc_ss {i j : Str} : scal (.str i) (.str j) = true := rfl
theorem sc_bb {i j : Bool} : scal (.bl i) (.bl j) = true := rfl
theorem sc_ni {j : Int} : scal .non (.int j) = true := rfl
theorem sc_in {j : Int} : scal (.int j) .non = true := rfl
theorem sc_is {i : Int} {j : Str} : scal (.int i) (.str j) = true := rfl
theorem sc_si {i : Int} {j : Str} : scal (.str j) (.int i) = true := rfl
theorem sc_nn : scal .non .non = true := rfl
/-! ### loops -/
section
variable {K : PySem.W.Frag} {g : TG} {tb : TS} {D : Ends} {σ : St} {H : Hp}
theorem forL {a : Addr} {xs : List V} {i : Nat} (Pv : Nat → L2.St → Hp → Prop) (hσ : σ[i]? = some (some (.ref a))) (hS : SqL K H a xs) (h0 : Pv 0 σ H) (hl : ∀ j σ H, j ≤ xs.length → Pv j σ H → SqL K H a xs)
    (hs : ∀ j x σ H, xs[j]? = some x → Pv j σ H → g x σ H fun σ2 H2 => tb { D with nx := Pv (j + 1), ct := Pv (j + 1), bk := D.nx } σ2 H2) (hd : ∀ σ H, Pv xs.length σ H → D.nx σ H) : tFor (iList K (tVar i)) g tb D σ H :=
  ⟨_, hσ, a, rfl, ⟨xs, hS⟩, for_list Pv h0 hl hs hd⟩
theorem forT {a : Addr} {xs : List V} {i : Nat} (Pv : Nat → L2.St → Hp → Prop) (hσ : σ[i]? = some (some (.ref a))) (hS : SqT K H a xs) (h0 : Pv 0 σ H) (hl : ∀ j σ H, j ≤ xs.length → Pv j σ H → SqT K H a xs)
    (hs : ∀ j x σ H, xs[j]? = some x → Pv j σ H → g x σ H fun σ2 H2 => tb { D with nx := Pv (j + 1), ct := Pv (j + 1), bk := D.nx } σ2 H2) (hd : ∀ σ H, Pv xs.length σ H → D.nx σ H) : tFor (iTup K (tVar i)) g tb D σ H :=
  ⟨_, hσ, a, rfl, ⟨xs, hS⟩, for_tup Pv h0 hl hs hd⟩
/-- behind the reckoning of the bound: range(m) -/
theorem forR {ta : TA} {Qx : Hp → Int → Prop} (h : ta σ H fun vs H1 => ∃ m : Int, vs = [.int m] ∧ -(2 ^ 62) ≤ m ∧ m < 2 ^ 62 ∧ ∃ Pv : Nat → L2.St → Hp → Prop, Pv 0 σ H1 ∧
    (∀ j σ H, j < m.toNat → Pv j σ H → g (.int (0 + j)) σ H fun σ2 H2 => tb { D with nx := Pv (j + 1), ct := Pv (j + 1), bk := D.nx } σ2 H2) ∧ (∀ σ H, Pv m.toNat σ H → D.nx σ H))
    (mono : ∀ Q Q' : List V → Hp → Prop, (∀ vs H, Q vs H → Q' vs H) → ta σ H Q → ta σ H Q') : tFor (iRng1 ta) g tb D σ H := by
  refine mono _ _ ?_ h
  rintro vs H1 ⟨m, e, h1, h2, Pv, a, b, c⟩
  exact ⟨m, e, h1, h2, for_range Pv a b c⟩
end
/-! ### dicts -/
section
variable {κ : Type} [DecidableEq κ]
theorem keys_putK (kvs : List (κ × V)) (k : κ) (v : V) (h : (kvs.map (·.1)).Nodup) : ((putK kvs k v).map (·.1)).Nodup := by
  cases e : valV kvs k with
  | none => exact nd_putK v h e
  | some y =>
    have ha : (kvs.any fun kv => decide (kv.1 = k)) = true := by
      unfold valV at e
      cases q : kvs.find? fun kv => decide (kv.1 = k) with
      | none => rw [q] at e; cases e
      | some p => exact List.any_eq_true.mpr ⟨p, List.mem_of_find?_eq_some q, by simpa using List.find?_some q⟩
    unfold putK
    rw [if_pos ha, List.map_map]
    have e2 : ((fun kv : κ × V => kv.1) ∘ fun kv : κ × V => if kv.1 = k then (kv.1, v) else kv) = fun kv => kv.1 := by
      funext p
      show (if p.1 = k then (p.1, v) else p).1 = p.1
      split <;> rfl
    rw [e2]
    exact h
theorem mem_putK {kvs : List (κ × V)} {k : κ} {v : V} {p : κ × V} (h : p ∈ putK kvs k v) : p ∈ kvs ∨ p = (k, v) := by
  unfold putK at h
  split at h
  · obtain ⟨q, hq, e⟩ := List.mem_map.mp h
    split at e
    · rename_i hk
      exact .inr (by rw [← e, hk])
    · exact .inl (by rw [← e]; exact hq)
  · rcases List.mem_append.mp h with h | h
    · exact .inl h
    · exact .inr (List.mem_singleton.mp h)
theorem valV_mem {kvs : List (κ × V)} {k : κ} {v : V} (h : (kvs.map (·.1)).Nodup) (hm : (k, v) ∈ kvs) : valV kvs k = some v := by
  induction kvs with
  | nil => nomatch hm
  | cons p r ih =>
    rw [List.map_cons, List.nodup_cons] at h
    by_cases e : p.1 = k
    · rw [valV_pos e]
      rcases List.mem_cons.mp hm with z | z
      · rw [← z]
      · exact absurd (List.mem_map.mpr ⟨_, z, rfl⟩) (by rw [← e]; exact h.1)
    · rw [valV_neg e]
      rcases List.mem_cons.mp hm with z | z
      · exact absurd (by rw [← z]) e
      · exact ih h.2 z
end
end My

set_option Elab.async false
set_option linter.all false
set_option maxRecDepth 100000
set_option maxHeartbeats 4000000
/-! ### operators, in, len, list of instances of an own class that define them -/
namespace My
open PySem PySem.Spec PyProof.Rows L2
section
variable {X : Cx} {CX : CXT} {pins : List (Addr × Obj)} {σ : L2.St} {H : Hp} {s : Shared} {C g a : Addr} {fd : FuncData} {ps : List Str} {sp : Sp} {E : XK} {k : Nat} {A1 : Around}
theorem inst_of {dx : Addr} {fs : List (Str × V)} (I : Inv X pins σ H s) (ha : H a = some (.ins C dx fs)) : ∃ ox od, PySem.W.InstAt s.heap a ox C (some od) := by
  obtain ⟨mA, J, _⟩ := ins_get I.hok ha
  obtain ⟨od, J', _⟩ := J.look
  exact ⟨_, od, J'⟩
theorem env_under (sb : Sub X k A1) (I : Inv X pins σ H s) : Env0 X.prog X.w X.K X.mg X.base A1 X.stack s H := by
  obtain ⟨f1, f2, f3, f4, f5, f6, f7, f8⟩ := I.env0
  exact ⟨(sb.fr).trans f1, f2, f3, f4, f5, f6, f7, f8⟩
/-- a def of the class runs somewhere below the body -/
theorem run_under {Q : VK} {us : List Value} {vs : List V} (F : FnOk X.prog X.w X.K X.mg X.base CX k g fd ps sp) (sb : Sub X k A1) (hb : Binds X.K fd ps []) (hx : Passes CX X E) (I : Inv X pins σ H s) (r : Vals vs us) (h : sp vs H Q E) :
    wpAny (model X.prog X.w) A1 (call (.ref g) us) (EP X pins σ Q) X.xe s := by
  have len := F.len _ _ _ _ h
  have bnd := hb s us I.kIn (by rw [List.append_nil, ← r.length]; exact len)
  rw [List.append_nil] at bnd
  refine wpAny_call (codeAny_mono (F.run A1 X.stack s H ⟨us, []⟩ us vs Q E sb.room (env_under sb I) bnd r h) ?_)
  rintro (e | fl) s' z
  · exact hx pins σ H s e s' I z
  · cases fl <;> first | exact I.after z | exact z.elim
/-- x op y, both instances of the class at C -/
def rBinO (C : Addr) (sp : Sp) (E : XK) : R2 := fun x y H Q => ∃ (a dx : Addr) (fs : List (Str × V)) (b dy : Addr) (gs : List (Str × V)), x = .ref a ∧ y = .ref b ∧ H a = some (.ins C dx fs) ∧ H b = some (.ins C dy gs) ∧ sp [.ref a, .ref b] H Q E
/-- what stands of an operator's def -/
structure BinC (K : PySem.W.Frag) (C g : Addr) (op : Operator) : Prop where
  one : PySem.W.selfFirst K C = true
  at_ : PySem.W.findIn K (.ref C) (PySem.dunder op.info.2) = some (some (.ref g))
  fn : PySem.W.isFn K (.ref g) = true
theorem sub_here (hr : Room k X.A) : Sub X k X.A := ⟨hr, rfl⟩
theorem op_binO {op : Operator} (c : BinC X.K C g op) (F : FnOk X.prog X.w X.K X.mg X.base CX k g fd ps sp) (hb : Binds X.K fd ps []) (hr : Room k X.A) (hx : Passes CX X E) : OpR X (binaryOp op) (rBinO C sp E) := by
  rintro pins s σ H x y v u Q I rx ry ⟨a, dx, fs, b, dy, gs, rfl, rfl, ha, hb', q⟩
  cases rx
  cases ry
  obtain ⟨ox, od, J⟩ := inst_of I ha
  obtain ⟨oy, ody, J'⟩ := inst_of I hb'
  obtain ⟨m, hF⟩ := I.fr
  refine PySem.W.binop_K hF I.ok.mod.kin J J'.type c.one c.at_ c.fn ?_
  refine thn (run_under (us := [.ref a, .ref b]) (vs := [.ref a, .ref b]) F (sub_here hr) hb hx I (.cons rfl (.cons rfl .nil)) q) ?_
  rintro w s' ⟨z, H', I', rz, qz⟩
  exact SlX.cmpback rz ⟨z, H', I', rz, qz⟩
/-- y in x, x an instance of the class at C: its __contains__ gives a bool -/
def rInO (C : Addr) (sp : Sp) (E : XK) (neg : Bool) : R2 := fun y x H Q => ∃ (a dx : Addr) (fs : List (Str × V)), x = .ref a ∧ H a = some (.ins C dx fs) ∧ sp [.ref a, y] H (fun v H' => ∃ b, v = .bl b ∧ Q (.bl (if neg then !b else b)) H') E
structure InC (K : PySem.W.Frag) (C g : Addr) : Prop where
  at_ : PySem.W.findIn K (.ref C) "__contains__" = some (some (.ref g))
  fn : PySem.W.isFn K (.ref g) = true
theorem op_inO (c : InC X.K C g) (F : FnOk X.prog X.w X.K X.mg X.base CX k g fd ps sp) (hb : Binds X.K fd ps []) (hr : Room k X.A) (hx : Passes CX X E) : OpR X (compareOp .In) (rInO C sp E false) := by
  rintro pins s σ H y x u v Q I ry rx ⟨a, dx, fs, rfl, ha, q⟩
  cases rx
  obtain ⟨ox, od, J⟩ := inst_of I ha
  obtain ⟨m, hF⟩ := I.fr
  refine PySem.W.in_K hF I.ok.mod.kin J c.at_ c.fn ?_
  refine thn (run_under (us := [.ref a, u]) (vs := [.ref a, y]) F (sub_here hr) hb hx I (.cons rfl (.cons ry .nil)) q) ?_
  rintro w s' ⟨z, H', I', rz, b, rfl, qz⟩
  cases rz
  exact wpAny_pure ⟨.bl b, H', I', rfl, qz⟩
theorem op_notInO (c : InC X.K C g) (F : FnOk X.prog X.w X.K X.mg X.base CX k g fd ps sp) (hb : Binds X.K fd ps []) (hr : Room k X.A) (hx : Passes CX X E) : OpR X (compareOp .NotIn) (rInO C sp E true) := by
  rintro pins s σ H y x u v Q I ry rx ⟨a, dx, fs, rfl, ha, q⟩
  cases rx
  obtain ⟨ox, od, J⟩ := inst_of I ha
  obtain ⟨m, hF⟩ := I.fr
  refine PySem.W.notIn_K hF I.ok.mod.kin J c.at_ c.fn ?_
  refine thn (run_under (us := [.ref a, u]) (vs := [.ref a, y]) F (sub_here hr) hb hx I (.cons rfl (.cons ry .nil)) q) ?_
  rintro w s' ⟨z, H', I', rz, b, rfl, qz⟩
  cases rz
  exact wpAny_pure ⟨.bl (!b), H', I', rfl, qz⟩
/-- len(x) -/
structure LenC (K : PySem.W.Frag) (C g : Addr) : Prop where
  at_ : PySem.W.findIn K (.ref C) "__len__" = some (some (.ref g))
  fn : PySem.W.isFn K (.ref g) = true
theorem len_under {R : Value → Shared → Prop} {Q1 : Nat → Hp → Prop} {dx : Addr} {fs : List (Str × V)} (c : LenC X.K C g) (F : FnOk X.prog X.w X.K X.mg X.base CX k g fd ps sp) (hb : Binds X.K fd ps []) (sb : Sub X (k + 1) A1) (hx : Passes CX X E) (I : Inv X pins σ H s)
    (ha : H a = some (.ins C dx fs)) (h : sp [.ref a] H (fun v H' => ∃ n : Nat, v = .int n ∧ n ≤ sizeLine ∧ Q1 n H') E) (hR : ∀ (n : Nat) H' s' t, n ≤ sizeLine → Inv X pins σ H' s' → Q1 n H' → R (.int n t) s') : wpAny (model X.prog X.w) A1 (call (.builtin "len") [.ref a]) R X.xe s := by
  obtain ⟨ox, od, J⟩ := inst_of I ha
  refine Calls.call_function_entry kind_len plain_len entry_len (args_len1 _) ?_
  unfold Builtin.«len»
  refine wpAny_bind (m := oneArg "len" _) (wpAny_pure ?_)
  refine wpAny_bind (PySem.W.special_fn I.kIn J c.at_ (beq_iff_eq.mp c.fn) ?_)
  refine thn (run_under (us := [.ref a]) (vs := [.ref a]) F sb.in1 hb hx I (.cons rfl .nil) h) ?_
  rintro w s' ⟨z, H', I', rz, n, rfl, hn, hq⟩
  obtain ⟨t, rfl⟩ := rz
  have h63 : ((n : Int)) < 2 ^ 63 := by
    rw [sizeLine_eq] at hn
    omega
  refine wpAny_bind (wpAny_holding (wpAny_pure ?_))
  refine wpAny_bind (wpAny_letGo ?_)
  refine wpAny_ite_false (decide_eq_false (show ¬ ((n : Int) < 0) by omega)) ?_
  refine wpAny_ite_false (decide_eq_false (show ¬ ((n : Int) ≥ 2 ^ 63) by omega)) ?_
  exact wpAny_bind (wpAny_mkInt (wpAny_pure ⟨_, rfl, hR n H' _ _ hn (I'.tok _) hq⟩))
def rLenO (C : Addr) (sp : Sp) (E : XK) : List V → Hp → VK → Prop := fun xs H Q => ∃ (a dx : Addr) (fs : List (Str × V)), xs = [.ref a] ∧ H a = some (.ins C dx fs) ∧ sp [.ref a] H (fun v H' => ∃ n : Nat, v = .int n ∧ n ≤ sizeLine ∧ Q (.int n) H') E
theorem call_lenO (c : LenC X.K C g) (F : FnOk X.prog X.w X.K X.mg X.base CX k g fd ps sp) (hb : Binds X.K fd ps []) (hr : Room (k + 1) X.A) (hx : Passes CX X E) : CallR X (.builtin "len") (rLenO C sp E) := by
  rintro pins s σ H xs us Q I r ⟨a, dx, fs, rfl, ha, q⟩
  obtain ⟨u, rfl, ru⟩ := r.one
  cases ru
  exact len_under (Q1 := fun n H' => Q (.int n) H') c F hb (sub_here hr) hx I ha q fun n H' s' t _ I' hq => ⟨.int n, H', I', ⟨t, rfl⟩, hq⟩
/-- something that is no more looked at -/
def junk (q : Addr) : HO := .ext fun h => ∃ o, h.get? q = some o
theorem junk_ok {P : Program} {w : World} {H : Hp} {h : Heap} {q : Addr} {o : Obj} (e : h.get? q = some o) : ObjOk P w H h q (junk q) := ⟨⟨_, e⟩, ⟨_, e⟩, fun _ _ ⟨u, z⟩ k => ⟨u, k _ z⟩⟩
/-- the class's __iter__ gives iter(l) of a list l, and it has a __len__ -/
structure IterC (K : PySem.W.Frag) (C gi gl : Addr) : Prop where
  it : PySem.W.findIn K (.ref C) "__iter__" = some (some (.ref gi))
  itF : PySem.W.isFn K (.ref gi) = true
  ln : LenC K C gl
/-- list(x) -/
def rListO (K : PySem.W.Frag) (C : Addr) (si sl : Sp) (E : XK) : List V → Hp → VK → Prop := fun xs H Q => ∃ (a dx : Addr) (fs : List (Str × V)), xs = [.ref a] ∧ H a = some (.ins C dx fs) ∧ ∀ q, H q = none →
  si [.ref a] (upd H q (.lst [])) (fun v H1 => ∃ (l it : Addr) (zs : List V), v = .ref it ∧ H1 a = some (.ins C dx fs) ∧ H1 it = some (ItO l it 0) ∧ SqL K H1 l zs ∧ l ≠ q ∧ l ≠ it ∧ H1 q = some (.lst []) ∧
    sl [.ref a] H1 (fun v H2 => ∃ n : Nat, v = .int n ∧ n ≤ sizeLine ∧ H2 it = some (ItO l it 0) ∧ SqL K H2 l zs ∧ H2 q = some (.lst []) ∧ Q (.ref q) (upd (upd H2 it (junk it)) q (.lst zs))) E) E
/-- .. where nothing is raised -/
theorem run_under0 {Q : VK} {us : List Value} {vs : List V} {Ex : Value → Shared → Prop} (F : FnOk X.prog X.w X.K X.mg X.base CX0 k g fd ps sp) (sb : Sub X k A1) (hb : Binds X.K fd ps []) (I : Inv X pins σ H s) (r : Vals vs us) (h : sp vs H Q E) :
    wpAny (model X.prog X.w) A1 (call (.ref g) us) (EP X pins σ Q) Ex s := by
  have len := F.len _ _ _ _ h
  have bnd := hb s us I.kIn (by rw [List.append_nil, ← r.length]; exact len)
  rw [List.append_nil] at bnd
  refine wpAny_call (codeAny_mono (F.run A1 X.stack s H ⟨us, []⟩ us vs Q E sb.room (env_under sb I) bnd r h) ?_)
  rintro (e | fl) s' z
  · exact False.elim z
  · cases fl <;> first | exact I.after z | exact z.elim
theorem len_under0 {R : Value → Shared → Prop} {Ex : Value → Shared → Prop} {Q1 : Nat → Hp → Prop} {dx : Addr} {fs : List (Str × V)} (c : LenC X.K C g) (F : FnOk X.prog X.w X.K X.mg X.base CX0 k g fd ps sp) (hb : Binds X.K fd ps []) (sb : Sub X (k + 1) A1) (I : Inv X pins σ H s)
    (ha : H a = some (.ins C dx fs)) (h : sp [.ref a] H (fun v H' => ∃ n : Nat, v = .int n ∧ n ≤ sizeLine ∧ Q1 n H') E) (hR : ∀ (n : Nat) H' s' t, n ≤ sizeLine → Inv X pins σ H' s' → Q1 n H' → R (.int n t) s') : wpAny (model X.prog X.w) A1 (call (.builtin "len") [.ref a]) R Ex s := by
  obtain ⟨ox, od, J⟩ := inst_of I ha
  refine Calls.call_function_entry kind_len plain_len entry_len (args_len1 _) ?_
  unfold Builtin.«len»
  refine wpAny_bind (m := oneArg "len" _) (wpAny_pure ?_)
  refine wpAny_bind (PySem.W.special_fn I.kIn J c.at_ (beq_iff_eq.mp c.fn) ?_)
  refine thn (run_under0 (us := [.ref a]) (vs := [.ref a]) F sb.in1 hb I (.cons rfl .nil) h) ?_
  rintro w s' ⟨z, H', I', rz, n, rfl, hn, hq⟩
  obtain ⟨t, rfl⟩ := rz
  have h63 : ((n : Int)) < 2 ^ 63 := by
    rw [sizeLine_eq] at hn
    omega
  refine wpAny_bind (wpAny_holding (wpAny_pure ?_))
  refine wpAny_bind (wpAny_letGo ?_)
  refine wpAny_ite_false (decide_eq_false (show ¬ ((n : Int) < 0) by omega)) ?_
  refine wpAny_ite_false (decide_eq_false (show ¬ ((n : Int) ≥ 2 ^ 63) by omega)) ?_
  exact wpAny_bind (wpAny_mkInt (wpAny_pure ⟨_, rfl, hR n H' _ _ hn (I'.tok _) hq⟩))
theorem hint_own {Q : Bool → Shared → Prop} {Ex : Value → Shared → Prop} {Q1 : Nat → Hp → Prop} {dx : Addr} {fs : List (Str × V)} (c : LenC X.K C g) (F : FnOk X.prog X.w X.K X.mg X.base CX0 k g fd ps sp) (hb : Binds X.K fd ps []) (sb : Sub X (k + 1) A1) (I : Inv X pins σ H s)
    (ha : H a = some (.ins C dx fs)) (h : sp [.ref a] H (fun v H' => ∃ n : Nat, v = .int n ∧ n ≤ sizeLine ∧ Q1 n H') E) (hR : ∀ b n H' s', Inv X pins σ H' s' → Q1 n H' → Q b s') : wpAny (model X.prog X.w) A1 (Builtin.List.listLengthHint (.ref a)) Q Ex s := by
  obtain ⟨ox, od, J⟩ := inst_of I ha
  unfold Builtin.List.listLengthHint
  refine wpAny_bind (wpAny_bind (J.type.here ((PySem.W.looks_findIn I.kIn c.at_).here ?_)))
  refine PySem.W.KFB.if_not rfl ?_
  refine PySem.W.KFB.if_so rfl ?_
  refine wpAny_bind (wpAny_rule ?_)
  refine wpAny_bind (wpAny_attempt (len_under0 c F hb sb I ha h ?_))
  intro n H' s' t hn I' hq
  show wpAny _ _ (pure (some (n : Int)) >>= _) _ _ _
  refine wpAny_bind (wpAny_pure ?_)
  have hl : Builtin.List.listTooLong ((n : Int).toNat) = false := by
    rw [Int.toNat_natCast]; exact notLongL hn
  refine PySem.W.KFB.if_not hl ?_
  exact wpAny_pure (hR _ n H' s' I' hq)
/-! ### the list's iterator, drawn to its end -/
theorem py_item {it l : Addr} {i : Nat} {items : Array Value} {v : Value} {prog : Program} {w : World} {Q : Option Value → Shared → Prop} {Ex : Value → Shared → Prop} (ho : s.heap.get? it = some (GNX.itObj l i)) (hl : s.heap.IsList l items) (hv : items[i]? = some v)
    (hQ : ∀ h', h'.get? it = some (GNX.itObj l (i + 1)) → (∀ b o, b ≠ it → s.heap.get? b = some o → h'.get? b = some o) → Q (some v) { s with heap := h' }) : wpAny (model prog w) A1 (pyNext (.ref it)) Q Ex s := by
  have hT : s.TypeIs (.ref it) "list_iterator" := ⟨_, ho, rfl⟩
  unfold pyNext
  refine wpAny_bind (wpAny_attempt (wpAny_callSpecial?_slot (name := Str.ofString "__next__") hT slot_listiter_next (wpAny_call_entry slot_listiter_next hT entry_listiter_next (GNX.next_item ho hl hv ?_) (args_listiter_next _))))
  intro h' e sb
  exact wpAny_pure (hQ h' e fun b o hb eb => (sb.2 b hb).trans eb)
theorem py_end {it l : Addr} {i : Nat} {items : Array Value} {prog : Program} {w : World} {Q : Option Value → Shared → Prop} {Ex : Value → Shared → Prop} (hh : A1.handled = none) (ho : s.heap.get? it = some (GNX.itObj l i)) (hl : s.heap.IsList l items) (hv : items[i]? = none)
    (hQ : ∀ h', h'.get? it = some (GNX.itEnd i) → (∀ b o, b ≠ it → s.heap.get? b = some o → h'.get? b = some o) → Q none { s with heap := h' }) : wpAny (model prog w) A1 (pyNext (.ref it)) Q Ex s := by
  have hT : s.TypeIs (.ref it) "list_iterator" := ⟨_, ho, rfl⟩
  unfold pyNext
  refine wpAny_bind (wpAny_attempt (wpAny_callSpecial?_slot (name := Str.ofString "__next__") hT slot_listiter_next (wpAny_call_entry slot_listiter_next hT entry_listiter_next (GNX.next_end hh ho hl hv ?_) (args_listiter_next _))))
  intro h1 h' e vs e1 sb k1 ne he hv'
  refine wpAny_bind (wpAny_isInstance (T := "StopIteration") (b := true) ⟨_, he, rfl⟩ PySem.isSubtype_stop ?_)
  exact wpAny_pure (hQ h' (k1 _ _ e1) fun b o hb eb => k1 _ _ ((sb.2 b hb).trans eb))
theorem same_upd {H : Hp} {q : Addr} {o : HO} (e : H q = some o) : upd H q o = H := by
  funext b
  by_cases z : b = q
  · rw [z, upd_same, e]
  · rw [upd_ne z]
theorem take_next' {α : Type} {xs : List α} {i : Nat} {x : α} (h : xs[i]? = some x) : xs.take (i + 1) = xs.take i ++ [x] := by
  rw [List.take_add_one, h]; rfl
/-- the loop that fills the list at q -/
theorem drain {q l it : Addr} {zs : List V} {F : Hp} {R : Result → Shared → Prop} (hh : A1.in1.handled = none) (lit : l ≠ it) (lq : l ≠ q) (hne : it ≠ q) (hdone : ∀ s', Inv X pins σ F s' → R (.ok (.ret .none)) s') :
    ∀ (n i : Nat) (H1 : Hp) (s1 : Shared), zs.length - i = n → i ≤ zs.length → Inv X pins σ H1 s1 → H1 it = some (ItO l it i) → SqL X.K H1 l zs → H1 q = some (.lst (zs.take i)) → upd (upd H1 it (junk it)) q (.lst zs) = F →
      codeAny (model X.prog X.w) A1 (.builtin "list.extend.loop" ⟨[.ref q, .ref it, .none], []⟩) R s1 := by
  intro n
  induction n with
  | zero =>
    intro i H1 s1 hn hi I hit hl hq hF
    obtain ⟨its, rv, pl, hz⟩ := I.list hl
    have hlen := rv.length
    have nope : its.toArray[i]? = none := by
      rw [List.getElem?_toArray]
      exact List.getElem?_eq_none (by omega)
    refine codeAny_builtin PySem.F.entry_extend_loop ?_
    rw [Around.under_plainId PySem.F.plain_extend_loop _]
    refine wpAny_bind (m := pyNext (.ref it)) (py_end hh (itO_get I hit) pl.isList nope fun h' he hk => ?_)
    have J : Inv X pins σ (upd H1 it (junk it)) { s1 with heap := h' } := I.write (t' := s1.toks) (x := it) (e := it) (by rw [hit]; exact True.intro) (.inl rfl) (fun b u hb e => hk b u hb e) ⟨_, he⟩ (junk_ok he)
    have e : upd H1 it (junk it) = F := by
      rw [← hF]
      refine (same_upd ?_).symm
      rw [upd_ne hne.symm, hq, List.take_of_length_le (by omega)]
    rw [e] at J
    exact wpAny_pure (hdone _ J)
  | succ n ih =>
    intro i H1 s1 hn hi I hit hl hq hF
    obtain ⟨its, rv, pl, hz⟩ := I.list hl
    have hlen := rv.length
    have hx : zs[i]? = some zs[i] := List.getElem?_eq_getElem (by omega)
    obtain ⟨u, hu, ru⟩ := rv.get hx
    refine codeAny_builtin PySem.F.entry_extend_loop ?_
    rw [Around.under_plainId PySem.F.plain_extend_loop _]
    refine wpAny_bind (m := pyNext (.ref it)) (py_item (itO_get I hit) pl.isList (v := u) (by simpa using hu) fun h' he hk => ?_)
    have J : Inv X pins σ (upd H1 it (ItO l it (i + 1))) { s1 with heap := h' } := I.write (t' := s1.toks) (x := it) (e := it) (by rw [hit]; exact True.intro) (.inl rfl) (fun b u hb e => hk b u hb e) ⟨_, he⟩ (itO_ok he)
    have hq' : (upd H1 it (ItO l it (i + 1))) q = some (.lst (zs.take i)) := by rw [upd_ne hne.symm]; exact hq
    obtain ⟨_, ys, c, r2, hl2, e2⟩ := J.lstM hq'
    have hy : ys.length = i := by rw [← hl2, List.length_take]; omega
    refine wpAny_bind (m := updateSeq q (·.push u)) (wpAny_updateSeq e2 rfl (wpAny_pure ⟨plainId_quiet PySem.F.plain_extend_loop _, ?_⟩) (by rw [List.size_toArray]; omega) (by rw [Array.size_push, List.size_toArray]; omega))
    have J2 := J.lset (f := (·.push u)) (its' := ys ++ [u]) (ys := zs.take (i + 1)) (t' := s1.toks) hq' e2 (by simp) (by rw [take_next' hx]; exact r2.append (.cons ru .nil)) (by rw [List.length_take]; omega)
    refine ih (i + 1) _ _ (by omega) (by omega) J2 ?_ ?_ upd_same ?_
    · rw [upd_ne hne]; exact upd_same
    · exact (((Kp.refl [it, q] H1).put (by simp)).put (by simp)).ls (by simp [lit, lq]) hl
    · rw [← hF]
      funext b
      by_cases z : b = q
      · rw [z, upd_same, upd_same]
      · rw [upd_ne z, upd_ne z]
        by_cases y : b = it
        · rw [y, upd_same, upd_same]
        · rw [upd_ne y, upd_ne y, upd_ne z, upd_ne y]
theorem call_listO {gi gl : Addr} {fdi fdl : FuncData} {psi psl : List Str} {si sl : Sp} {ki kl : Nat} (c : IterC X.K C gi gl) (Fi : FnOk X.prog X.w X.K X.mg X.base CX0 ki gi fdi psi si) (bi : Binds X.K fdi psi []) (Fl : FnOk X.prog X.w X.K X.mg X.base CX0 kl gl fdl psl sl) (bl : Binds X.K fdl psl [])
    (hr : Room (max ki (kl + 1) + 2) X.A) (hcalm : X.calm = true := by rfl) : CallR X (.type "list") (rListO X.K C si sl E) := by
  rintro pins s σ H xs us Q I rv ⟨a, dx, fs, rfl, ha, hq⟩
  obtain ⟨u, rfl, ru⟩ := rv.one
  cases ru
  have sb0 : Sub X (max ki (kl + 1)) X.A.in1.in1 := (sub_here hr).in1.in1
  have hh : X.A.handled = none := I.ok.hd hcalm
  refine callType_codes (Q₁ := fun obj s₁ => obj = .ref s.heap.objs.size ∧ s₁ = { s with heap := s.heap.push { cls := .type "list", data := .seq #[] } }) PySem.F.called_list (PySem.F.typeCall_list_1 _) PySem.F.entry_list_init (code_list_new _ ⟨rfl, rfl⟩) ?_
  rintro obj s₁ ⟨rfl, rfl⟩
  have hS : (s.heap.push { cls := .type "list", data := .seq #[] }).get? s.heap.objs.size = some { cls := .type "list", data := .seq #[] } := Heap.get?_push_size _ rfl
  refine ⟨⟨_, hS, rfl⟩, PySem.F.args_list_init_2 _ _, ?_⟩
  have fr : H s.heap.objs.size = none := I.hok.fresh (Nat.le_refl _)
  have todo := hq _ fr
  generalize hqq : s.heap.objs.size = q at *
  have I1 : Inv X pins σ (upd H q (.lst [])) { s with heap := s.heap.push { cls := .type "list", data := .seq #[] } } := by
    rw [← hqq]
    exact I.lnew (its := []) (t' := s.toks) .nil (Nat.zero_le _)
  show wpAny _ _ (Builtin.List.listItems (.ref q) >>= fun old => Builtin.List.listUpdate (.ref q) (fun _ => #[]) >>= fun _ => letGo old.toList.reverse >>= fun _ => Builtin.List.listExtendWith (.ref q) (.ref a) .none) _ _ _
  refine wpAny_bind ?_
  unfold Builtin.List.listItems
  refine wpAny_bind (wpAny_seqItems hS rfl (wpAny_pure ?_))
  refine wpAny_bind (m := updateSeq q fun _ => #[]) (wpAny_updateSeq hS rfl ?_)
  have I2 := I1.lset (f := fun _ => #[]) (its := []) (its' := []) (ys := []) (t' := s.toks) upd_same hS rfl .nil (Nat.zero_le _)
  rw [upd_upd] at I2
  refine wpAny_bind (wpAny_letGo ?_)
  have ha2 : upd H q (.lst []) a = some (.ins C dx fs) := by rw [upd_ne (ne_of_none ha fr)]; exact ha
  obtain ⟨ox, od, J⟩ := inst_of I2 ha2
  obtain ⟨m0, hF⟩ := I2.fr
  have naq : a ≠ q := ne_of_none ha fr
  unfold Builtin.List.listExtendWith
  refine wpAny_bind (J.type.here ?_)
  have h1 : Builtin.List.listSameRef (.ref q) (.ref a) = false := beq_eq_false_iff_ne.mpr naq.symm
  refine PySem.W.KFB.if_not (by rw [h1]; rfl) ?_
  refine wpAny_bind (PySem.W.owit_iter hF I2.ok.mod.kin J c.it c.itF ?_)
  refine thn (run_under0 (us := [.ref a]) (vs := [.ref a]) Fi (sb0.mono (Nat.le_max_left _ _)) bi I2 (.cons rfl .nil) todo) ?_
  rintro w s2 ⟨z, H1, I3, rz, l, it, zs, rfl, ha3, hit, hl, lq, lit, hq3, hsl⟩
  cases rz
  unfold PySem.W.OwitIt
  have hT : s2.TypeIs (.ref it) "list_iterator" := ⟨_, itO_get I3 hit, rfl⟩
  refine wpAny_specialOf (name := Str.ofString "__next__") hT slot_listiter_next.lookup ?_
  refine wpAny_bind (wpAny_holding (hint_own c.ln Fl bl (sb0.mono (Nat.le_max_right _ _)) I3 ha3 hsl ?_))
  rintro room n H2 s3 I4 ⟨hit4, hl4, hq4, qend⟩
  have hne : it ≠ q := ne_of hit4 hq4 (fun z => by cases z)
  have fin : ∀ s4, Inv X pins σ H2 s4 → codeAny (model X.prog X.w) X.A.in1 (.builtin "list.extend.loop" ⟨[.ref q, .ref it, .none], []⟩) (wants (fun r s₂ => r = .none ∧ EP X pins σ Q (.ref q) s₂) X.xe) s4 := fun s4 I5 =>
    drain (A1 := X.A.in1) (F := upd (upd H2 it (junk it)) q (.lst zs)) (by simp [hh]) lit lq hne (fun s' I6 => ⟨rfl, .ref q, _, I6, rfl, qend⟩) _ 0 H2 s4 rfl (Nat.zero_le _) I5 hit4 hl4 (by rw [List.take_zero]; exact hq4) rfl
  refine wpAny_ite_split (fun _ => ?_) (fun _ => wpAny_pure ⟨plainId_quiet PySem.F.plain_extend_loop _, fin s3 I4⟩)
  refine wpAny_bind (wpAny_rule (wpAny_bind ?_))
  obtain ⟨_, its, k4, r4, hl5, e4⟩ := I4.lstM hq4
  cases r4
  refine wpAny_bind (m := updateSeq q (·.push .none)) (wpAny_updateSeq e4 rfl ?_)
  have I5 := I4.lset (f := (·.push Value.none)) (its' := [Value.none]) (ys := [.non]) (t' := s3.toks) hq4 e4 (by simp) (.cons rfl .nil) (by rw [List.length_singleton, sizeLine_eq]; decide)
  obtain ⟨_, its5, k5, r5, hl6, e5⟩ := I5.lstM upd_same
  obtain ⟨u5, rfl, ru5⟩ := r5.one
  refine wpAny_updateSeq (a := q) (f := (·.pop)) e5 rfl ?_ (by show 1 ≤ sizeLine; rw [sizeLine_eq]; decide) (by show 0 ≤ sizeLine + 1; exact Nat.zero_le _)
  have I6 := I5.lset (f := (·.pop)) (its := [u5]) (its' := []) (ys := []) (t' := s3.toks) upd_same e5 (by rfl) .nil (Nat.zero_le _)
  rw [upd_upd, same_upd hq4] at I6
  exact wpAny_pure ⟨plainId_quiet PySem.F.plain_extend_loop _, fin _ I6⟩
end
/-! ### a static method, called by its class's name -/
structure StaC (K : PySem.W.Frag) (C : Addr) (mc : Value) (m : Str) (p g : Addr) : Prop where
  rd : PySem.W.readsIn K C mc = true
  ga : PySem.W.specialIn K (.ref C) "__getattribute__" = some (some (.builtin "type.__getattribute__"))
  at_ : PySem.W.findCls K (.ref C) mc m = some (.get (.builtin "staticmethod.__get__") (.ref p) .none (.ref C))
  rc : ∃ rest, PySem.W.recIn K p "staticmethod" = some (.ref g :: rest)
  kp : PySem.W.keepIn K (.ref g) = true
def tSta (C : Addr) (sp : Sp) (dvs : List V) (E : XK) (ta : TE) (t : TA) : TE := fun σ H Q => ta σ H fun x H1 => x = .ref C ∧ t σ H1 fun vs H2 => sp (vs ++ dvs) H2 Q E
section
variable {X : Cx} {CX : CXT} {C p g : Addr} {mc : Value} {m : Str} {fd : FuncData} {ps : List Str} {sp : Sp} {E : XK} {k : Nat} {o e : Expr} {es : List Expr} {ta : TE} {t : TA} {apos pos : Pos} {dvs : List V} {ds : List Value}
theorem pe_sta {pl : Sem Bool} (he : PE X o ta) (c : StaC X.K C mc m p g) (F : FnOk X.prog X.w X.K X.mg X.base CX k g fd ps sp) (hr : Room k X.A) (hb : Binds X.K fd ps ds) (hd : Vals dvs ds) (hx : Passes CX X E) (ha : PA X (e :: es) t)
    (hst : starEach (e :: es) X.env = (false, eval e X.env) :: starEach es X.env := by rfl) (hpl : (backTo pos (starEach es X.env)).any (·.1) = false := by rfl)
    (ht : eval (.Call (.Attribute o m apos) (e :: es) [] pos) X.env = (eval o X.env >>= fun ov => standAt apos.atName >>= fun _ => holding [ov] (getMethod ov m pl) >>= fun fr => callWith pos fr.1 fr.2 (backTo pos (starEach (e :: es) X.env)) (backToKw pos (keywordEach [] X.env))) := by rfl) :
    PE X (.Call (.Attribute o m apos) (e :: es) [] pos) (tSta C sp dvs E ta t) := by
  refine ⟨fun pins s σ H Q I h => ?_⟩
  refine PySem.W.methodCall_KW (pl := pl) (thn (he.run pins s σ H _ I h) ?_) ht
  rintro u s1 ⟨x, H1, I1, rx, rfl, q⟩
  cases rx
  obtain ⟨rest, hp⟩ := c.rc
  refine PySem.W.method_cls I1.kIn c.ga (PySem.W.cls_bind I1.kIn c.rd c.at_ (wpAny_call ?_))
  refine PySem.W.sm_get (s := { s1 with toks := s1.toks + 1 }) I1.kIn hp (PySem.W.handed_on rfl ?_)
  refine PySem.W.callWith_K (first := []) (h₀ := X.base) I1.ok.mod.kin c.kp (thn (ha.run pos pins _ σ H1 _ (I1.tok _) q) fun us s2 ⟨vs, H2, I2, r, q2⟩ => ⟨I2.kIn, ?_⟩) hst hpl
  exact run_fn F hr hb hd hx I2 r q2
/-- x in t, t a tuple, of data of any depth -/
def rInT (K : PySem.W.Frag) (neg : Bool) : R2 := fun x y H Q => ∃ d ds, Dp K H x d ∧ Dp K H y (.tuple ds) ∧ SeqAt.shaped d = true ∧ SeqAt.shaped (.tuple ds) = true ∧ Q (.bl (if neg then !(ds.any fun z => PyData.eqv z d) else ds.any fun z => PyData.eqv z d)) H
theorem op_inT (hu : X.A.units + 65 < cLine) : OpR X (compareOp .In) (rInT X.K false) := by
  rintro pins s σ H x y v u Q I rx ry ⟨d, ds, hd, he, sd, se, q⟩
  obtain ⟨as, r1⟩ := Dp.reads I d x v hd rx
  obtain ⟨bs, r2⟩ := Dp.reads I (.tuple ds) y u he ry
  exact SeqAt.in_tuple_reads r2 r1 (SeqAt.canLay_of_shaped se) (SeqAt.canLay_of_shaped sd) (room_in_shaped sd hu) ⟨.bl _, H, I, rfl, q⟩
theorem op_notInT (hu : X.A.units + 65 < cLine) : OpR X (compareOp .NotIn) (rInT X.K true) := by
  rintro pins s σ H x y v u Q I rx ry ⟨d, ds, hd, he, sd, se, q⟩
  obtain ⟨as, r1⟩ := Dp.reads I d x v hd rx
  obtain ⟨bs, r2⟩ := Dp.reads I (.tuple ds) y u he ry
  exact SeqAt.notIn_tuple_reads r2 r1 (SeqAt.canLay_of_shaped se) (SeqAt.canLay_of_shaped sd) (room_in_shaped sd hu) ⟨.bl _, H, I, rfl, q⟩
end
end My

set_option Elab.async false
set_option linter.all false
set_option maxRecDepth 100000
set_option maxHeartbeats 4000000
/-! ### data of any depth: kept, walked in lists or tuples -/
namespace My
open PySem PySem.Spec PyProof.Rows L2
/-- no list or tuple stands in S -/
def NoSq (H : Hp) (S : List Addr) : Prop := ∀ a ∈ S, (∀ xs, H a ≠ some (.lst xs)) ∧ (∀ xs, H a ≠ some (.tup xs)) ∧ ∀ o u, H a ≠ some (.frz o u)
theorem noSq0 {H : Hp} : NoSq H [] := fun a h => nomatch h
theorem noSq1 {H : Hp} {a C dx : Addr} {fs : List (Str × V)} (h : H a = some (.ins C dx fs)) : NoSq H [a] := fun b hb => by
  rw [List.mem_singleton.mp hb, h]
  exact ⟨fun _ z => (by cases z), fun _ z => (by cases z), fun _ _ z => (by cases z)⟩
theorem Kp.lsN {S : List Addr} {K : PySem.W.Frag} {H H' : Hp} {a : Addr} {xs : List V} (k : Kp S H H') (n : NoSq H S) (h : SqL K H a xs) : SqL K H' a xs := by
  rcases h with (h | ⟨o, h⟩) | h
  · exact .inl (.inl (k _ _ (fun z => (n a z).1 _ h) h))
  · exact .inl (.inr ⟨o, k _ _ (fun z => (n a z).2.2 _ _ h) h⟩)
  · exact .inr h
theorem Kp.tpN {S : List Addr} {K : PySem.W.Frag} {H H' : Hp} {a : Addr} {xs : List V} (k : Kp S H H') (n : NoSq H S) (h : SqT K H a xs) : SqT K H' a xs := by
  rcases h with (h | ⟨o, h⟩) | h
  · exact .inl (.inl (k _ _ (fun z => (n a z).2.1 _ h) h))
  · exact .inl (.inr ⟨o, k _ _ (fun z => (n a z).2.2 _ _ h) h⟩)
  · exact .inr h
mutual
theorem dpN {S : List Addr} {K : PySem.W.Frag} {H H' : Hp} (k : Kp S H H') (n : NoSq H S) : ∀ {d : PyData} {v : V}, Dp K H v d → Dp K H' v d
  | _, _, .non => .non
  | _, _, .bl b => .bl b
  | _, _, .int i => .int i
  | _, _, .str x => .str x
  | _, _, .lst e h => .lst (k.lsN n e) (dpAllN k n h)
  | _, _, .tup e h => .tup (k.tpN n e) (dpAllN k n h)
theorem dpAllN {S : List Addr} {K : PySem.W.Frag} {H H' : Hp} (k : Kp S H H') (n : NoSq H S) : ∀ {ds : List PyData} {vs : List V}, DpAll K H vs ds → DpAll K H' vs ds
  | _, _, .nil => .nil
  | _, _, .cons h t => .cons (dpN k n h) (dpAllN k n t)
end
mutual
def noLs : PyData → Bool
  | .list _ => false
  | .tuple ds => noLsAll ds
  | _ => true
def noLsAll : List PyData → Bool
  | [] => true
  | d :: ds => noLs d && noLsAll ds
end
/-- .. stand as before, where lists change -/
def NoTp (H : Hp) (S : List Addr) : Prop := ∀ a ∈ S, (∀ xs, H a ≠ some (.tup xs)) ∧ ∀ o u, H a ≠ some (.frz o u)
theorem noTp1 {H : Hp} {a : Addr} {xs : List V} (h : H a = some (.lst xs)) : NoTp H [a] := fun b hb => by
  rw [List.mem_singleton.mp hb, h]
  exact ⟨fun _ z => (by cases z), fun _ _ z => (by cases z)⟩
theorem Kp.tpT {S : List Addr} {K : PySem.W.Frag} {H H' : Hp} {a : Addr} {xs : List V} (k : Kp S H H') (n : NoTp H S) (h : SqT K H a xs) : SqT K H' a xs := by
  rcases h with (h | ⟨o, h⟩) | h
  · exact .inl (.inl (k _ _ (fun z => (n a z).1 _ h) h))
  · exact .inl (.inr ⟨o, k _ _ (fun z => (n a z).2 _ _ h) h⟩)
  · exact .inr h
mutual
theorem dpT {S : List Addr} {K : PySem.W.Frag} {H H' : Hp} (k : Kp S H H') (n : NoTp H S) : ∀ {d : PyData} {v : V}, Dp K H v d → noLs d = true → Dp K H' v d
  | _, _, .non, _ => .non
  | _, _, .bl b, _ => .bl b
  | _, _, .int i, _ => .int i
  | _, _, .str x, _ => .str x
  | _, _, .lst e h, z => by cases z
  | _, _, .tup e h, z => .tup (k.tpT n e) (dpAllT k n h z)
theorem dpAllT {S : List Addr} {K : PySem.W.Frag} {H H' : Hp} (k : Kp S H H') (n : NoTp H S) : ∀ {ds : List PyData} {vs : List V}, DpAll K H vs ds → noLsAll ds = true → DpAll K H' vs ds
  | _, _, .nil, _ => .nil
  | _, _, .cons h t, z => by
    have z' := Bool.and_eq_true_iff.mp z
    exact .cons (dpT k n h z'.1) (dpAllT k n t z'.2)
end
theorem dpLen {K : PySem.W.Frag} {H : Hp} : ∀ {ds : List PyData} {vs : List V}, DpAll K H vs ds → vs.length = ds.length
  | _, _, .nil => rfl
  | _, _, .cons h t => by rw [List.length_cons, List.length_cons, dpLen t]
theorem dpGet {K : PySem.W.Frag} {H : Hp} : ∀ {ds : List PyData} {vs : List V}, DpAll K H vs ds → ∀ {i : Nat} {v : V}, vs[i]? = some v → ∃ d, ds[i]? = some d ∧ Dp K H v d
  | _, _, .nil, _, _, e => nomatch e
  | _, _, .cons h t, 0, _, e => by cases e; exact ⟨_, rfl, h⟩
  | _, _, .cons h t, i + 1, _, e => dpGet t (i := i) e
theorem dpApp {K : PySem.W.Frag} {H : Hp} : ∀ {ds es : List PyData} {vs us : List V}, DpAll K H vs ds → DpAll K H us es → DpAll K H (vs ++ us) (ds ++ es)
  | _, _, _, _, .nil, k => k
  | _, _, _, _, .cons h t, k => .cons h (dpApp t k)
theorem dpTake {K : PySem.W.Frag} {H : Hp} : ∀ {ds : List PyData} {vs : List V}, DpAll K H vs ds → ∀ i, DpAll K H (vs.take i) (ds.take i)
  | _, _, .nil, i => by rw [List.take_nil, List.take_nil]; exact .nil
  | _, _, .cons h t, 0 => .nil
  | _, _, .cons h t, i + 1 => .cons h (dpTake t i)
theorem dpDrop {K : PySem.W.Frag} {H : Hp} : ∀ {ds : List PyData} {vs : List V}, DpAll K H vs ds → ∀ i, DpAll K H (vs.drop i) (ds.drop i)
  | _, _, .nil, i => by rw [List.drop_nil, List.drop_nil]; exact .nil
  | _, _, .cons h t, 0 => .cons h t
  | _, _, .cons h t, i + 1 => dpDrop t i
theorem dpRev {K : PySem.W.Frag} {H : Hp} : ∀ {ds : List PyData} {vs : List V}, DpAll K H vs ds → DpAll K H vs.reverse ds.reverse
  | _, _, .nil => .nil
  | _, _, .cons h t => by
    rw [List.reverse_cons, List.reverse_cons]
    exact dpApp (dpRev t) (.cons h .nil)
theorem dpStrs {K : PySem.W.Frag} {H : Hp} : ∀ zs : List Str, DpAll K H (zs.map V.str) (zs.map PyData.str)
  | [] => .nil
  | z :: zs => .cons (.str z) (dpStrs zs)
/-- an object walked that is a list or a tuple -/
def SqAny (K : PySem.W.Frag) (H : Hp) (a : Addr) (xs : List V) : Prop := SqL K H a xs ∨ SqT K H a xs
theorem Kp.anyN {S : List Addr} {K : PySem.W.Frag} {H H' : Hp} {a : Addr} {xs : List V} (k : Kp S H H') (n : NoSq H S) (h : SqAny K H a xs) : SqAny K H' a xs := h.imp (k.lsN n) (k.tpN n)
def iSeq (K : PySem.W.Frag) (tl : TE) : TI := fun σ H R => tl σ H fun x H1 => ∃ a, x = .ref a ∧ (((∃ xs, SqL K H1 a xs) ∧ R (Itl K a) H1) ∨ ((∃ xs, SqT K H1 a xs) ∧ R (Itt K a) H1))
section
variable {X : Cx} {tg : Expr}
theorem pi_seq {l : Expr} {tl : TE} (hl : PE X l tl) : PI X tg l (iSeq X.K tl) := by
  refine ⟨fun pins s σ H R I h => thn (hl.run pins s σ H _ I h) ?_⟩
  rintro v s1 ⟨x, H1, I1, r1, a, rfl, ⟨⟨xs, hq⟩, q⟩ | ⟨⟨xs, hq⟩, q⟩⟩
  · cases r1
    obtain ⟨its, rv, p, hz⟩ := I1.list hq
    refine wpAny_pyIter_list p.isList ⟨_, [_], _, _, H1, rfl, I1.kept (t' := s1.toks) (fun b o e => Heap.get?_push_of_some _ e), turn_list a _, ⟨_, Heap.get?_push_size _ rfl, rfl, rfl⟩, fun b hb => ?_, q⟩
    rw [List.mem_singleton.mp hb]
    exact I1.fpOk (Nat.le_refl _) (I1.hok.fresh (Nat.le_refl _))
  · cases r1
    obtain ⟨its, rv, p, hz⟩ := I1.tuple hq
    refine wpAny_pyIter_tuple (show s1.heap.IsTuple a its.toArray from p) ⟨_, [_], _, _, H1, rfl, I1.kept (t' := s1.toks) (fun b o e => Heap.get?_push_of_some _ e), turn_tuple a _, ⟨_, Heap.get?_push_size _ rfl, rfl, rfl⟩, fun b hb => ?_, q⟩
    rw [List.mem_singleton.mp hb]
    exact I1.fpOk (Nat.le_refl _) (I1.hok.fresh (Nat.le_refl _))
/-- x in s, s a list or a tuple -/
def rInS (K : PySem.W.Frag) (neg : Bool) : R2 := fun x y H Q => ∃ (d : PyData) (ds : List PyData) (a : Addr) (xs : List V), y = .ref a ∧ SqAny K H a xs ∧ DpAll K H xs ds ∧ Dp K H x d ∧ SeqAt.shaped d = true ∧ SeqAt.shaped (.list ds) = true ∧ Q (.bl (if neg then !(ds.any fun z => PyData.eqv z d) else ds.any fun z => PyData.eqv z d)) H
theorem op_inS (hu : X.A.units + 65 < cLine) : OpR X (compareOp .In) (rInS X.K false) := by
  rintro pins s σ H x y v u Q I rx ry ⟨d, ds, a, xs, rfl, ha | ha, hx, hd, s1, s2, q⟩
  · exact op_inD hu pins s σ H x _ v u Q I rx ry ⟨d, ds, hd, .lst ha hx, s1, s2, q⟩
  · exact op_inT hu pins s σ H x _ v u Q I rx ry ⟨d, ds, hd, .tup ha hx, s1, s2, q⟩
theorem op_notInS (hu : X.A.units + 65 < cLine) : OpR X (compareOp .NotIn) (rInS X.K true) := by
  rintro pins s σ H x y v u Q I rx ry ⟨d, ds, a, xs, rfl, ha | ha, hx, hd, s1, s2, q⟩
  · exact op_notInD hu pins s σ H x _ v u Q I rx ry ⟨d, ds, hd, .lst ha hx, s1, s2, q⟩
  · exact op_notInT hu pins s σ H x _ v u Q I rx ry ⟨d, ds, hd, .tup ha hx, s1, s2, q⟩
theorem hu5 {A : Around} {k : Nat} (hr : Room k A) : A.units + 65 < cLine := by have := hr.un; omega
end
section
variable {K : PySem.W.Frag} {H H0 : Hp} {a : Addr} {xs : List V} {g : TG} {tb : TS} {D : Ends} {σ : L2.St} {i : Nat}
/-- for x in s, s a list or a tuple that stands still -/
theorem forS (Pv : Nat → L2.St → Hp → Prop) (hσ : σ[i]? = some (some (.ref a))) (hS : SqAny K H a xs) (h0 : Pv 0 σ H) (hk : ∀ j σ' H', Pv j σ' H' → Kp [] H H')
    (hs : ∀ j x σ H, xs[j]? = some x → Pv j σ H → g x σ H fun σ2 H2 => tb { D with nx := Pv (j + 1), ct := Pv (j + 1), bk := D.nx } σ2 H2) (hd : ∀ σ H, Pv xs.length σ H → D.nx σ H) : tFor (iSeq K (tVar i)) g tb D σ H := by
  rcases hS with h | h
  · exact ⟨_, hσ, a, rfl, .inl ⟨⟨xs, h⟩, for_list Pv h0 (fun j σ' H' _ p => (hk j σ' H' p).ls not0 h) hs hd⟩⟩
  · exact ⟨_, hσ, a, rfl, .inr ⟨⟨xs, h⟩, for_tup Pv h0 (fun j σ' H' _ p => (hk j σ' H' p).tp not0 h) hs hd⟩⟩
end
end My

set_option Elab.async false
set_option linter.all false
set_option maxRecDepth 100000
set_option maxHeartbeats 4000000
namespace My
open PySem L2
/-! ### data that stands in tracked tuples and lists -/
mutual
inductive Dq (H : Hp) : V → PyData → Prop
  | non : Dq H .non .none
  | bl (b : Bool) : Dq H (.bl b) (.bool b)
  | int (i : Int) : Dq H (.int i) (.int i)
  | str (x : Str) : Dq H (.str x) (.str x)
  | lst {a : Addr} {xs : List V} {ds : List PyData} : H a = some (.lst xs) → DqAll H xs ds → Dq H (.ref a) (.list ds)
  | tup {a : Addr} {xs : List V} {ds : List PyData} : H a = some (.tup xs) → DqAll H xs ds → Dq H (.ref a) (.tuple ds)
inductive DqAll (H : Hp) : List V → List PyData → Prop
  | nil : DqAll H [] []
  | cons {v : V} {vs : List V} {d : PyData} {ds : List PyData} : Dq H v d → DqAll H vs ds → DqAll H (v :: vs) (d :: ds)
end
mutual
theorem Dq.kp {H H' : Hp} (k : Kp [] H H') : ∀ {d : PyData} {v : V}, Dq H v d → Dq H' v d
  | _, _, .non => .non
  | _, _, .bl b => .bl b
  | _, _, .int i => .int i
  | _, _, .str x => .str x
  | _, _, .lst e h => .lst (k _ _ not0 e) (DqAll.kp k h)
  | _, _, .tup e h => .tup (k _ _ not0 e) (DqAll.kp k h)
theorem DqAll.kp {H H' : Hp} (k : Kp [] H H') : ∀ {ds : List PyData} {vs : List V}, DqAll H vs ds → DqAll H' vs ds
  | _, _, .nil => .nil
  | _, _, .cons h t => .cons (Dq.kp k h) (DqAll.kp k t)
end
mutual
theorem Dq.dp {K : PySem.W.Frag} {H : Hp} : ∀ {d : PyData} {v : V}, Dq H v d → Dp K H v d
  | _, _, .non => .non
  | _, _, .bl b => .bl b
  | _, _, .int i => .int i
  | _, _, .str x => .str x
  | _, _, .lst e h => .lst (sq_l e) (DqAll.dp h)
  | _, _, .tup e h => .tup (sq_t e) (DqAll.dp h)
theorem DqAll.dp {K : PySem.W.Frag} {H : Hp} : ∀ {ds : List PyData} {vs : List V}, DqAll H vs ds → DpAll K H vs ds
  | _, _, .nil => .nil
  | _, _, .cons h t => .cons (Dq.dp h) (DqAll.dp t)
end
theorem DqAll.len {H : Hp} : ∀ {ds : List PyData} {vs : List V}, DqAll H vs ds → vs.length = ds.length
  | _, _, .nil => rfl
  | _, _, .cons h t => by rw [List.length_cons, List.length_cons, t.len]
theorem DqAll.get {H : Hp} : ∀ {ds : List PyData} {vs : List V}, DqAll H vs ds → ∀ {i : Nat} {v : V}, vs[i]? = some v → ∃ d, ds[i]? = some d ∧ Dq H v d
  | _, _, .nil, _, _, e => nomatch e
  | _, _, .cons h t, 0, _, e => by cases e; exact ⟨_, rfl, h⟩
  | _, _, .cons h t, i + 1, _, e => t.get (i := i) e
/-- its class -/
def tyD : PyData → String
  | .none => "NoneType"
  | .bool _ => "bool"
  | .int _ => "int"
  | .str _ => "str"
  | .list _ => "list"
  | .tuple _ => "tuple"
  | _ => "object"
theorem Dq.ty {K : PySem.W.Frag} {H : Hp} {v : V} {d : PyData} (h : Dq H v d) : TyOf K H v (.type (tyD d)) := by
  cases h with
  | non => exact .non
  | bl b => exact .bl b
  | int i => exact .int i
  | str x => exact .str x
  | lst e h => exact .lst e
  | tup e h => exact .tup e
def six (d : PyData) : Prop := match d with
  | .none | .bool _ | .int _ | .str _ | .list _ | .tuple _ => True
  | _ => False
theorem Dq.six {H : Hp} {v : V} {d : PyData} (h : Dq H v d) : six d := by
  cases h <;> exact True.intro
def isStrD : PyData → Bool | .str _ => true | _ => false
def isTupD : PyData → Bool | .tuple _ => true | _ => false
def isLstD : PyData → Bool | .list _ => true | _ => false
def isIntD : PyData → Bool | .int _ | .bool _ => true | _ => false
def isBoolD : PyData → Bool | .bool _ => true | _ => false
section
variable {K : PySem.W.Frag} {H : Hp} {Q : VK} {v : V} {d : PyData}
theorem isi_D (h : Dq H v d) {m : String} {b : Bool} (k : kitB (tyD d) m = some b) (q : Q (.bl b) H) : rIsi K [v, .ty m] H Q := isi_mk h.ty k q
theorem isi_Dstr (h : Dq H v d) (q : Q (.bl (isStrD d)) H) : rIsi K [v, .ty "str"] H Q := isi_D h (by cases h <;> simp only [tyD, isStrD, isTupD, isLstD, isIntD, isBoolD] <;> decide +kernel) q
theorem isi_Dtup (h : Dq H v d) (q : Q (.bl (isTupD d)) H) : rIsi K [v, .ty "tuple"] H Q := isi_D h (by cases h <;> simp only [tyD, isStrD, isTupD, isLstD, isIntD, isBoolD] <;> decide +kernel) q
theorem isi_Dlst (h : Dq H v d) (q : Q (.bl (isLstD d)) H) : rIsi K [v, .ty "list"] H Q := isi_D h (by cases h <;> simp only [tyD, isStrD, isTupD, isLstD, isIntD, isBoolD] <;> decide +kernel) q
theorem isi_Dint (h : Dq H v d) (q : Q (.bl (isIntD d)) H) : rIsi K [v, .ty "int"] H Q := isi_D h (by cases h <;> simp only [tyD, isStrD, isTupD, isLstD, isIntD, isBoolD] <;> decide +kernel) q
theorem isi_Dbool (h : Dq H v d) (q : Q (.bl (isBoolD d)) H) : rIsi K [v, .ty "bool"] H Q := isi_D h (by cases h <;> simp only [tyD, isStrD, isTupD, isLstD, isIntD, isBoolD] <;> decide +kernel) q
end
/-! ### xs.remove(text) -/
def eqs (z : Str) (v : Value) : Bool := match v with
  | .str y _ => y == z
  | _ => false
theorem str_beq' (w z : Str) : (w == z) = (w.cps.toList == z.cps.toList) := by
  rw [Bool.eq_iff_iff, beq_iff_eq, beq_iff_eq]
  constructor
  · rintro rfl; rfl
  · intro h
    obtain ⟨a⟩ := w
    obtain ⟨b⟩ := z
    obtain ⟨a⟩ := a
    obtain ⟨b⟩ := b
    have h' : a = b := h
    rw [h']
def rRemS : V → List V → Hp → VK → Prop := fun x xs H Q => ∃ (l : Addr) (zs : List Str) (z : Str) (j : Nat), x = .ref l ∧ xs = [.str z] ∧ H l = some (.lst (zs.map V.str)) ∧ zs[j]? = some z ∧ (∀ m : Nat, m < j → zs[m]? ≠ some z) ∧ Q .non (upd H l (.lst ((zs.eraseIdx j).map V.str)))
theorem vals_str : ∀ {zs : List Str} {us : List Value}, Vals (zs.map V.str) us → ∀ {i : Nat} {u : Value}, us[i]? = some u → ∃ y t, u = .str y t ∧ zs[i]? = some y
  | [], _, r, _, _, e => by cases r; cases e
  | z :: zs, us, r, i, u, e => by
    rw [List.map_cons] at r
    cases r with
    | cons r0 rt =>
      match i, e with
      | 0, e =>
        cases e
        obtain ⟨t, rfl⟩ := r0
        exact ⟨z, t, rfl, rfl⟩
      | i + 1, e => exact vals_str rt (i := i) e
theorem erase_mapS : ∀ (l : List Str) (j : Nat), (l.map V.str).eraseIdx j = (l.eraseIdx j).map V.str
  | [], j => by simp
  | _ :: _, 0 => by simp
  | _ :: r, j + 1 => by simp [erase_mapS r j]
theorem eqs_ok (w z : Str) (tw t : Tok) : MeetsSeq.EqGives (.str w tw) (.str z t) (eqs z (.str w tw)) := by
  have e : eqs z (.str w tw) = (w.cps.toList == z.cps.toList) := (str_beq' w z)
  rw [e]
  exact SeqRoads2.EqGives.str w z tw t
theorem mt_removeS {X : Cx} : MtM X "list.remove" rRemS := by
  intro pins s σ H x xs v us Q I rx rxs h
  obtain ⟨l, zs, z, j, rfl, rfl, hH, hj, hno, q⟩ := h
  cases rx
  obtain ⟨u, rfl, ru⟩ := rxs.one
  obtain ⟨t, rfl⟩ := ru
  obtain ⟨hz, its, n, r, hl, e⟩ := I.lstM hH
  rw [List.length_map] at hl hz
  have hjn : j < zs.length := (List.getElem?_eq_some_iff.mp hj).1
  have hjl : j < its.toArray.size := by rw [List.size_toArray]; omega
  have each : ∀ y, y ∈ its.toArray → MeetsSeq.EqGives y (.str z t) (eqs z y) := fun y hy => by
    obtain ⟨i, hi, e1⟩ := List.mem_iff_getElem.mp (show y ∈ its by simpa using hy)
    obtain ⟨w, tw, rfl, _⟩ := vals_str r (i := i) (by rw [List.getElem?_eq_getElem hi, e1])
    exact eqs_ok w z tw t
  have at_ : ∀ m (hm : m < its.toArray.size), ∃ t', its.toArray[m] = .str (zs[m]'(by rw [List.size_toArray] at hm; omega)) t' := fun m hm => by
    have hm' : m < its.length := by simpa using hm
    obtain ⟨w, tw, ew, ez⟩ := vals_str r (i := m) (List.getElem?_eq_getElem hm')
    have hmz : m < zs.length := by omega
    rw [List.getElem?_eq_getElem hmz] at ez
    exact ⟨tw, by rw [Option.some.inj ez]; simpa using ew⟩
  refine call_meets PySem.F.slot_list_remove ⟨_, e, rfl⟩ PySem.F.entry_list_remove (PySem.F.args_list_remove_2 _ _) (MeetsSeq.list_remove l its.toArray n (.str z t) (eqs z) each j hjl ?_ ?_ (by rw [List.size_toArray]; omega)) ⟨e, ?_⟩
  · obtain ⟨t', et⟩ := at_ j hjl
    rw [List.getElem?_eq_getElem hjn] at hj
    rw [et, Option.some.inj hj]
    exact beq_self_eq_true z
  · intro m hm hmj
    obtain ⟨t', et⟩ := at_ m hm
    rw [et]
    refine beq_eq_false_iff_ne.mpr fun e2 => hno m hmj ?_
    rw [← e2]
    exact List.getElem?_eq_getElem _
  · have rr := r.eraseIdx j
    rw [erase_mapS] at rr
    refine ⟨.non, _, I.lset (its' := its.eraseIdx j) (t' := s.toks) hH e ?_ rr ?_, rfl, q⟩
    · show its.toArray.eraseIdxIfInBounds j = (its.eraseIdx j).toArray
      rw [List.eraseIdxIfInBounds_toArray]
    · have := List.length_eraseIdx_le zs j
      rw [List.length_map]
      omega
/-! ### repr of data, nothing being shown -/
def rReprD (K : PySem.W.Frag) : List V → Hp → VK → Prop := fun xs H Q => ∃ (a : Addr) (d : PyData), xs = [.ref a] ∧ Dp K H (.ref a) d ∧ d.showable = true ∧ d.hasDict = false ∧ d.depth ≤ 60 ∧ d.shown.length ≤ sizeLine ∧ Q (.str d.shown) H
theorem call_reprD {X : Cx} (gd : X.A.guards = some [] ∧ X.A.units + 64 < cLine) : CallR X (.builtin "repr") (rReprD X.K) := by
  intro pins s σ H xs us Q I r h
  obtain ⟨a, d, rfl, hd, hs, hn, hp, hz, q⟩ := h
  obtain ⟨u, rfl, ru⟩ := vals1 r
  obtain ⟨as, rd⟩ := Dp.reads I d (.ref a) u hd ru
  cases (show u = Value.ref a from ru)
  refine repr_of_reads' rd hs (PyData.noDict_hsm hn) gd.1 (by omega) (fun _ _ e => e) (fun h' t tk hk => ⟨.str _, H, I.kept (t' := tk) hk, ⟨_, rfl⟩, q⟩) hz
/-! ### an own class made where what is raised is wished for at the slots -/
def tMakeS (C : Addr) (sp : Sp) (dvs : List V) (E : L2.St → XK) (t : TA) : TE := fun σ H Q => t σ H fun vs H1 => ∀ o d, H1 o = none → H1 d = none → d ≠ o → sp (.ref o :: (vs ++ dvs)) (upd (upd H1 d (.own o)) o (.ins C d [])) (fun v H2 => v = .non ∧ Q (.ref o) H2) (E σ)
section
variable {X : Cx} {CX : CXT} {k : Nat} {f C : Addr} {fd : FuncData} {ps : List Str} {sp : Sp} {dvs : List V} {ds : List Value} {E : L2.St → XK} {x : Str} {p pos : Pos} {e : Expr} {es : List Expr} {t : TA}
theorem pe_makeS (M : Mk X.K C f) (F : FnOk X.prog X.w X.K X.mg X.base CX k f fd ps sp) (hr : Room (k + 1) X.A) (hg : Gl X x) (hm : X.mg x = some (.ref C)) (hb : Binds X.K fd ps ds) (hd : Vals dvs ds) (hx : ∀ σ, PassesAt CX X σ (E σ)) (ha : PA X (e :: es) t)
    (hdb : (x == ("__debug__" : Str)) = false := by decide) (he : starEach (e :: es) X.env = (false, eval e X.env) :: starEach es X.env := by rfl) (hpl : (backTo pos (starEach es X.env)).any (·.1) = false := by rfl) :
    PE X (.Call (.Name x p) (e :: es) [] pos) (tMakeS C sp dvs E t) := by
  refine ⟨fun pins s σ H Q I h => wpAny_Call_Name_kw (ld_glob I hg hm ?_ hdb)⟩
  refine PySem.W.callWith_K (h₀ := X.base) I.ok.mod.kin M.kp (thn (ha.run pos pins s σ H _ I h) fun us s1 ⟨vs, H1, I1, r, q⟩ => ⟨I1.kIn, ?_⟩) he hpl
  have g0 : H1 (s1.heap.objs.size + 1) = none := I1.hok.fresh (Nat.le_succ _)
  have g1 : H1 s1.heap.objs.size = none := I1.hok.fresh (Nat.le_refl _)
  have todo := q _ _ g0 g1 (Nat.ne_of_lt (Nat.lt_succ_self _))
  have J := Inv.made (C := C) I1
  have rr : Vals (V.ref (s1.heap.objs.size + 1) :: (vs ++ dvs)) (Value.ref (s1.heap.objs.size + 1) :: (us ++ ds)) := .cons rfl (r.append hd)
  have many : (Value.ref (s1.heap.objs.size + 1) :: us ++ ds).length = ps.length := (rr.length.symm.trans (F.len _ _ _ _ todo))
  refine wpAny_call (make_map (f := f) I1.kIn M.makes M.init (beq_iff_eq.mp M.fn) (codeAny_mono (F.run _ X.stack _ _ ⟨_, []⟩ _ _ _ (E σ) (hr.make C us []) (J.env0.make C us []) (hb _ (Value.ref (s1.heap.objs.size + 1) :: us) J.kIn many) rr todo) fun
    | .error er, s2, z => hx σ pins _ _ er s2 J z
    | .ok (.ret u), s2, z => ?_
    | .ok .next, _, z => False.elim z
    | .ok .brk, _, z => False.elim z
    | .ok .cont, _, z => False.elim z))
  obtain ⟨v, H3, J3, rv, rfl, z3⟩ := J.after z
  exact ⟨rv, .ref (s1.heap.objs.size + 1), H3, J3, rfl, z3⟩
end
end My

set_option Elab.async false
set_option linter.all false
set_option maxRecDepth 100000
set_option maxHeartbeats 4000000
/-! ### defs that close over their class, and super().__init__(..) of an own error -/
namespace My
open PySem L2 NdefX
/-- a block whose activation is known -/
structure PSat (X : Cx) (c : Code) (body : List Stmt) (t : TS) : Prop where
  run : ∀ (pins : List (Addr × Obj)) (s : Shared) (σ : L2.St) (H : Hp) (D : Ends), Inv X pins σ H s → t D σ H → wpAt (model X.prog X.w) X.A c (execs body X.env) (SP X pins D) X.xe s
structure PSat1 (X : Cx) (c : Code) (st : Stmt) (t : TS) : Prop where
  run : ∀ (pins : List (Addr × Obj)) (s : Shared) (σ : L2.St) (H : Hp) (D : Ends), Inv X pins σ H s → t D σ H → wpAt (model X.prog X.w) X.A c (exec st X.env) (SP X pins D) X.xe s
theorem psat_of {X : Cx} {c : Code} {body : List Stmt} {t : TS} (h : PSs X body t) : PSat X c body t := ⟨fun pins s σ H D I q => wpAt_of_wpAny (h.run pins s σ H D I q)⟩
theorem psat_cons {X : Cx} {c : Code} {st : Stmt} {rest : List Stmt} {t u : TS} (h1 : PSat1 X c st t) (h2 : PSs X rest u) : PSat X c (st :: rest) (tSeq t u) := by
  refine ⟨fun pins s σ H D I q => ?_⟩
  refine PySem.ks_wpAt_execs_cons (wpAt_mono (h1.run pins s σ H { D with nx := u D } I q) (fun f s1 r => ?_) fun _ _ z => z)
  cases f with
  | next =>
    obtain ⟨σ', H', I', r⟩ := r
    exact wpAt_of_wpAny (h2.run pins s1 σ' H' D I' r)
  | brk => exact r
  | cont => exact r
  | ret u => exact r
/-- the words of a def that closes over its class -/
def nfOf (x qual : Str) (st : Stmt) (cc cda : Addr) : NF := ⟨x, qual, defArgs st, defBody st, defScope st, [("__class__", cc)], cda⟩
structure FunX (K : PySem.W.Frag) (x qual : Str) (st : Stmt) (f : Addr) (fd : FuncData) (cc cda D : Addr) : Prop where
  ex : ∃ (oc : Value) (od : Option Addr) (kV doc pm : Value) (an : Option Addr) (ct : Value) (osl : Array (Option Value)),
    fd = PySem.W.fnX x qual (defArgs st) (defBody st) (defScope st) [("__class__", cc)] .none kV doc pm an (.ref cda) ct ∧ K.lookup f = some ⟨oc, od, .func fd, osl⟩ ∧ PySem.W.codeIn K (.ref cda) qual = true
  cell : ∃ (cl : Value) (cld : Option Addr) (csl : Array (Option Value)), K.lookup cc = some ⟨cl, cld, .cell (some (.ref D)), csl⟩
  kp : PySem.W.keepIn K (.ref f) = true
section
variable {P : Program} {w : World} {K : PySem.W.Frag} {mg : Str → Option Value} {base : Heap}
abbrev cxX (CX : CXT) (P : Program) (w : World) (K : PySem.W.Frag) (mg : Str → Option Value) (base : Heap) (N : List Str) (x qual : Str) (st : Stmt) (cc cda f : Addr) (A : Around) (outer : List Env) (s : Shared) (H : Hp) (E : XK) : Cx := ncx CX P w K mg base N (nfOf x qual st cc cda) f A outer s H E
theorem FunX.ok {CX : CXT} {x qual : Str} {st : Stmt} {f cc cda D : Addr} {fd : FuncData} {N ps : List Str} {k : Nat} {sp : Sp} (F : FunX K x qual st f fd cc cda D) (S : NScope N ps ["__class__"] (defScope st)) (len : ∀ vs H Q E, sp vs H Q E → vs.length = ps.length)
    (hbody : ∀ (A : Around) (outer : List Env) (s : Shared) (H : Hp) (vs : List V) (Q : VK) (E : XK), Room k (A.deeper (envF (nfOf x qual st cc cda) f s.heap.objs.size)) → sp vs H Q E →
      ∃ t, PSat (cxX CX P w K mg base N x qual st cc cda f A outer s H E) (.func (defBody st) (envF (nfOf x qual st cc cda) f s.heap.objs.size)) (defBody st) t ∧ t { nx := fun _ H' => Q .non H', rt := Q } (startF N vs [some (.ref D)]) H) :
    FnOk P w K mg base CX (k + 1) f fd ps sp := by
  obtain ⟨oc, od, kV, doc, pm, an, ct, osl, rfl, lk, hcd⟩ := F.ex
  obtain ⟨cl, cld, csl, hcc⟩ := F.cell
  refine ⟨len, fun A outer s H args us vs Q E hr e0 hb r hsp => ?_⟩
  have hl := len _ _ _ _ hsp
  have KX : K.In s.heap := e0.mod.kin.keeps fun b o e => (e0.bs b o e).1
  have lim : s.heap.NoLimit := e0.mod.nolimit.keeps fun b o e => (e0.bs b o e).1
  have hcB := e0.mod.kin _ _ hcc
  have C : CellsAt (nfOf x qual st cc cda).cl ["__class__"] [some (.ref D)] s.heap H := by
    refine ⟨rfl, fun y c e => ?_, fun a b c e1 e2 => ?_, fun i y e => ?_⟩
    · have e' : (if y = ("__class__" : Str) then some cc else none) = some c := by
        rw [← e]
        show _ = List.lookup y [(("__class__" : Str), cc)]
        rw [List.lookup_cons, List.lookup_nil]
        by_cases h : y = ("__class__" : Str)
        · rw [if_pos h, beq_iff_eq.mpr h]
        · rw [if_neg h, beq_eq_false_iff_ne.mpr h]
      split at e'
      · cases e'
        exact ⟨(e0.bs _ _ hcB).2, _, _, KX _ _ hcc, rfl⟩
      · cases e'
    · have g : ∀ (y : Str) (d : Addr), List.lookup y [(("__class__" : Str), cc)] = some d → y = "__class__" := by
        intro y d e
        rw [List.lookup_cons, List.lookup_nil] at e
        by_cases h : y = ("__class__" : Str)
        · exact h
        · rw [beq_eq_false_iff_ne.mpr h] at e
          cases e
      exact (g a c e1).trans (g b c e2).symm
    · match i, e with
      | 0, e =>
        have ey : y = "__class__" := (Option.some.inj e).symm
        subst ey
        exact ⟨cc, rfl, fun v hv => ⟨.ref D, by cases hv; rfl, _, KX _ _ hcc, rfl⟩⟩
      | i + 1, e => cases e
  refine PySem.ks_codeAny_call_defAt (fd := PySem.W.fnX x qual (defArgs st) (defBody st) (defScope st) [("__class__", cc)] .none kV doc pm an (.ref cda) ct) (body := defBody st) (binds := ps.zip us) hr.depth (KX _ _ lk) rfl lim (PySem.W.codeRec_of KX hcd) rfl hb S.nocell (fun ⟨n, v⟩ hy => S.par n (List.of_mem_zip hy).1) (fun h₁ hns kp => ?_) S.co S.gen S.kind
  obtain ⟨t, ht, hq⟩ := hbody A outer s H vs Q E (hr.deeper _) hsp
  have I : Inv (cxX CX P w K mg base N x qual st cc cda f A outer s H E) [] (startF N vs [some (.ref D)]) H { s with heap := h₁, toks := s.toks + (ps.zip us).length } := inv_startN S hr.hd e0 hl r C hns kp
  refine wpAt_mono (ht.run [] _ (startF N vs [some (.ref D)]) H _ I hq) (fun fl s' hs => ?_) fun e s' hs => hs
  have fin : ∀ {σ' : L2.St} {H' : Hp} {v : V} {u : Value}, Inv (cxX CX P w K mg base N x qual st cc cda f A outer s H E) [] σ' H' s' → L2.RelV v u → Q v H' → CE outer P w H s Q u s' :=
    fun {σ' H' v u} J rv q => ⟨v, H', J.os, J.bare, J.base, J.hok, rv, q⟩
  cases fl with
  | ret u =>
    obtain ⟨v, σ', H', J, rv, q⟩ := hs
    exact fin J rv q
  | next =>
    obtain ⟨σ', H', J, q⟩ := hs
    exact fin (v := V.non) (u := Value.none) J rfl q
  | brk =>
    obtain ⟨_, _, _, q⟩ := hs
    exact False.elim q
  | cont =>
    obtain ⟨_, _, _, q⟩ := hs
    exact False.elim q
end

/-! ### super().__init__(e) -/
/-- what the written part says of an own error that is made by an __init__ of its own: OexC, its place in the chain -/
structure ErrC (K : PySem.W.Frag) (C : Addr) : Prop where
  ox : OexC K C
  sup : PySem.W.ks_superIn K C C "__init__" = some (some (.builtin "ValueError.__init__"))
  isV : PySem.W.subIn K (.ref C) (.type "ValueError") = some true
  opq : PySem.W.nsIn K cStatics "thirdparty.any" = some none
  me : PySem.W.mroIn K C (.ref C) = some true
/-- what the code object of the def tells -/
structure CodeF (K : PySem.W.Frag) (P : Program) (cda : Addr) : Prop where
  at_ : ∃ (ccl : Value) (cdd : Option Addr) (vs : Array Value) (ccs : Array (Option Value)) (file : Str) (tf : Tok), K.lookup cda = some ⟨ccl, cdd, .fields vs, ccs⟩ ∧ vs[2]? = some (.str file tf) ∧ ((P.main.file : Str) == file) = true
  noTop : (P.main.scope.names.lookup ("super" : Str)).isSome = false
/-- the reading: the text is reckoned, nothing more -/
def tSupI (C : Addr) (ta : TA) : TS := fun D σ H => ∃ a : Addr, σ[0]? = some (some (.ref a)) ∧ H a = some (exo a C none) ∧ ta σ H fun vs H1 => vs.length ≤ 1000 ∧ H1 a = some (exo a C none) ∧ D.nx σ H1
section
variable {X : Cx}
theorem psat_sup {body : List Stmt} {f cc cda C : Addr} {fd : FuncData} {oc : Value} {od : Option Addr} {osl : Array (Option Value)} {cl : Value} {cld : Option Addr} {csl : Array (Option Value)} {ar : Arg} {e : Expr} {es : List Expr} {ta : TA} {p0 p1 apos cpos pos : Pos} {pl : Sem Bool}
    (T : ErrC X.K C) (G : CodeF X.K X.prog cda)
    (hf : X.K.lookup f = some ⟨oc, od, .func fd, osl⟩) (hp : (fd.params.posonlyargs ++ fd.params.args).head? = some ar)
    (hcell : X.K.lookup cc = some ⟨cl, cld, .cell (some (.ref C)), csl⟩) (hsuper : X.mg "super" = none)
    (hfu : X.env.func = some f) (hco : X.env.code = .ref cda) (hcl : X.env.cells.lookup ("__class__" : Str) = some cc)
    (hks : X.env.scope.names.lookup ("super" : Str) = some .globalImplicit) (hkc : X.env.scope.names.lookup ("__class__" : Str) = some .free) (hka : X.env.scope.names.lookup ar.arg = some .local)
    (hN : X.N[0]? = some ar.arg) (ha : PA X (e :: es) ta)
    (hev : eval (.Call (.Attribute (.Call (.Name "super" p0) [] [] p1) "__init__" apos) (e :: es) [] cpos) X.env = (do
      let ov ← attributeBase (.Call (.Name "super" p0) [] [] p1) "__init__" X.env (eval (.Call (.Name "super" p0) [] [] p1) X.env)
      standAt apos.atName
      let (f, first) ← holding [ov] (getMethod ov "__init__" pl)
      callWith cpos f first (backTo cpos (starEach (e :: es) X.env)) []))
    (hst : starEach (e :: es) X.env = (false, eval e X.env) :: starEach es X.env) (hpl : (backTo cpos (starEach es X.env)).any (·.1) = false)
    (hsw : swapsWith (.Call (.Attribute (.Call (.Name "super" p0) [] [] p1) "__init__" apos) (e :: es) [] cpos) none pos.line X.env = pure false) (hint : interactive X.env = false) :
    PSat1 X (.func body X.env) (.Expr (.Call (.Attribute (.Call (.Name "super" p0) [] [] p1) "__init__" apos) (e :: es) [] cpos) pos) (tSupI C ta) := by
  refine ⟨fun pins s σ H D I h => ?_⟩
  obtain ⟨a, hσ, ea, q⟩ := h
  obtain ⟨ccl, cdd, vs, ccs, file, tf, hcode, hvs, hfile⟩ := G.at_
  obtain ⟨nm, qn, N, bs, bm, sn, sub, ab, col, dd, k0, k1, k2, k3, k5, hC, hbm⟩ := T.ox.cls
  have hcls : PySem.W.clsIn X.K C = some { name := nm, bases := bs, mro := .ref C :: bm, ns := N, qualname := qn, hasDict := true, slotNames := sn, subclasses := sub, abstract := ab, collection := col, hasDel := false } := by unfold PySem.W.clsIn; rw [hC] <;> rfl
  obtain ⟨t1, ho⟩ := exo_at I.hok ea
  obtain ⟨hh, g, d, t, os⟩ := s
  have XK := I.kIn
  obtain ⟨mb, hb1, hb2⟩ := I.mod.blt
  obtain ⟨m, hn, hl⟩ := id I.loc
  obtain ⟨u0, ru0, lk0⟩ := hl 0 ar.arg (.ref a) hN hσ (.inl hka)
  obtain rfl : u0 = Value.ref a := ru0
  have hv : m ar.arg = some (Value.ref a) := by
    rcases lk0 with ⟨_, e⟩ | ⟨z, _⟩
    · exact e
    · exfalso
      rcases z with z | z
      · have z' : X.env.scope.names.lookup ar.arg = some .cell := z
        rw [hka] at z'; cases z'
      · have z' : X.env.scope.names.lookup ar.arg = some .free := z
        rw [hka] at z'; cases z'
  refine PySem.ks_wpAt_Expr_any (PySem.ks_wpAt_MethodCall ?_ hev) hint hsw
  refine PySem.ks_wpAt_super_base (env := X.env) hks hkc (by decide) hfu (XK _ _ hf) rfl hp hco (XK _ _ hcode) rfl hvs hfile G.noTop ?_
  refine PySem.W.ks_loadName_global I.ok.kind hks (PySem.Calls.loadGlobal_builtin (by rw [I.ok.glob]; exact I.mod.glob.keeps I.bk) hsuper (by rw [I.ok.blt]; exact hb1.keeps I.bk) ((hb2 "super" (by decide)).trans (by decide +kernel)) ⟨rfl, ?_⟩)
  refine wpAny_loadName_free I.ok.kind hkc hcl ⟨_, XK _ _ hcell, rfl⟩ ?_
  refine wpAny_loadName_local I.ok.kind hka hn hv ?_
  refine ks_wpAny_isType_cls (XK _ _ hC) rfl ⟨rfl, ?_⟩
  refine ks_wpAny_call_super (XK _ _ hC) rfl ho rfl (fun c z => nomatch z) (PySem.W.looks_mroIn XK T.me) (fun h' e1 k1' => ?_)
  have I1 : Inv X pins σ H ⟨h', g, d, t, os⟩ := I.kept (t' := t) k1'
  have X1 := I1.kIn
  have ho1 := k1' _ _ ho
  have IA : PySem.W.InstAt h' a _ C none := ⟨ho1, rfl, rfl, trivial⟩
  refine PySem.W.kxs_getMethod PySem.W.kxs_ValueError e1 (PySem.W.looks_opaque X1 T.opq) (l₀ := .ref C :: bm) ?_ rfl X1 ?_ (IA.type.andThen (PySem.W.looks_subIn X1 T.isV)) (PySem.W.ks_ne X1 IA hcls) (by decide) ?_
  · exact fun A Q E s k q => wpAny_bind ((PySem.W.looks_clsIn X1 hcls) A _ E s k (wpAny_pure q))
  · have q1 := T.sup
    unfold PySem.W.ks_superIn at q1
    rw [hcls] at q1
    exact q1
  have I2 : Inv X pins σ H ⟨h'.push (PySem.W.kxs_mw "ValueError.__init__" a), g, d, t + 1, os⟩ := I1.kept (t' := t + 1) (fun b o z => Heap.get?_push_of_some _ z)
  have hu2 : (h'.push (PySem.W.kxs_mw "ValueError.__init__" a)).get? h'.objs.size = some (PySem.W.kxs_mw "ValueError.__init__" a) := Heap.get?_push_size _ rfl
  have hHu : H h'.objs.size = none := I1.hok.fresh (Nat.le_refl _)
  have J2 : Inv X ((h'.objs.size, PySem.W.kxs_mw "ValueError.__init__" a) :: pins) σ H ⟨h'.push (PySem.W.kxs_mw "ValueError.__init__" a), g, d, t + 1, os⟩ := by
    refine I2.pins_of fun p hp => ?_
    rcases List.mem_cons.mp hp with rfl | hp
    · exact ⟨hu2, hHu, Nat.ne_of_gt I1.lt, I1.nofs (Nat.le_refl _), fun v z => nomatch z⟩
    · exact I2.pin p (List.mem_append_right _ hp)
  have key : wpAny (model X.prog X.w) X.A (spliced (backTo cpos (starEach (e :: es) X.env))) (fun vs s₁ => PySem.W.KxsAt "ValueError.__init__" h'.objs.size a s₁.heap ∧ wpAny (model X.prog X.w) X.A (call (.ref h'.objs.size) vs) (fun _ => SP X pins D .next) X.xe s₁) X.xe ⟨h'.push (PySem.W.kxs_mw "ValueError.__init__" a), g, d, t + 1, os⟩ := by
    refine thn (ha.run cpos _ _ σ H _ J2 q) fun us s3 ⟨vs3, H1, I3, rv, hvl, ea1, qn⟩ => ?_
    have hu3 := (I3.pin (h'.objs.size, PySem.W.kxs_mw "ValueError.__init__" a) (List.mem_append_right _ List.mem_cons_self)).1
    refine ⟨hu3, ?_⟩
    have J3 : Inv X pins σ H1 s3 := I3.pins_of fun p hp => I3.pin p (List.mem_append_right _ (List.mem_cons_of_mem _ hp))
    obtain ⟨t2, ho3⟩ := exo_at J3.hok ea1
    have hus : us.length ≤ sizeLine := by
      rw [← Paired.length rv, sizeLine_eq]; omega
    have hC3 := J3.kIn _ _ hC
    obtain ⟨h3, g3, d3, tk3, os3⟩ := s3
    refine wpAny_call (codeAny_of_tree ?_)
    show wpAny _ X.A.in1 (callAny (.ref h'.objs.size) ⟨us, []⟩) _ _ _
    simp only [callAny]
    refine wpAny_bind (wpAny_load hu3 ?_)
    simp only [PySem.W.kxs_mw, show (Value.type "method-wrapper" == Value.type "method" || Value.type "method-wrapper" == Value.type "builtin_function_or_method" || Value.type "method-wrapper" == Value.type "method-wrapper") = true by decide, if_true]
    refine PySem.W.KFB.if_so (by decide) ?_
    refine wpAny_bind (PySem.W.check_bound_init F.excBase_ValueError.toExcCallFacts hC3 ho3 rfl ?_)
    refine wpAny_bind (wpAny_pure (wpAny_pure ?_))
    refine ⟨plainId_quiet F.excBase_ValueError.init.plain _, codeAny_builtin F.excBase_ValueError.initEntry ?_⟩
    refine PySem.W.exc_init_tree (cls := .ref C) (t0 := t2) (dv := none) (c2 := .none) (c3 := .none) (b4 := .bool false) ho3 hus fun h4 k4 hx4 ht4 => ?_
    have J := J3.write (t' := tk3) (x := a) (e := a) (o := exo a C none) (h' := h4) (by rw [ea1]; exact True.intro) (.inl rfl) k4 ⟨_, hx4⟩ (exo_ok hx4)
    have eu : upd H1 a (exo a C none) = H1 := by
      funext b
      by_cases hb : b = a
      · rw [hb, upd_same, ea1]
      · rw [upd_ne hb]
    rw [eu] at J
    exact ⟨σ, H1, J, qn⟩
  rw [hst] at key ⊢
  refine PySem.W.kxs_callWith (i := "ValueError.__init__") (x := a) (by show (false || (backTo cpos (starEach es X.env)).any (·.1)) = false; rw [hpl]; rfl) ?_
  exact PySem.Calls.evalArgs_plain key
end
end My

set_option Elab.async false
set_option linter.all false
set_option maxRecDepth 100000
set_option maxHeartbeats 4000000
/-! ### own errors: made, raised, caught, asked -/
namespace My
open PySem L2 NdefX
/-- __init__ of an error with one field: what it promises -/
def spErr1 (C : Addr) (f : Str) (P : V → Prop) : Sp := fun vs H Q _ => ∃ (a : Addr) (v : V), vs = [.ref a, v] ∧ P v ∧ H a = some (exo a C none) ∧ ∀ dx, H dx = none → dx ≠ a → Q .non (upd (upd H dx (exd dx [(f, v)])) a (exo a C (some dx)))
/-- .. with two fields -/
def spErr2 (C : Addr) (f g : Str) (P : V → V → Prop) : Sp := fun vs H Q _ => ∃ (a : Addr) (v u : V), vs = [.ref a, v, u] ∧ P v u ∧ H a = some (exo a C none) ∧ ∀ dx, H dx = none → dx ≠ a → Q .non (upd (upd (upd H dx (exd dx [(f, v)])) a (exo a C (some dx))) dx (exd dx [(g, u), (f, v)]))
theorem err_kp {H1 H2 : Hp} {a dx : Addr} {fs : List (Str × V)} (na : H1 a = none) (nd : H1 dx = none) (k : ∀ b, b ≠ a → b ≠ dx → H2 b = H1 b) : Kp [] H1 (upd (del H2 a) dx (.xd fs)) := fun b o _ e => by
  have h1 : b ≠ a := ne_of_none e na
  have h2 : b ≠ dx := ne_of_none e nd
  rw [upd_ne h2, del_ne h1, k b h1 h2]
  exact e
theorem err1_made {C : Addr} {f : Str} {P : V → Prop} {v : V} {H1 : Hp} {Q : XK} (hp : P v) (q : ∀ d H', H1 d = none → H' d = some (.xd [(f, v)]) → Kp [] H1 H' → Q (.ref C) (some d) H') :
    ([v] : List V).length ≤ 1000 ∧ ∀ a, H1 a = none → spErr1 C f P (.ref a :: ([v] ++ [])) (upd H1 a (exo a C none)) (fun v H2 => v = .non ∧ ∃ (d : Addr) (fs : List (Str × V)), H2 a = some (exo a C (some d)) ∧ H2 d = some (exd d fs) ∧ H1 d = none ∧ Q (.ref C) (some d) (upd (del H2 a) d (.xd fs))) (fun _ _ _ => False) := by
  refine ⟨by show 1 ≤ 1000; decide, fun a na => ⟨a, v, rfl, hp, upd_same, fun dx ndx hne => ?_⟩⟩
  rw [upd_ne hne] at ndx
  refine ⟨rfl, dx, _, upd_same, by rw [upd_ne hne]; exact upd_same, ndx, q dx _ ndx upd_same (err_kp na ndx fun b h1 h2 => ?_)⟩
  rw [upd_ne h1, upd_ne h2, upd_ne h1]
theorem err2_made {C : Addr} {f g : Str} {P : V → V → Prop} {v u : V} {H1 : Hp} {Q : XK} (hp : P v u) (q : ∀ d H', H1 d = none → H' d = some (.xd [(g, u), (f, v)]) → Kp [] H1 H' → Q (.ref C) (some d) H') :
    ([v, u] : List V).length ≤ 1000 ∧ ∀ a, H1 a = none → spErr2 C f g P (.ref a :: ([v, u] ++ [])) (upd H1 a (exo a C none)) (fun v H2 => v = .non ∧ ∃ (d : Addr) (fs : List (Str × V)), H2 a = some (exo a C (some d)) ∧ H2 d = some (exd d fs) ∧ H1 d = none ∧ Q (.ref C) (some d) (upd (del H2 a) d (.xd fs))) (fun _ _ _ => False) := by
  refine ⟨by show 2 ≤ 1000; decide, fun a na => ⟨a, v, u, rfl, hp, upd_same, fun dx ndx hne => ?_⟩⟩
  rw [upd_ne hne] at ndx
  refine ⟨rfl, dx, _, by rw [upd_ne hne.symm]; exact upd_same, upd_same, ndx, q dx _ ndx upd_same (err_kp na ndx fun b h1 h2 => ?_)⟩
  rw [upd_ne h2, upd_ne h1, upd_ne h2, upd_ne h1]
/-- what the written part says of an error class that is caught and asked -/
structure KitC (K : PySem.W.Frag) (C : Addr) : Prop where
  cl : (PySem.W.clsIn K C).isSome = true
  ga : PySem.W.findIn K (.ref C) "__getattribute__" = some (some (.builtin "BaseException.__getattribute__"))
  gg : PySem.W.findIn K (.ref C) "__getattr__" = some none
  bx : PySem.W.subIn K (.ref C) (.type "BaseException") = some true
  hc : PySem.W.findIn K (.ref C) "__class__" = some (some (.builtin "object.__class__"))
  hn : PySem.W.specialIn K (.builtin "object.__class__") "__get__" = some (some (.builtin "getset_descriptor.__get__"))
  ht : PySem.W.takesIn K (.builtin "object.__class__") = some true
  ob : PySem.W.mroIn K C (.type "object") = some true
/-- isinstance(e, c), e the error that the suite holds -/
def rIsX (K : PySem.W.Frag) (a : Addr) (cls : Value) (d : Option Addr) : List V → Hp → VK → Prop := fun xs H Q => ∃ (c : V) (cv : Value) (b : Bool) (D dd : Addr) (fs : List (Str × V)), xs = [.ref a, c] ∧ (∀ u, RelV c u → u = cv) ∧ cls = .ref D ∧ d = some dd ∧ H dd = some (.xd fs) ∧ KitC K D ∧ PySem.W.kitOne K (.ref D) cv = some b ∧ Q (.bl b) H
/-- .. a tuple of classes that was just laid -/
def rIsXT (K : PySem.W.Frag) (a : Addr) (cls : Value) (d : Option Addr) : List V → Hp → VK → Prop := fun xs H Q => ∃ (tp : Addr) (cs : List V) (us : List Value) (b : Bool) (D dd : Addr) (fs : List (Str × V)), xs = [.ref a, .ref tp] ∧ H tp = some (.tup cs) ∧ Paired ClsV cs us ∧ cls = .ref D ∧ d = some dd ∧ H dd = some (.xd fs) ∧ KitC K D ∧ PySem.W.kitAny K (.ref D) us = some b ∧ Q (.bl b) H
section
variable {X : Cx} {a : Addr} {oe : Obj} {cls : Value} {d : Option Addr} {pn : List (Addr × Obj)}
theorem inst_x {pins : List (Addr × Obj)} {s : Shared} {σ : L2.St} {H : Hp} {D dd : Addr} {fs : List (Str × V)} (I : Inv (X.suite a ((a, oe) :: pn)) pins σ H s) (hz : Zc (.ref D) (some dd) oe) (hf : ∃ vs, oe.data = .fields vs) (e : H dd = some (.xd fs)) : ∃ od, PySem.W.InstAt s.heap a oe D (some od) := by
  obtain ⟨ha, _⟩ := I.pin (a, oe) (List.mem_append_left _ List.mem_cons_self)
  obtain ⟨vs, hv⟩ := hf
  obtain ⟨mA, hns, _⟩ := (show ObjOk X.prog X.w H s.heap dd (.xd fs) from I.hok dd _ e)
  obtain ⟨od, ho, _⟩ := lookIn_ns hns
  exact ⟨od, ha, hz.1, by unfold PySem.W.notCls; rw [hv] <;> rfl, by rw [hz.2]; exact ho⟩
theorem call_isX (hz : Zc cls d oe) (hf : ∃ vs, oe.data = .fields vs) : CallR (X.suite a ((a, oe) :: pn)) (.builtin "isinstance") (rIsX X.K a cls d) := by
  intro pins s σ H xs us Q I r h
  obtain ⟨c, cv, b, D, dd, fs, rfl, hcv, rfl, rfl, ed, T, e, q⟩ := h
  obtain ⟨u1, u2, rfl, r1, r2⟩ := vals2 r
  cases (show u1 = Value.ref a from r1)
  cases hcv _ r2
  obtain ⟨od, J⟩ := inst_x I hz hf ed
  exact PySem.W.kia_one (PySem.W.kitx_exc T.cl T.ga T.gg T.bx T.hc T.hn T.ht T.ob) I.kIn J e (fun z => nomatch z) fun tk => ⟨.bl b, H, I.tok tk, rfl, q⟩
theorem call_isXT (hz : Zc cls d oe) (hf : ∃ vs, oe.data = .fields vs) : CallR (X.suite a ((a, oe) :: pn)) (.builtin "isinstance") (rIsXT X.K a cls d) := by
  intro pins s σ H xs us Q I r h
  obtain ⟨tp, cs, ws, b, D, dd, fs, rfl, hT, k, rfl, rfl, ed, T, e, q⟩ := h
  obtain ⟨u1, u2, rfl, r1, r2⟩ := vals2 r
  cases (show u1 = Value.ref a from r1)
  cases (show u2 = Value.ref tp from r2)
  obtain ⟨od, J⟩ := inst_x I hz hf ed
  obtain ⟨_, its, rv, o, h1, h2, n, h3⟩ := (show ObjOk X.prog X.w H s.heap tp (.tup cs) from I.hok tp _ hT)
  cases ClsV.all k rv
  obtain ⟨oc, od2, dt, sl⟩ := o
  simp only at h2 h3
  subst h2 h3
  exact PySem.W.kia_tup (PySem.W.kitx_exc T.cl T.ga T.gg T.bx T.hc T.hn T.ht T.ob) I.kIn J h1 e (fun z => nomatch z) fun tk => ⟨.bl b, H, I.tok tk, rfl, q⟩
end
end My

set_option Elab.async false
set_option linter.all false
set_option maxRecDepth 100000
set_option maxHeartbeats 4000000
namespace My
open PySem L2 NdefX
def top (i : Nat) : Stmt := PySem.Challenge.pw_coretower_k33_pairs_as_sets.main.body.getD i (.Pass ⟨0, 0, 0, 0⟩)
def mtop (i j : Nat) : Stmt := match top i with
  | .ClassDef _ _ _ b _ _ _ _ _ _ _ => b.getD j (.Pass ⟨0, 0, 0, 0⟩)
  | _ => .Pass ⟨0, 0, 0, 0⟩
abbrev s_BadPair_init : Stmt := mtop 2 0
theorem sc_BadPair_init : NScope ["self", "pair", "__class__"] ["self", "pair"] ["__class__"] (defScope s_BadPair_init) := nscope_by (by decide +kernel)
theorem ok_BadPair_init {P : Program} {w : World} {K : PySem.W.Frag} {mg : Str → Option Value} {base : Heap} {CX : CXT} {f cc cda C : Addr} {fd : FuncData} (F : FunX K "__init__" "BadPair.__init__" s_BadPair_init f fd cc cda C) (T : ErrC K C) (G : CodeF K P cda) (hsup : mg "super" = none) (n1 : PySem.W.findIn K (.ref C) "pair" = some none) {Pf : V → Prop} :
    FnOk P w K mg base CX 1 f fd ["self", "pair"] (spErr1 C "pair" Pf) := by
  have F0 := F
  obtain ⟨oc, od, kV, doc, pm, an, ct, osl, hfd, lk, hcd⟩ := F0.ex
  obtain ⟨cl, cld, csl, hcc⟩ := F0.cell
  refine F.ok sc_BadPair_init (fun vs H Q E h => ?_) (fun A outer s H vs Q E hr h => ?_)
  · obtain ⟨a, v, rfl, _⟩ := h
    rfl
  · obtain ⟨a, v, rfl, hp, ha, q⟩ := h
    refine ⟨_, psat_cons (psat_sup T G lk (by rw [hfd]; rfl) hcc hsup rfl rfl rfl rfl rfl rfl rfl (pa_cons pe_str pa_nil) rfl rfl rfl rfl rfl) (pss_one (ps_ost (pv 0) (pv 1))), ?_⟩
    try simp only [tSeq, tIfS, tTest, tOp, tUn, tCB, tCons, tNil, tVar, tC, rI0, rI, rU, rEq, rNe, tRet, tRetN, tAsg, gName, gSub, tBM, tBM0, tNext, tB, tNot, tAnd, tOr, tIf, tCall, tDrop, tBreak, tCont, L2.start, tDGet, sDPut, tTup, tLst, tDNewK, tRevL, rCat, rAppend, rPop, rSetL, tAndV, tOrV, tNotV, tSl, tPart, tNoPart, tM1, gTup, gCons, gNil, cxK, cxnK, List.map_cons, List.map_nil, List.length_cons, List.length_nil, List.replicate, List.cons_append, List.nil_append, List.append_nil, List.set_cons_zero, List.set_cons_succ, List.getElem?_cons_zero, List.getElem?_cons_succ, Option.some.injEq, V.ref.injEq, V.int.injEq, V.str.injEq, V.bl.injEq, V.ty.injEq, exists_eq_left', exists_eq_left, exists_and_left, List.cons.injEq, and_true, true_and, sc_ii, sc_ss, sc_bb, sc_ni, sc_in, sc_is, sc_si, sc_nn, decide_true, decide_false, reduceCtorEq, Bool.false_eq_true, if_true, if_false, ite_true, ite_false, exists_const, eq_self, false_and, and_false, or_false, false_or, exists_false, Evl.rLenS, rSum, wipe, tYes, exists_eq, exists_eq', rIxL, rIxT, rIxS, exists_and_right, gt_iff_lt, not_true_eq_false, not_false_eq_true, Bool.not_true, Bool.not_false, decide_eq_true_eq, Nat.reduceSub, Nat.reduceAdd, List.append_assoc, tChain, tDIn, tDNotIn, sDDel, tAug, ipI, startF, tSupI, tOst]
    exact ⟨ha, by decide, ha, C, T.ox, n1, .inl ⟨ha, q⟩⟩
abbrev s_Pairs_init : Stmt := mtop 9 0
theorem sc_Pairs_init : FnScope ["self", "pairs", "item", "pair"] ["self", "pairs"] (defScope s_Pairs_init) := ⟨rfl, rfl, rfl, by decide +kernel, rfl, by decide +kernel, by decide +kernel⟩
abbrev s_Pairs_contains : Stmt := mtop 9 1
theorem sc_Pairs_contains : FnScope ["self", "x"] ["self", "x"] (defScope s_Pairs_contains) := ⟨rfl, rfl, rfl, by decide +kernel, rfl, by decide +kernel, by decide +kernel⟩
abbrev s_Pairs_len : Stmt := mtop 9 2
theorem sc_Pairs_len : FnScope ["self"] ["self"] (defScope s_Pairs_len) := ⟨rfl, rfl, rfl, by decide +kernel, rfl, by decide +kernel, by decide +kernel⟩
abbrev s_Pairs_iter : Stmt := mtop 9 3
theorem sc_Pairs_iter : FnScope ["self"] ["self"] (defScope s_Pairs_iter) := ⟨rfl, rfl, rfl, by decide +kernel, rfl, by decide +kernel, by decide +kernel⟩
abbrev s_Pairs_and : Stmt := mtop 9 4
theorem sc_Pairs_and : FnScope ["self", "other", "pair"] ["self", "other"] (defScope s_Pairs_and) := ⟨rfl, rfl, rfl, by decide +kernel, rfl, by decide +kernel, by decide +kernel⟩
abbrev s_Pairs_or : Stmt := mtop 9 5
theorem sc_Pairs_or : FnScope ["self", "other"] ["self", "other"] (defScope s_Pairs_or) := ⟨rfl, rfl, rfl, by decide +kernel, rfl, by decide +kernel, by decide +kernel⟩
abbrev s_Pairs_sub : Stmt := mtop 9 6
theorem sc_Pairs_sub : FnScope ["self", "other", "pair"] ["self", "other"] (defScope s_Pairs_sub) := ⟨rfl, rfl, rfl, by decide +kernel, rfl, by decide +kernel, by decide +kernel⟩
abbrev s_Pairs_within : Stmt := mtop 9 7
theorem sc_Pairs_within : FnScope ["self", "other", "pair"] ["self", "other"] (defScope s_Pairs_within) := ⟨rfl, rfl, rfl, by decide +kernel, rfl, by decide +kernel, by decide +kernel⟩
abbrev s_Pairs_between : Stmt := mtop 9 8
theorem sc_Pairs_between : FnScope ["firsts", "seconds", "pair"] ["firsts", "seconds"] (defScope s_Pairs_between) := ⟨rfl, rfl, rfl, by decide +kernel, rfl, by decide +kernel, by decide +kernel⟩
/-! ### pairs of kinds -/
abbrev Pr := Str × Str
def kindsL : List Str := ["read", "acquire", "write", "release", "both"]
def rowP (x : Str) : List Pr := (kindsL.map fun y => (x, y)) ++ (if x = ("write" : Str) ∨ x = ("release" : Str) then [(x, ("return" : Str))] else [])
def pairsL : List Pr := kindsL.flatMap rowP
def pD (p : Pr) : PyData := .tuple [.str p.1, .str p.2]
theorem eqvP (p q : Pr) : PyData.eqv (pD p) (pD q) = decide (p = q) := by
  obtain ⟨a, b⟩ := p
  obtain ⟨c, d⟩ := q
  have e : PyData.eqv (pD (a, b)) (pD (c, d)) = ((a == c) && ((b == d) && true)) := by simp only [pD, PyData.eqv, PyData.eqvAll]
  rw [e, Bool.and_true]
  by_cases h1 : a = c
  · by_cases h2 : b = d
    · simp [h1, h2]
    · simp [h1, h2, beq_eq_false_iff_ne.mpr h2]
  · simp [h1, beq_eq_false_iff_ne.mpr h1]
theorem any_eq {ps : List Pr} {q : Pr} : ((ps.map pD).any fun z => PyData.eqv z (pD q)) = decide (q ∈ ps) := by
  induction ps with
  | nil => simp
  | cons p r ih =>
    rw [List.map_cons, List.any_cons, ih, eqvP]
    by_cases h : p = q
    · simp [h]
    · by_cases h2 : q ∈ r
      · simp [h2]
      · simp [h, h2, Ne.symm h]
/-- what a Pairs of the data ds has -/
def isP (d : PyData) : Bool := (pairsL.map pD).any fun z => PyData.eqv z d
def okStr (z : Str) : Bool := PyData.canLay0 (.str z)
theorem okP {p : Pr} (h : p ∈ pairsL) : SeqAt.shaped (pD p) = true := by
  have : ∀ q ∈ pairsL, SeqAt.shaped (pD q) = true := by decide +kernel
  exact this p h
theorem shapedL {ds : List PyData} (h : ∀ d ∈ ds, SeqAt.shaped d = true ∧ d.depth ≤ 60) : SeqAt.shaped (.list ds) = true ∧ SeqAt.shaped (.tuple ds) = true := by
  have a1 : PyData.canLayAll0 ds = true := by
    induction ds with
    | nil => rfl
    | cons d r ih =>
      have h1 := h d List.mem_cons_self
      show (PyData.canLay0 d && PyData.canLayAll0 r) = true
      rw [SeqAt.canLay_of_shaped h1.1, ih fun x hx => h x (List.mem_cons_of_mem _ hx)]; rfl
  have a2 : PyData.depthAll ds ≤ 60 := by
    clear a1
    induction ds with
    | nil => exact Nat.zero_le _
    | cons d r ih =>
      have h1 := h d List.mem_cons_self
      have h2 := ih fun x hx => h x (List.mem_cons_of_mem _ hx)
      show max d.depth (PyData.depthAll r) ≤ 60
      omega
  have b1 : decide (PyData.depthAll ds + 1 ≤ 64) = true := decide_eq_true (by omega)
  constructor
  · show (PyData.canLayAll0 ds && decide (PyData.depthAll ds + 1 ≤ 64)) = true
    rw [a1, b1]; rfl
  · show (PyData.canLayAll0 ds && decide (PyData.depthAll ds + 1 ≤ 64)) = true
    rw [a1, b1]; rfl
/-- data that may stand in a row -/
def Fit (d : PyData) : Prop := SeqAt.shaped d = true ∧ d.depth ≤ 60
theorem fitP {p : Pr} (h : p ∈ pairsL) : Fit (pD p) := ⟨okP h, by show max 0 (max 0 0) + 1 ≤ 60; decide⟩
theorem fitsP {ps : List Pr} (h : ∀ p ∈ ps, p ∈ pairsL) : ∀ d ∈ ps.map pD, Fit d := fun d hd => by
  obtain ⟨p, hp, rfl⟩ := List.mem_map.mp hd
  exact fitP (h p hp)
def pick (ds : List PyData) : Pr → Bool := fun p => ds.any fun z => PyData.eqv z (pD p)
theorem subP (f : Pr → Bool) : ∀ p ∈ pairsL.filter f, p ∈ pairsL := fun p h => (List.mem_filter.mp h).1
theorem pairs_len : pairsL.length = 27 := by decide +kernel
theorem lenP (f : Pr → Bool) : (pairsL.filter f).length ≤ 27 := by
  rw [← pairs_len]; exact List.length_filter_le _ _
theorem pick_eq {f : Pr → Bool} {p : Pr} (h : p ∈ pairsL) : pick ((pairsL.filter f).map pD) p = f p := by
  unfold pick
  rw [any_eq]
  by_cases e : f p = true
  · rw [e]; exact decide_eq_true (List.mem_filter.mpr ⟨h, e⟩)
  · rw [Bool.not_eq_true] at e
    rw [e]
    exact decide_eq_false fun z => by rw [(List.mem_filter.mp z).2] at e; cases e
theorem filter_same {f g : Pr → Bool} (h : ∀ p ∈ pairsL, f p = g p) : pairsL.filter f = pairsL.filter g := List.filter_congr h
theorem isP_pair {p : Pr} (h : p ∈ pairsL) : isP (pD p) = true := by
  unfold isP
  rw [any_eq]; exact decide_eq_true h
/-- at o a Pairs whose pairs are those of f -/
def PrAt (K : PySem.W.Frag) (PC : Addr) (H : Hp) (o : Addr) (f : Pr → Bool) : Prop := ∃ (dx l : Addr) (vs : List V), H o = some (.ins PC dx [("_pairs", .ref l)]) ∧ H l = some (.lst vs) ∧ DpAll K H vs ((pairsL.filter f).map pD)
/-- .. its list stands at l -/
def PrL (K : PySem.W.Frag) (PC : Addr) (H : Hp) (o l : Addr) (f : Pr → Bool) : Prop := ∃ (dx : Addr) (vs : List V), H o = some (.ins PC dx [("_pairs", .ref l)]) ∧ H l = some (.lst vs) ∧ DpAll K H vs ((pairsL.filter f).map pD)
theorem PrL.at {K : PySem.W.Frag} {PC : Addr} {H : Hp} {o l : Addr} {f : Pr → Bool} (h : PrL K PC H o l f) : PrAt K PC H o f := by
  obtain ⟨dx, vs, a⟩ := h
  exact ⟨dx, l, vs, a⟩
theorem PrAt.kp {K : PySem.W.Frag} {PC : Addr} {H H' : Hp} {o : Addr} {f : Pr → Bool} (h : PrAt K PC H o f) (k : Kp [] H H') : PrAt K PC H' o f := by
  obtain ⟨dx, l, vs, a, b, c⟩ := h
  exact ⟨dx, l, vs, k _ _ not0 a, k _ _ not0 b, dpAllN k noSq0 c⟩
/-- at a a list of the data ds -/
def LsD (K : PySem.W.Frag) (H : Hp) (a : Addr) (ds : List PyData) : Prop := ∃ vs, SqL K H a vs ∧ DpAll K H vs ds
theorem LsD.kp {K : PySem.W.Frag} {H H' : Hp} {a : Addr} {ds : List PyData} (h : LsD K H a ds) (k : Kp [] H H') : LsD K H' a ds := by
  obtain ⟨vs, a, b⟩ := h
  exact ⟨vs, k.ls not0 a, dpAllN k noSq0 b⟩
/-- the tuple of all pairs -/
def PairsK (K : PySem.W.Frag) (T : Addr) : Prop := ∃ xs, ∀ H, SqT K H T xs ∧ DpAll K H xs (pairsL.map pD)
structure PrC (K : PySem.W.Frag) (mg : Str → Option Value) (PC : Addr) : Prop where
  k : mg "Pairs" = some (.ref PC)
  cl : Cls K PC
  n1 : NoAttr K PC "_pairs"
/-- what stands of an own error with one field, and its __init__ -/
structure Er1 (P : Program) (w : World) (K : PySem.W.Frag) (mg : Str → Option Value) (base : Heap) (nm fld : Str) (C f : Addr) (fd : FuncData) (ps : List Str) (Pf : V → Prop) : Prop where
  k : mg nm = some (.ref C)
  ox : OexC K C
  ic : PySem.W.findIn K (.ref C) "__init__" = some (some (.ref f))
  ti : PySem.W.typeIn K (.ref f) = some (.type "function")
  b : Binds K fd ps []
  G : FnOk P w K mg base (L2.CX P w) 1 f fd ps (spErr1 C fld Pf)
structure Bt (K : PySem.W.Frag) (mg : Str → Option Value) (T_PAIRS : Addr) : Prop where
  b_len : mg "len" = none
  b_iter : mg "iter" = none
  b_all : mg "all" = none
  c_PAIRS : mg "PAIRS" = some (.ref T_PAIRS)
  pk : PairsK K T_PAIRS
def spPI (K : PySem.W.Frag) (PC BP : Addr) : Sp := fun vs H Q E => ∃ (o dx a : Addr) (xs : List V) (ds : List PyData), vs = [.ref o, .ref a] ∧ H o = some (.ins PC dx []) ∧ SqAny K H a xs ∧ DpAll K H xs ds ∧ (∀ d ∈ ds, Fit d) ∧ ds.length ≤ 1000 ∧
  (ds.all isP = true → ∀ l H', H l = none → PrL K PC H' o l (pick ds) → Kp [o] H H' → Q .non H') ∧
  (∀ (i : Nat) (v : V) (d : PyData), xs[i]? = some v → ds[i]? = some d → isP d = false → (∀ j e, j < i → ds[j]? = some e → isP e = true) → ∀ (e : Addr) (H' : Hp), H e = none → H' e = some (.xd [("pair", v)]) → Kp [] H H' → E (.ref BP) (some e) H')
section
variable {P : Program} {w : World} {K : PySem.W.Frag} {mg : Str → Option Value} {base : Heap} {T_PAIRS : Addr}
def PIInv (o a : Addr) (H : Hp) (ds : List PyData) (i : Nat) (σ : L2.St) (H' : Hp) : Prop := ∃ c, σ = [some (.ref o), some (.ref a), c, none] ∧ Kp [] H H' ∧ ∀ j e, j < i → ds[j]? = some e → isP e = true
def PICInv (K : PySem.W.Frag) (D : Addr) (H : Hp) (f : Pr → Bool) (i : Nat) (H' : Hp) : Prop := ∃ vs, H' D = some (.lst vs) ∧ DpAll K H' vs (((pairsL.take i).filter f).map pD) ∧ Kp [] H H'
theorem filter_take {α : Type} {f : α → Bool} {xs : List α} {i : Nat} {x : α} (h : xs[i]? = some x) : (xs.take (i + 1)).filter f = (xs.take i).filter f ++ (if f x = true then [x] else []) := by
  have e : xs.take (i + 1) = xs.take i ++ [x] := by rw [List.take_add_one, h]; rfl
  rw [e, List.filter_append]
  by_cases z : f x = true
  · rw [if_pos z, List.filter_cons, if_pos z]; rfl
  · rw [if_neg z, List.filter_cons, if_neg z]; rfl
theorem ok_Pairs_init {f : Addr} {fd : FuncData} {dvs : List V} (F : FunD K "__init__" "Pairs.__init__" (defArgs s_Pairs_init) (defBody s_Pairs_init) (defScope s_Pairs_init) dvs [] f fd) (T : Bt K mg T_PAIRS) {PC BP fB : Addr} {fdB : FuncData} (C : PrC K mg PC) (E_BadPair : Er1 P w K mg base "BadPair" "pair" BP fB fdB ["self", "pair"] (fun _ => True)) :
    FnOk P w K mg base (L2.CX P w) 3 f fd ["self", "pairs"] (spPI K PC BP) := by
  refine F.ok (CX := L2.CX P w) sc_Pairs_init (fun vs H Q E h => ?_) (fun cdv A outer s H vs Q E hr h => ?_)
  · obtain ⟨o, dx, a, xs, ds, rfl, _⟩ := h
    rfl
  · obtain ⟨o, dx, a, xs, ds, rfl, ho, hS, hD, hF, hl, qG, qB⟩ := h
    obtain ⟨zs, hz⟩ := T.pk
    refine ⟨_, (pss_cons (ps_for (passes_of rfl) rfl (pi_seq (pv 1)) (pg_name (i := 2) sc_Pairs_init.nd rfl (Or.inl rfl)) (pss_one (ps_if (pt_cmpR (op_notInT (hu5 hr)) (pv 2) (pe_glob (v := .ref T_PAIRS) rfl T.c_PAIRS rfl) (by rfl)) (pss_one (ps_raise rfl (takes_of rfl rfl rfl rfl) (pmk_oex E_BadPair.ox E_BadPair.ic E_BadPair.ti E_BadPair.G (hr.mono (by decide)) E_BadPair.b .nil passL rfl E_BadPair.k (pa_cons (pv 2) pa_nil)))) pss_nil)))
      (pss_one (ps_fld (pv 0) (pe_lc (own := [("pair", 3)]) (g := (gName 3)) rfl sc_Pairs_init.nd (pi_tup (pe_glob (v := .ref T_PAIRS) rfl T.c_PAIRS rfl)) (blkOk_by (N := ["self", "pairs", "item", "pair"]) (sc := defScope s_Pairs_init) (by decide +kernel)) (fun _ _ _ _ _ => (pg_name (i := 3) sc_Pairs_init.nd rfl (Or.inl rfl))) (fun _ _ _ _ _ => (pts_one (pt_cmpR (r := rInS K false) (op_inS (hu5 hr)) (pv 3) (pv 1) (by rfl)))) (fun _ _ _ _ _ => (pv 3))) rfl))), ?_⟩
    have shL := (shapedL hF).1
    have shT : SeqAt.shaped (.tuple (pairsL.map pD)) = true := (shapedL (fitsP fun p h => h)).2
    try simp only [tSeq, tIfS, tTest, tOp, tUn, tCB, tCons, tNil, tVar, tC, rI0, rI, rU, rEq, rNe, tRet, tRetN, tAsg, gName, gSub, tBM, tBM0, tNext, tB, tNot, tAnd, tOr, tIf, tCall, tDrop, tBreak, tCont, L2.start, tDGet, sDPut, tTup, tLst, tDNewK, tRevL, rCat, rAppend, rPop, rSetL, tAndV, tOrV, tNotV, tSl, tPart, tNoPart, tM1, gTup, gCons, gNil, cxK, cxnK, List.map_cons, List.map_nil, List.length_cons, List.length_nil, List.replicate, List.cons_append, List.nil_append, List.append_nil, List.set_cons_zero, List.set_cons_succ, List.getElem?_cons_zero, List.getElem?_cons_succ, Option.some.injEq, V.ref.injEq, V.int.injEq, V.str.injEq, V.bl.injEq, V.ty.injEq, exists_eq_left', exists_eq_left, exists_and_left, List.cons.injEq, and_true, true_and, sc_ii, sc_ss, sc_bb, sc_ni, sc_in, sc_is, sc_si, sc_nn, decide_true, decide_false, reduceCtorEq, Bool.false_eq_true, if_true, if_false, ite_true, ite_false, exists_const, eq_self, false_and, and_false, or_false, false_or, exists_false, Evl.rLenS, rSum, wipe, tYes, exists_eq, exists_eq', rIxL, rIxT, rIxS, exists_and_right, gt_iff_lt, not_true_eq_false, not_false_eq_true, Bool.not_true, Bool.not_false, decide_eq_true_eq, Nat.reduceSub, Nat.reduceAdd, List.append_assoc, tChain, tDIn, tDNotIn, sDDel, tAug, ipI]
    refine forS (K := K) (a := a) (xs := xs) (PIInv o a H ds) rfl hS ⟨none, rfl, Kp.refl _ _, fun j e hj => absurd hj (by omega)⟩ (fun j σ' H' h => by obtain ⟨_, _, k, _⟩ := h; exact k) ?_ ?_
    · rintro i x σ H1 hx ⟨c, rfl, kp, hg⟩
      obtain ⟨d, ed, hd⟩ := dpGet hD hx
      try simp only [tSeq, tIfS, tTest, tOp, tUn, tCB, tCons, tNil, tVar, tC, rI0, rI, rU, rEq, rNe, tRet, tRetN, tAsg, gName, gSub, tBM, tBM0, tNext, tB, tNot, tAnd, tOr, tIf, tCall, tDrop, tBreak, tCont, L2.start, tDGet, sDPut, tTup, tLst, tDNewK, tRevL, rCat, rAppend, rPop, rSetL, tAndV, tOrV, tNotV, tSl, tPart, tNoPart, tM1, gTup, gCons, gNil, cxK, cxnK, List.map_cons, List.map_nil, List.length_cons, List.length_nil, List.replicate, List.cons_append, List.nil_append, List.append_nil, List.set_cons_zero, List.set_cons_succ, List.getElem?_cons_zero, List.getElem?_cons_succ, Option.some.injEq, V.ref.injEq, V.int.injEq, V.str.injEq, V.bl.injEq, V.ty.injEq, exists_eq_left', exists_eq_left, exists_and_left, List.cons.injEq, and_true, true_and, sc_ii, sc_ss, sc_bb, sc_ni, sc_in, sc_is, sc_si, sc_nn, decide_true, decide_false, reduceCtorEq, Bool.false_eq_true, if_true, if_false, ite_true, ite_false, exists_const, eq_self, false_and, and_false, or_false, false_or, exists_false, Evl.rLenS, rSum, wipe, tYes, exists_eq, exists_eq', rIxL, rIxT, rIxS, exists_and_right, gt_iff_lt, not_true_eq_false, not_false_eq_true, Bool.not_true, Bool.not_false, decide_eq_true_eq, Nat.reduceSub, Nat.reduceAdd, List.append_assoc, tChain, tDIn, tDNotIn, sDDel, tAug, ipI]
      refine ⟨d, _, dpN kp noSq0 hd, .tup (hz H1).1 (hz H1).2, (hF d (List.mem_of_getElem? ed)).1, shT, ?_⟩
      have ei : ((pairsL.map pD).any fun z => PyData.eqv z d) = isP d := rfl
      rw [ei]
      cases hi : isP d with
      | false =>
        try simp only [tSeq, tIfS, tTest, tOp, tUn, tCB, tCons, tNil, tVar, tC, rI0, rI, rU, rEq, rNe, tRet, tRetN, tAsg, gName, gSub, tBM, tBM0, tNext, tB, tNot, tAnd, tOr, tIf, tCall, tDrop, tBreak, tCont, L2.start, tDGet, sDPut, tTup, tLst, tDNewK, tRevL, rCat, rAppend, rPop, rSetL, tAndV, tOrV, tNotV, tSl, tPart, tNoPart, tM1, gTup, gCons, gNil, cxK, cxnK, List.map_cons, List.map_nil, List.length_cons, List.length_nil, List.replicate, List.cons_append, List.nil_append, List.append_nil, List.set_cons_zero, List.set_cons_succ, List.getElem?_cons_zero, List.getElem?_cons_succ, Option.some.injEq, V.ref.injEq, V.int.injEq, V.str.injEq, V.bl.injEq, V.ty.injEq, exists_eq_left', exists_eq_left, exists_and_left, List.cons.injEq, and_true, true_and, sc_ii, sc_ss, sc_bb, sc_ni, sc_in, sc_is, sc_si, sc_nn, decide_true, decide_false, reduceCtorEq, Bool.false_eq_true, if_true, if_false, ite_true, ite_false, exists_const, eq_self, false_and, and_false, or_false, false_or, exists_false, Evl.rLenS, rSum, wipe, tYes, exists_eq, exists_eq', rIxL, rIxT, rIxS, exists_and_right, gt_iff_lt, not_true_eq_false, not_false_eq_true, Bool.not_true, Bool.not_false, decide_eq_true_eq, Nat.reduceSub, Nat.reduceAdd, List.append_assoc, tChain, tDIn, tDNotIn, sDDel, tAug, ipI]
        refine ⟨x, rfl, err1_made (P := fun _ => True) True.intro fun e H' ne he k => ?_⟩
        exact qB i x d hx ed hi hg e H' (kp.free0 ne) he (kp.trans k)
      | true =>
        try simp only [tSeq, tIfS, tTest, tOp, tUn, tCB, tCons, tNil, tVar, tC, rI0, rI, rU, rEq, rNe, tRet, tRetN, tAsg, gName, gSub, tBM, tBM0, tNext, tB, tNot, tAnd, tOr, tIf, tCall, tDrop, tBreak, tCont, L2.start, tDGet, sDPut, tTup, tLst, tDNewK, tRevL, rCat, rAppend, rPop, rSetL, tAndV, tOrV, tNotV, tSl, tPart, tNoPart, tM1, gTup, gCons, gNil, cxK, cxnK, List.map_cons, List.map_nil, List.length_cons, List.length_nil, List.replicate, List.cons_append, List.nil_append, List.append_nil, List.set_cons_zero, List.set_cons_succ, List.getElem?_cons_zero, List.getElem?_cons_succ, Option.some.injEq, V.ref.injEq, V.int.injEq, V.str.injEq, V.bl.injEq, V.ty.injEq, exists_eq_left', exists_eq_left, exists_and_left, List.cons.injEq, and_true, true_and, sc_ii, sc_ss, sc_bb, sc_ni, sc_in, sc_is, sc_si, sc_nn, decide_true, decide_false, reduceCtorEq, Bool.false_eq_true, if_true, if_false, ite_true, ite_false, exists_const, eq_self, false_and, and_false, or_false, false_or, exists_false, Evl.rLenS, rSum, wipe, tYes, exists_eq, exists_eq', rIxL, rIxT, rIxS, exists_and_right, gt_iff_lt, not_true_eq_false, not_false_eq_true, Bool.not_true, Bool.not_false, decide_eq_true_eq, Nat.reduceSub, Nat.reduceAdd, List.append_assoc, tChain, tDIn, tDNotIn, sDDel, tAug, ipI]
        refine ⟨_, rfl, kp, fun j e hj ej => ?_⟩
        by_cases z : j = i
        · subst z; rw [ed] at ej; cases ej; exact hi
        · exact hg j e (by omega) ej
    · rintro σ H1 ⟨c, rfl, kp, hg⟩
      try simp only [tSeq, tIfS, tTest, tOp, tUn, tCB, tCons, tNil, tVar, tC, rI0, rI, rU, rEq, rNe, tRet, tRetN, tAsg, gName, gSub, tBM, tBM0, tNext, tB, tNot, tAnd, tOr, tIf, tCall, tDrop, tBreak, tCont, L2.start, tDGet, sDPut, tTup, tLst, tDNewK, tRevL, rCat, rAppend, rPop, rSetL, tAndV, tOrV, tNotV, tSl, tPart, tNoPart, tM1, gTup, gCons, gNil, cxK, cxnK, List.map_cons, List.map_nil, List.length_cons, List.length_nil, List.replicate, List.cons_append, List.nil_append, List.append_nil, List.set_cons_zero, List.set_cons_succ, List.getElem?_cons_zero, List.getElem?_cons_succ, Option.some.injEq, V.ref.injEq, V.int.injEq, V.str.injEq, V.bl.injEq, V.ty.injEq, exists_eq_left', exists_eq_left, exists_and_left, List.cons.injEq, and_true, true_and, sc_ii, sc_ss, sc_bb, sc_ni, sc_in, sc_is, sc_si, sc_nn, decide_true, decide_false, reduceCtorEq, Bool.false_eq_true, if_true, if_false, ite_true, ite_false, exists_const, eq_self, false_and, and_false, or_false, false_or, exists_false, Evl.rLenS, rSum, wipe, tYes, exists_eq, exists_eq', rIxL, rIxT, rIxS, exists_and_right, gt_iff_lt, not_true_eq_false, not_false_eq_true, Bool.not_true, Bool.not_false, decide_eq_true_eq, Nat.reduceSub, Nat.reduceAdd, List.append_assoc, tChain, tDIn, tDNotIn, sDDel, tAug, ipI]
      have allP : ds.all isP = true := by
        rw [List.all_eq_true]
        intro d hd
        obtain ⟨j, ej⟩ := List.getElem?_of_mem hd
        exact hg j d (by rw [dpLen hD]; exact (List.getElem?_eq_some_iff.mp ej).1) ej
      refine ⟨T_PAIRS, rfl, ⟨_, (hz H1).1⟩, fun D nD => lc_tup (K := K) (a := T_PAIRS) (xs := zs) (PICInv K D H (pick ds)) ⟨[], upd_same, .nil, kp.trans (Kp.new nD)⟩ (fun i H _ _ => (hz H).1) ?_ ?_⟩
      · rintro i x H2 hx ⟨vs, hv, hvs, k2⟩
        obtain ⟨d, ed, hd⟩ := dpGet (hz H2).2 hx
        rw [List.getElem?_map] at ed
        obtain ⟨p, ep, rfl⟩ : ∃ p, pairsL[i]? = some p ∧ pD p = d := by
          cases e : pairsL[i]? with
          | none => rw [e] at ed; cases ed
          | some p => rw [e] at ed; exact ⟨p, rfl, Option.some.inj ed⟩
        have hp : p ∈ pairsL := List.mem_of_getElem? ep
        have hvl : vs.length ≤ 27 := by
          rw [dpLen hvs, List.length_map]
          have h1 := List.length_filter_le (pick ds) (pairsL.take i)
          have h2 : (pairsL.take i).length ≤ pairsL.length := by rw [List.length_take]; omega
          rw [pairs_len] at h2
          omega
        try simp only [tSeq, tIfS, tTest, tOp, tUn, tCB, tCons, tNil, tVar, tC, rI0, rI, rU, rEq, rNe, tRet, tRetN, tAsg, gName, gSub, tBM, tBM0, tNext, tB, tNot, tAnd, tOr, tIf, tCall, tDrop, tBreak, tCont, L2.start, tDGet, sDPut, tTup, tLst, tDNewK, tRevL, rCat, rAppend, rPop, rSetL, tAndV, tOrV, tNotV, tSl, tPart, tNoPart, tM1, gTup, gCons, gNil, cxK, cxnK, List.map_cons, List.map_nil, List.length_cons, List.length_nil, List.replicate, List.cons_append, List.nil_append, List.append_nil, List.set_cons_zero, List.set_cons_succ, List.getElem?_cons_zero, List.getElem?_cons_succ, Option.some.injEq, V.ref.injEq, V.int.injEq, V.str.injEq, V.bl.injEq, V.ty.injEq, exists_eq_left', exists_eq_left, exists_and_left, List.cons.injEq, and_true, true_and, sc_ii, sc_ss, sc_bb, sc_ni, sc_in, sc_is, sc_si, sc_nn, decide_true, decide_false, reduceCtorEq, Bool.false_eq_true, if_true, if_false, ite_true, ite_false, exists_const, eq_self, false_and, and_false, or_false, false_or, exists_false, Evl.rLenS, rSum, wipe, tYes, exists_eq, exists_eq', rIxL, rIxT, rIxS, exists_and_right, gt_iff_lt, not_true_eq_false, not_false_eq_true, Bool.not_true, Bool.not_false, decide_eq_true_eq, Nat.reduceSub, Nat.reduceAdd, List.append_assoc, tChain, tDIn, tDNotIn, sDDel, tAug, ipI]
        refine ⟨pD p, ds, a, xs, rfl, k2.anyN noSq0 hS, dpAllN k2 noSq0 hD, hd, okP hp, shL, ?_⟩
        have epk : (ds.any fun z => PyData.eqv z (pD p)) = pick ds p := rfl
        rw [epk]
        cases hk : pick ds p with
        | true =>
          try simp only [tSeq, tIfS, tTest, tOp, tUn, tCB, tCons, tNil, tVar, tC, rI0, rI, rU, rEq, rNe, tRet, tRetN, tAsg, gName, gSub, tBM, tBM0, tNext, tB, tNot, tAnd, tOr, tIf, tCall, tDrop, tBreak, tCont, L2.start, tDGet, sDPut, tTup, tLst, tDNewK, tRevL, rCat, rAppend, rPop, rSetL, tAndV, tOrV, tNotV, tSl, tPart, tNoPart, tM1, gTup, gCons, gNil, cxK, cxnK, List.map_cons, List.map_nil, List.length_cons, List.length_nil, List.replicate, List.cons_append, List.nil_append, List.append_nil, List.set_cons_zero, List.set_cons_succ, List.getElem?_cons_zero, List.getElem?_cons_succ, Option.some.injEq, V.ref.injEq, V.int.injEq, V.str.injEq, V.bl.injEq, V.ty.injEq, exists_eq_left', exists_eq_left, exists_and_left, List.cons.injEq, and_true, true_and, sc_ii, sc_ss, sc_bb, sc_ni, sc_in, sc_is, sc_si, sc_nn, decide_true, decide_false, reduceCtorEq, Bool.false_eq_true, if_true, if_false, ite_true, ite_false, exists_const, eq_self, false_and, and_false, or_false, false_or, exists_false, Evl.rLenS, rSum, wipe, tYes, exists_eq, exists_eq', rIxL, rIxT, rIxS, exists_and_right, gt_iff_lt, not_true_eq_false, not_false_eq_true, Bool.not_true, Bool.not_false, decide_eq_true_eq, Nat.reduceSub, Nat.reduceAdd, List.append_assoc, tChain, tDIn, tDNotIn, sDDel, tAug, ipI]
          have nw : Kp [D] H2 (upd H2 D (.lst (vs ++ [x]))) := (Kp.refl [D] H2).put (by simp)
          have nt : NoTp H2 [D] := noTp1 hv
          have noL : ∀ l : List Pr, noLsAll (l.map pD) = true := fun l => by
            induction l with
            | nil => rfl
            | cons p r ih => show (noLs (pD p) && noLsAll (r.map pD)) = true; rw [ih]; rfl
          refine ⟨_, hv, smallL (by omega), _, upd_same, ?_, k2.wr (kp.free0 nD)⟩
          rw [filter_take ep, if_pos hk, List.map_append]
          exact dpApp (dpAllT nw nt hvs (noL _)) (.cons (dpT nw nt hd rfl) .nil)
        | false =>
          try simp only [tSeq, tIfS, tTest, tOp, tUn, tCB, tCons, tNil, tVar, tC, rI0, rI, rU, rEq, rNe, tRet, tRetN, tAsg, gName, gSub, tBM, tBM0, tNext, tB, tNot, tAnd, tOr, tIf, tCall, tDrop, tBreak, tCont, L2.start, tDGet, sDPut, tTup, tLst, tDNewK, tRevL, rCat, rAppend, rPop, rSetL, tAndV, tOrV, tNotV, tSl, tPart, tNoPart, tM1, gTup, gCons, gNil, cxK, cxnK, List.map_cons, List.map_nil, List.length_cons, List.length_nil, List.replicate, List.cons_append, List.nil_append, List.append_nil, List.set_cons_zero, List.set_cons_succ, List.getElem?_cons_zero, List.getElem?_cons_succ, Option.some.injEq, V.ref.injEq, V.int.injEq, V.str.injEq, V.bl.injEq, V.ty.injEq, exists_eq_left', exists_eq_left, exists_and_left, List.cons.injEq, and_true, true_and, sc_ii, sc_ss, sc_bb, sc_ni, sc_in, sc_is, sc_si, sc_nn, decide_true, decide_false, reduceCtorEq, Bool.false_eq_true, if_true, if_false, ite_true, ite_false, exists_const, eq_self, false_and, and_false, or_false, false_or, exists_false, Evl.rLenS, rSum, wipe, tYes, exists_eq, exists_eq', rIxL, rIxT, rIxS, exists_and_right, gt_iff_lt, not_true_eq_false, not_false_eq_true, Bool.not_true, Bool.not_false, decide_eq_true_eq, Nat.reduceSub, Nat.reduceAdd, List.append_assoc, tChain, tDIn, tDNotIn, sDDel, tAug, ipI]
          refine ⟨vs, hv, ?_, k2⟩
          rw [filter_take ep, if_neg (by rw [hk]; exact Bool.false_ne_true), List.append_nil]
          exact hvs
      · rintro H2 ⟨vs, hv, hvs, k2⟩
        have hz27 : zs.length = pairsL.length := by
          have := dpLen (hz H2).2
          rw [List.length_map] at this; exact this
        rw [hz27, List.take_length] at hvs
        have ho2 := k2 _ _ not0 ho
        try simp only [tSeq, tIfS, tTest, tOp, tUn, tCB, tCons, tNil, tVar, tC, rI0, rI, rU, rEq, rNe, tRet, tRetN, tAsg, gName, gSub, tBM, tBM0, tNext, tB, tNot, tAnd, tOr, tIf, tCall, tDrop, tBreak, tCont, L2.start, tDGet, sDPut, tTup, tLst, tDNewK, tRevL, rCat, rAppend, rPop, rSetL, tAndV, tOrV, tNotV, tSl, tPart, tNoPart, tM1, gTup, gCons, gNil, cxK, cxnK, List.map_cons, List.map_nil, List.length_cons, List.length_nil, List.replicate, List.cons_append, List.nil_append, List.append_nil, List.set_cons_zero, List.set_cons_succ, List.getElem?_cons_zero, List.getElem?_cons_succ, Option.some.injEq, V.ref.injEq, V.int.injEq, V.str.injEq, V.bl.injEq, V.ty.injEq, exists_eq_left', exists_eq_left, exists_and_left, List.cons.injEq, and_true, true_and, sc_ii, sc_ss, sc_bb, sc_ni, sc_in, sc_is, sc_si, sc_nn, decide_true, decide_false, reduceCtorEq, Bool.false_eq_true, if_true, if_false, ite_true, ite_false, exists_const, eq_self, false_and, and_false, or_false, false_or, exists_false, Evl.rLenS, rSum, wipe, tYes, exists_eq, exists_eq', rIxL, rIxT, rIxS, exists_and_right, gt_iff_lt, not_true_eq_false, not_false_eq_true, Bool.not_true, Bool.not_false, decide_eq_true_eq, Nat.reduceSub, Nat.reduceAdd, List.append_assoc, tChain, tDIn, tDNotIn, sDDel, tAug, ipI]
        refine ⟨PC, dx, [], ho2, C.cl, C.n1, by decide, ?_⟩
        have kO : Kp [o] H (upd H2 o (.ins PC dx (putF "_pairs" (.ref D) []))) := (k2.of0).put (by simp)
        have nD' : D ≠ o := ne_of hv ho2 (fun z => by cases z)
        have kO2 : Kp [o] H2 (upd H2 o (.ins PC dx (putF "_pairs" (.ref D) []))) := (Kp.refl [o] H2).put (by simp)
        refine qG allP D _ (kp.free0 nD) ⟨dx, vs, upd_same, by rw [upd_ne nD']; exact hv, dpAllN kO2 (noSq1 ho2) hvs⟩ kO
def spCont (K : PySem.W.Frag) (PC : Addr) : Sp := fun vs H Q _ => ∃ (o : Addr) (f : Pr → Bool) (v : V) (d : PyData), vs = [.ref o, v] ∧ PrAt K PC H o f ∧ Dp K H v d ∧ SeqAt.shaped d = true ∧ Q (.bl (((pairsL.filter f).map pD).any fun z => PyData.eqv z d)) H
theorem ok_Pairs_contains {f : Addr} {fd : FuncData} (F : Fun K "__contains__" "Pairs.__contains__" s_Pairs_contains f fd) {PC : Addr} (C : PrC K mg PC) : FnOk P w K mg base CX0 1 f fd ["self", "x"] (spCont K PC) := by
  refine F.ok sc_Pairs_contains (fun vs H Q E h => ?_) (fun cdv A outer s H vs Q E hr h => ?_)
  · obtain ⟨o, g, v, d, rfl, _⟩ := h
    rfl
  · obtain ⟨o, g, v, d, rfl, ⟨dx, l, us, ho, hl, hD⟩, hd, sd, q⟩ := h
    refine ⟨_, (pss_one (ps_ret (pe_cmpR (op_inD (hu5 hr)) (pv 1) (pe_fld (pv 0) rfl) (by rfl)))), ?_⟩
    try simp only [tSeq, tIfS, tTest, tOp, tUn, tCB, tCons, tNil, tVar, tC, rI0, rI, rU, rEq, rNe, tRet, tRetN, tAsg, gName, gSub, tBM, tBM0, tNext, tB, tNot, tAnd, tOr, tIf, tCall, tDrop, tBreak, tCont, L2.start, tDGet, sDPut, tTup, tLst, tDNewK, tRevL, rCat, rAppend, rPop, rSetL, tAndV, tOrV, tNotV, tSl, tPart, tNoPart, tM1, gTup, gCons, gNil, cxK, cxnK, List.map_cons, List.map_nil, List.length_cons, List.length_nil, List.replicate, List.cons_append, List.nil_append, List.append_nil, List.set_cons_zero, List.set_cons_succ, List.getElem?_cons_zero, List.getElem?_cons_succ, Option.some.injEq, V.ref.injEq, V.int.injEq, V.str.injEq, V.bl.injEq, V.ty.injEq, exists_eq_left', exists_eq_left, exists_and_left, List.cons.injEq, and_true, true_and, sc_ii, sc_ss, sc_bb, sc_ni, sc_in, sc_is, sc_si, sc_nn, decide_true, decide_false, reduceCtorEq, Bool.false_eq_true, if_true, if_false, ite_true, ite_false, exists_const, eq_self, false_and, and_false, or_false, false_or, exists_false, Evl.rLenS, rSum, wipe, tYes, exists_eq, exists_eq', rIxL, rIxT, rIxS, exists_and_right, gt_iff_lt, not_true_eq_false, not_false_eq_true, Bool.not_true, Bool.not_false, decide_eq_true_eq, Nat.reduceSub, Nat.reduceAdd, List.append_assoc, tChain, tDIn, tDNotIn, sDDel, tAug, ipI]
    exact ⟨.ref o, rfl, o, PC, dx, _, .ref l, rfl, ho, C.cl, C.n1, rfl, d, _, hd, .lst (sq_l hl) hD, sd, (shapedL (fitsP (subP g))).1, q⟩
def spLen (K : PySem.W.Frag) (PC : Addr) : Sp := fun vs H Q _ => ∃ (o : Addr) (f : Pr → Bool), vs = [.ref o] ∧ PrAt K PC H o f ∧ Q (.int (pairsL.filter f).length) H
theorem ok_Pairs_len {f : Addr} {fd : FuncData} (F : Fun K "__len__" "Pairs.__len__" s_Pairs_len f fd) (T : Bt K mg T_PAIRS) {PC : Addr} (C : PrC K mg PC) : FnOk P w K mg base CX0 1 f fd ["self"] (spLen K PC) := by
  refine F.ok sc_Pairs_len (fun vs H Q E h => ?_) (fun cdv A outer s H vs Q E hr h => ?_)
  · obtain ⟨o, g, rfl, _⟩ := h
    rfl
  · obtain ⟨o, g, rfl, ⟨dx, l, us, ho, hl, hD⟩, q⟩ := h
    refine ⟨_, (pss_one (ps_ret (pe_callB (id := "len") (r := Evl.rLenS K) call_len_seq (by rfl) T.b_len PySem.boot_len (pa_cons (pe_fld (pv 0) rfl) pa_nil)))), ?_⟩
    try simp only [tSeq, tIfS, tTest, tOp, tUn, tCB, tCons, tNil, tVar, tC, rI0, rI, rU, rEq, rNe, tRet, tRetN, tAsg, gName, gSub, tBM, tBM0, tNext, tB, tNot, tAnd, tOr, tIf, tCall, tDrop, tBreak, tCont, L2.start, tDGet, sDPut, tTup, tLst, tDNewK, tRevL, rCat, rAppend, rPop, rSetL, tAndV, tOrV, tNotV, tSl, tPart, tNoPart, tM1, gTup, gCons, gNil, cxK, cxnK, List.map_cons, List.map_nil, List.length_cons, List.length_nil, List.replicate, List.cons_append, List.nil_append, List.append_nil, List.set_cons_zero, List.set_cons_succ, List.getElem?_cons_zero, List.getElem?_cons_succ, Option.some.injEq, V.ref.injEq, V.int.injEq, V.str.injEq, V.bl.injEq, V.ty.injEq, exists_eq_left', exists_eq_left, exists_and_left, List.cons.injEq, and_true, true_and, sc_ii, sc_ss, sc_bb, sc_ni, sc_in, sc_is, sc_si, sc_nn, decide_true, decide_false, reduceCtorEq, Bool.false_eq_true, if_true, if_false, ite_true, ite_false, exists_const, eq_self, false_and, and_false, or_false, false_or, exists_false, Evl.rLenS, rSum, wipe, tYes, exists_eq, exists_eq', rIxL, rIxT, rIxS, exists_and_right, gt_iff_lt, not_true_eq_false, not_false_eq_true, Bool.not_true, Bool.not_false, decide_eq_true_eq, Nat.reduceSub, Nat.reduceAdd, List.append_assoc, tChain, tDIn, tDNotIn, sDDel, tAug, ipI]
    refine ⟨.ref o, rfl, o, PC, dx, _, .ref l, rfl, ho, C.cl, C.n1, rfl, l, rfl, us, .inl (sq_l hl), ?_⟩
    rw [dpLen hD, List.length_map]
    exact q
def spIter (PC : Addr) : Sp := fun vs H Q _ => ∃ (o dx l : Addr) (us : List V), vs = [.ref o] ∧ H o = some (.ins PC dx [("_pairs", .ref l)]) ∧ H l = some (.lst us) ∧ ∀ it, H it = none → Q (.ref it) (upd H it (ItO l it 0))
theorem ok_Pairs_iter {f : Addr} {fd : FuncData} (F : Fun K "__iter__" "Pairs.__iter__" s_Pairs_iter f fd) (T : Bt K mg T_PAIRS) {PC : Addr} (C : PrC K mg PC) : FnOk P w K mg base CX0 1 f fd ["self"] (spIter PC) := by
  refine F.ok sc_Pairs_iter (fun vs H Q E h => ?_) (fun cdv A outer s H vs Q E hr h => ?_)
  · obtain ⟨o, dx, l, us, rfl, _⟩ := h
    rfl
  · obtain ⟨o, dx, l, us, rfl, ho, hl, q⟩ := h
    refine ⟨_, (pss_one (ps_ret (pe_callB (id := "iter") (r := rIter K) call_iterL (by rfl) T.b_iter (by decide +kernel) (pa_cons (pe_fld (pv 0) rfl) pa_nil)))), ?_⟩
    try simp only [tSeq, tIfS, tTest, tOp, tUn, tCB, tCons, tNil, tVar, tC, rI0, rI, rU, rEq, rNe, tRet, tRetN, tAsg, gName, gSub, tBM, tBM0, tNext, tB, tNot, tAnd, tOr, tIf, tCall, tDrop, tBreak, tCont, L2.start, tDGet, sDPut, tTup, tLst, tDNewK, tRevL, rCat, rAppend, rPop, rSetL, tAndV, tOrV, tNotV, tSl, tPart, tNoPart, tM1, gTup, gCons, gNil, cxK, cxnK, List.map_cons, List.map_nil, List.length_cons, List.length_nil, List.replicate, List.cons_append, List.nil_append, List.append_nil, List.set_cons_zero, List.set_cons_succ, List.getElem?_cons_zero, List.getElem?_cons_succ, Option.some.injEq, V.ref.injEq, V.int.injEq, V.str.injEq, V.bl.injEq, V.ty.injEq, exists_eq_left', exists_eq_left, exists_and_left, List.cons.injEq, and_true, true_and, sc_ii, sc_ss, sc_bb, sc_ni, sc_in, sc_is, sc_si, sc_nn, decide_true, decide_false, reduceCtorEq, Bool.false_eq_true, if_true, if_false, ite_true, ite_false, exists_const, eq_self, false_and, and_false, or_false, false_or, exists_false, Evl.rLenS, rSum, wipe, tYes, exists_eq, exists_eq', rIxL, rIxT, rIxS, exists_and_right, gt_iff_lt, not_true_eq_false, not_false_eq_true, Bool.not_true, Bool.not_false, decide_eq_true_eq, Nat.reduceSub, Nat.reduceAdd, List.append_assoc, tChain, tDIn, tDNotIn, sDDel, tAug, ipI]
    exact ⟨.ref o, rfl, o, PC, dx, _, .ref l, rfl, ho, C.cl, C.n1, rfl, l, us, rfl, sq_l hl, q⟩
/-! ### new Pairs -/
theorem Kp.one {H H1 H2 : Hp} {o : Addr} (a : Kp [] H H1) (b : Kp [o] H1 H2) (h : H o = none) : Kp [] H H2 := fun c u _ e => b c u (not1 fun z => by rw [z, h] at e; cases e) (a c u not0 e)
theorem PrAt.same {PC : Addr} {H : Hp} {o : Addr} {f g : Pr → Bool} (h : PrAt K PC H o f) (e : ∀ p ∈ pairsL, f p = g p) : PrAt K PC H o g := by
  obtain ⟨dx, l, vs, a, b, c⟩ := h
  rw [filter_same e] at c
  exact ⟨dx, l, vs, a, b, c⟩
theorem pr_makeL {PC BP : Addr} {H2 : Hp} {D : Addr} {ws : List V} {ds : List PyData} {Q : VK} (hD : SqAny K H2 D ws) (hd : DpAll K H2 ws ds) (fit : ∀ d ∈ ds, Fit d) (hl : ds.length ≤ 1000) (all : ∀ d ∈ ds, isP d = true) (q : ∀ o l H', H2 o = none → H2 l = none → PrL K PC H' o l (pick ds) → Kp [] H2 H' → Q (.ref o) H') :
    ∀ x dx, H2 x = none → H2 dx = none → dx ≠ x → spPI K PC BP (.ref x :: ([.ref D] ++ [])) (upd (upd H2 dx (.own x)) x (.ins PC dx [])) (fun v H3 => v = .non ∧ Q (.ref x) H3) E0 := by
  intro x dx nx nd hne
  have k1 : Kp [] H2 (upd H2 dx (.own x)) := Kp.new nd
  have k2 : Kp [] (upd H2 dx (.own x)) (upd (upd H2 dx (.own x)) x (.ins PC dx [])) := Kp.new (by rw [upd_ne hne.symm]; exact nx)
  have k := k1.trans k2
  refine ⟨x, dx, D, ws, ds, rfl, upd_same, k.anyN noSq0 hD, dpAllN k noSq0 hd, fit, hl, fun _ l H' nl hp hk => ⟨rfl, q x l H' nx (k.free0 nl) hp (k.one hk nx)⟩, ?_⟩
  intro i v d _ e hb
  rw [all d (List.mem_of_getElem? e)] at hb
  cases hb
theorem pr_make {PC BP : Addr} {H2 : Hp} {D : Addr} {ws : List V} {ds : List PyData} {Q : VK} (hD : SqAny K H2 D ws) (hd : DpAll K H2 ws ds) (fit : ∀ d ∈ ds, Fit d) (hl : ds.length ≤ 1000) (all : ∀ d ∈ ds, isP d = true) (q : ∀ o H', H2 o = none → PrAt K PC H' o (pick ds) → Kp [] H2 H' → Q (.ref o) H') :
    ∀ x dx, H2 x = none → H2 dx = none → dx ≠ x → spPI K PC BP (.ref x :: ([.ref D] ++ [])) (upd (upd H2 dx (.own x)) x (.ins PC dx [])) (fun v H3 => v = .non ∧ Q (.ref x) H3) E0 :=
  pr_makeL hD hd fit hl all fun o l H' no _ hp hk => q o H' no hp.at hk
def LcD (K : PySem.W.Frag) (D : Addr) (H : Hp) (ps : Nat → List Pr) (i : Nat) (H' : Hp) : Prop := ∃ ws, H' D = some (.lst ws) ∧ DpAll K H' ws ((ps i).map pD) ∧ Kp [] H H'
theorem noLsP : ∀ l : List Pr, noLsAll (l.map pD) = true
  | [] => rfl
  | p :: r => by show (noLs (pD p) && noLsAll (r.map pD)) = true; rw [noLsP r]; rfl
theorem lcD_put {D : Addr} {H H2 : Hp} {ps : Nat → List Pr} {i : Nat} {x : V} {p : Pr} (h : LcD K D H ps i H2) (nD : H D = none) (hx : Dp K H2 x (pD p)) (e : ps (i + 1) = ps i ++ [p]) (hl : (ps i).length ≤ 1000) :
    ∃ acc, H2 D = some (.lst acc) ∧ acc.length < sizeLine ∧ LcD K D H ps (i + 1) (upd H2 D (.lst (acc ++ [x]))) := by
  obtain ⟨ws, hv, hws, k⟩ := h
  have nw : Kp [D] H2 (upd H2 D (.lst (ws ++ [x]))) := (Kp.refl [D] H2).put (by simp)
  have nt : NoTp H2 [D] := noTp1 hv
  refine ⟨ws, hv, smallL (by rw [dpLen hws, List.length_map]; omega), _, upd_same, ?_, k.wr nD⟩
  rw [e, List.map_append]
  exact dpApp (dpAllT nw nt hws (noLsP _)) (.cons (dpT nw nt hx rfl) .nil)
theorem lcD_skip {D : Addr} {H H2 : Hp} {ps : Nat → List Pr} {i : Nat} (h : LcD K D H ps i H2) (e : ps (i + 1) = ps i) : LcD K D H ps (i + 1) H2 := by
  obtain ⟨ws, hv, hws, k⟩ := h
  exact ⟨ws, hv, by rw [e]; exact hws, k⟩
theorem pD_at {ps : List Pr} {i : Nat} {d : PyData} (h : (ps.map pD)[i]? = some d) : ∃ p, ps[i]? = some p ∧ d = pD p := by
  rw [List.getElem?_map] at h
  cases e : ps[i]? with
  | none => rw [e] at h; cases h
  | some p => rw [e] at h; exact ⟨p, rfl, (Option.some.inj h).symm⟩
theorem take_len {α : Type} {f : α → Bool} {xs : List α} {i n : Nat} (h : xs.length ≤ n) : ((xs.take i).filter f).length ≤ n := by
  have h1 := List.length_filter_le f (xs.take i)
  have h2 : (xs.take i).length ≤ xs.length := by rw [List.length_take]; omega
  omega
def spBin (K : PySem.W.Frag) (PC : Addr) (op : Bool → Bool → Bool) : Sp := fun vs H Q _ => ∃ (o1 o2 : Addr) (f1 f2 : Pr → Bool), vs = [.ref o1, .ref o2] ∧ PrAt K PC H o1 f1 ∧ PrAt K PC H o2 f2 ∧ ∀ o H', H o = none → PrAt K PC H' o (fun p => op (f1 p) (f2 p)) → Kp [] H H' → Q (.ref o) H'
theorem pick_filter {f g : Pr → Bool} {p : Pr} (h : p ∈ pairsL) : pick (((pairsL.filter f).filter g).map pD) p = (f p && g p) := by
  rw [show (pairsL.filter f).filter g = pairsL.filter (fun p => f p && g p) by rw [List.filter_filter]; exact List.filter_congr fun x _ => Bool.and_comm _ _]
  exact pick_eq h
structure Bt2 (K : PySem.W.Frag) (mg : Str → Option Value) (T_PAIRS PC fI : Addr) : Prop extends Bt K mg T_PAIRS where
  k_Pairs : mg "Pairs" = some (.ref PC)
  M_Pairs : Mk K PC fI
theorem all_isP {ps : List Pr} (h : ∀ p ∈ ps, p ∈ pairsL) : ∀ d ∈ ps.map pD, isP d = true := fun d hd => by
  obtain ⟨p, hp, rfl⟩ := List.mem_map.mp hd
  exact isP_pair (h p hp)
theorem sub_ff {f g : Pr → Bool} : ∀ p ∈ (pairsL.filter f).filter g, p ∈ pairsL := fun p h => subP f p (List.mem_filter.mp h).1
theorem ok_Pairs_and {f : Addr} {fd : FuncData} (F : Fun K "__and__" "Pairs.__and__" s_Pairs_and f fd) {PC BP fI : Addr} {fdI : FuncData} (T : Bt2 K mg T_PAIRS PC fI) (C : PrC K mg PC) (bI_Pairs : Binds K fdI ["self", "pairs"] []) (G_Pairs_init : FnOk P w K mg base (L2.CX P w) 3 fI fdI ["self", "pairs"] (spPI K PC BP)) :
    FnOk P w K mg base CX0 5 f fd ["self", "other"] (spBin K PC (· && ·)) := by
  refine F.ok sc_Pairs_and (fun vs H Q E h => ?_) (fun cdv A outer s H vs Q E hr h => ?_)
  · obtain ⟨o1, o2, f1, f2, rfl, _⟩ := h
    rfl
  · obtain ⟨o1, o2, f1, f2, rfl, h1, h2, q⟩ := h
    have M_Pairs := T.M_Pairs
    refine ⟨_, (pss_one (ps_ret (pe_make M_Pairs G_Pairs_init (hr.mono (by decide)) rfl T.k_Pairs bI_Pairs .nil passL (pa_cons (pe_lc (own := [("pair", 2)]) (g := (gName 2)) rfl sc_Pairs_and.nd (pi_list (pe_fld (pv 0) rfl)) (blkOk_by (N := ["self", "other", "pair"]) (sc := defScope s_Pairs_and) (by decide +kernel)) (fun _ _ _ _ _ => (pg_name (i := 2) sc_Pairs_and.nd rfl (Or.inl rfl))) (fun _ _ _ _ _ => (pts_one (pt_cmpR (r := rInD K) (op_inD (hu5 hr)) (pv 2) ((pe_fld (pv 1) rfl) : PE _ _ (tFld K _ "_pairs")) (by rfl)))) (fun _ _ _ _ _ => (pv 2))) pa_nil)))), ?_⟩
    try simp only [tSeq, tIfS, tTest, tOp, tUn, tCB, tCons, tNil, tVar, tC, rI0, rI, rU, rEq, rNe, tRet, tRetN, tAsg, gName, gSub, tBM, tBM0, tNext, tB, tNot, tAnd, tOr, tIf, tCall, tDrop, tBreak, tCont, L2.start, tDGet, sDPut, tTup, tLst, tDNewK, tRevL, rCat, rAppend, rPop, rSetL, tAndV, tOrV, tNotV, tSl, tPart, tNoPart, tM1, gTup, gCons, gNil, cxK, cxnK, List.map_cons, List.map_nil, List.length_cons, List.length_nil, List.replicate, List.cons_append, List.nil_append, List.append_nil, List.set_cons_zero, List.set_cons_succ, List.getElem?_cons_zero, List.getElem?_cons_succ, Option.some.injEq, V.ref.injEq, V.int.injEq, V.str.injEq, V.bl.injEq, V.ty.injEq, exists_eq_left', exists_eq_left, exists_and_left, List.cons.injEq, and_true, true_and, sc_ii, sc_ss, sc_bb, sc_ni, sc_in, sc_is, sc_si, sc_nn, decide_true, decide_false, reduceCtorEq, Bool.false_eq_true, if_true, if_false, ite_true, ite_false, exists_const, eq_self, false_and, and_false, or_false, false_or, exists_false, Evl.rLenS, rSum, wipe, tYes, exists_eq, exists_eq', rIxL, rIxT, rIxS, exists_and_right, gt_iff_lt, not_true_eq_false, not_false_eq_true, Bool.not_true, Bool.not_false, decide_eq_true_eq, Nat.reduceSub, Nat.reduceAdd, List.append_assoc, tChain, tDIn, tDNotIn, sDDel, tAug, ipI, tMake]
    obtain ⟨dx, l, us, ho, hl, hD⟩ := h1
    refine ⟨.ref o1, rfl, o1, PC, dx, _, .ref l, rfl, ho, C.cl, C.n1, rfl, l, rfl, ⟨us, sq_l hl⟩, fun D nD => lc_list (K := K) (a := l) (xs := us) (LcD K D H fun i => ((pairsL.filter f1).take i).filter f2) ⟨[], upd_same, .nil, Kp.new nD⟩ (fun i H' _ h => by obtain ⟨_, _, _, k⟩ := h; exact k.ls not0 (sq_l hl)) ?_ ?_⟩
    · rintro i x H2 hx hh
      have k2 : Kp [] H H2 := by obtain ⟨_, _, _, k⟩ := hh; exact k
      obtain ⟨d, ed, hd⟩ := dpGet (dpAllN k2 noSq0 hD) hx
      obtain ⟨p, ep, rfl⟩ := pD_at ed
      have hp : p ∈ pairsL := subP f1 p (List.mem_of_getElem? ep)
      obtain ⟨dx2, l2, us2, ho2, hl2, hD2⟩ := h2.kp k2
      try simp only [tSeq, tIfS, tTest, tOp, tUn, tCB, tCons, tNil, tVar, tC, rI0, rI, rU, rEq, rNe, tRet, tRetN, tAsg, gName, gSub, tBM, tBM0, tNext, tB, tNot, tAnd, tOr, tIf, tCall, tDrop, tBreak, tCont, L2.start, tDGet, sDPut, tTup, tLst, tDNewK, tRevL, rCat, rAppend, rPop, rSetL, tAndV, tOrV, tNotV, tSl, tPart, tNoPart, tM1, gTup, gCons, gNil, cxK, cxnK, List.map_cons, List.map_nil, List.length_cons, List.length_nil, List.replicate, List.cons_append, List.nil_append, List.append_nil, List.set_cons_zero, List.set_cons_succ, List.getElem?_cons_zero, List.getElem?_cons_succ, Option.some.injEq, V.ref.injEq, V.int.injEq, V.str.injEq, V.bl.injEq, V.ty.injEq, exists_eq_left', exists_eq_left, exists_and_left, List.cons.injEq, and_true, true_and, sc_ii, sc_ss, sc_bb, sc_ni, sc_in, sc_is, sc_si, sc_nn, decide_true, decide_false, reduceCtorEq, Bool.false_eq_true, if_true, if_false, ite_true, ite_false, exists_const, eq_self, false_and, and_false, or_false, false_or, exists_false, Evl.rLenS, rSum, wipe, tYes, exists_eq, exists_eq', rIxL, rIxT, rIxS, exists_and_right, gt_iff_lt, not_true_eq_false, not_false_eq_true, Bool.not_true, Bool.not_false, decide_eq_true_eq, Nat.reduceSub, Nat.reduceAdd, List.append_assoc, tChain, tDIn, tDNotIn, sDDel, tAug, ipI]
      refine ⟨.ref o2, rfl, o2, PC, dx2, _, .ref l2, rfl, ho2, C.cl, C.n1, rfl, pD p, _, hd, .lst (sq_l hl2) hD2, okP hp, (shapedL (fitsP (subP f2))).1, ?_⟩
      have e : (((pairsL.filter f2).map pD).any fun z => PyData.eqv z (pD p)) = f2 p := pick_eq hp
      rw [e]
      cases hk : f2 p with
      | true =>
        try simp only [tSeq, tIfS, tTest, tOp, tUn, tCB, tCons, tNil, tVar, tC, rI0, rI, rU, rEq, rNe, tRet, tRetN, tAsg, gName, gSub, tBM, tBM0, tNext, tB, tNot, tAnd, tOr, tIf, tCall, tDrop, tBreak, tCont, L2.start, tDGet, sDPut, tTup, tLst, tDNewK, tRevL, rCat, rAppend, rPop, rSetL, tAndV, tOrV, tNotV, tSl, tPart, tNoPart, tM1, gTup, gCons, gNil, cxK, cxnK, List.map_cons, List.map_nil, List.length_cons, List.length_nil, List.replicate, List.cons_append, List.nil_append, List.append_nil, List.set_cons_zero, List.set_cons_succ, List.getElem?_cons_zero, List.getElem?_cons_succ, Option.some.injEq, V.ref.injEq, V.int.injEq, V.str.injEq, V.bl.injEq, V.ty.injEq, exists_eq_left', exists_eq_left, exists_and_left, List.cons.injEq, and_true, true_and, sc_ii, sc_ss, sc_bb, sc_ni, sc_in, sc_is, sc_si, sc_nn, decide_true, decide_false, reduceCtorEq, Bool.false_eq_true, if_true, if_false, ite_true, ite_false, exists_const, eq_self, false_and, and_false, or_false, false_or, exists_false, Evl.rLenS, rSum, wipe, tYes, exists_eq, exists_eq', rIxL, rIxT, rIxS, exists_and_right, gt_iff_lt, not_true_eq_false, not_false_eq_true, Bool.not_true, Bool.not_false, decide_eq_true_eq, Nat.reduceSub, Nat.reduceAdd, List.append_assoc, tChain, tDIn, tDNotIn, sDDel, tAug, ipI]
        exact lcD_put hh nD hd (by rw [filter_take ep, if_pos hk]) (take_len (Nat.le_trans (lenP f1) (by decide)))
      | false =>
        try simp only [tSeq, tIfS, tTest, tOp, tUn, tCB, tCons, tNil, tVar, tC, rI0, rI, rU, rEq, rNe, tRet, tRetN, tAsg, gName, gSub, tBM, tBM0, tNext, tB, tNot, tAnd, tOr, tIf, tCall, tDrop, tBreak, tCont, L2.start, tDGet, sDPut, tTup, tLst, tDNewK, tRevL, rCat, rAppend, rPop, rSetL, tAndV, tOrV, tNotV, tSl, tPart, tNoPart, tM1, gTup, gCons, gNil, cxK, cxnK, List.map_cons, List.map_nil, List.length_cons, List.length_nil, List.replicate, List.cons_append, List.nil_append, List.append_nil, List.set_cons_zero, List.set_cons_succ, List.getElem?_cons_zero, List.getElem?_cons_succ, Option.some.injEq, V.ref.injEq, V.int.injEq, V.str.injEq, V.bl.injEq, V.ty.injEq, exists_eq_left', exists_eq_left, exists_and_left, List.cons.injEq, and_true, true_and, sc_ii, sc_ss, sc_bb, sc_ni, sc_in, sc_is, sc_si, sc_nn, decide_true, decide_false, reduceCtorEq, Bool.false_eq_true, if_true, if_false, ite_true, ite_false, exists_const, eq_self, false_and, and_false, or_false, false_or, exists_false, Evl.rLenS, rSum, wipe, tYes, exists_eq, exists_eq', rIxL, rIxT, rIxS, exists_and_right, gt_iff_lt, not_true_eq_false, not_false_eq_true, Bool.not_true, Bool.not_false, decide_eq_true_eq, Nat.reduceSub, Nat.reduceAdd, List.append_assoc, tChain, tDIn, tDNotIn, sDDel, tAug, ipI]
        exact lcD_skip hh (by rw [filter_take ep, if_neg (by rw [hk]; exact Bool.false_ne_true), List.append_nil])
    · rintro H2 ⟨ws, hv, hws, k2⟩
      rw [dpLen hD, List.length_map] at hws
      dsimp only at hws
      rw [List.take_length] at hws
      try simp only [tSeq, tIfS, tTest, tOp, tUn, tCB, tCons, tNil, tVar, tC, rI0, rI, rU, rEq, rNe, tRet, tRetN, tAsg, gName, gSub, tBM, tBM0, tNext, tB, tNot, tAnd, tOr, tIf, tCall, tDrop, tBreak, tCont, L2.start, tDGet, sDPut, tTup, tLst, tDNewK, tRevL, rCat, rAppend, rPop, rSetL, tAndV, tOrV, tNotV, tSl, tPart, tNoPart, tM1, gTup, gCons, gNil, cxK, cxnK, List.map_cons, List.map_nil, List.length_cons, List.length_nil, List.replicate, List.cons_append, List.nil_append, List.append_nil, List.set_cons_zero, List.set_cons_succ, List.getElem?_cons_zero, List.getElem?_cons_succ, Option.some.injEq, V.ref.injEq, V.int.injEq, V.str.injEq, V.bl.injEq, V.ty.injEq, exists_eq_left', exists_eq_left, exists_and_left, List.cons.injEq, and_true, true_and, sc_ii, sc_ss, sc_bb, sc_ni, sc_in, sc_is, sc_si, sc_nn, decide_true, decide_false, reduceCtorEq, Bool.false_eq_true, if_true, if_false, ite_true, ite_false, exists_const, eq_self, false_and, and_false, or_false, false_or, exists_false, Evl.rLenS, rSum, wipe, tYes, exists_eq, exists_eq', rIxL, rIxT, rIxS, exists_and_right, gt_iff_lt, not_true_eq_false, not_false_eq_true, Bool.not_true, Bool.not_false, decide_eq_true_eq, Nat.reduceSub, Nat.reduceAdd, List.append_assoc, tChain, tDIn, tDNotIn, sDDel, tAug, ipI]
      refine pr_make (.inl (sq_l hv)) hws (fitsP sub_ff) (by rw [List.length_map]; exact Nat.le_trans (List.length_filter_le _ _) (Nat.le_trans (lenP f1) (by decide))) (all_isP sub_ff) fun o H' no hp hk => ?_
      exact q o H' (k2.free0 no) (hp.same fun p h => pick_filter h) (k2.trans hk)
theorem ok_Pairs_sub {f : Addr} {fd : FuncData} (F : Fun K "__sub__" "Pairs.__sub__" s_Pairs_sub f fd) {PC BP fI : Addr} {fdI : FuncData} (T : Bt2 K mg T_PAIRS PC fI) (C : PrC K mg PC) (bI_Pairs : Binds K fdI ["self", "pairs"] []) (G_Pairs_init : FnOk P w K mg base (L2.CX P w) 3 fI fdI ["self", "pairs"] (spPI K PC BP)) :
    FnOk P w K mg base CX0 5 f fd ["self", "other"] (spBin K PC (fun x y => x && !y)) := by
  refine F.ok sc_Pairs_sub (fun vs H Q E h => ?_) (fun cdv A outer s H vs Q E hr h => ?_)
  · obtain ⟨o1, o2, f1, f2, rfl, _⟩ := h
    rfl
  · obtain ⟨o1, o2, f1, f2, rfl, h1, h2, q⟩ := h
    have M_Pairs := T.M_Pairs
    refine ⟨_, (pss_one (ps_ret (pe_make M_Pairs G_Pairs_init (hr.mono (by decide)) rfl T.k_Pairs bI_Pairs .nil passL (pa_cons (pe_lc (own := [("pair", 2)]) (g := (gName 2)) rfl sc_Pairs_sub.nd (pi_list (pe_fld (pv 0) rfl)) (blkOk_by (N := ["self", "other", "pair"]) (sc := defScope s_Pairs_sub) (by decide +kernel)) (fun _ _ _ _ _ => (pg_name (i := 2) sc_Pairs_sub.nd rfl (Or.inl rfl))) (fun _ _ _ _ _ => (pts_one (pt_cmpR (r := rNotInD K) (op_notInD (hu5 hr)) (pv 2) ((pe_fld (pv 1) rfl) : PE _ _ (tFld K _ "_pairs")) (by rfl)))) (fun _ _ _ _ _ => (pv 2))) pa_nil)))), ?_⟩
    try simp only [tSeq, tIfS, tTest, tOp, tUn, tCB, tCons, tNil, tVar, tC, rI0, rI, rU, rEq, rNe, tRet, tRetN, tAsg, gName, gSub, tBM, tBM0, tNext, tB, tNot, tAnd, tOr, tIf, tCall, tDrop, tBreak, tCont, L2.start, tDGet, sDPut, tTup, tLst, tDNewK, tRevL, rCat, rAppend, rPop, rSetL, tAndV, tOrV, tNotV, tSl, tPart, tNoPart, tM1, gTup, gCons, gNil, cxK, cxnK, List.map_cons, List.map_nil, List.length_cons, List.length_nil, List.replicate, List.cons_append, List.nil_append, List.append_nil, List.set_cons_zero, List.set_cons_succ, List.getElem?_cons_zero, List.getElem?_cons_succ, Option.some.injEq, V.ref.injEq, V.int.injEq, V.str.injEq, V.bl.injEq, V.ty.injEq, exists_eq_left', exists_eq_left, exists_and_left, List.cons.injEq, and_true, true_and, sc_ii, sc_ss, sc_bb, sc_ni, sc_in, sc_is, sc_si, sc_nn, decide_true, decide_false, reduceCtorEq, Bool.false_eq_true, if_true, if_false, ite_true, ite_false, exists_const, eq_self, false_and, and_false, or_false, false_or, exists_false, Evl.rLenS, rSum, wipe, tYes, exists_eq, exists_eq', rIxL, rIxT, rIxS, exists_and_right, gt_iff_lt, not_true_eq_false, not_false_eq_true, Bool.not_true, Bool.not_false, decide_eq_true_eq, Nat.reduceSub, Nat.reduceAdd, List.append_assoc, tChain, tDIn, tDNotIn, sDDel, tAug, ipI, tMake]
    obtain ⟨dx, l, us, ho, hl, hD⟩ := h1
    refine ⟨.ref o1, rfl, o1, PC, dx, _, .ref l, rfl, ho, C.cl, C.n1, rfl, l, rfl, ⟨us, sq_l hl⟩, fun D nD => lc_list (K := K) (a := l) (xs := us) (LcD K D H fun i => ((pairsL.filter f1).take i).filter fun p => !f2 p) ⟨[], upd_same, .nil, Kp.new nD⟩ (fun i H' _ h => by obtain ⟨_, _, _, k⟩ := h; exact k.ls not0 (sq_l hl)) ?_ ?_⟩
    · rintro i x H2 hx hh
      have k2 : Kp [] H H2 := by obtain ⟨_, _, _, k⟩ := hh; exact k
      obtain ⟨d, ed, hd⟩ := dpGet (dpAllN k2 noSq0 hD) hx
      obtain ⟨p, ep, rfl⟩ := pD_at ed
      have hp : p ∈ pairsL := subP f1 p (List.mem_of_getElem? ep)
      obtain ⟨dx2, l2, us2, ho2, hl2, hD2⟩ := h2.kp k2
      try simp only [tSeq, tIfS, tTest, tOp, tUn, tCB, tCons, tNil, tVar, tC, rI0, rI, rU, rEq, rNe, tRet, tRetN, tAsg, gName, gSub, tBM, tBM0, tNext, tB, tNot, tAnd, tOr, tIf, tCall, tDrop, tBreak, tCont, L2.start, tDGet, sDPut, tTup, tLst, tDNewK, tRevL, rCat, rAppend, rPop, rSetL, tAndV, tOrV, tNotV, tSl, tPart, tNoPart, tM1, gTup, gCons, gNil, cxK, cxnK, List.map_cons, List.map_nil, List.length_cons, List.length_nil, List.replicate, List.cons_append, List.nil_append, List.append_nil, List.set_cons_zero, List.set_cons_succ, List.getElem?_cons_zero, List.getElem?_cons_succ, Option.some.injEq, V.ref.injEq, V.int.injEq, V.str.injEq, V.bl.injEq, V.ty.injEq, exists_eq_left', exists_eq_left, exists_and_left, List.cons.injEq, and_true, true_and, sc_ii, sc_ss, sc_bb, sc_ni, sc_in, sc_is, sc_si, sc_nn, decide_true, decide_false, reduceCtorEq, Bool.false_eq_true, if_true, if_false, ite_true, ite_false, exists_const, eq_self, false_and, and_false, or_false, false_or, exists_false, Evl.rLenS, rSum, wipe, tYes, exists_eq, exists_eq', rIxL, rIxT, rIxS, exists_and_right, gt_iff_lt, not_true_eq_false, not_false_eq_true, Bool.not_true, Bool.not_false, decide_eq_true_eq, Nat.reduceSub, Nat.reduceAdd, List.append_assoc, tChain, tDIn, tDNotIn, sDDel, tAug, ipI]
      refine ⟨.ref o2, rfl, o2, PC, dx2, _, .ref l2, rfl, ho2, C.cl, C.n1, rfl, pD p, _, hd, .lst (sq_l hl2) hD2, okP hp, (shapedL (fitsP (subP f2))).1, ?_⟩
      have e : (((pairsL.filter f2).map pD).any fun z => PyData.eqv z (pD p)) = f2 p := pick_eq hp
      rw [e]
      cases hk : f2 p with
      | false =>
        try simp only [tSeq, tIfS, tTest, tOp, tUn, tCB, tCons, tNil, tVar, tC, rI0, rI, rU, rEq, rNe, tRet, tRetN, tAsg, gName, gSub, tBM, tBM0, tNext, tB, tNot, tAnd, tOr, tIf, tCall, tDrop, tBreak, tCont, L2.start, tDGet, sDPut, tTup, tLst, tDNewK, tRevL, rCat, rAppend, rPop, rSetL, tAndV, tOrV, tNotV, tSl, tPart, tNoPart, tM1, gTup, gCons, gNil, cxK, cxnK, List.map_cons, List.map_nil, List.length_cons, List.length_nil, List.replicate, List.cons_append, List.nil_append, List.append_nil, List.set_cons_zero, List.set_cons_succ, List.getElem?_cons_zero, List.getElem?_cons_succ, Option.some.injEq, V.ref.injEq, V.int.injEq, V.str.injEq, V.bl.injEq, V.ty.injEq, exists_eq_left', exists_eq_left, exists_and_left, List.cons.injEq, and_true, true_and, sc_ii, sc_ss, sc_bb, sc_ni, sc_in, sc_is, sc_si, sc_nn, decide_true, decide_false, reduceCtorEq, Bool.false_eq_true, if_true, if_false, ite_true, ite_false, exists_const, eq_self, false_and, and_false, or_false, false_or, exists_false, Evl.rLenS, rSum, wipe, tYes, exists_eq, exists_eq', rIxL, rIxT, rIxS, exists_and_right, gt_iff_lt, not_true_eq_false, not_false_eq_true, Bool.not_true, Bool.not_false, decide_eq_true_eq, Nat.reduceSub, Nat.reduceAdd, List.append_assoc, tChain, tDIn, tDNotIn, sDDel, tAug, ipI]
        exact lcD_put hh nD hd (by rw [filter_take ep, if_pos (by rw [hk]; rfl)]) (take_len (Nat.le_trans (lenP f1) (by decide)))
      | true =>
        try simp only [tSeq, tIfS, tTest, tOp, tUn, tCB, tCons, tNil, tVar, tC, rI0, rI, rU, rEq, rNe, tRet, tRetN, tAsg, gName, gSub, tBM, tBM0, tNext, tB, tNot, tAnd, tOr, tIf, tCall, tDrop, tBreak, tCont, L2.start, tDGet, sDPut, tTup, tLst, tDNewK, tRevL, rCat, rAppend, rPop, rSetL, tAndV, tOrV, tNotV, tSl, tPart, tNoPart, tM1, gTup, gCons, gNil, cxK, cxnK, List.map_cons, List.map_nil, List.length_cons, List.length_nil, List.replicate, List.cons_append, List.nil_append, List.append_nil, List.set_cons_zero, List.set_cons_succ, List.getElem?_cons_zero, List.getElem?_cons_succ, Option.some.injEq, V.ref.injEq, V.int.injEq, V.str.injEq, V.bl.injEq, V.ty.injEq, exists_eq_left', exists_eq_left, exists_and_left, List.cons.injEq, and_true, true_and, sc_ii, sc_ss, sc_bb, sc_ni, sc_in, sc_is, sc_si, sc_nn, decide_true, decide_false, reduceCtorEq, Bool.false_eq_true, if_true, if_false, ite_true, ite_false, exists_const, eq_self, false_and, and_false, or_false, false_or, exists_false, Evl.rLenS, rSum, wipe, tYes, exists_eq, exists_eq', rIxL, rIxT, rIxS, exists_and_right, gt_iff_lt, not_true_eq_false, not_false_eq_true, Bool.not_true, Bool.not_false, decide_eq_true_eq, Nat.reduceSub, Nat.reduceAdd, List.append_assoc, tChain, tDIn, tDNotIn, sDDel, tAug, ipI]
        exact lcD_skip hh (by rw [filter_take ep, if_neg (by rw [hk]; exact Bool.false_ne_true), List.append_nil])
    · rintro H2 ⟨ws, hv, hws, k2⟩
      rw [dpLen hD, List.length_map] at hws
      dsimp only at hws
      rw [List.take_length] at hws
      try simp only [tSeq, tIfS, tTest, tOp, tUn, tCB, tCons, tNil, tVar, tC, rI0, rI, rU, rEq, rNe, tRet, tRetN, tAsg, gName, gSub, tBM, tBM0, tNext, tB, tNot, tAnd, tOr, tIf, tCall, tDrop, tBreak, tCont, L2.start, tDGet, sDPut, tTup, tLst, tDNewK, tRevL, rCat, rAppend, rPop, rSetL, tAndV, tOrV, tNotV, tSl, tPart, tNoPart, tM1, gTup, gCons, gNil, cxK, cxnK, List.map_cons, List.map_nil, List.length_cons, List.length_nil, List.replicate, List.cons_append, List.nil_append, List.append_nil, List.set_cons_zero, List.set_cons_succ, List.getElem?_cons_zero, List.getElem?_cons_succ, Option.some.injEq, V.ref.injEq, V.int.injEq, V.str.injEq, V.bl.injEq, V.ty.injEq, exists_eq_left', exists_eq_left, exists_and_left, List.cons.injEq, and_true, true_and, sc_ii, sc_ss, sc_bb, sc_ni, sc_in, sc_is, sc_si, sc_nn, decide_true, decide_false, reduceCtorEq, Bool.false_eq_true, if_true, if_false, ite_true, ite_false, exists_const, eq_self, false_and, and_false, or_false, false_or, exists_false, Evl.rLenS, rSum, wipe, tYes, exists_eq, exists_eq', rIxL, rIxT, rIxS, exists_and_right, gt_iff_lt, not_true_eq_false, not_false_eq_true, Bool.not_true, Bool.not_false, decide_eq_true_eq, Nat.reduceSub, Nat.reduceAdd, List.append_assoc, tChain, tDIn, tDNotIn, sDDel, tAug, ipI]
      refine pr_make (.inl (sq_l hv)) hws (fitsP sub_ff) (by rw [List.length_map]; exact Nat.le_trans (List.length_filter_le _ _) (Nat.le_trans (lenP f1) (by decide))) (all_isP sub_ff) fun o H' no hp hk => ?_
      exact q o H' (k2.free0 no) (hp.same fun p h => pick_filter h) (k2.trans hk)
theorem ok_Pairs_or {f : Addr} {fd : FuncData} (F : Fun K "__or__" "Pairs.__or__" s_Pairs_or f fd) {PC BP fI : Addr} {fdI : FuncData} (T : Bt2 K mg T_PAIRS PC fI) (C : PrC K mg PC) (bI_Pairs : Binds K fdI ["self", "pairs"] []) (G_Pairs_init : FnOk P w K mg base (L2.CX P w) 3 fI fdI ["self", "pairs"] (spPI K PC BP)) :
    FnOk P w K mg base CX0 5 f fd ["self", "other"] (spBin K PC (· || ·)) := by
  refine F.ok sc_Pairs_or (fun vs H Q E h => ?_) (fun cdv A outer s H vs Q E hr h => ?_)
  · obtain ⟨o1, o2, f1, f2, rfl, _⟩ := h
    rfl
  · obtain ⟨o1, o2, f1, f2, rfl, ⟨dx, l, us, ho, hl, hD⟩, ⟨dx2, l2, us2, ho2, hl2, hD2⟩, q⟩ := h
    have M_Pairs := T.M_Pairs
    refine ⟨_, (pss_one (ps_ret (pe_make M_Pairs G_Pairs_init (hr.mono (by decide)) rfl T.k_Pairs bI_Pairs .nil passL (pa_cons (pe_op op_cat (pe_fld (pv 0) rfl) (pe_fld (pv 1) rfl)) pa_nil)))), ?_⟩
    have n1 := lenP f1
    have n2 := lenP f2
    have z1 := dpLen hD
    have z2 := dpLen hD2
    rw [List.length_map] at z1 z2
    try simp only [tSeq, tIfS, tTest, tOp, tUn, tCB, tCons, tNil, tVar, tC, rI0, rI, rU, rEq, rNe, tRet, tRetN, tAsg, gName, gSub, tBM, tBM0, tNext, tB, tNot, tAnd, tOr, tIf, tCall, tDrop, tBreak, tCont, L2.start, tDGet, sDPut, tTup, tLst, tDNewK, tRevL, rCat, rAppend, rPop, rSetL, tAndV, tOrV, tNotV, tSl, tPart, tNoPart, tM1, gTup, gCons, gNil, cxK, cxnK, List.map_cons, List.map_nil, List.length_cons, List.length_nil, List.replicate, List.cons_append, List.nil_append, List.append_nil, List.set_cons_zero, List.set_cons_succ, List.getElem?_cons_zero, List.getElem?_cons_succ, Option.some.injEq, V.ref.injEq, V.int.injEq, V.str.injEq, V.bl.injEq, V.ty.injEq, exists_eq_left', exists_eq_left, exists_and_left, List.cons.injEq, and_true, true_and, sc_ii, sc_ss, sc_bb, sc_ni, sc_in, sc_is, sc_si, sc_nn, decide_true, decide_false, reduceCtorEq, Bool.false_eq_true, if_true, if_false, ite_true, ite_false, exists_const, eq_self, false_and, and_false, or_false, false_or, exists_false, Evl.rLenS, rSum, wipe, tYes, exists_eq, exists_eq', rIxL, rIxT, rIxS, exists_and_right, gt_iff_lt, not_true_eq_false, not_false_eq_true, Bool.not_true, Bool.not_false, decide_eq_true_eq, Nat.reduceSub, Nat.reduceAdd, List.append_assoc, tChain, tDIn, tDNotIn, sDDel, tAug, ipI, tMake]
    refine ⟨.ref o1, rfl, o1, PC, dx, _, .ref l, rfl, ho, C.cl, C.n1, rfl, .ref o2, rfl, o2, PC, dx2, _, .ref l2, rfl, ho2, C.cl, C.n1, rfl, ?_⟩
    refine ⟨l, rfl, l2, rfl, us, hl, us2, hl2, small (by omega), fun D nD => ?_⟩
    have kn : Kp [] H (upd H D (.lst (us ++ us2))) := Kp.new nD
    have hap : DpAll K (upd H D (.lst (us ++ us2))) (us ++ us2) ((pairsL.filter f1 ++ pairsL.filter f2).map pD) := by
      rw [List.map_append]
      exact dpApp (dpAllN kn noSq0 hD) (dpAllN kn noSq0 hD2)
    have sub2 : ∀ p ∈ pairsL.filter f1 ++ pairsL.filter f2, p ∈ pairsL := fun p h => by
      rcases List.mem_append.mp h with h | h
      · exact subP f1 p h
      · exact subP f2 p h
    refine pr_make (.inl (sq_l upd_same)) hap (fitsP sub2) (by rw [List.length_map, List.length_append]; omega) (all_isP sub2) fun o H' no hp hk => ?_
    refine q o H' (kn.free0 no) (hp.same fun p h => ?_) (kn.trans hk)
    unfold pick
    rw [List.map_append, List.any_append]
    show (pick ((pairsL.filter f1).map pD) p || pick ((pairsL.filter f2).map pD) p) = _
    rw [pick_eq h, pick_eq h]
def spWithin (K : PySem.W.Frag) (PC : Addr) : Sp := fun vs H Q _ => ∃ (o1 o2 : Addr) (f1 f2 : Pr → Bool), vs = [.ref o1, .ref o2] ∧ PrAt K PC H o1 f1 ∧ PrAt K PC H o2 f2 ∧ ∀ H', Kp [] H H' → Q (.bl ((pairsL.filter f1).all f2)) H'
def WiInv (D : Addr) (H : Hp) (f1 f2 : Pr → Bool) (i : Nat) (H' : Hp) : Prop := ∃ bs : List Bool, H' D = some (.lst (bs.map V.bl)) ∧ bs = ((pairsL.filter f1).take i).map f2 ∧ Kp [] H H'
theorem ok_Pairs_within {f : Addr} {fd : FuncData} (F : Fun K "within" "Pairs.within" s_Pairs_within f fd) (T : Bt K mg T_PAIRS) {PC fC : Addr} {fdC : FuncData} (C : PrC K mg PC) (IN_Pairs : InC K PC fC) (b_Pairs_contains : Binds K fdC ["self", "x"] []) (G_Pairs_contains : FnOk P w K mg base CX0 1 fC fdC ["self", "x"] (spCont K PC)) :
    FnOk P w K mg base CX0 2 f fd ["self", "other"] (spWithin K PC) := by
  refine F.ok sc_Pairs_within (fun vs H Q E h => ?_) (fun cdv A outer s H vs Q E hr h => ?_)
  · obtain ⟨o1, o2, f1, f2, rfl, _⟩ := h
    rfl
  · obtain ⟨o1, o2, f1, f2, rfl, ⟨dx, l, us, ho, hl, hD⟩, h2, q⟩ := h
    refine ⟨_, (pss_one (ps_ret (pe_callB (id := "all") (r := rAll K) (cr_all rfl) (by rfl) T.b_all (by decide +kernel) (pa_cons (pe_lc (own := [("pair", 2)]) (g := (gName 2)) (tt := tYes) rfl sc_Pairs_within.nd (pi_list (pe_fld (pv 0) rfl)) (blkOk_by (N := ["self", "other", "pair"]) (sc := defScope s_Pairs_within) (by decide +kernel)) (fun _ _ _ _ _ => (pg_name (i := 2) sc_Pairs_within.nd rfl (Or.inl rfl))) (fun _ _ _ _ _ => pts_nil) (fun _ _ _ _ _ => (pe_cmpR (op_inO IN_Pairs G_Pairs_contains b_Pairs_contains (hr.mono (by decide)) pass0) (pv 2) (pv 1) (by rfl)))) pa_nil)))), ?_⟩
    try simp only [tSeq, tIfS, tTest, tOp, tUn, tCB, tCons, tNil, tVar, tC, rI0, rI, rU, rEq, rNe, tRet, tRetN, tAsg, gName, gSub, tBM, tBM0, tNext, tB, tNot, tAnd, tOr, tIf, tCall, tDrop, tBreak, tCont, L2.start, tDGet, sDPut, tTup, tLst, tDNewK, tRevL, rCat, rAppend, rPop, rSetL, tAndV, tOrV, tNotV, tSl, tPart, tNoPart, tM1, gTup, gCons, gNil, cxK, cxnK, List.map_cons, List.map_nil, List.length_cons, List.length_nil, List.replicate, List.cons_append, List.nil_append, List.append_nil, List.set_cons_zero, List.set_cons_succ, List.getElem?_cons_zero, List.getElem?_cons_succ, Option.some.injEq, V.ref.injEq, V.int.injEq, V.str.injEq, V.bl.injEq, V.ty.injEq, exists_eq_left', exists_eq_left, exists_and_left, List.cons.injEq, and_true, true_and, sc_ii, sc_ss, sc_bb, sc_ni, sc_in, sc_is, sc_si, sc_nn, decide_true, decide_false, reduceCtorEq, Bool.false_eq_true, if_true, if_false, ite_true, ite_false, exists_const, eq_self, false_and, and_false, or_false, false_or, exists_false, Evl.rLenS, rSum, wipe, tYes, exists_eq, exists_eq', rIxL, rIxT, rIxS, exists_and_right, gt_iff_lt, not_true_eq_false, not_false_eq_true, Bool.not_true, Bool.not_false, decide_eq_true_eq, Nat.reduceSub, Nat.reduceAdd, List.append_assoc, tChain, tDIn, tDNotIn, sDDel, tAug, ipI]
    refine ⟨.ref o1, rfl, o1, PC, dx, _, .ref l, rfl, ho, C.cl, C.n1, rfl, l, rfl, ⟨us, sq_l hl⟩, fun D nD => lc_list (K := K) (a := l) (xs := us) (WiInv D H f1 f2) ⟨[], upd_same, rfl, Kp.new nD⟩ (fun i H' _ h => by obtain ⟨_, _, _, k⟩ := h; exact k.ls not0 (sq_l hl)) ?_ ?_⟩
    · rintro i x H2 hx ⟨bs, hb, eb, k2⟩
      obtain ⟨d, ed, hd⟩ := dpGet (dpAllN k2 noSq0 hD) hx
      obtain ⟨p, ep, rfl⟩ := pD_at ed
      have hp : p ∈ pairsL := subP f1 p (List.mem_of_getElem? ep)
      have h22 := h2.kp k2
      obtain ⟨dx2, l2, us2, ho2, hl2, hD2⟩ := h2.kp k2
      try simp only [tSeq, tIfS, tTest, tOp, tUn, tCB, tCons, tNil, tVar, tC, rI0, rI, rU, rEq, rNe, tRet, tRetN, tAsg, gName, gSub, tBM, tBM0, tNext, tB, tNot, tAnd, tOr, tIf, tCall, tDrop, tBreak, tCont, L2.start, tDGet, sDPut, tTup, tLst, tDNewK, tRevL, rCat, rAppend, rPop, rSetL, tAndV, tOrV, tNotV, tSl, tPart, tNoPart, tM1, gTup, gCons, gNil, cxK, cxnK, List.map_cons, List.map_nil, List.length_cons, List.length_nil, List.replicate, List.cons_append, List.nil_append, List.append_nil, List.set_cons_zero, List.set_cons_succ, List.getElem?_cons_zero, List.getElem?_cons_succ, Option.some.injEq, V.ref.injEq, V.int.injEq, V.str.injEq, V.bl.injEq, V.ty.injEq, exists_eq_left', exists_eq_left, exists_and_left, List.cons.injEq, and_true, true_and, sc_ii, sc_ss, sc_bb, sc_ni, sc_in, sc_is, sc_si, sc_nn, decide_true, decide_false, reduceCtorEq, Bool.false_eq_true, if_true, if_false, ite_true, ite_false, exists_const, eq_self, false_and, and_false, or_false, false_or, exists_false, Evl.rLenS, rSum, wipe, tYes, exists_eq, exists_eq', rIxL, rIxT, rIxS, exists_and_right, gt_iff_lt, not_true_eq_false, not_false_eq_true, Bool.not_true, Bool.not_false, decide_eq_true_eq, Nat.reduceSub, Nat.reduceAdd, List.append_assoc, tChain, tDIn, tDNotIn, sDDel, tAug, ipI, rInO]
      refine ⟨⟨dx2, _, ho2⟩, o2, f2, x, pD p, rfl, h22, hd, okP hp, _, rfl, ?_⟩
      have e : (((pairsL.filter f2).map pD).any fun z => PyData.eqv z (pD p)) = f2 p := pick_eq hp
      rw [e]
      have bl : bs.length ≤ 27 := by
        rw [eb, List.length_map, List.length_take]
        have := lenP f1
        omega
      refine ⟨_, hb, by rw [List.length_map]; exact smallL (by omega), bs ++ [f2 p], ?_, ?_, k2.wr nD⟩
      · rw [upd_same, List.map_append]; rfl
      · rw [List.take_add_one, ep, List.map_append, eb]; rfl
    · rintro H2 ⟨bs, hb, eb, k2⟩
      rw [dpLen hD, List.length_map, List.take_length] at eb
      refine ⟨D, bs, rfl, sq_l hb, ?_⟩
      have e : bs.all id = (pairsL.filter f1).all f2 := by rw [eb, List.all_map]; rfl
      rw [e]
      exact q _ k2
def inW (zs : List Str) (x : Str) : Bool := decide (x ∈ zs)
def spBetween (K : PySem.W.Frag) (PC : Addr) : Sp := fun vs H Q _ => ∃ (a1 a2 : Addr) (z1 z2 : List Str), vs = [.ref a1, .ref a2] ∧ SqT K H a1 (z1.map V.str) ∧ SqT K H a2 (z2.map V.str) ∧ ∀ o H', H o = none → PrAt K PC H' o (fun p => inW z1 p.1 && inW z2 p.2) → Kp [] H H' → Q (.ref o) H'
theorem in_strs {zs : List Str} {x : Str} : inV (.str x) (zs.map V.str) = inW zs x := by
  unfold inV inW
  rw [List.any_map]
  have e : ((fun y => eqV y (V.str x)) ∘ V.str) = fun y => y == x := by funext y; rfl
  rw [e]
  by_cases h : x ∈ zs
  · rw [decide_eq_true h]
    exact List.any_eq_true.mpr ⟨x, h, beq_self_eq_true x⟩
  · rw [decide_eq_false h]
    refine Bool.eq_false_iff.mpr fun z => ?_
    obtain ⟨y, hy, e⟩ := List.any_eq_true.mp z
    exact h (eq_of_beq e ▸ hy)
theorem flat_map (zs : List Str) : (zs.map V.str).all flatV = true := by
  rw [List.all_map]
  exact List.all_eq_true.mpr fun _ _ => rfl
theorem dpPair {H : Hp} {v : V} {p : Pr} (h : Dp K H v (pD p)) : ∃ t, v = .ref t ∧ SqT K H t [.str p.1, .str p.2] := by
  cases h with
  | tup e a =>
    cases a with
    | cons a1 a =>
      cases a with
      | cons a2 a =>
        cases a
        cases a1
        cases a2
        exact ⟨_, rfl, e⟩
theorem ok_Pairs_between {f : Addr} {fd : FuncData} (F : Fun K "between" "Pairs.between" s_Pairs_between f fd) {PC BP fI : Addr} {fdI : FuncData} (T : Bt2 K mg T_PAIRS PC fI) (C : PrC K mg PC) (bI_Pairs : Binds K fdI ["self", "pairs"] []) (G_Pairs_init : FnOk P w K mg base (L2.CX P w) 3 fI fdI ["self", "pairs"] (spPI K PC BP)) :
    FnOk P w K mg base CX0 5 f fd ["firsts", "seconds"] (spBetween K PC) := by
  refine F.ok sc_Pairs_between (fun vs H Q E h => ?_) (fun cdv A outer s H vs Q E hr h => ?_)
  · obtain ⟨o1, o2, f1, f2, rfl, _⟩ := h
    rfl
  · obtain ⟨a1, a2, z1, z2, rfl, h1, h2, q⟩ := h
    have M_Pairs := T.M_Pairs
    obtain ⟨zs, hz⟩ := T.pk
    refine ⟨_, (pss_one (ps_ret (pe_make M_Pairs G_Pairs_init (hr.mono (by decide)) rfl T.k_Pairs bI_Pairs .nil passL (pa_cons (pe_lc (own := [("pair", 2)]) (g := (gName 2)) rfl sc_Pairs_between.nd (pi_tup (pe_glob (v := .ref T_PAIRS) rfl T.c_PAIRS rfl)) (blkOk_by (N := ["firsts", "seconds", "pair"]) (sc := defScope s_Pairs_between) (by decide +kernel)) (fun _ _ _ _ _ => (pg_name (i := 2) sc_Pairs_between.nd rfl (Or.inl rfl))) (fun _ _ _ _ _ => (pts_one (PW.pt (pw_and (pt_cmpR (r := rIn K false) op_in_seq (pe_ix (r := rIxT K) ix_tup (pv 2) pe_int (fun _ _ => rfl)) (pv 0) (by rfl)) (pw_and1 (pt_cmpR (r := rIn K false) op_in_seq (pe_ix (r := rIxT K) ix_tup (pv 2) pe_int (fun _ _ => rfl)) (pv 1) (by rfl))))))) (fun _ _ _ _ _ => (pv 2))) pa_nil)))), ?_⟩
    try simp only [tSeq, tIfS, tTest, tOp, tUn, tCB, tCons, tNil, tVar, tC, rI0, rI, rU, rEq, rNe, tRet, tRetN, tAsg, gName, gSub, tBM, tBM0, tNext, tB, tNot, tAnd, tOr, tIf, tCall, tDrop, tBreak, tCont, L2.start, tDGet, sDPut, tTup, tLst, tDNewK, tRevL, rCat, rAppend, rPop, rSetL, tAndV, tOrV, tNotV, tSl, tPart, tNoPart, tM1, gTup, gCons, gNil, cxK, cxnK, List.map_cons, List.map_nil, List.length_cons, List.length_nil, List.replicate, List.cons_append, List.nil_append, List.append_nil, List.set_cons_zero, List.set_cons_succ, List.getElem?_cons_zero, List.getElem?_cons_succ, Option.some.injEq, V.ref.injEq, V.int.injEq, V.str.injEq, V.bl.injEq, V.ty.injEq, exists_eq_left', exists_eq_left, exists_and_left, List.cons.injEq, and_true, true_and, sc_ii, sc_ss, sc_bb, sc_ni, sc_in, sc_is, sc_si, sc_nn, decide_true, decide_false, reduceCtorEq, Bool.false_eq_true, if_true, if_false, ite_true, ite_false, exists_const, eq_self, false_and, and_false, or_false, false_or, exists_false, Evl.rLenS, rSum, wipe, tYes, exists_eq, exists_eq', rIxL, rIxT, rIxS, exists_and_right, gt_iff_lt, not_true_eq_false, not_false_eq_true, Bool.not_true, Bool.not_false, decide_eq_true_eq, Nat.reduceSub, Nat.reduceAdd, List.append_assoc, tChain, tDIn, tDNotIn, sDDel, tAug, ipI, tMake]
    refine ⟨T_PAIRS, rfl, ⟨_, (hz H).1⟩, fun D nD => lc_tup (K := K) (a := T_PAIRS) (xs := zs) (LcD K D H fun i => (pairsL.take i).filter fun p => inW z1 p.1 && inW z2 p.2) ⟨[], upd_same, .nil, Kp.new nD⟩ (fun i H' _ h => (hz H').1) ?_ ?_⟩
    · rintro i x H2 hx hh
      have k2 : Kp [] H H2 := by obtain ⟨_, _, _, k⟩ := hh; exact k
      obtain ⟨d, ed, hd⟩ := dpGet (hz H2).2 hx
      obtain ⟨p, ep, rfl⟩ := pD_at ed
      have hp : p ∈ pairsL := List.mem_of_getElem? ep
      obtain ⟨t, rfl, ht⟩ := dpPair hd
      have h12 := k2.tp not0 h1
      have h22 := k2.tp not0 h2
      try simp only [tSeq, tIfS, tTest, tOp, tUn, tCB, tCons, tNil, tVar, tC, rI0, rI, rU, rEq, rNe, tRet, tRetN, tAsg, gName, gSub, tBM, tBM0, tNext, tB, tNot, tAnd, tOr, tIf, tCall, tDrop, tBreak, tCont, L2.start, tDGet, sDPut, tTup, tLst, tDNewK, tRevL, rCat, rAppend, rPop, rSetL, tAndV, tOrV, tNotV, tSl, tPart, tNoPart, tM1, gTup, gCons, gNil, cxK, cxnK, List.map_cons, List.map_nil, List.length_cons, List.length_nil, List.replicate, List.cons_append, List.nil_append, List.append_nil, List.set_cons_zero, List.set_cons_succ, List.getElem?_cons_zero, List.getElem?_cons_succ, Option.some.injEq, V.ref.injEq, V.int.injEq, V.str.injEq, V.bl.injEq, V.ty.injEq, exists_eq_left', exists_eq_left, exists_and_left, List.cons.injEq, and_true, true_and, sc_ii, sc_ss, sc_bb, sc_ni, sc_in, sc_is, sc_si, sc_nn, decide_true, decide_false, reduceCtorEq, Bool.false_eq_true, if_true, if_false, ite_true, ite_false, exists_const, eq_self, false_and, and_false, or_false, false_or, exists_false, Evl.rLenS, rSum, wipe, tYes, exists_eq, exists_eq', rIxL, rIxT, rIxS, exists_and_right, gt_iff_lt, not_true_eq_false, not_false_eq_true, Bool.not_true, Bool.not_false, decide_eq_true_eq, Nat.reduceSub, Nat.reduceAdd, List.append_assoc, tChain, tDIn, tDNotIn, sDDel, tAug, ipI]
      refine ⟨_, ht, _, rfl, a1, _, rfl, .inr h12, rfl, flat_map _, _, rfl, ?_⟩
      rw [if_neg Bool.false_ne_true, in_strs]
      have skip : (inW z1 p.1 && inW z2 p.2) = false → LcD K D H (fun i => (pairsL.take i).filter fun p => inW z1 p.1 && inW z2 p.2) (i + 1) H2 := fun e => lcD_skip hh (by rw [filter_take ep, if_neg (by rw [e]; exact Bool.false_ne_true), List.append_nil])
      cases e1 : inW z1 p.1 with
      | false =>
        try simp only [tSeq, tIfS, tTest, tOp, tUn, tCB, tCons, tNil, tVar, tC, rI0, rI, rU, rEq, rNe, tRet, tRetN, tAsg, gName, gSub, tBM, tBM0, tNext, tB, tNot, tAnd, tOr, tIf, tCall, tDrop, tBreak, tCont, L2.start, tDGet, sDPut, tTup, tLst, tDNewK, tRevL, rCat, rAppend, rPop, rSetL, tAndV, tOrV, tNotV, tSl, tPart, tNoPart, tM1, gTup, gCons, gNil, cxK, cxnK, List.map_cons, List.map_nil, List.length_cons, List.length_nil, List.replicate, List.cons_append, List.nil_append, List.append_nil, List.set_cons_zero, List.set_cons_succ, List.getElem?_cons_zero, List.getElem?_cons_succ, Option.some.injEq, V.ref.injEq, V.int.injEq, V.str.injEq, V.bl.injEq, V.ty.injEq, exists_eq_left', exists_eq_left, exists_and_left, List.cons.injEq, and_true, true_and, sc_ii, sc_ss, sc_bb, sc_ni, sc_in, sc_is, sc_si, sc_nn, decide_true, decide_false, reduceCtorEq, Bool.false_eq_true, if_true, if_false, ite_true, ite_false, exists_const, eq_self, false_and, and_false, or_false, false_or, exists_false, Evl.rLenS, rSum, wipe, tYes, exists_eq, exists_eq', rIxL, rIxT, rIxS, exists_and_right, gt_iff_lt, not_true_eq_false, not_false_eq_true, Bool.not_true, Bool.not_false, decide_eq_true_eq, Nat.reduceSub, Nat.reduceAdd, List.append_assoc, tChain, tDIn, tDNotIn, sDDel, tAug, ipI]
        exact skip (by rw [e1]; rfl)
      | true =>
        try simp only [tSeq, tIfS, tTest, tOp, tUn, tCB, tCons, tNil, tVar, tC, rI0, rI, rU, rEq, rNe, tRet, tRetN, tAsg, gName, gSub, tBM, tBM0, tNext, tB, tNot, tAnd, tOr, tIf, tCall, tDrop, tBreak, tCont, L2.start, tDGet, sDPut, tTup, tLst, tDNewK, tRevL, rCat, rAppend, rPop, rSetL, tAndV, tOrV, tNotV, tSl, tPart, tNoPart, tM1, gTup, gCons, gNil, cxK, cxnK, List.map_cons, List.map_nil, List.length_cons, List.length_nil, List.replicate, List.cons_append, List.nil_append, List.append_nil, List.set_cons_zero, List.set_cons_succ, List.getElem?_cons_zero, List.getElem?_cons_succ, Option.some.injEq, V.ref.injEq, V.int.injEq, V.str.injEq, V.bl.injEq, V.ty.injEq, exists_eq_left', exists_eq_left, exists_and_left, List.cons.injEq, and_true, true_and, sc_ii, sc_ss, sc_bb, sc_ni, sc_in, sc_is, sc_si, sc_nn, decide_true, decide_false, reduceCtorEq, Bool.false_eq_true, if_true, if_false, ite_true, ite_false, exists_const, eq_self, false_and, and_false, or_false, false_or, exists_false, Evl.rLenS, rSum, wipe, tYes, exists_eq, exists_eq', rIxL, rIxT, rIxS, exists_and_right, gt_iff_lt, not_true_eq_false, not_false_eq_true, Bool.not_true, Bool.not_false, decide_eq_true_eq, Nat.reduceSub, Nat.reduceAdd, List.append_assoc, tChain, tDIn, tDNotIn, sDDel, tAug, ipI]
        refine ⟨_, ht, _, rfl, a2, _, rfl, .inr h22, rfl, flat_map _, _, rfl, ?_⟩
        rw [if_neg Bool.false_ne_true, in_strs]
        cases e2 : inW z2 p.2 with
        | false =>
          try simp only [tSeq, tIfS, tTest, tOp, tUn, tCB, tCons, tNil, tVar, tC, rI0, rI, rU, rEq, rNe, tRet, tRetN, tAsg, gName, gSub, tBM, tBM0, tNext, tB, tNot, tAnd, tOr, tIf, tCall, tDrop, tBreak, tCont, L2.start, tDGet, sDPut, tTup, tLst, tDNewK, tRevL, rCat, rAppend, rPop, rSetL, tAndV, tOrV, tNotV, tSl, tPart, tNoPart, tM1, gTup, gCons, gNil, cxK, cxnK, List.map_cons, List.map_nil, List.length_cons, List.length_nil, List.replicate, List.cons_append, List.nil_append, List.append_nil, List.set_cons_zero, List.set_cons_succ, List.getElem?_cons_zero, List.getElem?_cons_succ, Option.some.injEq, V.ref.injEq, V.int.injEq, V.str.injEq, V.bl.injEq, V.ty.injEq, exists_eq_left', exists_eq_left, exists_and_left, List.cons.injEq, and_true, true_and, sc_ii, sc_ss, sc_bb, sc_ni, sc_in, sc_is, sc_si, sc_nn, decide_true, decide_false, reduceCtorEq, Bool.false_eq_true, if_true, if_false, ite_true, ite_false, exists_const, eq_self, false_and, and_false, or_false, false_or, exists_false, Evl.rLenS, rSum, wipe, tYes, exists_eq, exists_eq', rIxL, rIxT, rIxS, exists_and_right, gt_iff_lt, not_true_eq_false, not_false_eq_true, Bool.not_true, Bool.not_false, decide_eq_true_eq, Nat.reduceSub, Nat.reduceAdd, List.append_assoc, tChain, tDIn, tDNotIn, sDDel, tAug, ipI]
          exact skip (by rw [e1, e2]; rfl)
        | true =>
          try simp only [tSeq, tIfS, tTest, tOp, tUn, tCB, tCons, tNil, tVar, tC, rI0, rI, rU, rEq, rNe, tRet, tRetN, tAsg, gName, gSub, tBM, tBM0, tNext, tB, tNot, tAnd, tOr, tIf, tCall, tDrop, tBreak, tCont, L2.start, tDGet, sDPut, tTup, tLst, tDNewK, tRevL, rCat, rAppend, rPop, rSetL, tAndV, tOrV, tNotV, tSl, tPart, tNoPart, tM1, gTup, gCons, gNil, cxK, cxnK, List.map_cons, List.map_nil, List.length_cons, List.length_nil, List.replicate, List.cons_append, List.nil_append, List.append_nil, List.set_cons_zero, List.set_cons_succ, List.getElem?_cons_zero, List.getElem?_cons_succ, Option.some.injEq, V.ref.injEq, V.int.injEq, V.str.injEq, V.bl.injEq, V.ty.injEq, exists_eq_left', exists_eq_left, exists_and_left, List.cons.injEq, and_true, true_and, sc_ii, sc_ss, sc_bb, sc_ni, sc_in, sc_is, sc_si, sc_nn, decide_true, decide_false, reduceCtorEq, Bool.false_eq_true, if_true, if_false, ite_true, ite_false, exists_const, eq_self, false_and, and_false, or_false, false_or, exists_false, Evl.rLenS, rSum, wipe, tYes, exists_eq, exists_eq', rIxL, rIxT, rIxS, exists_and_right, gt_iff_lt, not_true_eq_false, not_false_eq_true, Bool.not_true, Bool.not_false, decide_eq_true_eq, Nat.reduceSub, Nat.reduceAdd, List.append_assoc, tChain, tDIn, tDNotIn, sDDel, tAug, ipI]
          exact lcD_put hh nD hd (by rw [filter_take ep, if_pos (by rw [e1, e2]; rfl)]) (take_len (Nat.le_trans (Nat.le_of_eq pairs_len) (by decide)))
    · rintro H2 ⟨ws, hv, hws, k2⟩
      have hz27 : zs.length = pairsL.length := by
        have := dpLen (hz H2).2
        rw [List.length_map] at this; exact this
      rw [hz27] at hws
      dsimp only at hws
      rw [List.take_length] at hws
      try simp only [tSeq, tIfS, tTest, tOp, tUn, tCB, tCons, tNil, tVar, tC, rI0, rI, rU, rEq, rNe, tRet, tRetN, tAsg, gName, gSub, tBM, tBM0, tNext, tB, tNot, tAnd, tOr, tIf, tCall, tDrop, tBreak, tCont, L2.start, tDGet, sDPut, tTup, tLst, tDNewK, tRevL, rCat, rAppend, rPop, rSetL, tAndV, tOrV, tNotV, tSl, tPart, tNoPart, tM1, gTup, gCons, gNil, cxK, cxnK, List.map_cons, List.map_nil, List.length_cons, List.length_nil, List.replicate, List.cons_append, List.nil_append, List.append_nil, List.set_cons_zero, List.set_cons_succ, List.getElem?_cons_zero, List.getElem?_cons_succ, Option.some.injEq, V.ref.injEq, V.int.injEq, V.str.injEq, V.bl.injEq, V.ty.injEq, exists_eq_left', exists_eq_left, exists_and_left, List.cons.injEq, and_true, true_and, sc_ii, sc_ss, sc_bb, sc_ni, sc_in, sc_is, sc_si, sc_nn, decide_true, decide_false, reduceCtorEq, Bool.false_eq_true, if_true, if_false, ite_true, ite_false, exists_const, eq_self, false_and, and_false, or_false, false_or, exists_false, Evl.rLenS, rSum, wipe, tYes, exists_eq, exists_eq', rIxL, rIxT, rIxS, exists_and_right, gt_iff_lt, not_true_eq_false, not_false_eq_true, Bool.not_true, Bool.not_false, decide_eq_true_eq, Nat.reduceSub, Nat.reduceAdd, List.append_assoc, tChain, tDIn, tDNotIn, sDDel, tAug, ipI]
      refine pr_make (.inl (sq_l hv)) hws (fitsP (subP _)) (by rw [List.length_map]; exact Nat.le_trans (lenP _) (by decide)) (all_isP (subP _)) fun o H' no hp hk => ?_
      exact q o H' (k2.free0 no) (hp.same fun p h => pick_eq h) (k2.trans hk)
end
end My

set_option Elab.async false
set_option linter.all false
set_option maxRecDepth 100000
set_option maxHeartbeats 4000000
namespace My
open PySem L2 NdefX
abbrev s_law_great : Stmt := top 11
theorem sc_law_great : FnScope ["_law_cell", "_law_k", "_law_total", "_law_seed", "_law_turn"] ["_law_cell", "_law_k"] (defScope s_law_great) := ⟨rfl, rfl, rfl, by decide +kernel, rfl, by decide +kernel, by decide +kernel⟩
abbrev s_law_draw : Stmt := top 12
theorem sc_law_draw : FnScope ["_law_script", "_law_k", "_law_seed", "_law_cell"] ["_law_script", "_law_k"] (defScope s_law_draw) := ⟨rfl, rfl, rfl, by decide +kernel, rfl, by decide +kernel, by decide +kernel⟩
abbrev s_law_pairs : Stmt := top 13
theorem sc_law_pairs : FnScope ["_law_rows", "_law_one", "_law_two"] [] (defScope s_law_pairs) := ⟨rfl, rfl, rfl, by decide +kernel, rfl, by decide +kernel, by decide +kernel⟩
abbrev s_law_items : Stmt := top 14
theorem sc_law_items : FnScope ["_law_number", "_law_rows", "_law_way", "_law_k", "_law_many", "_law_seed", "_law_items_here"] ["_law_number"] (defScope s_law_items) := ⟨rfl, rfl, rfl, by decide +kernel, rfl, by decide +kernel, by decide +kernel⟩
abbrev s_law_words : Stmt := top 15
theorem sc_law_words : FnScope ["_law_number", "_law_words_here", "_law_many", "_law_k"] ["_law_number"] (defScope s_law_words) := ⟨rfl, rfl, rfl, by decide +kernel, rfl, by decide +kernel, by decide +kernel⟩
abbrev s_law_odd : Stmt := top 16
theorem sc_law_odd : FnScope ["_law_number", "_law_odd_here"] ["_law_number"] (defScope s_law_odd) := ⟨rfl, rfl, rfl, by decide +kernel, rfl, by decide +kernel, by decide +kernel⟩
abbrev s_law_spoilt : Stmt := top 17
theorem sc_law_spoilt : FnScope ["_law_items_here", "_law_number", "_law_spoilt_here", "_law_many", "_law_k", "_law_bad", "_law_place"] ["_law_items_here", "_law_number"] (defScope s_law_spoilt) := ⟨rfl, rfl, rfl, by decide +kernel, rfl, by decide +kernel, by decide +kernel⟩
abbrev s_law_first_bad : Stmt := top 18
theorem sc_law_first_bad : FnScope ["_law_items_here", "_law_rows", "_law_item"] ["_law_items_here"] (defScope s_law_first_bad) := ⟨rfl, rfl, rfl, by decide +kernel, rfl, by decide +kernel, by decide +kernel⟩
structure Bt0 (mg : Str → Option Value) : Prop where
  b_len : mg "len" = none
  b_int : mg "int" = none
  b_range : mg "range" = none
  b_list : mg "list" = none
  b_tuple : mg "tuple" = none
section
variable {P : Program} {w : World} {K : PySem.W.Frag} {mg : Str → Option Value} {base : Heap}
def spGreat : Sp := fun vs H Q _ => ∃ (c k : Int), vs = [.int c, .int k] ∧ ∀ n : Int, 0 ≤ n → Q (.int n) H
def GrInv (c k : Int) (H : Hp) (_ : Nat) (σ : L2.St) (H' : Hp) : Prop := ∃ (t s : Int) (x : Option V), σ = [some (.int c), some (.int k), some (.int t), some (.int s), x] ∧ 0 ≤ t ∧ H' = H
theorem ok_law_great {f : Addr} {fd : FuncData} (D : Df K mg "_law_great" s_law_great ["_law_cell", "_law_k"] f fd) (T : Bt0 mg) : FnOk P w K mg base CX0 1 f fd ["_law_cell", "_law_k"] spGreat := by
  refine D.F.ok sc_law_great (fun vs H Q E h => ?_) (fun cdv A outer s H vs Q E hr h => ?_)
  · obtain ⟨c, k, rfl, _⟩ := h
    rfl
  · obtain ⟨c, k, rfl, q⟩ := h
    refine ⟨_, (pss_cons (ps_if (pt_cmpR op_ge (pv 0) (pe_op op_pow pe_int pe_int) (nomark _)) (pss_one (ps_ret (pe_op op_sub (pv 0) (pe_op op_pow pe_int pe_int)))) pss_nil)
      (pss_cons (ps_set (i := 2) sc_law_great.nd rfl (Or.inl rfl) pe_int)
      (pss_cons (ps_set (i := 3) sc_law_great.nd rfl (Or.inl rfl) (pe_op op_add (pe_callTy (T := "int") call_int1 (by rfl) T.b_int (by decide +kernel) (pa_cons (pv 0) pa_nil)) (pe_op op_mul pe_int (pv 1))))
      (pss_cons (ps_for PassesOwn.never rfl (pi_range1 rfl T.b_range (pa_cons pe_int pa_nil)) (pg_name (i := 4) sc_law_great.nd rfl (Or.inl rfl)) (pss_cons (ps_set (i := 3) sc_law_great.nd rfl (Or.inl rfl) (pe_op op_mod (pe_callTy (T := "int") call_int1 (by rfl) T.b_int (by decide +kernel) (pa_cons (pe_op op_add (pe_op op_add (pe_op op_mul (pv 3) pe_int) (pe_op op_mul pe_int (pv 4))) pe_int) pa_nil)) pe_int))
      (pss_cons (ps_set (i := 3) sc_law_great.nd rfl (Or.inl rfl) (pe_op op_mod (pe_callTy (T := "int") call_int1 (by rfl) T.b_int (by decide +kernel) (pa_cons (pe_op op_add (pe_op op_mul (pv 3) pe_int) (pv 1)) pa_nil)) pe_int))
      (pss_one (ps_set (i := 2) sc_law_great.nd rfl (Or.inl rfl) (pe_op op_add (pe_op op_mul (pv 2) pe_int) (pv 3)))))))
      (pss_one (ps_ret (pv 2))))))), ?_⟩
    try simp only [tSeq, tIfS, tTest, tOp, tUn, tCB, tCons, tNil, tVar, tC, rI0, rI, rU, rEq, rNe, tRet, tRetN, tAsg, gName, gSub, tBM, tBM0, tNext, tB, tNot, tAnd, tOr, tIf, tCall, tDrop, tBreak, tCont, L2.start, tDGet, sDPut, tTup, tLst, tDNewK, tRevL, rCat, rAppend, rPop, rSetL, tAndV, tOrV, tNotV, tSl, tPart, tNoPart, tM1, gTup, gCons, gNil, cxK, cxnK, List.map_cons, List.map_nil, List.length_cons, List.length_nil, List.replicate, List.cons_append, List.nil_append, List.append_nil, List.set_cons_zero, List.set_cons_succ, List.getElem?_cons_zero, List.getElem?_cons_succ, Option.some.injEq, V.ref.injEq, V.int.injEq, V.str.injEq, V.bl.injEq, V.ty.injEq, exists_eq_left', exists_eq_left, exists_and_left, List.cons.injEq, and_true, true_and, sc_ii, sc_ss, sc_bb, sc_ni, sc_in, sc_is, sc_si, sc_nn, decide_true, decide_false, reduceCtorEq, Bool.false_eq_true, if_true, if_false, ite_true, ite_false, exists_const, eq_self, false_and, and_false, or_false, false_or, exists_false, Evl.rLenS, rSum, wipe, tYes, exists_eq, exists_eq', rIxL, rIxT, rIxS, exists_and_right, gt_iff_lt, not_true_eq_false, not_false_eq_true, Bool.not_true, Bool.not_false, decide_eq_true_eq, Nat.reduceSub, Nat.reduceAdd, List.append_assoc, tChain, tDIn, tDNotIn, sDDel, tAug, ipI]
    have p18 : CPow 10 18 := ⟨by decide, by decide, by decide⟩
    refine ⟨p18, ?_⟩
    refine ite2 (fun h1 => ?_) (fun h1 => ?_)
    · exact ⟨p18, q _ (by omega)⟩
    · refine ⟨.inl ⟨by decide, by decide⟩, 3, rfl, by decide, by decide, for_range (lo := 0) (n := 3) (GrInv c k H) ⟨0, _, none, rfl, by decide, rfl⟩ ?_ ?_⟩
      · rintro i σ H1 hi ⟨t, s, x, rfl, t0, rfl⟩
        try simp only [tSeq, tIfS, tTest, tOp, tUn, tCB, tCons, tNil, tVar, tC, rI0, rI, rU, rEq, rNe, tRet, tRetN, tAsg, gName, gSub, tBM, tBM0, tNext, tB, tNot, tAnd, tOr, tIf, tCall, tDrop, tBreak, tCont, L2.start, tDGet, sDPut, tTup, tLst, tDNewK, tRevL, rCat, rAppend, rPop, rSetL, tAndV, tOrV, tNotV, tSl, tPart, tNoPart, tM1, gTup, gCons, gNil, cxK, cxnK, List.map_cons, List.map_nil, List.length_cons, List.length_nil, List.replicate, List.cons_append, List.nil_append, List.append_nil, List.set_cons_zero, List.set_cons_succ, List.getElem?_cons_zero, List.getElem?_cons_succ, Option.some.injEq, V.ref.injEq, V.int.injEq, V.str.injEq, V.bl.injEq, V.ty.injEq, exists_eq_left', exists_eq_left, exists_and_left, List.cons.injEq, and_true, true_and, sc_ii, sc_ss, sc_bb, sc_ni, sc_in, sc_is, sc_si, sc_nn, decide_true, decide_false, reduceCtorEq, Bool.false_eq_true, if_true, if_false, ite_true, ite_false, exists_const, eq_self, false_and, and_false, or_false, false_or, exists_false, Evl.rLenS, rSum, wipe, tYes, exists_eq, exists_eq', rIxL, rIxT, rIxS, exists_and_right, gt_iff_lt, not_true_eq_false, not_false_eq_true, Bool.not_true, Bool.not_false, decide_eq_true_eq, Nat.reduceSub, Nat.reduceAdd, List.append_assoc, tChain, tDIn, tDNotIn, sDDel, tAug, ipI]
        refine ⟨.inr ⟨by decide, by decide⟩, .inl ⟨by decide, by decide⟩, by decide, .inr ⟨by decide, by decide⟩, by decide, .inr ⟨by decide, by decide⟩, _, _, _, rfl, ?_, rfl⟩
        have h1 := Int.emod_nonneg ((s * 48271 + 7 * (0 + (i : Int)) + 11) % 2147483647 * 69621 + k) (show (2147483629 : Int) ≠ 0 by decide)
        omega
      · rintro σ H1 ⟨t, s, x, rfl, t0, rfl⟩
        try simp only [tSeq, tIfS, tTest, tOp, tUn, tCB, tCons, tNil, tVar, tC, rI0, rI, rU, rEq, rNe, tRet, tRetN, tAsg, gName, gSub, tBM, tBM0, tNext, tB, tNot, tAnd, tOr, tIf, tCall, tDrop, tBreak, tCont, L2.start, tDGet, sDPut, tTup, tLst, tDNewK, tRevL, rCat, rAppend, rPop, rSetL, tAndV, tOrV, tNotV, tSl, tPart, tNoPart, tM1, gTup, gCons, gNil, cxK, cxnK, List.map_cons, List.map_nil, List.length_cons, List.length_nil, List.replicate, List.cons_append, List.nil_append, List.append_nil, List.set_cons_zero, List.set_cons_succ, List.getElem?_cons_zero, List.getElem?_cons_succ, Option.some.injEq, V.ref.injEq, V.int.injEq, V.str.injEq, V.bl.injEq, V.ty.injEq, exists_eq_left', exists_eq_left, exists_and_left, List.cons.injEq, and_true, true_and, sc_ii, sc_ss, sc_bb, sc_ni, sc_in, sc_is, sc_si, sc_nn, decide_true, decide_false, reduceCtorEq, Bool.false_eq_true, if_true, if_false, ite_true, ite_false, exists_const, eq_self, false_and, and_false, or_false, false_or, exists_false, Evl.rLenS, rSum, wipe, tYes, exists_eq, exists_eq', rIxL, rIxT, rIxS, exists_and_right, gt_iff_lt, not_true_eq_false, not_false_eq_true, Bool.not_true, Bool.not_false, decide_eq_true_eq, Nat.reduceSub, Nat.reduceAdd, List.append_assoc, tChain, tDIn, tDNotIn, sDDel, tAug, ipI]
        exact q _ t0
/-- the script -/
def Scr (K : PySem.W.Frag) (H : Hp) (a : Addr) (ns : List Int) : Prop := SqL K H a (ns.map V.int) ∧ ns.length ≤ 63
def spDrawK (K : PySem.W.Frag) : Sp := fun vs H Q _ => ∃ (a : Addr) (k : Int) (ns : List Int), vs = [.ref a, .int k] ∧ Scr K H a ns ∧ 0 ≤ k ∧ ∀ (n : Int) (H' : Hp), 0 ≤ n → Kp [] H H' → Q (.int n) H'
def DrInv (a : Addr) (k : Int) (H : Hp) (_ : Nat) (σ : L2.St) (H' : Hp) : Prop := ∃ (s : Int) (x : Option V), σ = [some (.ref a), some (.int k), some (.int s), x] ∧ Kp [] H H'
theorem ok_law_draw {f : Addr} {fd : FuncData} (D : Df K mg "_law_draw" s_law_draw ["_law_script", "_law_k"] f fd) (T : Bt0 mg) {fg : Addr} {fdg : FuncData} (D_law_great : Df K mg "_law_great" s_law_great ["_law_cell", "_law_k"] fg fdg) (G_law_great : FnOk P w K mg base CX0 1 fg fdg ["_law_cell", "_law_k"] spGreat) : FnOk P w K mg base CX0 2 f fd ["_law_script", "_law_k"] (spDrawK K) := by
  refine D.F.ok sc_law_draw (fun vs H Q E h => ?_) (fun cdv A outer s H vs Q E hr h => ?_)
  · obtain ⟨a, k, ns, rfl, _⟩ := h
    rfl
  · obtain ⟨a, k, ns, rfl, ⟨hS, hl⟩, k0, q⟩ := h
    refine ⟨_, (pss_cons (ps_if (pt_cmpR op_eq (pe_callB (id := "len") (r := Evl.rLenS K) call_len_seq (by rfl) T.b_len PySem.boot_len (pa_cons (pv 0) pa_nil)) pe_int (nomark _)) (pss_one (ps_ret pe_int)) pss_nil)
      (pss_cons (ps_if (pt_cmpR op_lt (pv 1) (pe_callB (id := "len") (r := Evl.rLenS K) call_len_seq (by rfl) T.b_len PySem.boot_len (pa_cons (pv 0) pa_nil)) (nomark _)) (pss_one (ps_ret (pe_call G_law_great (hr.mono (by decide)) rfl D_law_great.g D_law_great.F.kp D_law_great.b .nil pass0 (pa_cons (pe_ix (r := rIxL K) ix_list (pv 0) (pv 1) (fun _ _ => rfl)) (pa_cons (pv 1) pa_nil))))) pss_nil)
      (pss_cons (ps_set (i := 2) sc_law_draw.nd rfl (Or.inl rfl) (pe_op op_add pe_int (pe_callB (id := "len") (r := Evl.rLenS K) call_len_seq (by rfl) T.b_len PySem.boot_len (pa_cons (pv 0) pa_nil))))
      (pss_cons (ps_for PassesOwn.never rfl (pi_list (pe_slice sl_list (pv 0) po_none (po_some pe_int))) (pg_name (i := 3) sc_law_draw.nd rfl (Or.inl rfl)) (pss_one (ps_set (i := 2) sc_law_draw.nd rfl (Or.inl rfl) (pe_op op_mod (pe_callTy (T := "int") call_int1 (by rfl) T.b_int (by decide +kernel) (pa_cons (pe_op op_add (pe_op op_mul (pv 2) pe_int) (pv 3)) pa_nil)) pe_int))))
      (pss_one (ps_ret (pe_call G_law_great (hr.mono (by decide)) rfl D_law_great.g D_law_great.F.kp D_law_great.b .nil pass0 (pa_cons (pv 2) (pa_cons (pv 1) pa_nil))))))))), ?_⟩
    try simp only [tSeq, tIfS, tTest, tOp, tUn, tCB, tCons, tNil, tVar, tC, rI0, rI, rU, rEq, rNe, tRet, tRetN, tAsg, gName, gSub, tBM, tBM0, tNext, tB, tNot, tAnd, tOr, tIf, tCall, tDrop, tBreak, tCont, L2.start, tDGet, sDPut, tTup, tLst, tDNewK, tRevL, rCat, rAppend, rPop, rSetL, tAndV, tOrV, tNotV, tSl, tPart, tNoPart, tM1, gTup, gCons, gNil, cxK, cxnK, List.map_cons, List.map_nil, List.length_cons, List.length_nil, List.replicate, List.cons_append, List.nil_append, List.append_nil, List.set_cons_zero, List.set_cons_succ, List.getElem?_cons_zero, List.getElem?_cons_succ, Option.some.injEq, V.ref.injEq, V.int.injEq, V.str.injEq, V.bl.injEq, V.ty.injEq, exists_eq_left', exists_eq_left, exists_and_left, List.cons.injEq, and_true, true_and, sc_ii, sc_ss, sc_bb, sc_ni, sc_in, sc_is, sc_si, sc_nn, decide_true, decide_false, reduceCtorEq, Bool.false_eq_true, if_true, if_false, ite_true, ite_false, exists_const, eq_self, false_and, and_false, or_false, false_or, exists_false, Evl.rLenS, rSum, wipe, tYes, exists_eq, exists_eq', rIxL, rIxT, rIxS, exists_and_right, gt_iff_lt, not_true_eq_false, not_false_eq_true, Bool.not_true, Bool.not_false, decide_eq_true_eq, Nat.reduceSub, Nat.reduceAdd, List.append_assoc, tChain, tDIn, tDNotIn, sDDel, tAug, ipI]
    refine ⟨_, .inl hS, ?_⟩
    rw [List.length_map]
    refine ite2 (fun h1 => ?_) (fun h1 => ?_)
    · exact q _ _ (by decide) (Kp.refl _ _)
    · refine ⟨_, .inl hS, ?_⟩
      rw [List.length_map]
      refine ite2 (fun h2 => ?_) (fun h2 => ?_)
      · obtain ⟨v, hv, ev⟩ := atI_ex (xs := ns.map V.int) k0 (by rw [List.length_map]; exact h2)
        obtain ⟨n, _, rfl⟩ := List.mem_map.mp hv
        exact ⟨_, hS, _, ev, n, k, rfl, fun m m0 => q m _ m0 (Kp.refl _ _)⟩
      · refine ⟨_, .inl hS, ?_⟩
        try simp only [tSeq, tIfS, tTest, tOp, tUn, tCB, tCons, tNil, tVar, tC, rI0, rI, rU, rEq, rNe, tRet, tRetN, tAsg, gName, gSub, tBM, tBM0, tNext, tB, tNot, tAnd, tOr, tIf, tCall, tDrop, tBreak, tCont, L2.start, tDGet, sDPut, tTup, tLst, tDNewK, tRevL, rCat, rAppend, rPop, rSetL, tAndV, tOrV, tNotV, tSl, tPart, tNoPart, tM1, gTup, gCons, gNil, cxK, cxnK, List.map_cons, List.map_nil, List.length_cons, List.length_nil, List.replicate, List.cons_append, List.nil_append, List.append_nil, List.set_cons_zero, List.set_cons_succ, List.getElem?_cons_zero, List.getElem?_cons_succ, Option.some.injEq, V.ref.injEq, V.int.injEq, V.str.injEq, V.bl.injEq, V.ty.injEq, exists_eq_left', exists_eq_left, exists_and_left, List.cons.injEq, and_true, true_and, sc_ii, sc_ss, sc_bb, sc_ni, sc_in, sc_is, sc_si, sc_nn, decide_true, decide_false, reduceCtorEq, Bool.false_eq_true, if_true, if_false, ite_true, ite_false, exists_const, eq_self, false_and, and_false, or_false, false_or, exists_false, Evl.rLenS, rSum, wipe, tYes, exists_eq, exists_eq', rIxL, rIxT, rIxS, exists_and_right, gt_iff_lt, not_true_eq_false, not_false_eq_true, Bool.not_true, Bool.not_false, decide_eq_true_eq, Nat.reduceSub, Nat.reduceAdd, List.append_assoc, tChain, tDIn, tDNotIn, sDDel, tAug, ipI]
        obtain ⟨ms, em⟩ : ∃ ms : List Int, cutV (ns.map V.int) none (some 9) = ms.map V.int := ⟨_, by unfold cutV; rw [← List.map_drop, ← List.map_take]⟩
        refine ⟨.ref a, rfl, 9, rfl, a, _, rfl, hS, fun p np => ?_⟩
        rw [em]
        have kn : Kp [] H (upd H p (.lst (ms.map V.int))) := Kp.new np
        refine ⟨p, rfl, ⟨_, sq_l upd_same⟩, for_list (K := K) (a := p) (xs := ms.map V.int) (fun i σ H' => DrInv a k H i σ H' ∧ H' p = some (.lst (ms.map V.int))) ⟨⟨_, none, rfl, kn⟩, upd_same⟩ (fun i σ H' _ h => sq_l h.2) ?_ ?_⟩
        · rintro i x σ H1 hx ⟨⟨s, y, rfl, kp⟩, hp⟩
          obtain ⟨m, _, rfl⟩ := List.mem_map.mp (List.mem_of_getElem? hx)
          try simp only [tSeq, tIfS, tTest, tOp, tUn, tCB, tCons, tNil, tVar, tC, rI0, rI, rU, rEq, rNe, tRet, tRetN, tAsg, gName, gSub, tBM, tBM0, tNext, tB, tNot, tAnd, tOr, tIf, tCall, tDrop, tBreak, tCont, L2.start, tDGet, sDPut, tTup, tLst, tDNewK, tRevL, rCat, rAppend, rPop, rSetL, tAndV, tOrV, tNotV, tSl, tPart, tNoPart, tM1, gTup, gCons, gNil, cxK, cxnK, List.map_cons, List.map_nil, List.length_cons, List.length_nil, List.replicate, List.cons_append, List.nil_append, List.append_nil, List.set_cons_zero, List.set_cons_succ, List.getElem?_cons_zero, List.getElem?_cons_succ, Option.some.injEq, V.ref.injEq, V.int.injEq, V.str.injEq, V.bl.injEq, V.ty.injEq, exists_eq_left', exists_eq_left, exists_and_left, List.cons.injEq, and_true, true_and, sc_ii, sc_ss, sc_bb, sc_ni, sc_in, sc_is, sc_si, sc_nn, decide_true, decide_false, reduceCtorEq, Bool.false_eq_true, if_true, if_false, ite_true, ite_false, exists_const, eq_self, false_and, and_false, or_false, false_or, exists_false, Evl.rLenS, rSum, wipe, tYes, exists_eq, exists_eq', rIxL, rIxT, rIxS, exists_and_right, gt_iff_lt, not_true_eq_false, not_false_eq_true, Bool.not_true, Bool.not_false, decide_eq_true_eq, Nat.reduceSub, Nat.reduceAdd, List.append_assoc, tChain, tDIn, tDNotIn, sDDel, tAug, ipI]
          exact ⟨.inr ⟨by decide, by decide⟩, by decide, ⟨_, _, rfl, kp⟩, hp⟩
        · rintro σ H1 ⟨⟨s, y, rfl, kp⟩, hp⟩
          try simp only [tSeq, tIfS, tTest, tOp, tUn, tCB, tCons, tNil, tVar, tC, rI0, rI, rU, rEq, rNe, tRet, tRetN, tAsg, gName, gSub, tBM, tBM0, tNext, tB, tNot, tAnd, tOr, tIf, tCall, tDrop, tBreak, tCont, L2.start, tDGet, sDPut, tTup, tLst, tDNewK, tRevL, rCat, rAppend, rPop, rSetL, tAndV, tOrV, tNotV, tSl, tPart, tNoPart, tM1, gTup, gCons, gNil, cxK, cxnK, List.map_cons, List.map_nil, List.length_cons, List.length_nil, List.replicate, List.cons_append, List.nil_append, List.append_nil, List.set_cons_zero, List.set_cons_succ, List.getElem?_cons_zero, List.getElem?_cons_succ, Option.some.injEq, V.ref.injEq, V.int.injEq, V.str.injEq, V.bl.injEq, V.ty.injEq, exists_eq_left', exists_eq_left, exists_and_left, List.cons.injEq, and_true, true_and, sc_ii, sc_ss, sc_bb, sc_ni, sc_in, sc_is, sc_si, sc_nn, decide_true, decide_false, reduceCtorEq, Bool.false_eq_true, if_true, if_false, ite_true, ite_false, exists_const, eq_self, false_and, and_false, or_false, false_or, exists_false, Evl.rLenS, rSum, wipe, tYes, exists_eq, exists_eq', rIxL, rIxT, rIxS, exists_and_right, gt_iff_lt, not_true_eq_false, not_false_eq_true, Bool.not_true, Bool.not_false, decide_eq_true_eq, Nat.reduceSub, Nat.reduceAdd, List.append_assoc, tChain, tDIn, tDNotIn, sDDel, tAug, ipI]
          exact ⟨s, k, rfl, fun m m0 => q m _ m0 kp⟩
/-- a new list of pairs -/
def spPairs (K : PySem.W.Frag) : Sp := fun vs H Q _ => vs = [] ∧ ∀ (r : Addr) (vs : List V) (H' : Hp), H r = none → H' r = some (.lst vs) → DpAll K H' vs (pairsL.map pD) → Kp [] H H' → Q (.ref r) H'
theorem dpNew {H : Hp} {t : Addr} {x y : Str} : Dp K (upd H t (.tup [.str x, .str y])) (.ref t) (pD (x, y)) := .tup (sq_t upd_same) (.cons (.str x) (.cons (.str y) .nil))
def RowsAt (K : PySem.W.Frag) (H : Hp) (r : Addr) (ps : List Pr) (H' : Hp) : Prop := ∃ ws, H' r = some (.lst ws) ∧ DpAll K H' ws (ps.map pD) ∧ Kp [] H H'
theorem rowsAt_put {H H2 : Hp} {r t : Addr} {x y : Str} {ps : List Pr} (h : RowsAt K H r ps H2) (nr : H r = none) (nt : H2 t = none) (hl : ps.length ≤ 1000) :
    ∃ acc, (upd H2 t (.tup [.str x, .str y])) r = some (.lst acc) ∧ acc.length < sizeLine ∧ RowsAt K H r (ps ++ [(x, y)]) (upd (upd H2 t (.tup [.str x, .str y])) r (.lst (acc ++ [.ref t]))) := by
  obtain ⟨ws, hv, hws, k⟩ := h
  have k1 : Kp [] H2 (upd H2 t (.tup [.str x, .str y])) := Kp.new nt
  have hr := k1 _ _ not0 hv
  have nw : Kp [r] (upd H2 t (.tup [.str x, .str y])) (upd (upd H2 t (.tup [.str x, .str y])) r (.lst (ws ++ [.ref t]))) := (Kp.refl [r] _).put (by simp)
  have nT : NoTp (upd H2 t (.tup [.str x, .str y])) [r] := noTp1 hr
  refine ⟨ws, hr, smallL (by rw [dpLen hws, List.length_map]; omega), _, upd_same, ?_, (k.trans k1).wr nr⟩
  rw [List.map_append]
  exact dpApp (dpAllT nw nT (dpAllN k1 noSq0 hws) (noLsP _)) (.cons (dpT nw nT dpNew rfl) .nil)
theorem kinds_at : ∀ i x, kindsL[i]? = some x → i < 5 := fun i x h => (List.getElem?_eq_some_iff.mp h).1
theorem rows_len : ∀ i, (((kindsL.take i).flatMap rowP)).length ≤ 27 := by
  intro i
  rcases Nat.lt_or_ge i 5 with h | h
  · rcases (show i = 0 ∨ i = 1 ∨ i = 2 ∨ i = 3 ∨ i = 4 by omega) with rfl | rfl | rfl | rfl | rfl <;> decide +kernel
  · rw [List.take_of_length_le h]; decide +kernel
theorem rows_next {i : Nat} {x : Str} (h : kindsL[i]? = some x) : ((kindsL.take (i + 1)).flatMap rowP) = ((kindsL.take i).flatMap rowP) ++ rowP x := by
  rw [List.take_add_one, h, List.flatMap_append]; simp
def OutInv (K : PySem.W.Frag) (H : Hp) (r a : Addr) (i : Nat) (σ : L2.St) (H' : Hp) : Prop := ∃ x y, σ = [some (.ref r), x, y] ∧ RowsAt K H r ((kindsL.take i).flatMap rowP) H' ∧ H' a = some (.lst (kindsL.map V.str))
def InnInv (K : PySem.W.Frag) (H : Hp) (r a b : Addr) (i : Nat) (x : Str) (j : Nat) (σ : L2.St) (H' : Hp) : Prop := ∃ y, σ = [some (.ref r), some (.str x), y] ∧ RowsAt K H r ((kindsL.take i).flatMap rowP ++ (kindsL.take j).map fun y => (x, y)) H' ∧ H' a = some (.lst (kindsL.map V.str)) ∧ H' b = some (.lst (kindsL.map V.str))
theorem ok_law_pairs {f : Addr} {fd : FuncData} (D : Df K mg "_law_pairs" s_law_pairs [] f fd) (T : Bt0 mg) : FnOk P w K mg base CX0 1 f fd [] (spPairs K) := by
  refine D.F.ok sc_law_pairs (fun vs H Q E h => ?_) (fun cdv A outer s H vs Q E hr h => ?_)
  · rw [h.1]; rfl
  · obtain ⟨rfl, q⟩ := h
    refine ⟨_, (pss_cons (ps_set (i := 0) sc_law_pairs.nd rfl (Or.inl rfl) (pe_lst pa_nil))
      (pss_cons (ps_for PassesOwn.never rfl (pi_list (pe_lst (pa_cons pe_str (pa_cons pe_str (pa_cons pe_str (pa_cons pe_str (pa_cons pe_str pa_nil))))))) (pg_name (i := 1) sc_law_pairs.nd rfl (Or.inl rfl)) (pss_cons (ps_for PassesOwn.never rfl (pi_list (pe_lst (pa_cons pe_str (pa_cons pe_str (pa_cons pe_str (pa_cons pe_str (pa_cons pe_str pa_nil))))))) (pg_name (i := 2) sc_law_pairs.nd rfl (Or.inl rfl)) (pss_one (ps_expr (pe_bm PySem.F.plainAttrs_list PySem.F.slot_list_append PySem.F.type_list_append mt_append (pv 0) (pa_cons (pe_tup (pa_cons (pv 1) (pa_cons (pv 2) pa_nil))) pa_nil)))))
      (pss_one (ps_if (PW.pt (pw_or (pt_cmpR op_eq (pv 1) pe_str (nomark _)) (pw_or1 (pt_cmpR op_eq (pv 1) pe_str (nomark _))))) (pss_one (ps_expr (pe_bm PySem.F.plainAttrs_list PySem.F.slot_list_append PySem.F.type_list_append mt_append (pv 0) (pa_cons (pe_tup (pa_cons (pv 1) (pa_cons pe_str pa_nil))) pa_nil)))) pss_nil))))
      (pss_one (ps_ret (pv 0))))), ?_⟩
    try simp only [tSeq, tIfS, tTest, tOp, tUn, tCB, tCons, tNil, tVar, tC, rI0, rI, rU, rEq, rNe, tRet, tRetN, tAsg, gName, gSub, tBM, tBM0, tNext, tB, tNot, tAnd, tOr, tIf, tCall, tDrop, tBreak, tCont, L2.start, tDGet, sDPut, tTup, tLst, tDNewK, tRevL, rCat, rAppend, rPop, rSetL, tAndV, tOrV, tNotV, tSl, tPart, tNoPart, tM1, gTup, gCons, gNil, cxK, cxnK, List.map_cons, List.map_nil, List.length_cons, List.length_nil, List.replicate, List.cons_append, List.nil_append, List.append_nil, List.set_cons_zero, List.set_cons_succ, List.getElem?_cons_zero, List.getElem?_cons_succ, Option.some.injEq, V.ref.injEq, V.int.injEq, V.str.injEq, V.bl.injEq, V.ty.injEq, exists_eq_left', exists_eq_left, exists_and_left, List.cons.injEq, and_true, true_and, sc_ii, sc_ss, sc_bb, sc_ni, sc_in, sc_is, sc_si, sc_nn, decide_true, decide_false, reduceCtorEq, Bool.false_eq_true, if_true, if_false, ite_true, ite_false, exists_const, eq_self, false_and, and_false, or_false, false_or, exists_false, Evl.rLenS, rSum, wipe, tYes, exists_eq, exists_eq', rIxL, rIxT, rIxS, exists_and_right, gt_iff_lt, not_true_eq_false, not_false_eq_true, Bool.not_true, Bool.not_false, decide_eq_true_eq, Nat.reduceSub, Nat.reduceAdd, List.append_assoc, tChain, tDIn, tDNotIn, sDDel, tAug, ipI]
    refine ⟨small (by decide), fun r nr => ?_⟩
    refine ⟨small (by decide), fun a na => ?_⟩
    have ra : r ≠ a := ne_of_none upd_same na
    have nr' : H r = none := nr
    have k0 : Kp [] H (upd (upd H r (.lst [])) a (.lst (kindsL.map V.str))) := (Kp.new nr).trans (Kp.new na)
    refine ⟨a, rfl, ⟨kindsL.map V.str, sq_l upd_same⟩, for_list (K := K) (a := a) (xs := kindsL.map V.str) (OutInv K H r a) ⟨_, _, rfl, ⟨[], by rw [upd_ne ra]; exact upd_same, .nil, k0⟩, upd_same⟩ (fun i σ H' _ h => by obtain ⟨_, _, _, _, h⟩ := h; exact sq_l h) ?_ ?_⟩
    · rintro i xv σ H1 hx ⟨x0, y0, rfl, hr, ha⟩
      obtain ⟨x, ex, rfl⟩ : ∃ x, kindsL[i]? = some x ∧ V.str x = xv := by
        rw [List.getElem?_map] at hx
        cases e : kindsL[i]? with
        | none => rw [e] at hx; cases hx
        | some x => rw [e] at hx; exact ⟨x, rfl, Option.some.inj hx⟩
      try simp only [tSeq, tIfS, tTest, tOp, tUn, tCB, tCons, tNil, tVar, tC, rI0, rI, rU, rEq, rNe, tRet, tRetN, tAsg, gName, gSub, tBM, tBM0, tNext, tB, tNot, tAnd, tOr, tIf, tCall, tDrop, tBreak, tCont, L2.start, tDGet, sDPut, tTup, tLst, tDNewK, tRevL, rCat, rAppend, rPop, rSetL, tAndV, tOrV, tNotV, tSl, tPart, tNoPart, tM1, gTup, gCons, gNil, cxK, cxnK, List.map_cons, List.map_nil, List.length_cons, List.length_nil, List.replicate, List.cons_append, List.nil_append, List.append_nil, List.set_cons_zero, List.set_cons_succ, List.getElem?_cons_zero, List.getElem?_cons_succ, Option.some.injEq, V.ref.injEq, V.int.injEq, V.str.injEq, V.bl.injEq, V.ty.injEq, exists_eq_left', exists_eq_left, exists_and_left, List.cons.injEq, and_true, true_and, sc_ii, sc_ss, sc_bb, sc_ni, sc_in, sc_is, sc_si, sc_nn, decide_true, decide_false, reduceCtorEq, Bool.false_eq_true, if_true, if_false, ite_true, ite_false, exists_const, eq_self, false_and, and_false, or_false, false_or, exists_false, Evl.rLenS, rSum, wipe, tYes, exists_eq, exists_eq', rIxL, rIxT, rIxS, exists_and_right, gt_iff_lt, not_true_eq_false, not_false_eq_true, Bool.not_true, Bool.not_false, decide_eq_true_eq, Nat.reduceSub, Nat.reduceAdd, List.append_assoc, tChain, tDIn, tDNotIn, sDDel, tAug, ipI]
      refine ⟨small (by decide), fun b nb => ?_⟩
      have k1 : Kp [] H1 (upd H1 b (.lst (kindsL.map V.str))) := Kp.new nb
      have rb : r ≠ b := by obtain ⟨ws, hv, _⟩ := hr; exact ne_of_none hv nb
      have hr1 : RowsAt K H r ((kindsL.take i).flatMap rowP) (upd H1 b (.lst (kindsL.map V.str))) := by
        obtain ⟨ws, hv, hws, kp⟩ := hr
        exact ⟨ws, k1 _ _ not0 hv, dpAllN k1 noSq0 hws, kp.trans k1⟩
      refine ⟨b, rfl, ⟨kindsL.map V.str, sq_l upd_same⟩, for_list (K := K) (a := b) (xs := kindsL.map V.str) (InnInv K H r a b i x) ⟨_, rfl, by rw [List.take_zero, List.map_nil, List.append_nil]; exact hr1, k1 _ _ not0 ha, upd_same⟩ (fun i σ H' _ h => by obtain ⟨_, _, _, _, h⟩ := h; exact sq_l h) ?_ ?_⟩
      · rintro j yv σ H2 hy ⟨y1, rfl, hr2, ha2, hb2⟩
        obtain ⟨y, ey, rfl⟩ : ∃ y, kindsL[j]? = some y ∧ V.str y = yv := by
          rw [List.getElem?_map] at hy
          cases e : kindsL[j]? with
          | none => rw [e] at hy; cases hy
          | some y => rw [e] at hy; exact ⟨y, rfl, Option.some.inj hy⟩
        try simp only [tSeq, tIfS, tTest, tOp, tUn, tCB, tCons, tNil, tVar, tC, rI0, rI, rU, rEq, rNe, tRet, tRetN, tAsg, gName, gSub, tBM, tBM0, tNext, tB, tNot, tAnd, tOr, tIf, tCall, tDrop, tBreak, tCont, L2.start, tDGet, sDPut, tTup, tLst, tDNewK, tRevL, rCat, rAppend, rPop, rSetL, tAndV, tOrV, tNotV, tSl, tPart, tNoPart, tM1, gTup, gCons, gNil, cxK, cxnK, List.map_cons, List.map_nil, List.length_cons, List.length_nil, List.replicate, List.cons_append, List.nil_append, List.append_nil, List.set_cons_zero, List.set_cons_succ, List.getElem?_cons_zero, List.getElem?_cons_succ, Option.some.injEq, V.ref.injEq, V.int.injEq, V.str.injEq, V.bl.injEq, V.ty.injEq, exists_eq_left', exists_eq_left, exists_and_left, List.cons.injEq, and_true, true_and, sc_ii, sc_ss, sc_bb, sc_ni, sc_in, sc_is, sc_si, sc_nn, decide_true, decide_false, reduceCtorEq, Bool.false_eq_true, if_true, if_false, ite_true, ite_false, exists_const, eq_self, false_and, and_false, or_false, false_or, exists_false, Evl.rLenS, rSum, wipe, tYes, exists_eq, exists_eq', rIxL, rIxT, rIxS, exists_and_right, gt_iff_lt, not_true_eq_false, not_false_eq_true, Bool.not_true, Bool.not_false, decide_eq_true_eq, Nat.reduceSub, Nat.reduceAdd, List.append_assoc, tChain, tDIn, tDNotIn, sDDel, tAug, ipI]
        have hrv : ∃ ws, H2 r = some (.lst ws) := by obtain ⟨ws, hv, _⟩ := hr2; exact ⟨ws, hv⟩
        obtain ⟨ws0, hr0⟩ := hrv
        refine ⟨.inl ⟨rfl, _, sq_l hr0⟩, small (by decide), fun t nt => ?_⟩
        have hl : ((kindsL.take i).flatMap rowP ++ (kindsL.take j).map fun y => (x, y)).length ≤ 1000 := by
          rw [List.length_append, List.length_map, List.length_take]
          have := rows_len i
          have : kindsL.length = 5 := rfl
          omega
        obtain ⟨acc, h1, h2, h3⟩ := rowsAt_put (x := x) (y := y) hr2 nr nt hl
        refine ⟨acc, h1, h2, _, rfl, ?_, ?_, ?_⟩
        · rw [List.take_add_one, ey, List.map_append, ← List.append_assoc]
          exact h3
        · rw [upd_ne ra.symm, upd_ne (ne_of_none ha2 nt)]; exact ha2
        · rw [upd_ne rb.symm, upd_ne (ne_of_none hb2 nt)]; exact hb2
      · rintro σ H2 ⟨y1, rfl, hr2, ha2, hb2⟩
        have e5 : (kindsL.take (kindsL.map V.str).length) = kindsL := by rw [List.length_map, List.take_length]
        rw [e5] at hr2
        have nx := rows_next ex
        have hrv : ∃ ws, H2 r = some (.lst ws) := by obtain ⟨ws, hv, _⟩ := hr2; exact ⟨ws, hv⟩
        obtain ⟨ws0, hr0⟩ := hrv
        have hl : ((kindsL.take i).flatMap rowP ++ kindsL.map fun y => (x, y)).length ≤ 1000 := by
          rw [List.length_append, List.length_map]
          have := rows_len i
          have : kindsL.length = 5 := rfl
          omega
        have more : (x = ("write" : Str) ∨ x = ("release" : Str)) → ∀ t, H2 t = none → ∃ acc, (upd H2 t (.tup [.str x, .str "return"])) r = some (.lst acc) ∧ acc.length < sizeLine ∧ OutInv K H r a (i + 1) [some (.ref r), some (.str x), y1] (upd (upd H2 t (.tup [.str x, .str "return"])) r (.lst (acc ++ [.ref t]))) := by
          intro hx t nt
          obtain ⟨acc, h1, h2, h3⟩ := rowsAt_put (x := x) (y := "return") hr2 nr nt hl
          refine ⟨acc, h1, h2, _, _, rfl, ?_, by rw [upd_ne ra.symm, upd_ne (ne_of_none ha2 nt)]; exact ha2⟩
          rw [nx]
          unfold rowP
          rw [if_pos hx, ← List.append_assoc]
          exact h3
        have less : ¬ (x = ("write" : Str) ∨ x = ("release" : Str)) → OutInv K H r a (i + 1) [some (.ref r), some (.str x), y1] H2 := by
          intro hx
          refine ⟨_, _, rfl, ?_, ha2⟩
          rw [nx]
          unfold rowP
          rw [if_neg hx, List.append_nil]
          exact hr2
        try simp only [tSeq, tIfS, tTest, tOp, tUn, tCB, tCons, tNil, tVar, tC, rI0, rI, rU, rEq, rNe, tRet, tRetN, tAsg, gName, gSub, tBM, tBM0, tNext, tB, tNot, tAnd, tOr, tIf, tCall, tDrop, tBreak, tCont, L2.start, tDGet, sDPut, tTup, tLst, tDNewK, tRevL, rCat, rAppend, rPop, rSetL, tAndV, tOrV, tNotV, tSl, tPart, tNoPart, tM1, gTup, gCons, gNil, cxK, cxnK, List.map_cons, List.map_nil, List.length_cons, List.length_nil, List.replicate, List.cons_append, List.nil_append, List.append_nil, List.set_cons_zero, List.set_cons_succ, List.getElem?_cons_zero, List.getElem?_cons_succ, Option.some.injEq, V.ref.injEq, V.int.injEq, V.str.injEq, V.bl.injEq, V.ty.injEq, exists_eq_left', exists_eq_left, exists_and_left, List.cons.injEq, and_true, true_and, sc_ii, sc_ss, sc_bb, sc_ni, sc_in, sc_is, sc_si, sc_nn, decide_true, decide_false, reduceCtorEq, Bool.false_eq_true, if_true, if_false, ite_true, ite_false, exists_const, eq_self, false_and, and_false, or_false, false_or, exists_false, Evl.rLenS, rSum, wipe, tYes, exists_eq, exists_eq', rIxL, rIxT, rIxS, exists_and_right, gt_iff_lt, not_true_eq_false, not_false_eq_true, Bool.not_true, Bool.not_false, decide_eq_true_eq, Nat.reduceSub, Nat.reduceAdd, List.append_assoc, tChain, tDIn, tDNotIn, sDDel, tAug, ipI]
        have lt : tyV K "list" (V.ref r) H2 := .inl ⟨rfl, _, sq_l hr0⟩
        exact ite2 (fun h => ⟨lt, small (by decide), more (.inl h)⟩) (fun h1 => ite2 (fun h => ⟨lt, small (by decide), more (.inr h)⟩) (fun h2 => less fun z => z.elim h1 h2))
    · rintro σ H1 ⟨x0, y0, rfl, ⟨ws, hv, hws, kp⟩, ha⟩
      try simp only [tSeq, tIfS, tTest, tOp, tUn, tCB, tCons, tNil, tVar, tC, rI0, rI, rU, rEq, rNe, tRet, tRetN, tAsg, gName, gSub, tBM, tBM0, tNext, tB, tNot, tAnd, tOr, tIf, tCall, tDrop, tBreak, tCont, L2.start, tDGet, sDPut, tTup, tLst, tDNewK, tRevL, rCat, rAppend, rPop, rSetL, tAndV, tOrV, tNotV, tSl, tPart, tNoPart, tM1, gTup, gCons, gNil, cxK, cxnK, List.map_cons, List.map_nil, List.length_cons, List.length_nil, List.replicate, List.cons_append, List.nil_append, List.append_nil, List.set_cons_zero, List.set_cons_succ, List.getElem?_cons_zero, List.getElem?_cons_succ, Option.some.injEq, V.ref.injEq, V.int.injEq, V.str.injEq, V.bl.injEq, V.ty.injEq, exists_eq_left', exists_eq_left, exists_and_left, List.cons.injEq, and_true, true_and, sc_ii, sc_ss, sc_bb, sc_ni, sc_in, sc_is, sc_si, sc_nn, decide_true, decide_false, reduceCtorEq, Bool.false_eq_true, if_true, if_false, ite_true, ite_false, exists_const, eq_self, false_and, and_false, or_false, false_or, exists_false, Evl.rLenS, rSum, wipe, tYes, exists_eq, exists_eq', rIxL, rIxT, rIxS, exists_and_right, gt_iff_lt, not_true_eq_false, not_false_eq_true, Bool.not_true, Bool.not_false, decide_eq_true_eq, Nat.reduceSub, Nat.reduceAdd, List.append_assoc, tChain, tDIn, tDNotIn, sDDel, tAug, ipI]
      rw [List.length_map, List.take_of_length_le (Nat.le_refl _)] at hws
      exact q r ws H1 nr hv hws kp
/-- a list of pairs, grown -/
def LsE (K : PySem.W.Frag) (l : Addr) (H : Hp) (n : Nat) (H' : Hp) : Prop := ∃ (ws : List V) (ps : List Pr), H' l = some (.lst ws) ∧ DpAll K H' ws (ps.map pD) ∧ ps.length = n ∧ (∀ p ∈ ps, p ∈ pairsL) ∧ Kp [] H H'
theorem lsE_put {l : Addr} {H H2 : Hp} {n : Nat} {v : V} {p : Pr} (h : LsE K l H n H2) (nl : H l = none) (hv : Dp K H2 v (pD p)) (hp : p ∈ pairsL) (hn : n ≤ 1000) :
    ∃ acc, H2 l = some (.lst acc) ∧ acc.length < sizeLine ∧ LsE K l H (n + 1) (upd H2 l (.lst (acc ++ [v]))) := by
  obtain ⟨ws, ps, h1, h2, h3, h4, k⟩ := h
  have nw : Kp [l] H2 (upd H2 l (.lst (ws ++ [v]))) := (Kp.refl [l] _).put (by simp)
  have nT : NoTp H2 [l] := noTp1 h1
  refine ⟨ws, h1, smallL (by rw [dpLen h2, List.length_map]; omega), _, ps ++ [p], upd_same, ?_, by rw [List.length_append, h3]; rfl, ?_, k.wr nl⟩
  · rw [List.map_append]
    exact dpApp (dpAllT nw nT h2 (noLsP _)) (.cons (dpT nw nT hv rfl) .nil)
  · intro q hq
    rcases List.mem_append.mp hq with h | h
    · exact h4 q h
    · rw [List.mem_singleton.mp h]; exact hp
theorem row_at {H : Hp} {ws : List V} {j : Int} (h : DpAll K H ws (pairsL.map pD)) (j0 : 0 ≤ j) (j1 : j < 27) : ∃ v p, atI ws j = some v ∧ Dp K H v (pD p) ∧ p ∈ pairsL := by
  have hl : ws.length = 27 := by rw [dpLen h, List.length_map, pairs_len]
  obtain ⟨v, hv, e⟩ := atI_ex (xs := ws) j0 (by omega)
  obtain ⟨i, ei⟩ := List.getElem?_of_mem hv
  obtain ⟨d, ed, hd⟩ := dpGet h ei
  obtain ⟨p, ep, rfl⟩ := pD_at ed
  exact ⟨v, p, e, hd, List.mem_of_getElem? ep⟩
def spItems (K : PySem.W.Frag) : Sp := fun vs H Q _ => ∃ n : Int, vs = [.int n] ∧ 0 ≤ n ∧ ∀ (l : Addr) (m : Nat) (H' : Hp), H l = none → m ≤ 41 → LsE K l H m H' → Q (.ref l) H'
def ItInv (K : PySem.W.Frag) (H : Hp) (r l : Addr) (ws : List V) (way many : Int) (i : Nat) (σ : L2.St) (H' : Hp) : Prop := ∃ (num seed : Int) (k : Option V), σ = [some (.int num), some (.ref r), some (.int way), k, some (.int many), some (.int seed), some (.ref l)] ∧ 0 ≤ num ∧ LsE K l H i H' ∧ H' r = some (.lst ws) ∧ DpAll K H' ws (pairsL.map pD)
theorem ok_law_items {f : Addr} {fd : FuncData} (D : Df K mg "_law_items" s_law_items ["_law_number"] f fd) (T : Bt0 mg) {fg : Addr} {fdg : FuncData} (D_law_pairs : Df K mg "_law_pairs" s_law_pairs [] fg fdg) (G_law_pairs : FnOk P w K mg base CX0 1 fg fdg [] (spPairs K)) : FnOk P w K mg base CX0 2 f fd ["_law_number"] (spItems K) := by
  refine D.F.ok sc_law_items (fun vs H Q E h => ?_) (fun cdv A outer s H vs Q E hr h => ?_)
  · obtain ⟨n, rfl, _⟩ := h
    rfl
  · obtain ⟨n, rfl, n0, q⟩ := h
    refine ⟨_, (pss_cons (ps_set (i := 1) sc_law_items.nd rfl (Or.inr rfl) (pe_call0 G_law_pairs (hr.mono (by decide)) rfl D_law_pairs.g D_law_pairs.F.kp D_law_pairs.b .nil pass0))
      (pss_cons (ps_set (i := 2) sc_law_items.nd rfl (Or.inl rfl) (pe_op op_mod (pe_callTy (T := "int") call_int1 (by rfl) T.b_int (by decide +kernel) (pa_cons (pv 0) pa_nil)) pe_int))
      (pss_cons (ps_set (i := 0) sc_law_items.nd rfl (Or.inl rfl) (pe_op op_fdiv (pv 0) pe_int))
      (pss_cons (ps_if (pt_cmpR op_eq (pv 2) pe_int (nomark _)) (pss_one (ps_ret (pe_lst pa_nil))) pss_nil)
      (pss_cons (ps_if (pt_cmpR op_eq (pv 2) pe_int (nomark _)) (pss_one (ps_ret (pe_lc (own := [("_law_k", 3)]) (g := (gName 3)) (tt := tYes) rfl sc_law_items.nd (pi_range1 rfl T.b_range (pa_cons pe_int pa_nil)) (blkOk_by (N := ["_law_number", "_law_rows", "_law_way", "_law_k", "_law_many", "_law_seed", "_law_items_here"]) (sc := defScope s_law_items) (by decide +kernel)) (fun _ _ _ _ _ => (pg_name (i := 3) sc_law_items.nd rfl (Or.inl rfl))) (fun _ _ _ _ _ => pts_nil) (fun _ _ _ _ _ => (pe_ix (r := rIxL K) ix_list (pv 1) (pe_op op_sub pe_int (pv 3)) (fun _ _ => rfl)))))) pss_nil)
      (pss_cons (ps_set (i := 4) sc_law_items.nd rfl (Or.inl rfl) (pe_op op_mod (pe_callTy (T := "int") call_int1 (by rfl) T.b_int (by decide +kernel) (pa_cons (pv 0) pa_nil)) pe_int))
      (pss_cons (ps_set (i := 0) sc_law_items.nd rfl (Or.inl rfl) (pe_op op_fdiv (pv 0) pe_int))
      (pss_cons (ps_set (i := 5) sc_law_items.nd rfl (Or.inl rfl) (pv 0))
      (pss_cons (ps_set (i := 6) sc_law_items.nd rfl (Or.inl rfl) (pe_lst pa_nil))
      (pss_cons (ps_for PassesOwn.never rfl (pi_range1 rfl T.b_range (pa_cons (pv 4) pa_nil)) (pg_name (i := 3) sc_law_items.nd rfl (Or.inl rfl)) (pss_one (ps_if (pt_cmpR op_gt (pv 0) pe_int (nomark _)) (pss_cons (ps_expr (pe_bm PySem.F.plainAttrs_list PySem.F.slot_list_append PySem.F.type_list_append mt_append (pv 6) (pa_cons (pe_ix (r := rIxL K) ix_list (pv 1) (pe_op op_mod (pe_callTy (T := "int") call_int1 (by rfl) T.b_int (by decide +kernel) (pa_cons (pv 0) pa_nil)) pe_int) (fun _ _ => rfl)) pa_nil)))
      (pss_one (ps_set (i := 0) sc_law_items.nd rfl (Or.inl rfl) (pe_op op_fdiv (pv 0) pe_int)))) (pss_cons (ps_set (i := 5) sc_law_items.nd rfl (Or.inl rfl) (pe_op op_mod (pe_callTy (T := "int") call_int1 (by rfl) T.b_int (by decide +kernel) (pa_cons (pe_op op_add (pe_op op_add (pe_op op_mul (pv 5) pe_int) (pe_op op_mul pe_int (pv 3))) pe_int) pa_nil)) pe_int))
      (pss_cons (ps_set (i := 5) sc_law_items.nd rfl (Or.inl rfl) (pe_op op_mod (pe_callTy (T := "int") call_int1 (by rfl) T.b_int (by decide +kernel) (pa_cons (pe_op op_add (pe_op op_mul (pv 5) pe_int) pe_int) pa_nil)) pe_int))
      (pss_one (ps_expr (pe_bm PySem.F.plainAttrs_list PySem.F.slot_list_append PySem.F.type_list_append mt_append (pv 6) (pa_cons (pe_ix (r := rIxL K) ix_list (pv 1) (pe_op op_mod (pe_callTy (T := "int") call_int1 (by rfl) T.b_int (by decide +kernel) (pa_cons (pe_op op_fdiv (pv 5) pe_int) pa_nil)) pe_int) (fun _ _ => rfl)) pa_nil)))))))))
      (pss_one (ps_ret (pv 6))))))))))))), ?_⟩
    try simp only [tSeq, tIfS, tTest, tOp, tUn, tCB, tCons, tNil, tVar, tC, rI0, rI, rU, rEq, rNe, tRet, tRetN, tAsg, gName, gSub, tBM, tBM0, tNext, tB, tNot, tAnd, tOr, tIf, tCall, tDrop, tBreak, tCont, L2.start, tDGet, sDPut, tTup, tLst, tDNewK, tRevL, rCat, rAppend, rPop, rSetL, tAndV, tOrV, tNotV, tSl, tPart, tNoPart, tM1, gTup, gCons, gNil, cxK, cxnK, List.map_cons, List.map_nil, List.length_cons, List.length_nil, List.replicate, List.cons_append, List.nil_append, List.append_nil, List.set_cons_zero, List.set_cons_succ, List.getElem?_cons_zero, List.getElem?_cons_succ, Option.some.injEq, V.ref.injEq, V.int.injEq, V.str.injEq, V.bl.injEq, V.ty.injEq, exists_eq_left', exists_eq_left, exists_and_left, List.cons.injEq, and_true, true_and, sc_ii, sc_ss, sc_bb, sc_ni, sc_in, sc_is, sc_si, sc_nn, decide_true, decide_false, reduceCtorEq, Bool.false_eq_true, if_true, if_false, ite_true, ite_false, exists_const, eq_self, false_and, and_false, or_false, false_or, exists_false, Evl.rLenS, rSum, wipe, tYes, exists_eq, exists_eq', rIxL, rIxT, rIxS, exists_and_right, gt_iff_lt, not_true_eq_false, not_false_eq_true, Bool.not_true, Bool.not_false, decide_eq_true_eq, Nat.reduceSub, Nat.reduceAdd, List.append_assoc, tChain, tDIn, tDNotIn, sDDel, tAug, ipI]
    refine ⟨rfl, fun r ws H1 nr hr1 hws k1 => ?_⟩
    try simp only [tSeq, tIfS, tTest, tOp, tUn, tCB, tCons, tNil, tVar, tC, rI0, rI, rU, rEq, rNe, tRet, tRetN, tAsg, gName, gSub, tBM, tBM0, tNext, tB, tNot, tAnd, tOr, tIf, tCall, tDrop, tBreak, tCont, L2.start, tDGet, sDPut, tTup, tLst, tDNewK, tRevL, rCat, rAppend, rPop, rSetL, tAndV, tOrV, tNotV, tSl, tPart, tNoPart, tM1, gTup, gCons, gNil, cxK, cxnK, List.map_cons, List.map_nil, List.length_cons, List.length_nil, List.replicate, List.cons_append, List.nil_append, List.append_nil, List.set_cons_zero, List.set_cons_succ, List.getElem?_cons_zero, List.getElem?_cons_succ, Option.some.injEq, V.ref.injEq, V.int.injEq, V.str.injEq, V.bl.injEq, V.ty.injEq, exists_eq_left', exists_eq_left, exists_and_left, List.cons.injEq, and_true, true_and, sc_ii, sc_ss, sc_bb, sc_ni, sc_in, sc_is, sc_si, sc_nn, decide_true, decide_false, reduceCtorEq, Bool.false_eq_true, if_true, if_false, ite_true, ite_false, exists_const, eq_self, false_and, and_false, or_false, false_or, exists_false, Evl.rLenS, rSum, wipe, tYes, exists_eq, exists_eq', rIxL, rIxT, rIxS, exists_and_right, gt_iff_lt, not_true_eq_false, not_false_eq_true, Bool.not_true, Bool.not_false, decide_eq_true_eq, Nat.reduceSub, Nat.reduceAdd, List.append_assoc, tChain, tDIn, tDNotIn, sDDel, tAug, ipI]
    have hw8 := Int.emod_nonneg n (show (8 : Int) ≠ 0 by decide)
    have m0 : 0 ≤ n / 8 := Int.ediv_nonneg n0 (by decide)
    have cd : ∀ {x y : Int}, 0 < y → y < 2 ^ 30 → CDiv x y := fun h1 h2 => ⟨h1, h2⟩
    refine ⟨by decide, cd (by decide) (by decide), ?_⟩
    have lsK : ∀ {l m H'}, LsE K l H1 m H' → LsE K l H m H' := fun ⟨a, b, c, d, e, f, g⟩ => ⟨a, b, c, d, e, f, k1.trans g⟩
    refine ite2 (fun h1 => ?_) (fun h1 => ?_)
    · exact ⟨small (by decide), fun p np => q p 0 _ (k1.free0 np) (by decide) (lsK ⟨[], [], upd_same, .nil, rfl, (fun _ h => nomatch h), Kp.new np⟩)⟩
    refine ite2 (fun h2 => ?_) (fun h2 => ?_)
    · refine ⟨27, rfl, by decide, by decide, fun l nl => lc_range (lo := 0) (n := 27) (fun i H' => LsE K l H1 i H' ∧ H' r = some (.lst ws) ∧ DpAll K H' ws (pairsL.map pD)) ⟨⟨[], [], upd_same, .nil, rfl, (fun _ h => nomatch h), Kp.new nl⟩, ?_, dpAllN (Kp.new nl) noSq0 hws⟩ ?_ ?_⟩
      · exact (Kp.new (S := []) nl) _ _ not0 hr1
      · rintro i H2 hi ⟨he, hr2, hw2⟩
        try simp only [tSeq, tIfS, tTest, tOp, tUn, tCB, tCons, tNil, tVar, tC, rI0, rI, rU, rEq, rNe, tRet, tRetN, tAsg, gName, gSub, tBM, tBM0, tNext, tB, tNot, tAnd, tOr, tIf, tCall, tDrop, tBreak, tCont, L2.start, tDGet, sDPut, tTup, tLst, tDNewK, tRevL, rCat, rAppend, rPop, rSetL, tAndV, tOrV, tNotV, tSl, tPart, tNoPart, tM1, gTup, gCons, gNil, cxK, cxnK, List.map_cons, List.map_nil, List.length_cons, List.length_nil, List.replicate, List.cons_append, List.nil_append, List.append_nil, List.set_cons_zero, List.set_cons_succ, List.getElem?_cons_zero, List.getElem?_cons_succ, Option.some.injEq, V.ref.injEq, V.int.injEq, V.str.injEq, V.bl.injEq, V.ty.injEq, exists_eq_left', exists_eq_left, exists_and_left, List.cons.injEq, and_true, true_and, sc_ii, sc_ss, sc_bb, sc_ni, sc_in, sc_is, sc_si, sc_nn, decide_true, decide_false, reduceCtorEq, Bool.false_eq_true, if_true, if_false, ite_true, ite_false, exists_const, eq_self, false_and, and_false, or_false, false_or, exists_false, Evl.rLenS, rSum, wipe, tYes, exists_eq, exists_eq', rIxL, rIxT, rIxS, exists_and_right, gt_iff_lt, not_true_eq_false, not_false_eq_true, Bool.not_true, Bool.not_false, decide_eq_true_eq, Nat.reduceSub, Nat.reduceAdd, List.append_assoc, tChain, tDIn, tDNotIn, sDDel, tAug, ipI]
        obtain ⟨v, p, ev, hv, hp⟩ := row_at hw2 (j := 26 - (0 + (i : Int))) (by omega) (by omega)
        obtain ⟨acc, g1, g2, g3⟩ := lsE_put he nl hv hp (by omega)
        have rl : r ≠ l := ne_of_none hr1 nl
        have nw : Kp [l] H2 (upd H2 l (.lst (acc ++ [v]))) := (Kp.refl [l] _).put (by simp)
        exact ⟨_, sq_l hr2, _, ev, acc, g1, g2, g3, by rw [upd_ne rl]; exact hr2, dpAllT nw (noTp1 g1) hw2 (noLsP _)⟩
      · rintro H2 ⟨he, _⟩
        exact q l 27 _ (k1.free0 nl) (by decide) (lsK he)
    · refine ⟨by decide, cd (by decide) (by decide), small (by decide), fun l nl => ?_⟩
      have m1 := Int.emod_nonneg (n / 8) (show (41 : Int) ≠ 0 by decide)
      have m2 := Int.emod_lt_of_pos (n / 8) (show (0 : Int) < 41 by decide)
      refine ⟨.int _, rfl, n / 8 % 41, rfl, by omega, by omega, for_range (lo := 0) (n := (n / 8 % 41).toNat) (ItInv K H1 r l ws (n % 8) (n / 8 % 41)) ⟨_, _, _, rfl, Int.ediv_nonneg m0 (by decide), ⟨[], [], upd_same, .nil, rfl, (fun _ h => nomatch h), Kp.new nl⟩, (Kp.new (S := []) nl) _ _ not0 hr1, dpAllN (Kp.new nl) noSq0 hws⟩ ?_ ?_⟩
      · rintro i σ H2 hi ⟨num, seed, k, rfl, num0, he, hr2, hw2⟩
        have rl : r ≠ l := ne_of_none hr1 nl
        have step : ∀ (j : Int), 0 ≤ j → j < 27 → ∃ v p acc, atI ws j = some v ∧ Dp K H2 v (pD p) ∧ H2 l = some (.lst acc) ∧ acc.length < sizeLine ∧ LsE K l H1 (i + 1) (upd H2 l (.lst (acc ++ [v]))) ∧ (upd H2 l (.lst (acc ++ [v]))) r = some (.lst ws) ∧ DpAll K (upd H2 l (.lst (acc ++ [v]))) ws (pairsL.map pD) := by
          intro j j0 j1
          obtain ⟨v, p, ev, hv, hp⟩ := row_at hw2 j0 j1
          obtain ⟨acc, g1, g2, g3⟩ := lsE_put he nl hv hp (by omega)
          have nw : Kp [l] H2 (upd H2 l (.lst (acc ++ [v]))) := (Kp.refl [l] _).put (by simp)
          exact ⟨v, p, acc, ev, hv, g1, g2, g3, by rw [upd_ne rl]; exact hr2, dpAllT nw (noTp1 g1) hw2 (noLsP _)⟩
        obtain ⟨acc0, g0⟩ : ∃ acc, H2 l = some (.lst acc) := by obtain ⟨a, _, b, _⟩ := he; exact ⟨a, b⟩
        have lt : tyV K "list" (V.ref l) H2 := .inl ⟨rfl, _, sq_l g0⟩
        try simp only [tSeq, tIfS, tTest, tOp, tUn, tCB, tCons, tNil, tVar, tC, rI0, rI, rU, rEq, rNe, tRet, tRetN, tAsg, gName, gSub, tBM, tBM0, tNext, tB, tNot, tAnd, tOr, tIf, tCall, tDrop, tBreak, tCont, L2.start, tDGet, sDPut, tTup, tLst, tDNewK, tRevL, rCat, rAppend, rPop, rSetL, tAndV, tOrV, tNotV, tSl, tPart, tNoPart, tM1, gTup, gCons, gNil, cxK, cxnK, List.map_cons, List.map_nil, List.length_cons, List.length_nil, List.replicate, List.cons_append, List.nil_append, List.append_nil, List.set_cons_zero, List.set_cons_succ, List.getElem?_cons_zero, List.getElem?_cons_succ, Option.some.injEq, V.ref.injEq, V.int.injEq, V.str.injEq, V.bl.injEq, V.ty.injEq, exists_eq_left', exists_eq_left, exists_and_left, List.cons.injEq, and_true, true_and, sc_ii, sc_ss, sc_bb, sc_ni, sc_in, sc_is, sc_si, sc_nn, decide_true, decide_false, reduceCtorEq, Bool.false_eq_true, if_true, if_false, ite_true, ite_false, exists_const, eq_self, false_and, and_false, or_false, false_or, exists_false, Evl.rLenS, rSum, wipe, tYes, exists_eq, exists_eq', rIxL, rIxT, rIxS, exists_and_right, gt_iff_lt, not_true_eq_false, not_false_eq_true, Bool.not_true, Bool.not_false, decide_eq_true_eq, Nat.reduceSub, Nat.reduceAdd, List.append_assoc, tChain, tDIn, tDNotIn, sDDel, tAug, ipI]
        refine ite2 (fun h3 => ?_) (fun h3 => ?_)
        · obtain ⟨v, p, acc, ev, hv, g1, g2, g3, g4, g5⟩ := step (num % 27) (Int.emod_nonneg _ (by decide)) (Int.emod_lt_of_pos _ (by decide))
          exact ⟨lt, by decide, _, sq_l hr2, _, ev, acc, g1, g2, cd (by decide) (by decide), _, _, _, rfl, Int.ediv_nonneg num0 (by decide), g3, g4, g5⟩
        · obtain ⟨v, p, acc, ev, hv, g1, g2, g3, g4, g5⟩ := step (((seed * 48271 + 2 * (0 + (i : Int)) + 11) % 2147483647 * 69621 + 5) % 2147483629 / 7 % 27) (Int.emod_nonneg _ (by decide)) (Int.emod_lt_of_pos _ (by decide))
          exact ⟨.inr ⟨by decide, by decide⟩, .inl ⟨by decide, by decide⟩, by decide, .inr ⟨by decide, by decide⟩, by decide, lt, cd (by decide) (by decide), by decide, _, sq_l hr2, _, ev, acc, g1, g2, _, _, _, rfl, num0, g3, g4, g5⟩
      · rintro σ H2 ⟨num, seed, k, rfl, num0, he, hr2, hw2⟩
        try simp only [tSeq, tIfS, tTest, tOp, tUn, tCB, tCons, tNil, tVar, tC, rI0, rI, rU, rEq, rNe, tRet, tRetN, tAsg, gName, gSub, tBM, tBM0, tNext, tB, tNot, tAnd, tOr, tIf, tCall, tDrop, tBreak, tCont, L2.start, tDGet, sDPut, tTup, tLst, tDNewK, tRevL, rCat, rAppend, rPop, rSetL, tAndV, tOrV, tNotV, tSl, tPart, tNoPart, tM1, gTup, gCons, gNil, cxK, cxnK, List.map_cons, List.map_nil, List.length_cons, List.length_nil, List.replicate, List.cons_append, List.nil_append, List.append_nil, List.set_cons_zero, List.set_cons_succ, List.getElem?_cons_zero, List.getElem?_cons_succ, Option.some.injEq, V.ref.injEq, V.int.injEq, V.str.injEq, V.bl.injEq, V.ty.injEq, exists_eq_left', exists_eq_left, exists_and_left, List.cons.injEq, and_true, true_and, sc_ii, sc_ss, sc_bb, sc_ni, sc_in, sc_is, sc_si, sc_nn, decide_true, decide_false, reduceCtorEq, Bool.false_eq_true, if_true, if_false, ite_true, ite_false, exists_const, eq_self, false_and, and_false, or_false, false_or, exists_false, Evl.rLenS, rSum, wipe, tYes, exists_eq, exists_eq', rIxL, rIxT, rIxS, exists_and_right, gt_iff_lt, not_true_eq_false, not_false_eq_true, Bool.not_true, Bool.not_false, decide_eq_true_eq, Nat.reduceSub, Nat.reduceAdd, List.append_assoc, tChain, tDIn, tDNotIn, sDDel, tAug, ipI]
        exact q l _ _ (k1.free0 nl) (by omega) (lsK he)
def spWords : Sp := fun vs H Q _ => ∃ n : Int, vs = [.int n] ∧ ∀ (t : Addr) (zs : List Str) (H' : Hp), H t = none → H' t = some (.tup (zs.map V.str)) → Kp [] H H' → Q (.ref t) H'
def wordsL : List Str := ["read", "acquire", "write", "release", "both", "return"]
def WdInv (H : Hp) (l : Addr) (many : Int) (i : Nat) (σ : L2.St) (H' : Hp) : Prop := ∃ (num : Int) (k : Option V) (zs : List Str), σ = [some (.int num), some (.ref l), some (.int many), k] ∧ H' l = some (.lst (zs.map V.str)) ∧ zs.length = i ∧ Kp [] H H'
theorem ok_law_words {f : Addr} {fd : FuncData} (D : Df K mg "_law_words" s_law_words ["_law_number"] f fd) (T : Bt0 mg) : FnOk P w K mg base CX0 1 f fd ["_law_number"] spWords := by
  refine D.F.ok sc_law_words (fun vs H Q E h => ?_) (fun cdv A outer s H vs Q E hr h => ?_)
  · obtain ⟨n, rfl, _⟩ := h
    rfl
  · obtain ⟨n, rfl, q⟩ := h
    refine ⟨_, (pss_cons (ps_set (i := 1) sc_law_words.nd rfl (Or.inl rfl) (pe_lst pa_nil))
      (pss_cons (ps_set (i := 2) sc_law_words.nd rfl (Or.inl rfl) (pe_op op_mod (pe_callTy (T := "int") call_int1 (by rfl) T.b_int (by decide +kernel) (pa_cons (pv 0) pa_nil)) pe_int))
      (pss_cons (ps_set (i := 0) sc_law_words.nd rfl (Or.inl rfl) (pe_op op_fdiv (pv 0) pe_int))
      (pss_cons (ps_for PassesOwn.never rfl (pi_range1 rfl T.b_range (pa_cons (pv 2) pa_nil)) (pg_name (i := 3) sc_law_words.nd rfl (Or.inl rfl)) (pss_cons (ps_expr (pe_bm PySem.F.plainAttrs_list PySem.F.slot_list_append PySem.F.type_list_append mt_append (pv 1) (pa_cons (pe_ix (r := rIxL K) ix_list (pe_lst (pa_cons pe_str (pa_cons pe_str (pa_cons pe_str (pa_cons pe_str (pa_cons pe_str (pa_cons pe_str pa_nil))))))) (pe_op op_mod (pe_callTy (T := "int") call_int1 (by rfl) T.b_int (by decide +kernel) (pa_cons (pv 0) pa_nil)) pe_int) (fun _ _ => rfl)) pa_nil)))
      (pss_one (ps_set (i := 0) sc_law_words.nd rfl (Or.inl rfl) (pe_op op_fdiv (pv 0) pe_int)))))
      (pss_one (ps_ret (pe_callTy call_tuple_of (by rfl) T.b_tuple (by decide +kernel) (pa_cons (pv 1) pa_nil)))))))), ?_⟩
    have cd : ∀ {x y : Int}, 0 < y → y < 2 ^ 30 → CDiv x y := fun h1 h2 => ⟨h1, h2⟩
    have m1 := Int.emod_nonneg n (show (8 : Int) ≠ 0 by decide)
    have m2 := Int.emod_lt_of_pos n (show (0 : Int) < 8 by decide)
    try simp only [tSeq, tIfS, tTest, tOp, tUn, tCB, tCons, tNil, tVar, tC, rI0, rI, rU, rEq, rNe, tRet, tRetN, tAsg, gName, gSub, tBM, tBM0, tNext, tB, tNot, tAnd, tOr, tIf, tCall, tDrop, tBreak, tCont, L2.start, tDGet, sDPut, tTup, tLst, tDNewK, tRevL, rCat, rAppend, rPop, rSetL, tAndV, tOrV, tNotV, tSl, tPart, tNoPart, tM1, gTup, gCons, gNil, cxK, cxnK, List.map_cons, List.map_nil, List.length_cons, List.length_nil, List.replicate, List.cons_append, List.nil_append, List.append_nil, List.set_cons_zero, List.set_cons_succ, List.getElem?_cons_zero, List.getElem?_cons_succ, Option.some.injEq, V.ref.injEq, V.int.injEq, V.str.injEq, V.bl.injEq, V.ty.injEq, exists_eq_left', exists_eq_left, exists_and_left, List.cons.injEq, and_true, true_and, sc_ii, sc_ss, sc_bb, sc_ni, sc_in, sc_is, sc_si, sc_nn, decide_true, decide_false, reduceCtorEq, Bool.false_eq_true, if_true, if_false, ite_true, ite_false, exists_const, eq_self, false_and, and_false, or_false, false_or, exists_false, Evl.rLenS, rSum, wipe, tYes, exists_eq, exists_eq', rIxL, rIxT, rIxS, exists_and_right, gt_iff_lt, not_true_eq_false, not_false_eq_true, Bool.not_true, Bool.not_false, decide_eq_true_eq, Nat.reduceSub, Nat.reduceAdd, List.append_assoc, tChain, tDIn, tDNotIn, sDDel, tAug, ipI]
    refine ⟨small (by decide), fun l nl => ⟨by decide, cd (by decide) (by decide), ?_⟩⟩
    refine ⟨.int _, rfl, n % 8, rfl, by omega, by omega, for_range (lo := 0) (n := (n % 8).toNat) (WdInv H l (n % 8)) ⟨_, _, [], rfl, upd_same, rfl, Kp.new nl⟩ ?_ ?_⟩
    · rintro i σ H2 hi ⟨num, k, zs, rfl, h1, h2, kp⟩
      try simp only [tSeq, tIfS, tTest, tOp, tUn, tCB, tCons, tNil, tVar, tC, rI0, rI, rU, rEq, rNe, tRet, tRetN, tAsg, gName, gSub, tBM, tBM0, tNext, tB, tNot, tAnd, tOr, tIf, tCall, tDrop, tBreak, tCont, L2.start, tDGet, sDPut, tTup, tLst, tDNewK, tRevL, rCat, rAppend, rPop, rSetL, tAndV, tOrV, tNotV, tSl, tPart, tNoPart, tM1, gTup, gCons, gNil, cxK, cxnK, List.map_cons, List.map_nil, List.length_cons, List.length_nil, List.replicate, List.cons_append, List.nil_append, List.append_nil, List.set_cons_zero, List.set_cons_succ, List.getElem?_cons_zero, List.getElem?_cons_succ, Option.some.injEq, V.ref.injEq, V.int.injEq, V.str.injEq, V.bl.injEq, V.ty.injEq, exists_eq_left', exists_eq_left, exists_and_left, List.cons.injEq, and_true, true_and, sc_ii, sc_ss, sc_bb, sc_ni, sc_in, sc_is, sc_si, sc_nn, decide_true, decide_false, reduceCtorEq, Bool.false_eq_true, if_true, if_false, ite_true, ite_false, exists_const, eq_self, false_and, and_false, or_false, false_or, exists_false, Evl.rLenS, rSum, wipe, tYes, exists_eq, exists_eq', rIxL, rIxT, rIxS, exists_and_right, gt_iff_lt, not_true_eq_false, not_false_eq_true, Bool.not_true, Bool.not_false, decide_eq_true_eq, Nat.reduceSub, Nat.reduceAdd, List.append_assoc, tChain, tDIn, tDNotIn, sDDel, tAug, ipI]
      refine ⟨.inl ⟨rfl, _, sq_l h1⟩, small (by decide), fun p np => ⟨by decide, wordsL.map V.str, sq_l upd_same, ?_⟩⟩
      obtain ⟨v, hv, ev⟩ := atI_ex (xs := wordsL.map V.str) (i := num % 6) (Int.emod_nonneg _ (by decide)) (by rw [List.length_map]; exact Int.emod_lt_of_pos _ (by decide))
      obtain ⟨z, _, rfl⟩ := List.mem_map.mp hv
      have lp : l ≠ p := ne_of_none h1 np
      refine ⟨_, ev, zs.map V.str, by rw [upd_ne lp]; exact h1, by rw [List.length_map]; exact smallL (by omega), cd (by decide) (by decide), _, _, zs ++ [z], rfl, ?_, by rw [List.length_append, h2]; rfl, (kp.trans (Kp.new np)).wr nl⟩
      rw [upd_same, List.map_append]; rfl
    · rintro σ H2 ⟨num, k, zs, rfl, h1, h2, kp⟩
      try simp only [tSeq, tIfS, tTest, tOp, tUn, tCB, tCons, tNil, tVar, tC, rI0, rI, rU, rEq, rNe, tRet, tRetN, tAsg, gName, gSub, tBM, tBM0, tNext, tB, tNot, tAnd, tOr, tIf, tCall, tDrop, tBreak, tCont, L2.start, tDGet, sDPut, tTup, tLst, tDNewK, tRevL, rCat, rAppend, rPop, rSetL, tAndV, tOrV, tNotV, tSl, tPart, tNoPart, tM1, gTup, gCons, gNil, cxK, cxnK, List.map_cons, List.map_nil, List.length_cons, List.length_nil, List.replicate, List.cons_append, List.nil_append, List.append_nil, List.set_cons_zero, List.set_cons_succ, List.getElem?_cons_zero, List.getElem?_cons_succ, Option.some.injEq, V.ref.injEq, V.int.injEq, V.str.injEq, V.bl.injEq, V.ty.injEq, exists_eq_left', exists_eq_left, exists_and_left, List.cons.injEq, and_true, true_and, sc_ii, sc_ss, sc_bb, sc_ni, sc_in, sc_is, sc_si, sc_nn, decide_true, decide_false, reduceCtorEq, Bool.false_eq_true, if_true, if_false, ite_true, ite_false, exists_const, eq_self, false_and, and_false, or_false, false_or, exists_false, Evl.rLenS, rSum, wipe, tYes, exists_eq, exists_eq', rIxL, rIxT, rIxS, exists_and_right, gt_iff_lt, not_true_eq_false, not_false_eq_true, Bool.not_true, Bool.not_false, decide_eq_true_eq, Nat.reduceSub, Nat.reduceAdd, List.append_assoc, tChain, tDIn, tDNotIn, sDDel, tAug, ipI]
      exact ⟨_, .inl ⟨sq_l h1, fun t nt => q t zs _ (kp.free0 nt) upd_same (kp.trans (Kp.new nt))⟩⟩
/-- data laid one after the other -/
def Laid (K : PySem.W.Frag) (H : Hp) (vs : List V) (ds : List PyData) (H' : Hp) : Prop := DpAll K H' vs ds ∧ Kp [] H H'
theorem Laid.flat {H H' : Hp} {vs : List V} {ds : List PyData} {v : V} {d : PyData} (h : Laid K H vs ds H') (k : Dp K H' v d) : Laid K H (vs ++ [v]) (ds ++ [d]) H' := ⟨dpApp h.1 (.cons k .nil), h.2⟩
theorem Laid.tup {H H' : Hp} {vs xs : List V} {ds es : List PyData} {t : Addr} (h : Laid K H vs ds H') (nt : H' t = none) (k : DpAll K (upd H' t (.tup xs)) xs es) : Laid K H (vs ++ [.ref t]) (ds ++ [.tuple es]) (upd H' t (.tup xs)) :=
  ⟨dpApp (dpAllN (Kp.new nt) noSq0 h.1) (.cons (.tup (sq_t upd_same) k) .nil), h.2.trans (Kp.new nt)⟩
theorem Laid.lst {H H' : Hp} {vs xs : List V} {ds es : List PyData} {t : Addr} (h : Laid K H vs ds H') (nt : H' t = none) (k : DpAll K (upd H' t (.lst xs)) xs es) : Laid K H (vs ++ [.ref t]) (ds ++ [.list es]) (upd H' t (.lst xs)) :=
  ⟨dpApp (dpAllN (Kp.new nt) noSq0 h.1) (.cons (.lst (sq_l upd_same) k) .nil), h.2.trans (Kp.new nt)⟩
theorem Laid.up {H H' : Hp} {vs : List V} {ds : List PyData} {t : Addr} {o : HO} (h : Laid K H vs ds H') (nt : H' t = none) : Laid K H vs ds (upd H' t o) := ⟨dpAllN (Kp.new nt) noSq0 h.1, h.2.trans (Kp.new nt)⟩
theorem laid0 {H : Hp} : Laid K H [] [] H := ⟨.nil, Kp.refl [] _⟩
theorem s2 {H : Hp} {x y : Str} : DpAll K H [.str x, .str y] [.str x, .str y] := .cons (.str x) (.cons (.str y) .nil)
def spOdd (K : PySem.W.Frag) : Sp := fun vs H Q _ => ∃ n : Int, vs = [.int n] ∧ ∀ (v : V) (d : PyData) (H' : Hp), Dp K H' v d → Fit d → Kp [] H H' → Q v H'
theorem ok_law_odd {f : Addr} {fd : FuncData} (D : Df K mg "_law_odd" s_law_odd ["_law_number"] f fd) (T : Bt0 mg) : FnOk P w K mg base CX0 1 f fd ["_law_number"] (spOdd K) := by
  refine D.F.ok sc_law_odd (fun vs H Q E h => ?_) (fun cdv A outer s H vs Q E hr h => ?_)
  · obtain ⟨n, rfl, _⟩ := h
    rfl
  · obtain ⟨n, rfl, q⟩ := h
    refine ⟨_, (pss_cons (ps_set (i := 1) sc_law_odd.nd rfl (Or.inl rfl) (pe_lst (pa_cons (pe_tup (pa_cons pe_str (pa_cons pe_str pa_nil))) (pa_cons (pe_tup (pa_cons pe_str (pa_cons pe_str pa_nil))) (pa_cons (pe_tup (pa_cons pe_str (pa_cons pe_str pa_nil))) (pa_cons (pe_tup (pa_cons pe_str (pa_cons pe_str pa_nil))) (pa_cons (pe_tup (pa_cons pe_str pa_nil)) (pa_cons pe_int (pa_cons pe_non (pa_cons pe_str (pa_cons (pe_tup pa_nil) pa_nil)))))))))))
      (pss_cons (ps_set (i := 1) sc_law_odd.nd rfl (Or.inl rfl) (pe_op op_cat (pv 1) (pe_lst (pa_cons (pe_lst (pa_cons pe_str (pa_cons pe_str pa_nil))) (pa_cons (pe_tup (pa_cons pe_str (pa_cons pe_non pa_nil))) (pa_cons (pe_tup (pa_cons pe_str (pa_cons pe_str pa_nil))) (pa_cons (pe_tup (pa_cons pe_str (pa_cons pe_str pa_nil))) (pa_cons (pe_tup (pa_cons pe_str (pa_cons pe_str pa_nil))) pa_nil))))))))
      (pss_cons (ps_set (i := 1) sc_law_odd.nd rfl (Or.inl rfl) (pe_op op_cat (pv 1) (pe_lst (pa_cons (pe_tup (pa_cons pe_str (pa_cons pe_str pa_nil))) (pa_cons (pe_tup (pa_cons pe_str (pa_cons pe_str (pa_cons pe_str pa_nil)))) pa_nil)))))
      (pss_one (ps_ret (pe_ix (r := rIxL K) ix_list (pv 1) (pe_op op_mod (pe_callTy (T := "int") call_int1 (by rfl) T.b_int (by decide +kernel) (pa_cons (pv 0) pa_nil)) pe_int) (fun _ _ => rfl))))))), ?_⟩
    try simp only [tSeq, tIfS, tTest, tOp, tUn, tCB, tCons, tNil, tVar, tC, rI0, rI, rU, rEq, rNe, tRet, tRetN, tAsg, gName, gSub, tBM, tBM0, tNext, tB, tNot, tAnd, tOr, tIf, tCall, tDrop, tBreak, tCont, L2.start, tDGet, sDPut, tTup, tLst, tDNewK, tRevL, rCat, rAppend, rPop, rSetL, tAndV, tOrV, tNotV, tSl, tPart, tNoPart, tM1, gTup, gCons, gNil, cxK, cxnK, List.map_cons, List.map_nil, List.length_cons, List.length_nil, List.replicate, List.cons_append, List.nil_append, List.append_nil, List.set_cons_zero, List.set_cons_succ, List.getElem?_cons_zero, List.getElem?_cons_succ, Option.some.injEq, V.ref.injEq, V.int.injEq, V.str.injEq, V.bl.injEq, V.ty.injEq, exists_eq_left', exists_eq_left, exists_and_left, List.cons.injEq, and_true, true_and, sc_ii, sc_ss, sc_bb, sc_ni, sc_in, sc_is, sc_si, sc_nn, decide_true, decide_false, reduceCtorEq, Bool.false_eq_true, if_true, if_false, ite_true, ite_false, exists_const, eq_self, false_and, and_false, or_false, false_or, exists_false, Evl.rLenS, rSum, wipe, tYes, exists_eq, exists_eq', rIxL, rIxT, rIxS, exists_and_right, gt_iff_lt, not_true_eq_false, not_false_eq_true, Bool.not_true, Bool.not_false, decide_eq_true_eq, Nat.reduceSub, Nat.reduceAdd, List.append_assoc, tChain, tDIn, tDNotIn, sDDel, tAug, ipI]
    refine ⟨small (by decide), fun t1 n1 => ⟨small (by decide), fun t2 n2 => ⟨small (by decide), fun t3 n3 => ⟨small (by decide), fun t4 n4 => ⟨small (by decide), fun t5 n5 => ⟨small (by decide), fun t6 n6 => ⟨small (by decide), fun l nl => ?_⟩⟩⟩⟩⟩⟩⟩
    have a0 : Laid K H [] [] H := ⟨.nil, Kp.refl _ _⟩
    have a1 := (((((a0.tup n1 s2).tup n2 s2).tup n3 s2).tup n4 s2).tup n5 (.cons (.str "read") .nil))
    have a2 := ((a1.flat (.int 7)).flat .non).flat (.str "read")
    have a3 := (a2.tup n6 .nil).up (o := .lst [.ref t1, .ref t2, .ref t3, .ref t4, .ref t5, .int 7, .non, .str "read", .ref t6]) nl
    have hl : (upd (upd (upd (upd (upd (upd (upd H t1 (.tup [.str "read", .str "return"])) t2 (.tup [.str "both", .str "return"])) t3 (.tup [.str "return", .str "read"])) t4 (.tup [.str "read", .str "full"])) t5 (.tup [.str "read"])) t6 (.tup [])) l (.lst [.ref t1, .ref t2, .ref t3, .ref t4, .ref t5, .int 7, .non, .str "read", .ref t6])) l = some (.lst [.ref t1, .ref t2, .ref t3, .ref t4, .ref t5, .int 7, .non, .str "read", .ref t6]) := upd_same
    clear a0 a1 a2
    generalize upd (upd (upd (upd (upd (upd (upd H t1 (.tup [.str "read", .str "return"])) t2 (.tup [.str "both", .str "return"])) t3 (.tup [.str "return", .str "read"])) t4 (.tup [.str "read", .str "full"])) t5 (.tup [.str "read"])) t6 (.tup [])) l (.lst [.ref t1, .ref t2, .ref t3, .ref t4, .ref t5, .int 7, .non, .str "read", .ref t6]) = Hc at a3 hl ⊢
    refine ⟨small (by decide), fun u1 m1 => ⟨small (by decide), fun u2 m2 => ⟨small (by decide), fun u3 m3 => ⟨small (by decide), fun u4 m4 => ⟨small (by decide), fun u5 m5 => ⟨small (by decide), fun l2 nl2 => ?_⟩⟩⟩⟩⟩⟩
    have b0 : Laid K Hc [] [] Hc := ⟨.nil, Kp.refl _ _⟩
    have b1 := ((((b0.lst m1 s2).tup m2 (.cons (.str "read") (.cons .non .nil))).tup m3 s2).tup m4 s2).tup m5 (s2 (x := "") (y := "read"))
    have b2 := b1.up (o := .lst [.ref u1, .ref u2, .ref u3, .ref u4, .ref u5]) nl2
    refine ⟨_, b2.2 _ _ not0 hl, _, upd_same, small (by simp), fun l3 nl3 => ?_⟩
    have c0 : Laid K H _ _ _ := ⟨dpApp (dpAllN b2.2 noSq0 a3.1) b2.1, a3.2.trans b2.2⟩
    have c1 := c0.up (o := .lst ([.ref t1, .ref t2, .ref t3, .ref t4, .ref t5, .int 7, .non, .str "read", .ref t6] ++ [.ref u1, .ref u2, .ref u3, .ref u4, .ref u5])) nl3
    refine ⟨small (by decide), fun v1 o1 => ⟨small (by decide), fun v2 o2 => ⟨small (by decide), fun l4 nl4 => ?_⟩⟩⟩
    have d1 := (((laid0 (K := K)).tup o1 s2).tup o2 (.cons (.str "read") (.cons (.str "write") (.cons (.str "both") .nil)))).up (o := .lst [.ref v1, .ref v2]) nl4
    refine ⟨_, d1.2 _ _ not0 upd_same, _, upd_same, small (by simp), fun l5 nl5 => ?_⟩
    have e0 : Laid K H _ _ _ := ⟨dpApp (dpAllN d1.2 noSq0 c1.1) d1.1, c1.2.trans d1.2⟩
    have e1 := e0.up (o := .lst ([.ref t1, .ref t2, .ref t3, .ref t4, .ref t5, .int 7, .non, .str "read", .ref t6] ++ [.ref u1, .ref u2, .ref u3, .ref u4, .ref u5] ++ [.ref v1, .ref v2])) nl5
    obtain ⟨v, hv, ev⟩ := atI_ex (xs := ([.ref t1, .ref t2, .ref t3, .ref t4, .ref t5, .int 7, .non, .str "read", .ref t6] ++ [.ref u1, .ref u2, .ref u3, .ref u4, .ref u5] ++ [.ref v1, .ref v2] : List V)) (i := n % 16) (Int.emod_nonneg _ (by decide)) (by show n % 16 < 16; exact Int.emod_lt_of_pos _ (by decide))
    obtain ⟨i, ei⟩ := List.getElem?_of_mem hv
    obtain ⟨d, ed, hd⟩ := dpGet e1.1 ei
    refine ⟨by decide, _, sq_l upd_same, _, ev, q v d _ hd ?_ e1.2⟩
    have all : ∀ d ∈ ([.tuple [.str "read", .str "return"], .tuple [.str "both", .str "return"], .tuple [.str "return", .str "read"], .tuple [.str "read", .str "full"], .tuple [.str "read"], .int 7, .none, .str "read", .tuple [], .list [.str "read", .str "read"], .tuple [.str "read", .none], .tuple [.str "Read", .str "read"], .tuple [.str "write", .str "returns"], .tuple [.str "", .str "read"], .tuple [.str "acquire", .str "return"], .tuple [.str "read", .str "write", .str "both"]] : List PyData), Fit d := by
      unfold Fit
      decide +kernel
    exact all d (List.mem_of_getElem? ed)
theorem dpCut {H : Hp} {ws : List V} {ds : List PyData} (h : DpAll K H ws ds) (lo hi : Option Int) : ∃ es, DpAll K H (cutV ws lo hi) es ∧ ∀ d ∈ es, d ∈ ds :=
  ⟨_, by unfold cutV; exact dpTake (dpDrop h _) _, fun d hd => List.mem_of_mem_drop (List.mem_of_mem_take hd)⟩
/-- a list of data, tracked -/
def LsT (K : PySem.W.Frag) (H : Hp) (a : Addr) (ds : List PyData) : Prop := ∃ ws, H a = some (.lst ws) ∧ DpAll K H ws ds
theorem LsT.kp {H H' : Hp} {a : Addr} {ds : List PyData} (h : LsT K H a ds) (k : Kp [] H H') : LsT K H' a ds := by
  obtain ⟨ws, a, b⟩ := h
  exact ⟨ws, k _ _ not0 a, dpAllN k noSq0 b⟩
theorem LsT.d {H : Hp} {a : Addr} {ds : List PyData} (h : LsT K H a ds) : LsD K H a ds := by
  obtain ⟨ws, a, b⟩ := h
  exact ⟨ws, sq_l a, b⟩
def spSpoilt (K : PySem.W.Frag) : Sp := fun vs H Q _ => ∃ (a : Addr) (n : Int) (ds : List PyData), vs = [.ref a, .int n] ∧ LsT K H a ds ∧ (∀ d ∈ ds, Fit d) ∧ ds.length ≤ 41 ∧ ∀ (p : Addr) (es : List PyData) (H' : Hp), H p = none → LsT K H' p es → (∀ d ∈ es, Fit d) → es.length ≤ 200 → Kp [] H H' → Q (.ref p) H'
def SpInv (K : PySem.W.Frag) (H : Hp) (a : Addr) (many : Int) (i : Nat) (σ : L2.St) (H' : Hp) : Prop := ∃ (num : Int) (sp : Addr) (k b pl : Option V) (es : List PyData), σ = [some (.ref a), some (.int num), some (.ref sp), some (.int many), k, b, pl] ∧ H sp = none ∧ LsT K H' sp es ∧ (∀ d ∈ es, Fit d) ∧ es.length + 1 ≤ 42 * 2 ^ i ∧ Kp [] H H'
theorem ok_law_spoilt {f : Addr} {fd : FuncData} (D : Df K mg "_law_spoilt" s_law_spoilt ["_law_items_here", "_law_number"] f fd) (T : Bt0 mg) {fg : Addr} {fdg : FuncData} (D_law_odd : Df K mg "_law_odd" s_law_odd ["_law_number"] fg fdg) (G_law_odd : FnOk P w K mg base CX0 1 fg fdg ["_law_number"] (spOdd K)) : FnOk P w K mg base CX0 2 f fd ["_law_items_here", "_law_number"] (spSpoilt K) := by
  refine D.F.ok sc_law_spoilt (fun vs H Q E h => ?_) (fun cdv A outer s H vs Q E hr h => ?_)
  · obtain ⟨a, n, ds, rfl, _⟩ := h
    rfl
  · obtain ⟨a, n, ds, rfl, ⟨ws, ha, hws⟩, hF, hl, q⟩ := h
    refine ⟨_, (pss_cons (ps_set (i := 2) sc_law_spoilt.nd rfl (Or.inl rfl) (pe_callTy call_list_of (by rfl) T.b_list (by decide +kernel) (pa_cons (pv 0) pa_nil)))
      (pss_cons (ps_set (i := 3) sc_law_spoilt.nd rfl (Or.inl rfl) (pe_op op_add pe_int (pe_op op_mod (pe_callTy (T := "int") call_int1 (by rfl) T.b_int (by decide +kernel) (pa_cons (pv 1) pa_nil)) pe_int)))
      (pss_cons (ps_set (i := 1) sc_law_spoilt.nd rfl (Or.inl rfl) (pe_op op_fdiv (pv 1) pe_int))
      (pss_cons (ps_for PassesOwn.never rfl (pi_range1 rfl T.b_range (pa_cons (pv 3) pa_nil)) (pg_name (i := 4) sc_law_spoilt.nd rfl (Or.inl rfl)) (pss_cons (ps_set (i := 5) sc_law_spoilt.nd rfl (Or.inl rfl) (pe_call G_law_odd (hr.mono (by decide)) rfl D_law_odd.g D_law_odd.F.kp D_law_odd.b .nil pass0 (pa_cons (pv 1) pa_nil)))
      (pss_cons (ps_set (i := 1) sc_law_spoilt.nd rfl (Or.inl rfl) (pe_op op_fdiv (pv 1) pe_int))
      (pss_cons (ps_set (i := 6) sc_law_spoilt.nd rfl (Or.inl rfl) (pe_op op_mod (pe_callTy (T := "int") call_int1 (by rfl) T.b_int (by decide +kernel) (pa_cons (pv 1) pa_nil)) (pe_op op_add (pe_callB (id := "len") (r := Evl.rLenS K) call_len_seq (by rfl) T.b_len PySem.boot_len (pa_cons (pv 2) pa_nil)) pe_int)))
      (pss_cons (ps_set (i := 1) sc_law_spoilt.nd rfl (Or.inl rfl) (pe_op op_fdiv (pv 1) pe_int))
      (pss_one (ps_set (i := 2) sc_law_spoilt.nd rfl (Or.inl rfl) (pe_op op_cat (pe_op op_cat (pe_slice sl_list (pv 2) po_none (po_some (pv 6))) (pe_lst (pa_cons (pv 5) pa_nil))) (pe_slice sl_list (pv 2) (po_some (pv 6)) po_none)))))))))
      (pss_one (ps_ret (pv 2))))))), ?_⟩
    have cd : ∀ {x y : Int}, 0 < y → y < 2 ^ 30 → CDiv x y := fun h1 h2 => ⟨h1, h2⟩
    have m1 := Int.emod_nonneg n (show (2 : Int) ≠ 0 by decide)
    have m2 := Int.emod_lt_of_pos n (show (0 : Int) < 2 by decide)
    try simp only [tSeq, tIfS, tTest, tOp, tUn, tCB, tCons, tNil, tVar, tC, rI0, rI, rU, rEq, rNe, tRet, tRetN, tAsg, gName, gSub, tBM, tBM0, tNext, tB, tNot, tAnd, tOr, tIf, tCall, tDrop, tBreak, tCont, L2.start, tDGet, sDPut, tTup, tLst, tDNewK, tRevL, rCat, rAppend, rPop, rSetL, tAndV, tOrV, tNotV, tSl, tPart, tNoPart, tM1, gTup, gCons, gNil, cxK, cxnK, List.map_cons, List.map_nil, List.length_cons, List.length_nil, List.replicate, List.cons_append, List.nil_append, List.append_nil, List.set_cons_zero, List.set_cons_succ, List.getElem?_cons_zero, List.getElem?_cons_succ, Option.some.injEq, V.ref.injEq, V.int.injEq, V.str.injEq, V.bl.injEq, V.ty.injEq, exists_eq_left', exists_eq_left, exists_and_left, List.cons.injEq, and_true, true_and, sc_ii, sc_ss, sc_bb, sc_ni, sc_in, sc_is, sc_si, sc_nn, decide_true, decide_false, reduceCtorEq, Bool.false_eq_true, if_true, if_false, ite_true, ite_false, exists_const, eq_self, false_and, and_false, or_false, false_or, exists_false, Evl.rLenS, rSum, wipe, tYes, exists_eq, exists_eq', rIxL, rIxT, rIxS, exists_and_right, gt_iff_lt, not_true_eq_false, not_false_eq_true, Bool.not_true, Bool.not_false, decide_eq_true_eq, Nat.reduceSub, Nat.reduceAdd, List.append_assoc, tChain, tDIn, tDNotIn, sDDel, tAug, ipI]
    refine ⟨_, .inl (sq_l ha), fun sp nsp => ?_⟩
    have k1 : Kp [] H (upd H sp (.lst ws)) := Kp.new nsp
    refine ⟨by decide, cd (by decide) (by decide), ?_⟩
    refine ⟨.int _, rfl, 1 + n % 2, rfl, by omega, by omega, for_range (lo := 0) (n := (1 + n % 2).toNat) (SpInv K H a (1 + n % 2)) ⟨_, sp, _, _, _, ds, rfl, nsp, ⟨ws, upd_same, dpAllN k1 noSq0 hws⟩, hF, by omega, k1⟩ ?_ ?_⟩
    · rintro i σ H1 hi ⟨num, sp, k, b, pl, es, rfl, nsp, hs, hF1, hl1, kp⟩
      try simp only [tSeq, tIfS, tTest, tOp, tUn, tCB, tCons, tNil, tVar, tC, rI0, rI, rU, rEq, rNe, tRet, tRetN, tAsg, gName, gSub, tBM, tBM0, tNext, tB, tNot, tAnd, tOr, tIf, tCall, tDrop, tBreak, tCont, L2.start, tDGet, sDPut, tTup, tLst, tDNewK, tRevL, rCat, rAppend, rPop, rSetL, tAndV, tOrV, tNotV, tSl, tPart, tNoPart, tM1, gTup, gCons, gNil, cxK, cxnK, List.map_cons, List.map_nil, List.length_cons, List.length_nil, List.replicate, List.cons_append, List.nil_append, List.append_nil, List.set_cons_zero, List.set_cons_succ, List.getElem?_cons_zero, List.getElem?_cons_succ, Option.some.injEq, V.ref.injEq, V.int.injEq, V.str.injEq, V.bl.injEq, V.ty.injEq, exists_eq_left', exists_eq_left, exists_and_left, List.cons.injEq, and_true, true_and, sc_ii, sc_ss, sc_bb, sc_ni, sc_in, sc_is, sc_si, sc_nn, decide_true, decide_false, reduceCtorEq, Bool.false_eq_true, if_true, if_false, ite_true, ite_false, exists_const, eq_self, false_and, and_false, or_false, false_or, exists_false, Evl.rLenS, rSum, wipe, tYes, exists_eq, exists_eq', rIxL, rIxT, rIxS, exists_and_right, gt_iff_lt, not_true_eq_false, not_false_eq_true, Bool.not_true, Bool.not_false, decide_eq_true_eq, Nat.reduceSub, Nat.reduceAdd, List.append_assoc, tChain, tDIn, tDNotIn, sDDel, tAug, ipI]
      refine ⟨num, rfl, fun v d H2 hd fd k2 => ?_⟩
      obtain ⟨us, hu1, hus⟩ := hs.kp k2
      have ul := dpLen hus
      try simp only [tSeq, tIfS, tTest, tOp, tUn, tCB, tCons, tNil, tVar, tC, rI0, rI, rU, rEq, rNe, tRet, tRetN, tAsg, gName, gSub, tBM, tBM0, tNext, tB, tNot, tAnd, tOr, tIf, tCall, tDrop, tBreak, tCont, L2.start, tDGet, sDPut, tTup, tLst, tDNewK, tRevL, rCat, rAppend, rPop, rSetL, tAndV, tOrV, tNotV, tSl, tPart, tNoPart, tM1, gTup, gCons, gNil, cxK, cxnK, List.map_cons, List.map_nil, List.length_cons, List.length_nil, List.replicate, List.cons_append, List.nil_append, List.append_nil, List.set_cons_zero, List.set_cons_succ, List.getElem?_cons_zero, List.getElem?_cons_succ, Option.some.injEq, V.ref.injEq, V.int.injEq, V.str.injEq, V.bl.injEq, V.ty.injEq, exists_eq_left', exists_eq_left, exists_and_left, List.cons.injEq, and_true, true_and, sc_ii, sc_ss, sc_bb, sc_ni, sc_in, sc_is, sc_si, sc_nn, decide_true, decide_false, reduceCtorEq, Bool.false_eq_true, if_true, if_false, ite_true, ite_false, exists_const, eq_self, false_and, and_false, or_false, false_or, exists_false, Evl.rLenS, rSum, wipe, tYes, exists_eq, exists_eq', rIxL, rIxT, rIxS, exists_and_right, gt_iff_lt, not_true_eq_false, not_false_eq_true, Bool.not_true, Bool.not_false, decide_eq_true_eq, Nat.reduceSub, Nat.reduceAdd, List.append_assoc, tChain, tDIn, tDNotIn, sDDel, tAug, ipI]
      refine ⟨cd (by decide) (by decide), us, .inl (sq_l hu1), ?_⟩
      have pos : (0 : Int) < (us.length : Nat) + 1 := by omega
      refine ⟨pos, cd (by decide) (by decide), ?_⟩
      obtain ⟨e1, he1, s1⟩ := dpCut hus none (some (num / 16 % ((us.length : Nat) + 1)))
      obtain ⟨e2, he2, s2⟩ := dpCut hus (some (num / 16 % ((us.length : Nat) + 1))) none
      have l1 := cutV_length us none (some (num / 16 % ((us.length : Nat) + 1)))
      have l2 := cutV_length us (some (num / 16 % ((us.length : Nat) + 1))) none
      have z1 := dpLen he1
      have z2 := dpLen he2
      obtain ⟨c1v, hc1⟩ : ∃ c, c = cutV us none (some (num / 16 % ((us.length : Nat) + 1))) := ⟨_, rfl⟩
      obtain ⟨c2v, hc2⟩ : ∃ c, c = cutV us (some (num / 16 % ((us.length : Nat) + 1))) none := ⟨_, rfl⟩
      rw [← hc1] at he1 l1 z1
      rw [← hc2] at he2 l2 z2
      have pw : (2 : Nat) ^ i ≤ 2 := by
        rcases (show i = 0 ∨ i = 1 by omega) with rfl | rfl <;> decide
      have pw2 : (2 : Nat) ^ (i + 1) = 2 ^ i * 2 := Nat.pow_succ 2 i
      refine ⟨sp, us, rfl, sq_l hu1, fun c1 nc1 => ⟨small (by decide), fun bl nbl => ?_⟩⟩
      rw [← hc1] at nbl ⊢
      have k3 : Kp [] H2 (upd H2 c1 (.lst c1v)) := Kp.new nc1
      have h31 : (upd H2 c1 (.lst c1v)) c1 = some (.lst c1v) := upd_same
      generalize upd H2 c1 (.lst c1v) = H3 at nbl k3 h31 ⊢
      have k4 : Kp [] H3 (upd H3 bl (.lst [v])) := Kp.new nbl
      refine ⟨c1, rfl, c1v, k4 _ _ not0 h31, [v], upd_same, small (by rw [List.length_singleton]; omega), fun m nm => ?_⟩
      generalize upd H3 bl (.lst [v]) = H4 at nm k4 ⊢
      have k5 : Kp [] H4 (upd H4 m (.lst (c1v ++ [v]))) := Kp.new nm
      have h5 : (upd H4 m (.lst (c1v ++ [v]))) m = some (.lst (c1v ++ [v])) := upd_same
      generalize upd H4 m (.lst (c1v ++ [v])) = H5 at k5 h5 ⊢
      have k25 := (k3.trans k4).trans k5
      refine ⟨sp, us, rfl, sq_l (k25 _ _ not0 hu1), fun c2 nc2 => ?_⟩
      rw [← hc2]
      have k6 : Kp [] H5 (upd H5 c2 (.lst c2v)) := Kp.new nc2
      have h6 : (upd H5 c2 (.lst c2v)) c2 = some (.lst c2v) := upd_same
      generalize upd H5 c2 (.lst c2v) = H6 at k6 h6 ⊢
      refine ⟨c2, rfl, c1v ++ [v], k6 _ _ not0 h5, c2v, h6, small (by rw [List.length_append, List.length_singleton]; omega), fun p np => ?_⟩
      have k7 : Kp [] H6 (upd H6 p (.lst (c1v ++ [v] ++ c2v))) := Kp.new np
      have k27 := (k25.trans k6).trans k7
      have kk := (kp.trans k2).trans k27
      refine ⟨_, p, _, _, _, e1 ++ [d] ++ e2, rfl, ((kp.trans k2).trans (k25.trans k6)).free0 np, ⟨_, upd_same, ?_⟩, ?_, ?_, kk⟩
      · exact dpApp (dpApp (dpAllN k27 noSq0 he1) (.cons (dpN k27 noSq0 hd) .nil)) (dpAllN k27 noSq0 he2)
      · intro x hx
        rcases List.mem_append.mp hx with hx | hx
        · rcases List.mem_append.mp hx with hx | hx
          · exact hF1 x (s1 x hx)
          · rw [List.mem_singleton.mp hx]; exact fd
        · exact hF1 x (s2 x hx)
      · rw [List.length_append, List.length_append, List.length_singleton, pw2]
        omega
    · rintro σ H1 ⟨num, sp, k, b, pl, es, rfl, nsp, hs, hF1, hl1, kp⟩
      try simp only [tSeq, tIfS, tTest, tOp, tUn, tCB, tCons, tNil, tVar, tC, rI0, rI, rU, rEq, rNe, tRet, tRetN, tAsg, gName, gSub, tBM, tBM0, tNext, tB, tNot, tAnd, tOr, tIf, tCall, tDrop, tBreak, tCont, L2.start, tDGet, sDPut, tTup, tLst, tDNewK, tRevL, rCat, rAppend, rPop, rSetL, tAndV, tOrV, tNotV, tSl, tPart, tNoPart, tM1, gTup, gCons, gNil, cxK, cxnK, List.map_cons, List.map_nil, List.length_cons, List.length_nil, List.replicate, List.cons_append, List.nil_append, List.append_nil, List.set_cons_zero, List.set_cons_succ, List.getElem?_cons_zero, List.getElem?_cons_succ, Option.some.injEq, V.ref.injEq, V.int.injEq, V.str.injEq, V.bl.injEq, V.ty.injEq, exists_eq_left', exists_eq_left, exists_and_left, List.cons.injEq, and_true, true_and, sc_ii, sc_ss, sc_bb, sc_ni, sc_in, sc_is, sc_si, sc_nn, decide_true, decide_false, reduceCtorEq, Bool.false_eq_true, if_true, if_false, ite_true, ite_false, exists_const, eq_self, false_and, and_false, or_false, false_or, exists_false, Evl.rLenS, rSum, wipe, tYes, exists_eq, exists_eq', rIxL, rIxT, rIxS, exists_and_right, gt_iff_lt, not_true_eq_false, not_false_eq_true, Bool.not_true, Bool.not_false, decide_eq_true_eq, Nat.reduceSub, Nat.reduceAdd, List.append_assoc, tChain, tDIn, tDNotIn, sDDel, tAug, ipI]
      refine q sp es H1 nsp hs hF1 ?_ kp
      rcases (show (1 + n % 2).toNat = 1 ∨ (1 + n % 2).toNat = 2 by omega) with e | e <;> rw [e] at hl1 <;> omega
def spFirst (K : PySem.W.Frag) : Sp := fun vs H Q _ => ∃ (a : Addr) (ds : List PyData), vs = [.ref a] ∧ LsD K H a ds ∧ (∀ d ∈ ds, Fit d) ∧ ∀ (p : Addr) (H' : Hp), H p = none → LsT K H' p (ds.find? fun d => !isP d).toList → Kp [] H H' → Q (.ref p) H'
def FbInv (K : PySem.W.Frag) (H : Hp) (a r : Addr) (ws : List V) (ds : List PyData) (i : Nat) (σ : L2.St) (H' : Hp) : Prop := ∃ k, σ = [some (.ref a), some (.ref r), k] ∧ H' r = some (.lst ws) ∧ DpAll K H' ws (pairsL.map pD) ∧ Kp [] H H' ∧ ∀ j d, j < i → ds[j]? = some d → isP d = true
theorem find_first {α : Type} {f : α → Bool} {l : List α} {i : Nat} {x : α} (e : l[i]? = some x) (hx : f x = true) (h : ∀ j y, j < i → l[j]? = some y → f y = false) : l.find? f = some x := by
  induction l generalizing i with
  | nil => cases e
  | cons a r ih =>
    cases i with
    | zero => cases e; rw [List.find?_cons, hx]
    | succ i =>
      rw [List.find?_cons, h 0 a (by omega) rfl]
      exact ih e fun j y hj ey => h (j + 1) y (by omega) ey
theorem ok_law_first_bad {f : Addr} {fd : FuncData} (D : Df K mg "_law_first_bad" s_law_first_bad ["_law_items_here"] f fd) (T : Bt0 mg) {fg : Addr} {fdg : FuncData} (D_law_pairs : Df K mg "_law_pairs" s_law_pairs [] fg fdg) (G_law_pairs : FnOk P w K mg base CX0 1 fg fdg [] (spPairs K)) : FnOk P w K mg base CX0 2 f fd ["_law_items_here"] (spFirst K) := by
  refine D.F.ok sc_law_first_bad (fun vs H Q E h => ?_) (fun cdv A outer s H vs Q E hr h => ?_)
  · obtain ⟨a, ds, rfl, _⟩ := h
    rfl
  · obtain ⟨a, ds, rfl, ⟨xs, hS, hD⟩, hF, q⟩ := h
    refine ⟨_, (pss_cons (ps_set (i := 1) sc_law_first_bad.nd rfl (Or.inl rfl) (pe_call0 G_law_pairs (hr.mono (by decide)) rfl D_law_pairs.g D_law_pairs.F.kp D_law_pairs.b .nil pass0))
      (pss_cons (ps_for PassesOwn.never rfl (pi_list (pv 0)) (pg_name (i := 2) sc_law_first_bad.nd rfl (Or.inl rfl)) (pss_one (ps_if (pt_cmpR (op_notInD (hu5 hr)) (pv 2) (pv 1) (by rfl)) (pss_one (ps_ret (pe_lst (pa_cons (pv 2) pa_nil)))) pss_nil)))
      (pss_one (ps_ret (pe_lst pa_nil))))), ?_⟩
    have shT : SeqAt.shaped (.list (pairsL.map pD)) = true := (shapedL (fitsP fun p h => h)).1
    try simp only [tSeq, tIfS, tTest, tOp, tUn, tCB, tCons, tNil, tVar, tC, rI0, rI, rU, rEq, rNe, tRet, tRetN, tAsg, gName, gSub, tBM, tBM0, tNext, tB, tNot, tAnd, tOr, tIf, tCall, tDrop, tBreak, tCont, L2.start, tDGet, sDPut, tTup, tLst, tDNewK, tRevL, rCat, rAppend, rPop, rSetL, tAndV, tOrV, tNotV, tSl, tPart, tNoPart, tM1, gTup, gCons, gNil, cxK, cxnK, List.map_cons, List.map_nil, List.length_cons, List.length_nil, List.replicate, List.cons_append, List.nil_append, List.append_nil, List.set_cons_zero, List.set_cons_succ, List.getElem?_cons_zero, List.getElem?_cons_succ, Option.some.injEq, V.ref.injEq, V.int.injEq, V.str.injEq, V.bl.injEq, V.ty.injEq, exists_eq_left', exists_eq_left, exists_and_left, List.cons.injEq, and_true, true_and, sc_ii, sc_ss, sc_bb, sc_ni, sc_in, sc_is, sc_si, sc_nn, decide_true, decide_false, reduceCtorEq, Bool.false_eq_true, if_true, if_false, ite_true, ite_false, exists_const, eq_self, false_and, and_false, or_false, false_or, exists_false, Evl.rLenS, rSum, wipe, tYes, exists_eq, exists_eq', rIxL, rIxT, rIxS, exists_and_right, gt_iff_lt, not_true_eq_false, not_false_eq_true, Bool.not_true, Bool.not_false, decide_eq_true_eq, Nat.reduceSub, Nat.reduceAdd, List.append_assoc, tChain, tDIn, tDNotIn, sDDel, tAug, ipI]
    refine ⟨rfl, fun r ws H1 nr hr1 hws k1 => ?_⟩
    try simp only [tSeq, tIfS, tTest, tOp, tUn, tCB, tCons, tNil, tVar, tC, rI0, rI, rU, rEq, rNe, tRet, tRetN, tAsg, gName, gSub, tBM, tBM0, tNext, tB, tNot, tAnd, tOr, tIf, tCall, tDrop, tBreak, tCont, L2.start, tDGet, sDPut, tTup, tLst, tDNewK, tRevL, rCat, rAppend, rPop, rSetL, tAndV, tOrV, tNotV, tSl, tPart, tNoPart, tM1, gTup, gCons, gNil, cxK, cxnK, List.map_cons, List.map_nil, List.length_cons, List.length_nil, List.replicate, List.cons_append, List.nil_append, List.append_nil, List.set_cons_zero, List.set_cons_succ, List.getElem?_cons_zero, List.getElem?_cons_succ, Option.some.injEq, V.ref.injEq, V.int.injEq, V.str.injEq, V.bl.injEq, V.ty.injEq, exists_eq_left', exists_eq_left, exists_and_left, List.cons.injEq, and_true, true_and, sc_ii, sc_ss, sc_bb, sc_ni, sc_in, sc_is, sc_si, sc_nn, decide_true, decide_false, reduceCtorEq, Bool.false_eq_true, if_true, if_false, ite_true, ite_false, exists_const, eq_self, false_and, and_false, or_false, false_or, exists_false, Evl.rLenS, rSum, wipe, tYes, exists_eq, exists_eq', rIxL, rIxT, rIxS, exists_and_right, gt_iff_lt, not_true_eq_false, not_false_eq_true, Bool.not_true, Bool.not_false, decide_eq_true_eq, Nat.reduceSub, Nat.reduceAdd, List.append_assoc, tChain, tDIn, tDNotIn, sDDel, tAug, ipI]
    refine forL (K := K) (a := a) (xs := xs) (FbInv K H a r ws ds) rfl (k1.ls not0 hS) ⟨_, rfl, hr1, hws, k1, fun j d hj => absurd hj (by omega)⟩ (fun i σ H' _ h => by obtain ⟨_, _, _, _, k, _⟩ := h; exact k.ls not0 hS) ?_ ?_
    · rintro i x σ H2 hx ⟨k, rfl, hr2, hw2, k2, hg⟩
      obtain ⟨d, ed, hd⟩ := dpGet (dpAllN k2 noSq0 hD) hx
      try simp only [tSeq, tIfS, tTest, tOp, tUn, tCB, tCons, tNil, tVar, tC, rI0, rI, rU, rEq, rNe, tRet, tRetN, tAsg, gName, gSub, tBM, tBM0, tNext, tB, tNot, tAnd, tOr, tIf, tCall, tDrop, tBreak, tCont, L2.start, tDGet, sDPut, tTup, tLst, tDNewK, tRevL, rCat, rAppend, rPop, rSetL, tAndV, tOrV, tNotV, tSl, tPart, tNoPart, tM1, gTup, gCons, gNil, cxK, cxnK, List.map_cons, List.map_nil, List.length_cons, List.length_nil, List.replicate, List.cons_append, List.nil_append, List.append_nil, List.set_cons_zero, List.set_cons_succ, List.getElem?_cons_zero, List.getElem?_cons_succ, Option.some.injEq, V.ref.injEq, V.int.injEq, V.str.injEq, V.bl.injEq, V.ty.injEq, exists_eq_left', exists_eq_left, exists_and_left, List.cons.injEq, and_true, true_and, sc_ii, sc_ss, sc_bb, sc_ni, sc_in, sc_is, sc_si, sc_nn, decide_true, decide_false, reduceCtorEq, Bool.false_eq_true, if_true, if_false, ite_true, ite_false, exists_const, eq_self, false_and, and_false, or_false, false_or, exists_false, Evl.rLenS, rSum, wipe, tYes, exists_eq, exists_eq', rIxL, rIxT, rIxS, exists_and_right, gt_iff_lt, not_true_eq_false, not_false_eq_true, Bool.not_true, Bool.not_false, decide_eq_true_eq, Nat.reduceSub, Nat.reduceAdd, List.append_assoc, tChain, tDIn, tDNotIn, sDDel, tAug, ipI]
      refine ⟨d, _, hd, .lst (sq_l hr2) hw2, (hF d (List.mem_of_getElem? ed)).1, shT, ?_⟩
      have ei : ((pairsL.map pD).any fun z => PyData.eqv z d) = isP d := rfl
      rw [ei]
      cases hi : isP d with
      | false =>
        try simp only [tSeq, tIfS, tTest, tOp, tUn, tCB, tCons, tNil, tVar, tC, rI0, rI, rU, rEq, rNe, tRet, tRetN, tAsg, gName, gSub, tBM, tBM0, tNext, tB, tNot, tAnd, tOr, tIf, tCall, tDrop, tBreak, tCont, L2.start, tDGet, sDPut, tTup, tLst, tDNewK, tRevL, rCat, rAppend, rPop, rSetL, tAndV, tOrV, tNotV, tSl, tPart, tNoPart, tM1, gTup, gCons, gNil, cxK, cxnK, List.map_cons, List.map_nil, List.length_cons, List.length_nil, List.replicate, List.cons_append, List.nil_append, List.append_nil, List.set_cons_zero, List.set_cons_succ, List.getElem?_cons_zero, List.getElem?_cons_succ, Option.some.injEq, V.ref.injEq, V.int.injEq, V.str.injEq, V.bl.injEq, V.ty.injEq, exists_eq_left', exists_eq_left, exists_and_left, List.cons.injEq, and_true, true_and, sc_ii, sc_ss, sc_bb, sc_ni, sc_in, sc_is, sc_si, sc_nn, decide_true, decide_false, reduceCtorEq, Bool.false_eq_true, if_true, if_false, ite_true, ite_false, exists_const, eq_self, false_and, and_false, or_false, false_or, exists_false, Evl.rLenS, rSum, wipe, tYes, exists_eq, exists_eq', rIxL, rIxT, rIxS, exists_and_right, gt_iff_lt, not_true_eq_false, not_false_eq_true, Bool.not_true, Bool.not_false, decide_eq_true_eq, Nat.reduceSub, Nat.reduceAdd, List.append_assoc, tChain, tDIn, tDNotIn, sDDel, tAug, ipI]
        refine ⟨small (by decide), fun l nl => q l _ (k2.free0 nl) ⟨[x], upd_same, ?_⟩ (k2.trans (Kp.new nl))⟩
        rw [find_first ed (by rw [hi]; rfl) (fun j y hj ey => by rw [hg j y hj ey]; rfl)]
        exact .cons (dpN (Kp.new nl) noSq0 hd) .nil
      | true =>
        try simp only [tSeq, tIfS, tTest, tOp, tUn, tCB, tCons, tNil, tVar, tC, rI0, rI, rU, rEq, rNe, tRet, tRetN, tAsg, gName, gSub, tBM, tBM0, tNext, tB, tNot, tAnd, tOr, tIf, tCall, tDrop, tBreak, tCont, L2.start, tDGet, sDPut, tTup, tLst, tDNewK, tRevL, rCat, rAppend, rPop, rSetL, tAndV, tOrV, tNotV, tSl, tPart, tNoPart, tM1, gTup, gCons, gNil, cxK, cxnK, List.map_cons, List.map_nil, List.length_cons, List.length_nil, List.replicate, List.cons_append, List.nil_append, List.append_nil, List.set_cons_zero, List.set_cons_succ, List.getElem?_cons_zero, List.getElem?_cons_succ, Option.some.injEq, V.ref.injEq, V.int.injEq, V.str.injEq, V.bl.injEq, V.ty.injEq, exists_eq_left', exists_eq_left, exists_and_left, List.cons.injEq, and_true, true_and, sc_ii, sc_ss, sc_bb, sc_ni, sc_in, sc_is, sc_si, sc_nn, decide_true, decide_false, reduceCtorEq, Bool.false_eq_true, if_true, if_false, ite_true, ite_false, exists_const, eq_self, false_and, and_false, or_false, false_or, exists_false, Evl.rLenS, rSum, wipe, tYes, exists_eq, exists_eq', rIxL, rIxT, rIxS, exists_and_right, gt_iff_lt, not_true_eq_false, not_false_eq_true, Bool.not_true, Bool.not_false, decide_eq_true_eq, Nat.reduceSub, Nat.reduceAdd, List.append_assoc, tChain, tDIn, tDNotIn, sDDel, tAug, ipI]
        refine ⟨_, rfl, hr2, hw2, k2, fun j e hj ej => ?_⟩
        by_cases z : j = i
        · subst z; rw [ed] at ej; cases ej; exact hi
        · exact hg j e (by omega) ej
    · rintro σ H2 ⟨k, rfl, hr2, hw2, k2, hg⟩
      try simp only [tSeq, tIfS, tTest, tOp, tUn, tCB, tCons, tNil, tVar, tC, rI0, rI, rU, rEq, rNe, tRet, tRetN, tAsg, gName, gSub, tBM, tBM0, tNext, tB, tNot, tAnd, tOr, tIf, tCall, tDrop, tBreak, tCont, L2.start, tDGet, sDPut, tTup, tLst, tDNewK, tRevL, rCat, rAppend, rPop, rSetL, tAndV, tOrV, tNotV, tSl, tPart, tNoPart, tM1, gTup, gCons, gNil, cxK, cxnK, List.map_cons, List.map_nil, List.length_cons, List.length_nil, List.replicate, List.cons_append, List.nil_append, List.append_nil, List.set_cons_zero, List.set_cons_succ, List.getElem?_cons_zero, List.getElem?_cons_succ, Option.some.injEq, V.ref.injEq, V.int.injEq, V.str.injEq, V.bl.injEq, V.ty.injEq, exists_eq_left', exists_eq_left, exists_and_left, List.cons.injEq, and_true, true_and, sc_ii, sc_ss, sc_bb, sc_ni, sc_in, sc_is, sc_si, sc_nn, decide_true, decide_false, reduceCtorEq, Bool.false_eq_true, if_true, if_false, ite_true, ite_false, exists_const, eq_self, false_and, and_false, or_false, false_or, exists_false, Evl.rLenS, rSum, wipe, tYes, exists_eq, exists_eq', rIxL, rIxT, rIxS, exists_and_right, gt_iff_lt, not_true_eq_false, not_false_eq_true, Bool.not_true, Bool.not_false, decide_eq_true_eq, Nat.reduceSub, Nat.reduceAdd, List.append_assoc, tChain, tDIn, tDNotIn, sDDel, tAug, ipI]
      refine ⟨small (by decide), fun l nl => q l _ (k2.free0 nl) ⟨[], upd_same, ?_⟩ (k2.trans (Kp.new nl))⟩
      have e : (ds.find? fun d => !isP d) = none := by
        rw [List.find?_eq_none]
        intro y hy
        obtain ⟨j, ej⟩ := List.getElem?_of_mem hy
        rw [hg j y (by rw [dpLen hD]; exact (List.getElem?_eq_some_iff.mp ej).1) ej]
        exact Bool.false_ne_true
      rw [e]
      exact .nil
end
end My

set_option Elab.async false
set_option linter.all false
set_option maxRecDepth 100000
set_option maxHeartbeats 4000000
namespace My
open PySem L2 NdefX
abbrev s_law_refusal : Stmt := top 19
theorem sc_law_refusal : FnScope ["_law_items_here", "e"] ["_law_items_here"] (defScope s_law_refusal) := ⟨rfl, rfl, rfl, by decide +kernel, rfl, by decide +kernel, by decide +kernel⟩
abbrev s_law_is_set : Stmt := top 20
theorem sc_law_is_set : FnScope ["_law_told", "_law_due", "_law_pair"] ["_law_told", "_law_due"] (defScope s_law_is_set) := ⟨rfl, rfl, rfl, by decide +kernel, rfl, by decide +kernel, by decide +kernel⟩
abbrev s_law_says : Stmt := top 21
theorem sc_law_says : FnScope ["_law_told", "_law_due"] ["_law_told", "_law_due"] (defScope s_law_says) := ⟨rfl, rfl, rfl, by decide +kernel, rfl, by decide +kernel, by decide +kernel⟩
structure BtR (K : PySem.W.Frag) (mg : Str → Option Value) (PC BP CE BF fI : Addr) : Prop where
  k_Pairs : mg "Pairs" = some (.ref PC)
  M_Pairs : Mk K PC fI
  k_CoreError : mg "CoreError" = some (.ref CE)
  k_BadPair : mg "BadPair" = some (.ref BP)
  k_BadFence : mg "BadFence" = some (.ref BF)
  XF_BadPair : XfC K BP
  NO_pair : PySem.W.findIn K (.ref BP) "pair" = some none
  EX : PySem.W.exmOne K (.ref BP) (.ref CE) = some true
  KB : KitC K BP
  i1 : PySem.W.kitOne K (.ref BP) (.ref BP) = some true
  i2 : PySem.W.kitOne K (.ref BP) (.type "ValueError") = some true
  i3 : PySem.W.kitOne K (.ref BP) (.ref BF) = some false
  b_isinstance : mg "isinstance" = none
  b_ValueError : mg "ValueError" = none
section
variable {P : Program} {w : World} {K : PySem.W.Frag} {mg : Str → Option Value} {base : Heap}
def spRef (K : PySem.W.Frag) : Sp := fun vs H Q _ => ∃ (a : Addr) (xs : List V) (ds : List PyData), vs = [.ref a] ∧ SqAny K H a xs ∧ DpAll K H xs ds ∧ (∀ d ∈ ds, Fit d) ∧ ds.length ≤ 1000 ∧ ∀ (p : Addr) (H' : Hp), H p = none → LsT K H' p (ds.find? fun d => !isP d).toList → Kp [] H H' → Q (.ref p) H'
theorem ok_law_refusal {f : Addr} {fd : FuncData} (D : Df K mg "_law_refusal" s_law_refusal ["_law_items_here"] f fd) {PC BP CE BF fI : Addr} {fdI : FuncData} (T : BtR K mg PC BP CE BF fI) (bI_Pairs : Binds K fdI ["self", "pairs"] []) (G_Pairs_init : FnOk P w K mg base (L2.CX P w) 3 fI fdI ["self", "pairs"] (spPI K PC BP)) :
    FnOk P w K mg base CX0 5 f fd ["_law_items_here"] (spRef K) := by
  refine D.F.ok sc_law_refusal (fun vs H Q E h => ?_) (fun cdv A outer s H vs Q E hr h => ?_)
  · obtain ⟨a, xs, ds, rfl, _⟩ := h
    rfl
  · obtain ⟨a, xs, ds, rfl, hS, hD, hF, hl, q⟩ := h
    have M_Pairs := T.M_Pairs
    have XF_BadPair := T.XF_BadPair
    have NO_pair := T.NO_pair
    refine ⟨_, (pss_cons (ps_try_as (i := 1) rfl rfl sc_law_refusal.nd rfl rfl ⟨rfl, by decide, .inl T.k_CoreError⟩ takes0 (fun W pn xe tk _ => (pss_one (ps_expr (pe_makeS M_Pairs G_Pairs_init (hr.mono (by decide)) rfl T.k_Pairs bI_Pairs .nil (fun σ => passAt tk σ) (pa_cons (pv 0) pa_nil))))) (fun a oe cls d pn hz hf => (pss_one (ps_if (PW.pt (pw_and (pt_val (pe_callB (id := "isinstance") (r := rIsX K a cls d) (call_isX hz hf) (by rfl) T.b_isinstance (by decide +kernel) (pa_cons (pv 1) (pa_cons (pe_glob (v := .ref BP) rfl T.k_BadPair rfl) pa_nil)))) (pw_and (pt_val (pe_callB (id := "isinstance") (r := rIsX K a cls d) (call_isX hz hf) (by rfl) T.b_isinstance (by decide +kernel) (pa_cons (pv 1) (pa_cons (pe_bltn (v := .ty "ValueError") (by rfl) T.b_ValueError (by decide +kernel) rfl) pa_nil)))) (pw_and1 (pt_not (pt_val (pe_callB (id := "isinstance") (r := rIsX K a cls d) (call_isX hz hf) (by rfl) T.b_isinstance (by decide +kernel) (pa_cons (pv 1) (pa_cons (pe_glob (v := .ref BF) rfl T.k_BadFence rfl) pa_nil))))))))) (pss_one (ps_ret (pe_lst (pa_cons (pe_xf XF_BadPair NO_pair hz hf (pv 1)) pa_nil)))) pss_nil))))
      (pss_one (ps_ret (pe_lst pa_nil)))), ?_⟩
    try simp only [tSeq, tIfS, tTest, tOp, tUn, tCB, tCons, tNil, tVar, tC, rI0, rI, rU, rEq, rNe, tRet, tRetN, tAsg, gName, gSub, tBM, tBM0, tNext, tB, tNot, tAnd, tOr, tIf, tCall, tDrop, tBreak, tCont, L2.start, tDGet, sDPut, tTup, tLst, tDNewK, tRevL, rCat, rAppend, rPop, rSetL, tAndV, tOrV, tNotV, tSl, tPart, tNoPart, tM1, gTup, gCons, gNil, cxK, cxnK, List.map_cons, List.map_nil, List.length_cons, List.length_nil, List.replicate, List.cons_append, List.nil_append, List.append_nil, List.set_cons_zero, List.set_cons_succ, List.getElem?_cons_zero, List.getElem?_cons_succ, Option.some.injEq, V.ref.injEq, V.int.injEq, V.str.injEq, V.bl.injEq, V.ty.injEq, exists_eq_left', exists_eq_left, exists_and_left, List.cons.injEq, and_true, true_and, sc_ii, sc_ss, sc_bb, sc_ni, sc_in, sc_is, sc_si, sc_nn, decide_true, decide_false, reduceCtorEq, Bool.false_eq_true, if_true, if_false, ite_true, ite_false, exists_const, eq_self, false_and, and_false, or_false, false_or, exists_false, Evl.rLenS, rSum, wipe, tYes, exists_eq, exists_eq', rIxL, rIxT, rIxS, exists_and_right, gt_iff_lt, not_true_eq_false, not_false_eq_true, Bool.not_true, Bool.not_false, decide_eq_true_eq, Nat.reduceSub, Nat.reduceAdd, List.append_assoc, tChain, tDIn, tDNotIn, sDDel, tAug, ipI, tMakeS]
    intro o dd no nd hdo
    have k1 : Kp [] H (upd H dd (.own o)) := Kp.new nd
    have k2 : Kp [] (upd H dd (.own o)) (upd (upd H dd (.own o)) o (.ins PC dd [])) := Kp.new (by rw [upd_ne hdo.symm]; exact no)
    have k := k1.trans k2
    refine ⟨o, dd, a, xs, ds, rfl, upd_same, k.anyN noSq0 hS, dpAllN k noSq0 hD, hF, hl, fun all l' H' _ hp hk => ⟨rfl, small (by decide), fun p np => ?_⟩, ?_⟩
    · have kk := k.one hk no
      have e : (ds.find? fun d => !isP d) = none := by
        rw [List.find?_eq_none]
        intro y hy
        rw [List.all_eq_true.mp all y hy]
        exact Bool.false_ne_true
      refine q p _ (kk.free0 np) ?_ (kk.trans (Kp.new np))
      rw [e]
      exact ⟨[], upd_same, .nil⟩
    · intro i v d hx ed hb hg e H' ne he hk
      have kk := k.trans hk
      obtain ⟨d', ed', hd⟩ := dpGet hD hx
      rw [ed] at ed'
      cases ed'
      refine ⟨true, T.EX, fun _ x nx => ?_, fun z => by cases z⟩
      try simp only [tSeq, tIfS, tTest, tOp, tUn, tCB, tCons, tNil, tVar, tC, rI0, rI, rU, rEq, rNe, tRet, tRetN, tAsg, gName, gSub, tBM, tBM0, tNext, tB, tNot, tAnd, tOr, tIf, tCall, tDrop, tBreak, tCont, L2.start, tDGet, sDPut, tTup, tLst, tDNewK, tRevL, rCat, rAppend, rPop, rSetL, tAndV, tOrV, tNotV, tSl, tPart, tNoPart, tM1, gTup, gCons, gNil, cxK, cxnK, List.map_cons, List.map_nil, List.length_cons, List.length_nil, List.replicate, List.cons_append, List.nil_append, List.append_nil, List.set_cons_zero, List.set_cons_succ, List.getElem?_cons_zero, List.getElem?_cons_succ, Option.some.injEq, V.ref.injEq, V.int.injEq, V.str.injEq, V.bl.injEq, V.ty.injEq, exists_eq_left', exists_eq_left, exists_and_left, List.cons.injEq, and_true, true_and, sc_ii, sc_ss, sc_bb, sc_ni, sc_in, sc_is, sc_si, sc_nn, decide_true, decide_false, reduceCtorEq, Bool.false_eq_true, if_true, if_false, ite_true, ite_false, exists_const, eq_self, false_and, and_false, or_false, false_or, exists_false, Evl.rLenS, rSum, wipe, tYes, exists_eq, exists_eq', rIxL, rIxT, rIxS, exists_and_right, gt_iff_lt, not_true_eq_false, not_false_eq_true, Bool.not_true, Bool.not_false, decide_eq_true_eq, Nat.reduceSub, Nat.reduceAdd, List.append_assoc, tChain, tDIn, tDNotIn, sDDel, tAug, ipI, tXf]
      refine ⟨.ref BP, .ref BP, true, BP, e, _, rfl, fun u h => h, rfl, rfl, he, T.KB, T.i1, true, rfl, ?_⟩
      try simp only [tSeq, tIfS, tTest, tOp, tUn, tCB, tCons, tNil, tVar, tC, rI0, rI, rU, rEq, rNe, tRet, tRetN, tAsg, gName, gSub, tBM, tBM0, tNext, tB, tNot, tAnd, tOr, tIf, tCall, tDrop, tBreak, tCont, L2.start, tDGet, sDPut, tTup, tLst, tDNewK, tRevL, rCat, rAppend, rPop, rSetL, tAndV, tOrV, tNotV, tSl, tPart, tNoPart, tM1, gTup, gCons, gNil, cxK, cxnK, List.map_cons, List.map_nil, List.length_cons, List.length_nil, List.replicate, List.cons_append, List.nil_append, List.append_nil, List.set_cons_zero, List.set_cons_succ, List.getElem?_cons_zero, List.getElem?_cons_succ, Option.some.injEq, V.ref.injEq, V.int.injEq, V.str.injEq, V.bl.injEq, V.ty.injEq, exists_eq_left', exists_eq_left, exists_and_left, List.cons.injEq, and_true, true_and, sc_ii, sc_ss, sc_bb, sc_ni, sc_in, sc_is, sc_si, sc_nn, decide_true, decide_false, reduceCtorEq, Bool.false_eq_true, if_true, if_false, ite_true, ite_false, exists_const, eq_self, false_and, and_false, or_false, false_or, exists_false, Evl.rLenS, rSum, wipe, tYes, exists_eq, exists_eq', rIxL, rIxT, rIxS, exists_and_right, gt_iff_lt, not_true_eq_false, not_false_eq_true, Bool.not_true, Bool.not_false, decide_eq_true_eq, Nat.reduceSub, Nat.reduceAdd, List.append_assoc, tChain, tDIn, tDNotIn, sDDel, tAug, ipI]
      refine ⟨.ty "ValueError", .type "ValueError", true, BP, e, _, rfl, fun u h => h, rfl, rfl, he, T.KB, T.i2, true, rfl, ?_⟩
      try simp only [tSeq, tIfS, tTest, tOp, tUn, tCB, tCons, tNil, tVar, tC, rI0, rI, rU, rEq, rNe, tRet, tRetN, tAsg, gName, gSub, tBM, tBM0, tNext, tB, tNot, tAnd, tOr, tIf, tCall, tDrop, tBreak, tCont, L2.start, tDGet, sDPut, tTup, tLst, tDNewK, tRevL, rCat, rAppend, rPop, rSetL, tAndV, tOrV, tNotV, tSl, tPart, tNoPart, tM1, gTup, gCons, gNil, cxK, cxnK, List.map_cons, List.map_nil, List.length_cons, List.length_nil, List.replicate, List.cons_append, List.nil_append, List.append_nil, List.set_cons_zero, List.set_cons_succ, List.getElem?_cons_zero, List.getElem?_cons_succ, Option.some.injEq, V.ref.injEq, V.int.injEq, V.str.injEq, V.bl.injEq, V.ty.injEq, exists_eq_left', exists_eq_left, exists_and_left, List.cons.injEq, and_true, true_and, sc_ii, sc_ss, sc_bb, sc_ni, sc_in, sc_is, sc_si, sc_nn, decide_true, decide_false, reduceCtorEq, Bool.false_eq_true, if_true, if_false, ite_true, ite_false, exists_const, eq_self, false_and, and_false, or_false, false_or, exists_false, Evl.rLenS, rSum, wipe, tYes, exists_eq, exists_eq', rIxL, rIxT, rIxS, exists_and_right, gt_iff_lt, not_true_eq_false, not_false_eq_true, Bool.not_true, Bool.not_false, decide_eq_true_eq, Nat.reduceSub, Nat.reduceAdd, List.append_assoc, tChain, tDIn, tDNotIn, sDDel, tAug, ipI]
      refine ⟨.ref BF, .ref BF, false, BP, e, _, rfl, fun u h => h, rfl, rfl, he, T.KB, T.i3, false, rfl, ?_⟩
      try simp only [tSeq, tIfS, tTest, tOp, tUn, tCB, tCons, tNil, tVar, tC, rI0, rI, rU, rEq, rNe, tRet, tRetN, tAsg, gName, gSub, tBM, tBM0, tNext, tB, tNot, tAnd, tOr, tIf, tCall, tDrop, tBreak, tCont, L2.start, tDGet, sDPut, tTup, tLst, tDNewK, tRevL, rCat, rAppend, rPop, rSetL, tAndV, tOrV, tNotV, tSl, tPart, tNoPart, tM1, gTup, gCons, gNil, cxK, cxnK, List.map_cons, List.map_nil, List.length_cons, List.length_nil, List.replicate, List.cons_append, List.nil_append, List.append_nil, List.set_cons_zero, List.set_cons_succ, List.getElem?_cons_zero, List.getElem?_cons_succ, Option.some.injEq, V.ref.injEq, V.int.injEq, V.str.injEq, V.bl.injEq, V.ty.injEq, exists_eq_left', exists_eq_left, exists_and_left, List.cons.injEq, and_true, true_and, sc_ii, sc_ss, sc_bb, sc_ni, sc_in, sc_is, sc_si, sc_nn, decide_true, decide_false, reduceCtorEq, Bool.false_eq_true, if_true, if_false, ite_true, ite_false, exists_const, eq_self, false_and, and_false, or_false, false_or, exists_false, Evl.rLenS, rSum, wipe, tYes, exists_eq, exists_eq', rIxL, rIxT, rIxS, exists_and_right, gt_iff_lt, not_true_eq_false, not_false_eq_true, Bool.not_true, Bool.not_false, decide_eq_true_eq, Nat.reduceSub, Nat.reduceAdd, List.append_assoc, tChain, tDIn, tDNotIn, sDDel, tAug, ipI]
      refine ⟨_, he, _, rfl, small (by decide), fun p np => q p _ (kk.free0 np) ?_ (kk.trans (Kp.new np))⟩
      rw [find_first ed (by rw [hb]; rfl) (fun j y hj ey => by rw [hg j y hj ey]; rfl)]
      exact ⟨[v], upd_same, .cons (dpN (kk.trans (Kp.new np)) noSq0 hd) .nil⟩
def spIsSet (K : PySem.W.Frag) (PC : Addr) : Sp := fun vs H Q _ => ∃ (o a : Addr) (g : Pr → Bool), vs = [.ref o, .ref a] ∧ PrAt K PC H o g ∧ LsD K H a ((pairsL.filter g).map pD) ∧ ∀ H', Kp [] H H' → Q (.bl true) H'
structure BtS (K : PySem.W.Frag) (mg : Str → Option Value) (PC fC fL fT : Addr) : Prop extends Bt0 mg where
  k_Pairs : mg "Pairs" = some (.ref PC)
  cl : Cls K PC
  is1 : PySem.W.kitOne K (.ref PC) (.ref PC) = some true
  ha : PySem.W.findIn K (.ref PC) "__class__" = some (some (.builtin "object.__class__"))
  hn : PySem.W.specialIn K (.builtin "object.__class__") "__get__" = some (some (.builtin "getset_descriptor.__get__"))
  ht : PySem.W.takesIn K (.builtin "object.__class__") = some true
  hm : PySem.W.mroIn K PC (.type "object") = some true
  b_isinstance : mg "isinstance" = none
  LN_Pairs : LenC K PC fL
  IT_Pairs : IterC K PC fT fL
  IN_Pairs : InC K PC fC
theorem eqvL {ps : List Pr} (h : ∀ p ∈ ps, p ∈ pairsL) : PyData.eqv (.list (ps.map pD)) (.list (ps.map pD)) = true := SeqAt.eqv_refl _ (SeqAt.canLay_of_shaped (shapedL (fitsP h)).1)
theorem list_pr {PC o : Addr} {H : Hp} {g : Pr → Bool} {Q : VK} (hp : PrAt K PC H o g) (q : ∀ p ws H', H p = none → H' p = some (.lst ws) → DpAll K H' ws ((pairsL.filter g).map pD) → Kp [] H H' → Q (.ref p) H') : rListO K PC (spIter PC) (spLen K PC) E0 [.ref o] H Q := by
  obtain ⟨dx, l, us, ho, hl, hD⟩ := id hp
  refine ⟨o, dx, _, rfl, ho, fun p np => ?_⟩
  have k1 : Kp [] H (upd H p (.lst [])) := Kp.new np
  have hp1 : (upd H p (.lst [])) p = some (.lst []) := upd_same
  generalize upd H p (.lst []) = H1 at k1 hp1 ⊢
  refine ⟨o, dx, l, us, rfl, k1 _ _ not0 ho, k1 _ _ not0 hl, fun it nit => ?_⟩
  have k2 : Kp [] H1 (upd H1 it (ItO l it 0)) := Kp.new nit
  have hit : (upd H1 it (ItO l it 0)) it = some (ItO l it 0) := upd_same
  generalize upd H1 it (ItO l it 0) = H2 at k2 hit ⊢
  have k12 := k1.trans k2
  have hl2 := k12 _ _ not0 hl
  have hp2 := k2 _ _ not0 hp1
  have lp : l ≠ p := ne_of_none hl np
  have li : l ≠ it := ne_of_none (k1 _ _ not0 hl) nit
  have pi : p ≠ it := ne_of_none hp1 nit
  have kf : Kp [] H (upd (upd H2 it (junk it)) p (.lst us)) := (k12.wr (k1.free0 nit)).wr np
  refine ⟨l, it, us, rfl, k12 _ _ not0 ho, hit, sq_l hl2, lp, li, hp2, o, g, rfl, hp.kp k12, (pairsL.filter g).length, rfl, small (Nat.le_trans (lenP g) (by decide)), hit, sq_l hl2, hp2, ?_⟩
  exact q p us _ np upd_same (dpAllN kf noSq0 hD) kf
theorem ok_law_is_set {f : Addr} {fd : FuncData} (D : Df K mg "_law_is_set" s_law_is_set ["_law_told", "_law_due"] f fd) {PC fC fL fT : Addr} {fdC fdL fdT : FuncData} (T : BtS K mg PC fC fL fT) (C : PrC K mg PC)
    (b_Pairs_contains : Binds K fdC ["self", "x"] []) (G_Pairs_contains : FnOk P w K mg base CX0 1 fC fdC ["self", "x"] (spCont K PC))
    (b_Pairs_len : Binds K fdL ["self"] []) (G_Pairs_len : FnOk P w K mg base CX0 1 fL fdL ["self"] (spLen K PC))
    (b_Pairs_iter : Binds K fdT ["self"] []) (G_Pairs_iter : FnOk P w K mg base CX0 1 fT fdT ["self"] (spIter PC))
    {fg : Addr} {fdg : FuncData} (D_law_pairs : Df K mg "_law_pairs" s_law_pairs [] fg fdg) (G_law_pairs : FnOk P w K mg base CX0 1 fg fdg [] (spPairs K)) : FnOk P w K mg base CX0 6 f fd ["_law_told", "_law_due"] (spIsSet K PC) := by
  refine D.F.ok sc_law_is_set (fun vs H Q E h => ?_) (fun cdv A outer s H vs Q E hr h => ?_)
  · obtain ⟨o, a, g, rfl, _⟩ := h
    rfl
  · obtain ⟨o, a, g, rfl, hp, hl, q⟩ := h
    have IN_Pairs := T.IN_Pairs
    have LN_Pairs := T.LN_Pairs
    have IT_Pairs := T.IT_Pairs
    refine ⟨_, (pss_cons (ps_if (PW.pt (pw_or (pt_not (pt_val (pe_callB (id := "isinstance") (r := rIsi K) call_isi (by rfl) T.b_isinstance (by decide +kernel) (pa_cons (pv 0) (pa_cons (pe_glob (v := .ref PC) rfl T.k_Pairs rfl) pa_nil))))) (pw_or1 (pt_cmpR op_ne (pe_callB (id := "len") (call_lenO LN_Pairs G_Pairs_len b_Pairs_len (hr.mono (by decide)) pass0) (by rfl) T.b_len PySem.boot_len (pa_cons (pv 0) pa_nil)) (pe_callB (id := "len") (r := Evl.rLenS K) call_len_seq (by rfl) T.b_len PySem.boot_len (pa_cons (pv 1) pa_nil)) (nomark _))))) (pss_one (ps_ret pe_bl)) pss_nil)
      (pss_cons (ps_if (PW.pt (pw_or (pt_cmpR (op_neD hr.units) (pe_callTy (T := "list") (call_listO (E := E0) IT_Pairs G_Pairs_iter b_Pairs_iter G_Pairs_len b_Pairs_len (hr.mono (by decide))) (by rfl) T.b_list (by decide +kernel) (pa_cons (pv 0) pa_nil)) (pv 1) (nomark _)) (pw_or1 (pt_cmpR (op_neD hr.units) (pe_callTy (T := "list") (call_listO (E := E0) IT_Pairs G_Pairs_iter b_Pairs_iter G_Pairs_len b_Pairs_len (hr.mono (by decide))) (by rfl) T.b_list (by decide +kernel) (pa_cons (pv 0) pa_nil)) (pv 1) (nomark _))))) (pss_one (ps_ret pe_bl)) pss_nil)
      (pss_cons (ps_for PassesOwn.never rfl (pi_list (pe_op op_cat (pe_call0 G_law_pairs (hr.mono (by decide)) rfl D_law_pairs.g D_law_pairs.F.kp D_law_pairs.b .nil pass0) (pe_lst (pa_cons (pe_tup (pa_cons pe_str (pa_cons pe_str pa_nil))) (pa_cons (pe_tup (pa_cons pe_str (pa_cons pe_str pa_nil))) (pa_cons (pe_tup (pa_cons pe_str (pa_cons pe_str pa_nil))) pa_nil)))))) (pg_name (i := 2) sc_law_is_set.nd rfl (Or.inl rfl)) (pss_one (ps_if (pt_cmpR op_ne (pe_cmpR (op_inO IN_Pairs G_Pairs_contains b_Pairs_contains (hr.mono (by decide)) pass0) (pv 2) (pv 0) (by rfl)) (pe_cmpR (op_inD (hu5 hr)) (pv 2) (pv 1) (by rfl)) (nomark _)) (pss_one (ps_ret pe_bl)) pss_nil)))
      (pss_one (ps_ret pe_bl))))), ?_⟩
    try simp only [tSeq, tIfS, tTest, tOp, tUn, tCB, tCons, tNil, tVar, tC, rI0, rI, rU, rEq, rNe, tRet, tRetN, tAsg, gName, gSub, tBM, tBM0, tNext, tB, tNot, tAnd, tOr, tIf, tCall, tDrop, tBreak, tCont, L2.start, tDGet, sDPut, tTup, tLst, tDNewK, tRevL, rCat, rAppend, rPop, rSetL, tAndV, tOrV, tNotV, tSl, tPart, tNoPart, tM1, gTup, gCons, gNil, cxK, cxnK, List.map_cons, List.map_nil, List.length_cons, List.length_nil, List.replicate, List.cons_append, List.nil_append, List.append_nil, List.set_cons_zero, List.set_cons_succ, List.getElem?_cons_zero, List.getElem?_cons_succ, Option.some.injEq, V.ref.injEq, V.int.injEq, V.str.injEq, V.bl.injEq, V.ty.injEq, exists_eq_left', exists_eq_left, exists_and_left, List.cons.injEq, and_true, true_and, sc_ii, sc_ss, sc_bb, sc_ni, sc_in, sc_is, sc_si, sc_nn, decide_true, decide_false, reduceCtorEq, Bool.false_eq_true, if_true, if_false, ite_true, ite_false, exists_const, eq_self, false_and, and_false, or_false, false_or, exists_false, Evl.rLenS, rSum, wipe, tYes, exists_eq, exists_eq', rIxL, rIxT, rIxS, exists_and_right, gt_iff_lt, not_true_eq_false, not_false_eq_true, Bool.not_true, Bool.not_false, decide_eq_true_eq, Nat.reduceSub, Nat.reduceAdd, List.append_assoc, tChain, tDIn, tDNotIn, sDDel, tAug, ipI]
    obtain ⟨dx, l, us, ho, hl0, hD⟩ := id hp
    have n27 := lenP g
    obtain ⟨xs, hS, hX⟩ := id hl
    have e1 : xs.length = (pairsL.filter g).length := by rw [dpLen hX, List.length_map]
    have sh := (shapedL (fitsP (subP g))).1
    refine ⟨.ref o, .ref PC, .ref PC, .ref PC, true, rfl, .own PC, .base (.ins ho T.cl T.ha T.hn T.ht T.hm), T.is1, true, rfl, ?_⟩
    try simp only [tSeq, tIfS, tTest, tOp, tUn, tCB, tCons, tNil, tVar, tC, rI0, rI, rU, rEq, rNe, tRet, tRetN, tAsg, gName, gSub, tBM, tBM0, tNext, tB, tNot, tAnd, tOr, tIf, tCall, tDrop, tBreak, tCont, L2.start, tDGet, sDPut, tTup, tLst, tDNewK, tRevL, rCat, rAppend, rPop, rSetL, tAndV, tOrV, tNotV, tSl, tPart, tNoPart, tM1, gTup, gCons, gNil, cxK, cxnK, List.map_cons, List.map_nil, List.length_cons, List.length_nil, List.replicate, List.cons_append, List.nil_append, List.append_nil, List.set_cons_zero, List.set_cons_succ, List.getElem?_cons_zero, List.getElem?_cons_succ, Option.some.injEq, V.ref.injEq, V.int.injEq, V.str.injEq, V.bl.injEq, V.ty.injEq, exists_eq_left', exists_eq_left, exists_and_left, List.cons.injEq, and_true, true_and, sc_ii, sc_ss, sc_bb, sc_ni, sc_in, sc_is, sc_si, sc_nn, decide_true, decide_false, reduceCtorEq, Bool.false_eq_true, if_true, if_false, ite_true, ite_false, exists_const, eq_self, false_and, and_false, or_false, false_or, exists_false, Evl.rLenS, rSum, wipe, tYes, exists_eq, exists_eq', rIxL, rIxT, rIxS, exists_and_right, gt_iff_lt, not_true_eq_false, not_false_eq_true, Bool.not_true, Bool.not_false, decide_eq_true_eq, Nat.reduceSub, Nat.reduceAdd, List.append_assoc, tChain, tDIn, tDNotIn, sDDel, tAug, ipI, rLenO]
    refine ⟨⟨dx, _, ho⟩, o, g, rfl, hp, (pairsL.filter g).length, rfl, small (by omega), ?_⟩
    refine ⟨xs, .inl hS, ?_⟩
    rw [e1, decide_eq_true rfl]
    try simp only [tSeq, tIfS, tTest, tOp, tUn, tCB, tCons, tNil, tVar, tC, rI0, rI, rU, rEq, rNe, tRet, tRetN, tAsg, gName, gSub, tBM, tBM0, tNext, tB, tNot, tAnd, tOr, tIf, tCall, tDrop, tBreak, tCont, L2.start, tDGet, sDPut, tTup, tLst, tDNewK, tRevL, rCat, rAppend, rPop, rSetL, tAndV, tOrV, tNotV, tSl, tPart, tNoPart, tM1, gTup, gCons, gNil, cxK, cxnK, List.map_cons, List.map_nil, List.length_cons, List.length_nil, List.replicate, List.cons_append, List.nil_append, List.append_nil, List.set_cons_zero, List.set_cons_succ, List.getElem?_cons_zero, List.getElem?_cons_succ, Option.some.injEq, V.ref.injEq, V.int.injEq, V.str.injEq, V.bl.injEq, V.ty.injEq, exists_eq_left', exists_eq_left, exists_and_left, List.cons.injEq, and_true, true_and, sc_ii, sc_ss, sc_bb, sc_ni, sc_in, sc_is, sc_si, sc_nn, decide_true, decide_false, reduceCtorEq, Bool.false_eq_true, if_true, if_false, ite_true, ite_false, exists_const, eq_self, false_and, and_false, or_false, false_or, exists_false, Evl.rLenS, rSum, wipe, tYes, exists_eq, exists_eq', rIxL, rIxT, rIxS, exists_and_right, gt_iff_lt, not_true_eq_false, not_false_eq_true, Bool.not_true, Bool.not_false, decide_eq_true_eq, Nat.reduceSub, Nat.reduceAdd, List.append_assoc, tChain, tDIn, tDNotIn, sDDel, tAug, ipI]
    have self := eqvL (subP g)
    refine list_pr hp fun p1 w1 H1 np1 hp1 hw1 k1 => ?_
    refine ⟨_, _, .lst (sq_l hp1) hw1, .lst (k1.ls not0 hS) (dpAllN k1 noSq0 hX), sh, sh, ?_⟩
    rw [self]
    try simp only [tSeq, tIfS, tTest, tOp, tUn, tCB, tCons, tNil, tVar, tC, rI0, rI, rU, rEq, rNe, tRet, tRetN, tAsg, gName, gSub, tBM, tBM0, tNext, tB, tNot, tAnd, tOr, tIf, tCall, tDrop, tBreak, tCont, L2.start, tDGet, sDPut, tTup, tLst, tDNewK, tRevL, rCat, rAppend, rPop, rSetL, tAndV, tOrV, tNotV, tSl, tPart, tNoPart, tM1, gTup, gCons, gNil, cxK, cxnK, List.map_cons, List.map_nil, List.length_cons, List.length_nil, List.replicate, List.cons_append, List.nil_append, List.append_nil, List.set_cons_zero, List.set_cons_succ, List.getElem?_cons_zero, List.getElem?_cons_succ, Option.some.injEq, V.ref.injEq, V.int.injEq, V.str.injEq, V.bl.injEq, V.ty.injEq, exists_eq_left', exists_eq_left, exists_and_left, List.cons.injEq, and_true, true_and, sc_ii, sc_ss, sc_bb, sc_ni, sc_in, sc_is, sc_si, sc_nn, decide_true, decide_false, reduceCtorEq, Bool.false_eq_true, if_true, if_false, ite_true, ite_false, exists_const, eq_self, false_and, and_false, or_false, false_or, exists_false, Evl.rLenS, rSum, wipe, tYes, exists_eq, exists_eq', rIxL, rIxT, rIxS, exists_and_right, gt_iff_lt, not_true_eq_false, not_false_eq_true, Bool.not_true, Bool.not_false, decide_eq_true_eq, Nat.reduceSub, Nat.reduceAdd, List.append_assoc, tChain, tDIn, tDNotIn, sDDel, tAug, ipI]
    refine list_pr (hp.kp k1) fun p2 w2 H2 np2 hp2 hw2 k2 => ?_
    have k12 := k1.trans k2
    refine ⟨_, _, .lst (sq_l hp2) hw2, .lst (k12.ls not0 hS) (dpAllN k12 noSq0 hX), sh, sh, ?_⟩
    rw [self]
    try simp only [tSeq, tIfS, tTest, tOp, tUn, tCB, tCons, tNil, tVar, tC, rI0, rI, rU, rEq, rNe, tRet, tRetN, tAsg, gName, gSub, tBM, tBM0, tNext, tB, tNot, tAnd, tOr, tIf, tCall, tDrop, tBreak, tCont, L2.start, tDGet, sDPut, tTup, tLst, tDNewK, tRevL, rCat, rAppend, rPop, rSetL, tAndV, tOrV, tNotV, tSl, tPart, tNoPart, tM1, gTup, gCons, gNil, cxK, cxnK, List.map_cons, List.map_nil, List.length_cons, List.length_nil, List.replicate, List.cons_append, List.nil_append, List.append_nil, List.set_cons_zero, List.set_cons_succ, List.getElem?_cons_zero, List.getElem?_cons_succ, Option.some.injEq, V.ref.injEq, V.int.injEq, V.str.injEq, V.bl.injEq, V.ty.injEq, exists_eq_left', exists_eq_left, exists_and_left, List.cons.injEq, and_true, true_and, sc_ii, sc_ss, sc_bb, sc_ni, sc_in, sc_is, sc_si, sc_nn, decide_true, decide_false, reduceCtorEq, Bool.false_eq_true, if_true, if_false, ite_true, ite_false, exists_const, eq_self, false_and, and_false, or_false, false_or, exists_false, Evl.rLenS, rSum, wipe, tYes, exists_eq, exists_eq', rIxL, rIxT, rIxS, exists_and_right, gt_iff_lt, not_true_eq_false, not_false_eq_true, Bool.not_true, Bool.not_false, decide_eq_true_eq, Nat.reduceSub, Nat.reduceAdd, List.append_assoc, tChain, tDIn, tDNotIn, sDDel, tAug, ipI]
    refine ⟨rfl, fun r ws H3 nr hr3 hw3 k3 => ⟨small (by decide), fun t1 n1 => ⟨small (by decide), fun t2 n2 => ⟨small (by decide), fun t3 n3 => ⟨small (by simp), fun l4 n4 => ?_⟩⟩⟩⟩⟩
    have d1 := ((((laid0 (K := K)).tup n1 (s2 (x := "read") (y := "return"))).tup n2 (s2 (x := "return") (y := "write"))).tup n3 (s2 (x := "both") (y := "return"))).up (o := .lst [.ref t1, .ref t2, .ref t3]) n4
    have hw27 : ws.length = 27 := by rw [dpLen hw3, List.length_map, pairs_len]
    have more := dpApp (dpAllN d1.2 noSq0 hw3) d1.1
    have e3 : pairsL.map pD ++ ([] ++ [.tuple [.str "read", .str "return"]] ++ [.tuple [.str "return", .str "write"]] ++ [.tuple [.str "both", .str "return"]]) = (pairsL ++ [(("read" : Str), ("return" : Str)), ("return", "write"), ("both", "return")]).map pD := by rw [List.map_append]; rfl
    rw [e3] at more
    refine ⟨r, l4, ws, _, rfl, rfl, d1.2 _ _ not0 hr3, upd_same, small (by rw [hw27]; show 27 + 3 ≤ 100000; decide), fun D nD => ?_⟩
    have k5 := Kp.new (S := []) (o := .lst (ws ++ [.ref t1, .ref t2, .ref t3])) nD
    have kD := (k12.trans k3).trans (d1.2.trans k5)
    have more2 := dpAllN k5 noSq0 more
    have hD5 : ∀ H0 : Hp, (upd H0 D (.lst (ws ++ [V.ref t1, .ref t2, .ref t3]))) D = some (.lst (ws ++ [V.ref t1, .ref t2, .ref t3])) := fun _ => upd_same
    refine ⟨D, rfl, ⟨_, sq_l upd_same⟩, for_list (K := K) (a := D) (xs := ws ++ [.ref t1, .ref t2, .ref t3]) (fun _ σ H' => ∃ c, σ = [some (.ref o), some (.ref a), c] ∧ Kp [] H H' ∧ H' D = some (.lst (ws ++ [.ref t1, .ref t2, .ref t3])) ∧ DpAll K H' (ws ++ [.ref t1, .ref t2, .ref t3]) ((pairsL ++ [(("read" : Str), ("return" : Str)), ("return", "write"), ("both", "return")]).map pD)) ⟨_, rfl, kD, upd_same, more2⟩ (fun i σ H' _ h => by obtain ⟨_, _, _, h, _⟩ := h; exact sq_l h) ?_ ?_⟩
    · rintro i x σ H6 hx ⟨c, rfl, k6, hD6, hm6⟩
      obtain ⟨d, ed, hd⟩ := dpGet hm6 hx
      have fit : Fit d := by
        have all : ∀ d ∈ ((pairsL ++ [(("read" : Str), ("return" : Str)), ("return", "write"), ("both", "return")]).map pD), Fit d := by
          unfold Fit
          decide +kernel
        exact all d (List.mem_of_getElem? ed)
      have hp6 := hp.kp k6
      obtain ⟨dx6, l6, us6, ho6, _⟩ := hp.kp k6
      try simp only [tSeq, tIfS, tTest, tOp, tUn, tCB, tCons, tNil, tVar, tC, rI0, rI, rU, rEq, rNe, tRet, tRetN, tAsg, gName, gSub, tBM, tBM0, tNext, tB, tNot, tAnd, tOr, tIf, tCall, tDrop, tBreak, tCont, L2.start, tDGet, sDPut, tTup, tLst, tDNewK, tRevL, rCat, rAppend, rPop, rSetL, tAndV, tOrV, tNotV, tSl, tPart, tNoPart, tM1, gTup, gCons, gNil, cxK, cxnK, List.map_cons, List.map_nil, List.length_cons, List.length_nil, List.replicate, List.cons_append, List.nil_append, List.append_nil, List.set_cons_zero, List.set_cons_succ, List.getElem?_cons_zero, List.getElem?_cons_succ, Option.some.injEq, V.ref.injEq, V.int.injEq, V.str.injEq, V.bl.injEq, V.ty.injEq, exists_eq_left', exists_eq_left, exists_and_left, List.cons.injEq, and_true, true_and, sc_ii, sc_ss, sc_bb, sc_ni, sc_in, sc_is, sc_si, sc_nn, decide_true, decide_false, reduceCtorEq, Bool.false_eq_true, if_true, if_false, ite_true, ite_false, exists_const, eq_self, false_and, and_false, or_false, false_or, exists_false, Evl.rLenS, rSum, wipe, tYes, exists_eq, exists_eq', rIxL, rIxT, rIxS, exists_and_right, gt_iff_lt, not_true_eq_false, not_false_eq_true, Bool.not_true, Bool.not_false, decide_eq_true_eq, Nat.reduceSub, Nat.reduceAdd, List.append_assoc, tChain, tDIn, tDNotIn, sDDel, tAug, ipI, rInO]
      refine ⟨⟨dx6, _, ho6⟩, o, g, x, d, rfl, hp6, hd, fit.1, _, rfl, ?_⟩
      refine ⟨d, _, hd, .lst (k6.ls not0 hS) (dpAllN k6 noSq0 hX), fit.1, sh, ?_⟩
      refine ⟨rfl, ?_⟩
      rw [decide_eq_true rfl]
      exact ⟨k6, hD6, hm6⟩
    · rintro σ H6 ⟨c, rfl, k6, hD6, hm6⟩
      try simp only [tSeq, tIfS, tTest, tOp, tUn, tCB, tCons, tNil, tVar, tC, rI0, rI, rU, rEq, rNe, tRet, tRetN, tAsg, gName, gSub, tBM, tBM0, tNext, tB, tNot, tAnd, tOr, tIf, tCall, tDrop, tBreak, tCont, L2.start, tDGet, sDPut, tTup, tLst, tDNewK, tRevL, rCat, rAppend, rPop, rSetL, tAndV, tOrV, tNotV, tSl, tPart, tNoPart, tM1, gTup, gCons, gNil, cxK, cxnK, List.map_cons, List.map_nil, List.length_cons, List.length_nil, List.replicate, List.cons_append, List.nil_append, List.append_nil, List.set_cons_zero, List.set_cons_succ, List.getElem?_cons_zero, List.getElem?_cons_succ, Option.some.injEq, V.ref.injEq, V.int.injEq, V.str.injEq, V.bl.injEq, V.ty.injEq, exists_eq_left', exists_eq_left, exists_and_left, List.cons.injEq, and_true, true_and, sc_ii, sc_ss, sc_bb, sc_ni, sc_in, sc_is, sc_si, sc_nn, decide_true, decide_false, reduceCtorEq, Bool.false_eq_true, if_true, if_false, ite_true, ite_false, exists_const, eq_self, false_and, and_false, or_false, false_or, exists_false, Evl.rLenS, rSum, wipe, tYes, exists_eq, exists_eq', rIxL, rIxT, rIxS, exists_and_right, gt_iff_lt, not_true_eq_false, not_false_eq_true, Bool.not_true, Bool.not_false, decide_eq_true_eq, Nat.reduceSub, Nat.reduceAdd, List.append_assoc, tChain, tDIn, tDNotIn, sDDel, tAug, ipI]
      exact q _ k6
def spSays : Sp := fun vs H Q _ => ∃ x y : Bool, vs = [.bl x, .bl y] ∧ Q (.bl (decide (x = y))) H
theorem ok_law_says {f : Addr} {fd : FuncData} (D : Df K mg "_law_says" s_law_says ["_law_told", "_law_due"] f fd) : FnOk P w K mg base CX0 1 f fd ["_law_told", "_law_due"] spSays := by
  refine D.F.ok sc_law_says (fun vs H Q E h => ?_) (fun cdv A outer s H vs Q E hr h => ?_)
  · obtain ⟨x, y, rfl, _⟩ := h
    rfl
  · obtain ⟨x, y, rfl, q⟩ := h
    refine ⟨_, (pss_cons (ps_if (pt_val (pv 1)) (pss_one (ps_ret (pe_cmpR op_isBl (pv 0) pe_bl (nomark _)))) pss_nil)
      (pss_one (ps_ret (pe_cmpR op_isBl (pv 0) pe_bl (nomark _))))), ?_⟩
    try simp only [tSeq, tIfS, tTest, tOp, tUn, tCB, tCons, tNil, tVar, tC, rI0, rI, rU, rEq, rNe, tRet, tRetN, tAsg, gName, gSub, tBM, tBM0, tNext, tB, tNot, tAnd, tOr, tIf, tCall, tDrop, tBreak, tCont, L2.start, tDGet, sDPut, tTup, tLst, tDNewK, tRevL, rCat, rAppend, rPop, rSetL, tAndV, tOrV, tNotV, tSl, tPart, tNoPart, tM1, gTup, gCons, gNil, cxK, cxnK, List.map_cons, List.map_nil, List.length_cons, List.length_nil, List.replicate, List.cons_append, List.nil_append, List.append_nil, List.set_cons_zero, List.set_cons_succ, List.getElem?_cons_zero, List.getElem?_cons_succ, Option.some.injEq, V.ref.injEq, V.int.injEq, V.str.injEq, V.bl.injEq, V.ty.injEq, exists_eq_left', exists_eq_left, exists_and_left, List.cons.injEq, and_true, true_and, sc_ii, sc_ss, sc_bb, sc_ni, sc_in, sc_is, sc_si, sc_nn, decide_true, decide_false, reduceCtorEq, Bool.false_eq_true, if_true, if_false, ite_true, ite_false, exists_const, eq_self, false_and, and_false, or_false, false_or, exists_false, Evl.rLenS, rSum, wipe, tYes, exists_eq, exists_eq', rIxL, rIxT, rIxS, exists_and_right, gt_iff_lt, not_true_eq_false, not_false_eq_true, Bool.not_true, Bool.not_false, decide_eq_true_eq, Nat.reduceSub, Nat.reduceAdd, List.append_assoc, tChain, tDIn, tDNotIn, sDDel, tAug, ipI]
    cases y with
    | true => exact ⟨x, true, rfl, rfl, q⟩
    | false => exact ⟨x, false, rfl, rfl, q⟩
theorem lc_filter {H : Hp} {σ : L2.St} {i : Nat} {l : Addr} {ps : List Pr} {h : Pr → Bool} {tt : TT} {Q : VK} (hσ : σ[i]? = some (some (.ref l))) (hl : LsT K H l (ps.map pD)) (sub : ∀ p ∈ ps, p ∈ pairsL) (len : ps.length ≤ 1000)
    (h7 : ∀ x : V, ((wipe σ [7]).set 7 (some x))[7]? = some (some x)) (hw : ∀ x : V, wipe ((wipe σ [7]).set 7 (some x)) [7] = wipe σ [7])
    (test : ∀ x p H' Qb, Kp [] H H' → Dp K H' x (pD p) → p ∈ pairsL → Qb (h p) H' → tt ((wipe σ [7]).set 7 (some x)) H' Qb)
    (q : ∀ D H', H D = none → LsT K H' D ((ps.filter h).map pD) → Kp [] H H' → Q (.ref D) H') : tLc (iList K (tVar i)) (gName 7) tt (tVar 7) [7] σ H Q := by
  obtain ⟨us, hu, hD⟩ := hl
  refine ⟨_, hσ, l, rfl, ⟨us, sq_l hu⟩, fun D nD => lc_list (K := K) (a := l) (xs := us) (LcD K D H fun i => (ps.take i).filter h) ⟨[], upd_same, .nil, Kp.new nD⟩ (fun i H' _ h => by obtain ⟨_, _, _, k⟩ := h; exact k.ls not0 (sq_l hu)) ?_ ?_⟩
  · rintro j x H2 hx hh
    have k2 : Kp [] H H2 := by obtain ⟨_, _, _, k⟩ := hh; exact k
    obtain ⟨d, ed, hd⟩ := dpGet (dpAllN k2 noSq0 hD) hx
    obtain ⟨p, ep, rfl⟩ := pD_at ed
    refine ⟨hw x, test x p H2 _ k2 hd (sub p (List.mem_of_getElem? ep)) ?_⟩
    cases hk : h p with
    | true =>
      rw [if_pos rfl]
      exact ⟨x, h7 x, lcD_put hh nD hd (by rw [filter_take ep, if_pos hk]) (take_len len)⟩
    | false =>
      rw [if_neg Bool.false_ne_true]
      exact lcD_skip hh (by rw [filter_take ep, if_neg (by rw [hk]; exact Bool.false_ne_true), List.append_nil])
  · rintro H2 ⟨ws, hv, hws, k2⟩
    rw [dpLen hD, List.length_map] at hws
    dsimp only at hws
    rw [List.take_length] at hws
    exact q D H2 nD ⟨ws, hv, hws⟩ k2
theorem bin_pr {PC a b : Addr} {H : Hp} {f g : Pr → Bool} {op : Bool → Bool → Bool} {Q : VK} (ha : PrAt K PC H a f) (hb : PrAt K PC H b g) (q : ∀ o H', H o = none → PrAt K PC H' o (fun p => op (f p) (g p)) → Kp [] H H' → Q (.ref o) H') : rBinO PC (spBin K PC op) E0 (.ref a) (.ref b) H Q := by
  obtain ⟨dx, l, us, h1, _⟩ := id ha
  obtain ⟨dx2, l2, us2, h2, _⟩ := id hb
  exact ⟨a, dx, _, b, dx2, _, rfl, rfl, h1, h2, a, b, f, g, rfl, ha, hb, q⟩
def IsIt (K : PySem.W.Frag) (PC : Addr) (H : Hp) (v : V) : Prop := ∃ (t o l : Addr) (g : Pr → Bool), v = .ref t ∧ H t = some (.tup [.ref o, .ref l]) ∧ PrAt K PC H o g ∧ LsT K H l ((pairsL.filter g).map pD)
def Its (K : PySem.W.Frag) (PC : Addr) (H : Hp) (vs : List V) : Prop := ∀ v ∈ vs, IsIt K PC H v
theorem Its.kp {PC : Addr} {H H' : Hp} {vs : List V} (h : Its K PC H vs) (k : Kp [] H H') : Its K PC H' vs := fun v hv => by
  obtain ⟨t, o, l, g, e, a, b, c⟩ := h v hv
  exact ⟨t, o, l, g, e, k _ _ not0 a, b.kp k, c.kp k⟩
theorem Its.app {PC : Addr} {H : Hp} {vs us : List V} (a : Its K PC H vs) (b : Its K PC H us) : Its K PC H (vs ++ us) := fun v hv => (List.mem_append.mp hv).elim (a v) (b v)
theorem zeroL {H : Hp} {z : Addr} (h : H z = some (.lst [])) : LsT K H z ((pairsL.filter fun _ => false).map pD) := by
  rw [show pairsL.filter (fun _ => false) = [] from List.filter_eq_nil_iff.mpr fun _ _ => Bool.false_ne_true]
  exact ⟨[], h, .nil⟩
theorem Its.put {PC t o l : Addr} {H : Hp} {vs : List V} {g : Pr → Bool} (h : Its K PC H vs) (a : H t = some (.tup [.ref o, .ref l])) (b : PrAt K PC H o g) (c : LsT K H l ((pairsL.filter g).map pD)) : Its K PC H (vs ++ [.ref t]) := fun v hv => by
  rcases List.mem_append.mp hv with hv | hv
  · exact h v hv
  · exact ⟨t, o, l, g, List.mem_singleton.mp hv, a, b, c⟩
end
end My

set_option Elab.async false
set_option linter.all false
set_option maxRecDepth 100000
set_option maxHeartbeats 4000000
namespace My
open PySem L2 NdefX
abbrev s_law_made : Stmt := top 22
theorem sc_law_made : FnScope ["_law_a", "_law_b", "_law_none", "_law_one", "_law_two", "_law_rows", "_law_same", "_law_pair", "_law_either", "_law_left", "_law_right", "_law_made_here", "_law_told", "_law_due"] ["_law_a", "_law_b", "_law_none", "_law_one", "_law_two", "_law_rows"] (defScope s_law_made) := ⟨rfl, rfl, rfl, by decide +kernel, rfl, by decide +kernel, by decide +kernel⟩
abbrev s_law_within : Stmt := top 23
theorem sc_law_within : FnScope ["_law_a", "_law_b", "_law_none", "_law_one", "_law_two", "_law_same", "_law_asked", "_law_told", "_law_due"] ["_law_a", "_law_b", "_law_none", "_law_one", "_law_two", "_law_same"] (defScope s_law_within) := ⟨rfl, rfl, rfl, by decide +kernel, rfl, by decide +kernel, by decide +kernel⟩
section
variable {P : Program} {w : World} {K : PySem.W.Frag} {mg : Str → Option Value} {base : Heap}
structure BtM (K : PySem.W.Frag) (mg : Str → Option Value) (PC fA fO fS fW : Addr) : Prop where
  b_len : mg "len" = none
  cl_Pairs : Cls K PC
  BC_Pairs_and : BinC K PC fA .BitAnd
  BC_Pairs_or : BinC K PC fO .BitOr
  BC_Pairs_sub : BinC K PC fS .Sub
  ME_Pairs_within : Meth K PC "within" fW
def spMade (K : PySem.W.Frag) (PC : Addr) : Sp := fun vs H Q _ => ∃ (a b n l1 l2 r : Addr) (f g : Pr → Bool), vs = [.ref a, .ref b, .ref n, .ref l1, .ref l2, .ref r] ∧ PrAt K PC H a f ∧ PrAt K PC H b g ∧ PrAt K PC H n (fun _ => false) ∧ LsT K H l1 ((pairsL.filter f).map pD) ∧ LsT K H l2 ((pairsL.filter g).map pD) ∧ LsT K H r (pairsL.map pD) ∧ ∀ H', Kp [] H H' → Q (.bl true) H'
theorem ok_law_made {f : Addr} {fd : FuncData} (D : Df K mg "_law_made" s_law_made ["_law_a", "_law_b", "_law_none", "_law_one", "_law_two", "_law_rows"] f fd) {PC fA fO fS fW : Addr} {fdA fdO fdS : FuncData} (T : BtM K mg PC fA fO fS fW)
    (b_Pairs_and : Binds K fdA ["self", "other"] []) (G_Pairs_and : FnOk P w K mg base CX0 5 fA fdA ["self", "other"] (spBin K PC (· && ·)))
    (b_Pairs_or : Binds K fdO ["self", "other"] []) (G_Pairs_or : FnOk P w K mg base CX0 5 fO fdO ["self", "other"] (spBin K PC (· || ·)))
    (b_Pairs_sub : Binds K fdS ["self", "other"] []) (G_Pairs_sub : FnOk P w K mg base CX0 5 fS fdS ["self", "other"] (spBin K PC (fun x y => x && !y)))
    {fg : Addr} {fdg : FuncData} (D_law_is_set : Df K mg "_law_is_set" s_law_is_set ["_law_told", "_law_due"] fg fdg) (G_law_is_set : FnOk P w K mg base CX0 6 fg fdg ["_law_told", "_law_due"] (spIsSet K PC)) : FnOk P w K mg base CX0 7 f fd ["_law_a", "_law_b", "_law_none", "_law_one", "_law_two", "_law_rows"] (spMade K PC) := by
  refine D.F.ok sc_law_made (fun vs H Q E h => ?_) (fun cdv A outer s H vs Q E hr h => ?_)
  · obtain ⟨_, _, _, _, _, _, _, _, rfl, _⟩ := h
    rfl
  · obtain ⟨a, b, n, l1, l2, r, f, g, rfl, ha, hb, hn, h1, h2, h3, q⟩ := h
    have BC_Pairs_and := T.BC_Pairs_and
    have BC_Pairs_or := T.BC_Pairs_or
    have BC_Pairs_sub := T.BC_Pairs_sub
    refine ⟨_, (pss_cons (ps_setLc (i := 6) (own := [("_law_pair", 7)]) (g := (gName 7)) rfl sc_law_made.nd rfl rfl (sw_true rfl rfl rfl (by decide +kernel)) (pi_list (pv 3)) (blkOk_by (N := ["_law_a", "_law_b", "_law_none", "_law_one", "_law_two", "_law_rows", "_law_same", "_law_pair", "_law_either", "_law_left", "_law_right", "_law_made_here", "_law_told", "_law_due"]) (sc := defScope s_law_made) (by decide +kernel)) (fun _ _ _ _ _ => (pg_name (i := 7) sc_law_made.nd rfl (Or.inl rfl))) (fun _ _ _ _ _ => (pts_one (pt_cmpR (r := rInD K) (op_inD (hu5 hr)) (pv 7) (pv 4) (by rfl)))) (fun _ _ _ _ _ => (pv 7)))
      (pss_cons (ps_setLc (i := 8) (own := [("_law_pair", 7)]) (g := (gName 7)) rfl sc_law_made.nd rfl rfl (sw_true rfl rfl rfl (by decide +kernel)) (pi_list (pv 5)) (blkOk_by (N := ["_law_a", "_law_b", "_law_none", "_law_one", "_law_two", "_law_rows", "_law_same", "_law_pair", "_law_either", "_law_left", "_law_right", "_law_made_here", "_law_told", "_law_due"]) (sc := defScope s_law_made) (by decide +kernel)) (fun _ _ _ _ _ => (pg_name (i := 7) sc_law_made.nd rfl (Or.inl rfl))) (fun _ _ _ _ _ => (pts_one (PW.pt (pw_or (pt_cmpR (r := rInD K) (op_inD (hu5 hr)) (pv 7) (pv 3) (by rfl)) (pw_or1 (pt_cmpR (r := rInD K) (op_inD (hu5 hr)) (pv 7) (pv 4) (by rfl))))))) (fun _ _ _ _ _ => (pv 7)))
      (pss_cons (ps_setLc (i := 9) (own := [("_law_pair", 7)]) (g := (gName 7)) rfl sc_law_made.nd rfl rfl (sw_true rfl rfl rfl (by decide +kernel)) (pi_list (pv 3)) (blkOk_by (N := ["_law_a", "_law_b", "_law_none", "_law_one", "_law_two", "_law_rows", "_law_same", "_law_pair", "_law_either", "_law_left", "_law_right", "_law_made_here", "_law_told", "_law_due"]) (sc := defScope s_law_made) (by decide +kernel)) (fun _ _ _ _ _ => (pg_name (i := 7) sc_law_made.nd rfl (Or.inl rfl))) (fun _ _ _ _ _ => (pts_one (pt_cmpR (r := rNotInD K) (op_notInD (hu5 hr)) (pv 7) (pv 4) (by rfl)))) (fun _ _ _ _ _ => (pv 7)))
      (pss_cons (ps_setLc (i := 10) (own := [("_law_pair", 7)]) (g := (gName 7)) rfl sc_law_made.nd rfl rfl (sw_true rfl rfl rfl (by decide +kernel)) (pi_list (pv 4)) (blkOk_by (N := ["_law_a", "_law_b", "_law_none", "_law_one", "_law_two", "_law_rows", "_law_same", "_law_pair", "_law_either", "_law_left", "_law_right", "_law_made_here", "_law_told", "_law_due"]) (sc := defScope s_law_made) (by decide +kernel)) (fun _ _ _ _ _ => (pg_name (i := 7) sc_law_made.nd rfl (Or.inl rfl))) (fun _ _ _ _ _ => (pts_one (pt_cmpR (r := rNotInD K) (op_notInD (hu5 hr)) (pv 7) (pv 3) (by rfl)))) (fun _ _ _ _ _ => (pv 7)))
      (pss_cons (ps_set (i := 11) sc_law_made.nd rfl (Or.inl rfl) (pe_lst (pa_cons (pe_tup (pa_cons (pv 0) (pa_cons (pv 3) pa_nil))) (pa_cons (pe_tup (pa_cons (pv 1) (pa_cons (pv 4) pa_nil))) (pa_cons (pe_tup (pa_cons (pv 2) (pa_cons (pe_lst pa_nil) pa_nil))) (pa_cons (pe_tup (pa_cons (pe_op (op_binO BC_Pairs_and G_Pairs_and b_Pairs_and (hr.mono (by decide)) pass0) (pv 0) (pv 1)) (pa_cons (pv 6) pa_nil))) (pa_cons (pe_tup (pa_cons (pe_op (op_binO BC_Pairs_and G_Pairs_and b_Pairs_and (hr.mono (by decide)) pass0) (pv 1) (pv 0)) (pa_cons (pv 6) pa_nil))) (pa_cons (pe_tup (pa_cons (pe_op (op_binO BC_Pairs_and G_Pairs_and b_Pairs_and (hr.mono (by decide)) pass0) (pv 0) (pv 2)) (pa_cons (pe_lst pa_nil) pa_nil))) (pa_cons (pe_tup (pa_cons (pe_op (op_binO BC_Pairs_or G_Pairs_or b_Pairs_or (hr.mono (by decide)) pass0) (pv 0) (pv 2)) (pa_cons (pv 3) pa_nil))) pa_nil)))))))))
      (pss_cons (ps_set (i := 11) sc_law_made.nd rfl (Or.inl rfl) (pe_op op_cat (pv 11) (pe_lst (pa_cons (pe_tup (pa_cons (pe_op (op_binO BC_Pairs_sub G_Pairs_sub b_Pairs_sub (hr.mono (by decide)) pass0) (pv 0) (pv 2)) (pa_cons (pv 3) pa_nil))) (pa_cons (pe_tup (pa_cons (pe_op (op_binO BC_Pairs_or G_Pairs_or b_Pairs_or (hr.mono (by decide)) pass0) (pv 0) (pv 1)) (pa_cons (pv 8) pa_nil))) (pa_cons (pe_tup (pa_cons (pe_op (op_binO BC_Pairs_sub G_Pairs_sub b_Pairs_sub (hr.mono (by decide)) pass0) (pv 2) (pv 0)) (pa_cons (pe_lst pa_nil) pa_nil))) (pa_cons (pe_tup (pa_cons (pe_op (op_binO BC_Pairs_sub G_Pairs_sub b_Pairs_sub (hr.mono (by decide)) pass0) (pv 0) (pv 0)) (pa_cons (pe_lst pa_nil) pa_nil))) (pa_cons (pe_tup (pa_cons (pe_op (op_binO BC_Pairs_or G_Pairs_or b_Pairs_or (hr.mono (by decide)) pass0) (pv 0) (pv 0)) (pa_cons (pv 3) pa_nil))) (pa_cons (pe_tup (pa_cons (pe_op (op_binO BC_Pairs_sub G_Pairs_sub b_Pairs_sub (hr.mono (by decide)) pass0) (pv 0) (pv 1)) (pa_cons (pv 9) pa_nil))) pa_nil)))))))))
      (pss_cons (ps_set (i := 11) sc_law_made.nd rfl (Or.inl rfl) (pe_op op_cat (pv 11) (pe_lst (pa_cons (pe_tup (pa_cons (pe_op (op_binO BC_Pairs_sub G_Pairs_sub b_Pairs_sub (hr.mono (by decide)) pass0) (pv 1) (pv 0)) (pa_cons (pv 10) pa_nil))) (pa_cons (pe_tup (pa_cons (pv 0) (pa_cons (pv 3) pa_nil))) (pa_cons (pe_tup (pa_cons (pv 1) (pa_cons (pv 4) pa_nil))) (pa_cons (pe_tup (pa_cons (pv 2) (pa_cons (pe_lst pa_nil) pa_nil))) pa_nil)))))))
      (pss_cons (ps_for PassesOwn.never rfl (pi_list (pv 11)) (pg_tup (n := 2) (by rfl) (pgs_cons (pg_name (i := 12) sc_law_made.nd rfl (Or.inl rfl)) (pgs_cons (pg_name (i := 13) sc_law_made.nd rfl (Or.inl rfl)) pgs_nil))) (pss_one (ps_if (pt_not (pt_val (pe_call G_law_is_set (hr.mono (by decide)) rfl D_law_is_set.g D_law_is_set.F.kp D_law_is_set.b .nil pass0 (pa_cons (pv 12) (pa_cons (pv 13) pa_nil))))) (pss_one (ps_ret pe_bl)) pss_nil)))
      (pss_one (ps_ret pe_bl)))))))))), ?_⟩
    try simp only [tSeq, tIfS, tTest, tOp, tUn, tCB, tCons, tNil, tVar, tC, rI0, rI, rU, rEq, rNe, tRet, tRetN, tAsg, gName, gSub, tBM, tBM0, tNext, tB, tNot, tAnd, tOr, tIf, tCall, tDrop, tBreak, tCont, L2.start, tDGet, sDPut, tTup, tLst, tDNewK, tRevL, rCat, rAppend, rPop, rSetL, tAndV, tOrV, tNotV, tSl, tPart, tNoPart, tM1, gTup, gCons, gNil, cxK, cxnK, List.map_cons, List.map_nil, List.length_cons, List.length_nil, List.replicate, List.cons_append, List.nil_append, List.append_nil, List.set_cons_zero, List.set_cons_succ, List.getElem?_cons_zero, List.getElem?_cons_succ, Option.some.injEq, V.ref.injEq, V.int.injEq, V.str.injEq, V.bl.injEq, V.ty.injEq, exists_eq_left', exists_eq_left, exists_and_left, List.cons.injEq, and_true, true_and, sc_ii, sc_ss, sc_bb, sc_ni, sc_in, sc_is, sc_si, sc_nn, decide_true, decide_false, reduceCtorEq, Bool.false_eq_true, if_true, if_false, ite_true, ite_false, exists_const, eq_self, false_and, and_false, or_false, false_or, exists_false, Evl.rLenS, rSum, wipe, tYes, exists_eq, exists_eq', rIxL, rIxT, rIxS, exists_and_right, gt_iff_lt, not_true_eq_false, not_false_eq_true, Bool.not_true, Bool.not_false, decide_eq_true_eq, Nat.reduceSub, Nat.reduceAdd, List.append_assoc, tChain, tDIn, tDNotIn, sDDel, tAug, ipI]
    have tin : ∀ {l : Addr} {ps : List Pr} {x : V} {p : Pr} {H1 H' : Hp}, LsT K H1 l (ps.map pD) → (∀ p ∈ ps, p ∈ pairsL) → Kp [] H1 H' → Dp K H' x (pD p) → p ∈ pairsL → Dp K H' (.ref l) (.list (ps.map pD)) ∧ SeqAt.shaped (pD p) = true ∧ SeqAt.shaped (.list (ps.map pD)) = true := by
      intro l ps x p H1 H' h sub k hd hp
      obtain ⟨us, hu, hD⟩ := h.kp k
      exact ⟨.lst (sq_l hu) hD, okP hp, (shapedL (fitsP sub)).1⟩
    have n1 := lenP f
    have n2 := lenP g
    refine lc_filter (ps := pairsL.filter f) (h := g) rfl h1 (subP f) (Nat.le_trans n1 (by decide)) (fun x => rfl) (fun x => rfl) ?_ fun ls H1 nls hs k1 => ?_
    · intro x p H' Qb k hd hp hQ
      obtain ⟨z1, z2, z3⟩ := tin h2 (subP g) k hd hp
      try simp only [tSeq, tIfS, tTest, tOp, tUn, tCB, tCons, tNil, tVar, tC, rI0, rI, rU, rEq, rNe, tRet, tRetN, tAsg, gName, gSub, tBM, tBM0, tNext, tB, tNot, tAnd, tOr, tIf, tCall, tDrop, tBreak, tCont, L2.start, tDGet, sDPut, tTup, tLst, tDNewK, tRevL, rCat, rAppend, rPop, rSetL, tAndV, tOrV, tNotV, tSl, tPart, tNoPart, tM1, gTup, gCons, gNil, cxK, cxnK, List.map_cons, List.map_nil, List.length_cons, List.length_nil, List.replicate, List.cons_append, List.nil_append, List.append_nil, List.set_cons_zero, List.set_cons_succ, List.getElem?_cons_zero, List.getElem?_cons_succ, Option.some.injEq, V.ref.injEq, V.int.injEq, V.str.injEq, V.bl.injEq, V.ty.injEq, exists_eq_left', exists_eq_left, exists_and_left, List.cons.injEq, and_true, true_and, sc_ii, sc_ss, sc_bb, sc_ni, sc_in, sc_is, sc_si, sc_nn, decide_true, decide_false, reduceCtorEq, Bool.false_eq_true, if_true, if_false, ite_true, ite_false, exists_const, eq_self, false_and, and_false, or_false, false_or, exists_false, Evl.rLenS, rSum, wipe, tYes, exists_eq, exists_eq', rIxL, rIxT, rIxS, exists_and_right, gt_iff_lt, not_true_eq_false, not_false_eq_true, Bool.not_true, Bool.not_false, decide_eq_true_eq, Nat.reduceSub, Nat.reduceAdd, List.append_assoc, tChain, tDIn, tDNotIn, sDDel, tAug, ipI]
      refine ⟨pD p, _, hd, z1, z2, z3, _, rfl, ?_⟩
      rw [show (((pairsL.filter g).map pD).any fun z => PyData.eqv z (pD p)) = g p from pick_eq hp]
      exact hQ
    refine lc_filter (ps := pairsL) (h := fun p => f p || g p) rfl (h3.kp k1) (fun p h => h) (by rw [pairs_len]; decide) (fun x => rfl) (fun x => rfl) ?_ fun le H2 nle he k2 => ?_
    · intro x p H' Qb k hd hp hQ
      obtain ⟨y1, y2, y3⟩ := tin h1 (subP f) (k1.trans k) hd hp
      obtain ⟨z1, z2, z3⟩ := tin h2 (subP g) (k1.trans k) hd hp
      try simp only [tSeq, tIfS, tTest, tOp, tUn, tCB, tCons, tNil, tVar, tC, rI0, rI, rU, rEq, rNe, tRet, tRetN, tAsg, gName, gSub, tBM, tBM0, tNext, tB, tNot, tAnd, tOr, tIf, tCall, tDrop, tBreak, tCont, L2.start, tDGet, sDPut, tTup, tLst, tDNewK, tRevL, rCat, rAppend, rPop, rSetL, tAndV, tOrV, tNotV, tSl, tPart, tNoPart, tM1, gTup, gCons, gNil, cxK, cxnK, List.map_cons, List.map_nil, List.length_cons, List.length_nil, List.replicate, List.cons_append, List.nil_append, List.append_nil, List.set_cons_zero, List.set_cons_succ, List.getElem?_cons_zero, List.getElem?_cons_succ, Option.some.injEq, V.ref.injEq, V.int.injEq, V.str.injEq, V.bl.injEq, V.ty.injEq, exists_eq_left', exists_eq_left, exists_and_left, List.cons.injEq, and_true, true_and, sc_ii, sc_ss, sc_bb, sc_ni, sc_in, sc_is, sc_si, sc_nn, decide_true, decide_false, reduceCtorEq, Bool.false_eq_true, if_true, if_false, ite_true, ite_false, exists_const, eq_self, false_and, and_false, or_false, false_or, exists_false, Evl.rLenS, rSum, wipe, tYes, exists_eq, exists_eq', rIxL, rIxT, rIxS, exists_and_right, gt_iff_lt, not_true_eq_false, not_false_eq_true, Bool.not_true, Bool.not_false, decide_eq_true_eq, Nat.reduceSub, Nat.reduceAdd, List.append_assoc, tChain, tDIn, tDNotIn, sDDel, tAug, ipI]
      refine ⟨pD p, _, hd, y1, y2, y3, _, rfl, ?_⟩
      rw [show (((pairsL.filter f).map pD).any fun z => PyData.eqv z (pD p)) = f p from pick_eq hp]
      cases hf : f p with
      | true =>
        rw [hf] at hQ
        rw [if_pos rfl]
        exact hQ
      | false =>
        rw [hf] at hQ
        rw [if_neg Bool.false_ne_true]
        refine ⟨pD p, _, hd, z1, z2, z3, _, rfl, ?_⟩
        rw [show (((pairsL.filter g).map pD).any fun z => PyData.eqv z (pD p)) = g p from pick_eq hp]
        exact hQ
    have k12 := k1.trans k2
    refine lc_filter (ps := pairsL.filter f) (h := fun p => !g p) rfl (h1.kp k12) (subP f) (Nat.le_trans n1 (by decide)) (fun x => rfl) (fun x => rfl) ?_ fun ll H3 nll hll k3 => ?_
    · intro x p H' Qb k hd hp hQ
      obtain ⟨z1, z2, z3⟩ := tin h2 (subP g) (k12.trans k) hd hp
      try simp only [tSeq, tIfS, tTest, tOp, tUn, tCB, tCons, tNil, tVar, tC, rI0, rI, rU, rEq, rNe, tRet, tRetN, tAsg, gName, gSub, tBM, tBM0, tNext, tB, tNot, tAnd, tOr, tIf, tCall, tDrop, tBreak, tCont, L2.start, tDGet, sDPut, tTup, tLst, tDNewK, tRevL, rCat, rAppend, rPop, rSetL, tAndV, tOrV, tNotV, tSl, tPart, tNoPart, tM1, gTup, gCons, gNil, cxK, cxnK, List.map_cons, List.map_nil, List.length_cons, List.length_nil, List.replicate, List.cons_append, List.nil_append, List.append_nil, List.set_cons_zero, List.set_cons_succ, List.getElem?_cons_zero, List.getElem?_cons_succ, Option.some.injEq, V.ref.injEq, V.int.injEq, V.str.injEq, V.bl.injEq, V.ty.injEq, exists_eq_left', exists_eq_left, exists_and_left, List.cons.injEq, and_true, true_and, sc_ii, sc_ss, sc_bb, sc_ni, sc_in, sc_is, sc_si, sc_nn, decide_true, decide_false, reduceCtorEq, Bool.false_eq_true, if_true, if_false, ite_true, ite_false, exists_const, eq_self, false_and, and_false, or_false, false_or, exists_false, Evl.rLenS, rSum, wipe, tYes, exists_eq, exists_eq', rIxL, rIxT, rIxS, exists_and_right, gt_iff_lt, not_true_eq_false, not_false_eq_true, Bool.not_true, Bool.not_false, decide_eq_true_eq, Nat.reduceSub, Nat.reduceAdd, List.append_assoc, tChain, tDIn, tDNotIn, sDDel, tAug, ipI]
      refine ⟨pD p, _, hd, z1, z2, z3, _, rfl, ?_⟩
      rw [show (((pairsL.filter g).map pD).any fun z => PyData.eqv z (pD p)) = g p from pick_eq hp]
      exact hQ
    have k13 := k12.trans k3
    refine lc_filter (ps := pairsL.filter g) (h := fun p => !f p) rfl (h2.kp k13) (subP g) (Nat.le_trans n2 (by decide)) (fun x => rfl) (fun x => rfl) ?_ fun lr H0 nlr hlr k4 => ?_
    · intro x p H' Qb k hd hp hQ
      obtain ⟨z1, z2, z3⟩ := tin h1 (subP f) (k13.trans k) hd hp
      try simp only [tSeq, tIfS, tTest, tOp, tUn, tCB, tCons, tNil, tVar, tC, rI0, rI, rU, rEq, rNe, tRet, tRetN, tAsg, gName, gSub, tBM, tBM0, tNext, tB, tNot, tAnd, tOr, tIf, tCall, tDrop, tBreak, tCont, L2.start, tDGet, sDPut, tTup, tLst, tDNewK, tRevL, rCat, rAppend, rPop, rSetL, tAndV, tOrV, tNotV, tSl, tPart, tNoPart, tM1, gTup, gCons, gNil, cxK, cxnK, List.map_cons, List.map_nil, List.length_cons, List.length_nil, List.replicate, List.cons_append, List.nil_append, List.append_nil, List.set_cons_zero, List.set_cons_succ, List.getElem?_cons_zero, List.getElem?_cons_succ, Option.some.injEq, V.ref.injEq, V.int.injEq, V.str.injEq, V.bl.injEq, V.ty.injEq, exists_eq_left', exists_eq_left, exists_and_left, List.cons.injEq, and_true, true_and, sc_ii, sc_ss, sc_bb, sc_ni, sc_in, sc_is, sc_si, sc_nn, decide_true, decide_false, reduceCtorEq, Bool.false_eq_true, if_true, if_false, ite_true, ite_false, exists_const, eq_self, false_and, and_false, or_false, false_or, exists_false, Evl.rLenS, rSum, wipe, tYes, exists_eq, exists_eq', rIxL, rIxT, rIxS, exists_and_right, gt_iff_lt, not_true_eq_false, not_false_eq_true, Bool.not_true, Bool.not_false, decide_eq_true_eq, Nat.reduceSub, Nat.reduceAdd, List.append_assoc, tChain, tDIn, tDNotIn, sDDel, tAug, ipI]
      refine ⟨pD p, _, hd, z1, z2, z3, _, rfl, ?_⟩
      rw [show (((pairsL.filter f).map pD).any fun z => PyData.eqv z (pD p)) = f p from pick_eq hp]
      exact hQ
    have k14 := k13.trans k4
    have ff : ∀ u v : Pr → Bool, (pairsL.filter u).filter v = pairsL.filter fun p => u p && v p := fun u v => by
      rw [List.filter_filter]; exact List.filter_congr fun x _ => Bool.and_comm _ _
    rw [ff] at hs hll hlr
    replace ha := ha.kp k14
    replace hb := hb.kp k14
    replace hn := hn.kp k14
    replace h1 := h1.kp k14
    replace h2 := h2.kp k14
    replace hs := hs.kp ((k2.trans k3).trans k4)
    replace he := he.kp (k3.trans k4)
    replace hll := hll.kp k4
    try simp only [tSeq, tIfS, tTest, tOp, tUn, tCB, tCons, tNil, tVar, tC, rI0, rI, rU, rEq, rNe, tRet, tRetN, tAsg, gName, gSub, tBM, tBM0, tNext, tB, tNot, tAnd, tOr, tIf, tCall, tDrop, tBreak, tCont, L2.start, tDGet, sDPut, tTup, tLst, tDNewK, tRevL, rCat, rAppend, rPop, rSetL, tAndV, tOrV, tNotV, tSl, tPart, tNoPart, tM1, gTup, gCons, gNil, cxK, cxnK, List.map_cons, List.map_nil, List.length_cons, List.length_nil, List.replicate, List.cons_append, List.nil_append, List.append_nil, List.set_cons_zero, List.set_cons_succ, List.getElem?_cons_zero, List.getElem?_cons_succ, Option.some.injEq, V.ref.injEq, V.int.injEq, V.str.injEq, V.bl.injEq, V.ty.injEq, exists_eq_left', exists_eq_left, exists_and_left, List.cons.injEq, and_true, true_and, sc_ii, sc_ss, sc_bb, sc_ni, sc_in, sc_is, sc_si, sc_nn, decide_true, decide_false, reduceCtorEq, Bool.false_eq_true, if_true, if_false, ite_true, ite_false, exists_const, eq_self, false_and, and_false, or_false, false_or, exists_false, Evl.rLenS, rSum, wipe, tYes, exists_eq, exists_eq', rIxL, rIxT, rIxS, exists_and_right, gt_iff_lt, not_true_eq_false, not_false_eq_true, Bool.not_true, Bool.not_false, decide_eq_true_eq, Nat.reduceSub, Nat.reduceAdd, List.append_assoc, tChain, tDIn, tDNotIn, sDDel, tAug, ipI]
    have kc0 : Kp [] H0 H0 := Kp.refl _ _
    have j0 : Its K PC H0 [] := fun v hv => nomatch hv
    refine ⟨small (by decide), fun t_1 n_t_1 => ?_⟩
    have k_1 : Kp [] H0 (upd H0 t_1 (.tup [.ref a, .ref l1])) := Kp.new n_t_1
    have e_1 : (upd H0 t_1 (.tup [.ref a, .ref l1])) t_1 = some (.tup [.ref a, .ref l1]) := upd_same
    generalize upd H0 t_1 (.tup [.ref a, .ref l1]) = G_1 at k_1 e_1 ⊢
    have c_1 := kc0.trans k_1
    have it_1 := j0.kp k_1
    have q_1 := it_1.put e_1 (ha.kp c_1) (h1.kp c_1)
    refine ⟨small (by decide), fun t_2 n_t_2 => ?_⟩
    have k_2 : Kp [] G_1 (upd G_1 t_2 (.tup [.ref b, .ref l2])) := Kp.new n_t_2
    have e_2 : (upd G_1 t_2 (.tup [.ref b, .ref l2])) t_2 = some (.tup [.ref b, .ref l2]) := upd_same
    generalize upd G_1 t_2 (.tup [.ref b, .ref l2]) = G_2 at k_2 e_2 ⊢
    have c_2 := c_1.trans k_2
    have it_2 := q_1.kp k_2
    have q_2 := it_2.put e_2 (hb.kp c_2) (h2.kp c_2)
    refine ⟨small (by decide), fun z_3 n_z_3 => ?_⟩
    have k_3 : Kp [] G_2 (upd G_2 z_3 (.lst [])) := Kp.new n_z_3
    have e_3 : (upd G_2 z_3 (.lst [])) z_3 = some (.lst []) := upd_same
    generalize upd G_2 z_3 (.lst []) = G_3 at k_3 e_3 ⊢
    have c_3 := c_2.trans k_3
    have it_3 := q_2.kp k_3
    refine ⟨small (by decide), fun t_3 n_t_3 => ?_⟩
    have k_4 : Kp [] G_3 (upd G_3 t_3 (.tup [.ref n, .ref z_3])) := Kp.new n_t_3
    have e_4 : (upd G_3 t_3 (.tup [.ref n, .ref z_3])) t_3 = some (.tup [.ref n, .ref z_3]) := upd_same
    generalize upd G_3 t_3 (.tup [.ref n, .ref z_3]) = G_4 at k_4 e_4 ⊢
    have c_4 := c_3.trans k_4
    have it_4 := it_3.kp k_4
    have ze_4 := k_4 _ _ not0 e_3
    have q_3 := it_4.put e_4 (hn.kp c_4) (zeroL ze_4)
    refine bin_pr (ha.kp c_4) (hb.kp c_4) fun o_4 G_5 no_4 p_4 k_5 => ?_
    have c_5 := c_4.trans k_5
    have it_5 := q_3.kp k_5
    have w_4 : PrAt K PC G_5 o_4 (fun p => f p && g p) := p_4.same fun p _ => by cases f p <;> cases g p <;> rfl
    refine ⟨small (by decide), fun t_4 n_t_4 => ?_⟩
    have k_6 : Kp [] G_5 (upd G_5 t_4 (.tup [.ref o_4, .ref ls])) := Kp.new n_t_4
    have e_6 : (upd G_5 t_4 (.tup [.ref o_4, .ref ls])) t_4 = some (.tup [.ref o_4, .ref ls]) := upd_same
    generalize upd G_5 t_4 (.tup [.ref o_4, .ref ls]) = G_6 at k_6 e_6 ⊢
    have c_6 := c_5.trans k_6
    have it_6 := it_5.kp k_6
    have w_6 := w_4.kp k_6
    have q_4 := it_6.put e_6 w_6 (hs.kp c_6)
    refine bin_pr (hb.kp c_6) (ha.kp c_6) fun o_5 G_7 no_5 p_5 k_7 => ?_
    have c_7 := c_6.trans k_7
    have it_7 := q_4.kp k_7
    have w_5 : PrAt K PC G_7 o_5 (fun p => f p && g p) := p_5.same fun p _ => by cases f p <;> cases g p <;> rfl
    refine ⟨small (by decide), fun t_5 n_t_5 => ?_⟩
    have k_8 : Kp [] G_7 (upd G_7 t_5 (.tup [.ref o_5, .ref ls])) := Kp.new n_t_5
    have e_8 : (upd G_7 t_5 (.tup [.ref o_5, .ref ls])) t_5 = some (.tup [.ref o_5, .ref ls]) := upd_same
    generalize upd G_7 t_5 (.tup [.ref o_5, .ref ls]) = G_8 at k_8 e_8 ⊢
    have c_8 := c_7.trans k_8
    have it_8 := it_7.kp k_8
    have w_8 := w_5.kp k_8
    have q_5 := it_8.put e_8 w_8 (hs.kp c_8)
    refine bin_pr (ha.kp c_8) (hn.kp c_8) fun o_6 G_9 no_6 p_6 k_9 => ?_
    have c_9 := c_8.trans k_9
    have it_9 := q_5.kp k_9
    have w_6 : PrAt K PC G_9 o_6 (fun _ => false) := p_6.same fun p _ => by cases f p <;> cases g p <;> rfl
    refine ⟨small (by decide), fun z_6 n_z_6 => ?_⟩
    have k_10 : Kp [] G_9 (upd G_9 z_6 (.lst [])) := Kp.new n_z_6
    have e_10 : (upd G_9 z_6 (.lst [])) z_6 = some (.lst []) := upd_same
    generalize upd G_9 z_6 (.lst []) = G_10 at k_10 e_10 ⊢
    have c_10 := c_9.trans k_10
    have it_10 := it_9.kp k_10
    have w_10 := w_6.kp k_10
    refine ⟨small (by decide), fun t_6 n_t_6 => ?_⟩
    have k_11 : Kp [] G_10 (upd G_10 t_6 (.tup [.ref o_6, .ref z_6])) := Kp.new n_t_6
    have e_11 : (upd G_10 t_6 (.tup [.ref o_6, .ref z_6])) t_6 = some (.tup [.ref o_6, .ref z_6]) := upd_same
    generalize upd G_10 t_6 (.tup [.ref o_6, .ref z_6]) = G_11 at k_11 e_11 ⊢
    have c_11 := c_10.trans k_11
    have it_11 := it_10.kp k_11
    have w_11 := w_10.kp k_11
    have ze_11 := k_11 _ _ not0 e_10
    have q_6 := it_11.put e_11 w_11 (zeroL ze_11)
    refine bin_pr (ha.kp c_11) (hn.kp c_11) fun o_7 G_12 no_7 p_7 k_12 => ?_
    have c_12 := c_11.trans k_12
    have it_12 := q_6.kp k_12
    have w_7 : PrAt K PC G_12 o_7 f := p_7.same fun p _ => by cases f p <;> cases g p <;> rfl
    refine ⟨small (by decide), fun t_7 n_t_7 => ?_⟩
    have k_13 : Kp [] G_12 (upd G_12 t_7 (.tup [.ref o_7, .ref l1])) := Kp.new n_t_7
    have e_13 : (upd G_12 t_7 (.tup [.ref o_7, .ref l1])) t_7 = some (.tup [.ref o_7, .ref l1]) := upd_same
    generalize upd G_12 t_7 (.tup [.ref o_7, .ref l1]) = G_13 at k_13 e_13 ⊢
    have c_13 := c_12.trans k_13
    have it_13 := it_12.kp k_13
    have w_13 := w_7.kp k_13
    have q_7 := it_13.put e_13 w_13 (h1.kp c_13)
    refine ⟨small (by simp), fun L_0 n_L_0 => ?_⟩
    have k_14 : Kp [] G_13 (upd G_13 L_0 (.lst [.ref t_1, .ref t_2, .ref t_3, .ref t_4, .ref t_5, .ref t_6, .ref t_7])) := Kp.new n_L_0
    have e_14 : (upd G_13 L_0 (.lst [.ref t_1, .ref t_2, .ref t_3, .ref t_4, .ref t_5, .ref t_6, .ref t_7])) L_0 = some (.lst [.ref t_1, .ref t_2, .ref t_3, .ref t_4, .ref t_5, .ref t_6, .ref t_7]) := upd_same
    generalize upd G_13 L_0 (.lst [.ref t_1, .ref t_2, .ref t_3, .ref t_4, .ref t_5, .ref t_6, .ref t_7]) = G_14 at k_14 e_14 ⊢
    have c_14 := c_13.trans k_14
    have it_14 := q_7.kp k_14
    have j1 : Its K PC G_14 [] := fun v hv => nomatch hv
    refine bin_pr (ha.kp c_14) (hn.kp c_14) fun o_8 G_15 no_8 p_8 k_15 => ?_
    have c_15 := c_14.trans k_15
    have it_15 := j1.kp k_15
    have La_15 := k_15 _ _ not0 e_14
    have iv_15 := it_14.kp k_15
    have w_8 : PrAt K PC G_15 o_8 f := p_8.same fun p _ => by cases f p <;> cases g p <;> rfl
    refine ⟨small (by decide), fun t_8 n_t_8 => ?_⟩
    have k_16 : Kp [] G_15 (upd G_15 t_8 (.tup [.ref o_8, .ref l1])) := Kp.new n_t_8
    have e_16 : (upd G_15 t_8 (.tup [.ref o_8, .ref l1])) t_8 = some (.tup [.ref o_8, .ref l1]) := upd_same
    generalize upd G_15 t_8 (.tup [.ref o_8, .ref l1]) = G_16 at k_16 e_16 ⊢
    have c_16 := c_15.trans k_16
    have it_16 := it_15.kp k_16
    have La_16 := k_16 _ _ not0 La_15
    have iv_16 := iv_15.kp k_16
    have w_16 := w_8.kp k_16
    have q_8 := it_16.put e_16 w_16 (h1.kp c_16)
    refine bin_pr (ha.kp c_16) (hb.kp c_16) fun o_9 G_17 no_9 p_9 k_17 => ?_
    have c_17 := c_16.trans k_17
    have it_17 := q_8.kp k_17
    have La_17 := k_17 _ _ not0 La_16
    have iv_17 := iv_16.kp k_17
    have w_9 : PrAt K PC G_17 o_9 (fun p => f p || g p) := p_9.same fun p _ => by cases f p <;> cases g p <;> rfl
    refine ⟨small (by decide), fun t_9 n_t_9 => ?_⟩
    have k_18 : Kp [] G_17 (upd G_17 t_9 (.tup [.ref o_9, .ref le])) := Kp.new n_t_9
    have e_18 : (upd G_17 t_9 (.tup [.ref o_9, .ref le])) t_9 = some (.tup [.ref o_9, .ref le]) := upd_same
    generalize upd G_17 t_9 (.tup [.ref o_9, .ref le]) = G_18 at k_18 e_18 ⊢
    have c_18 := c_17.trans k_18
    have it_18 := it_17.kp k_18
    have La_18 := k_18 _ _ not0 La_17
    have iv_18 := iv_17.kp k_18
    have w_18 := w_9.kp k_18
    have q_9 := it_18.put e_18 w_18 (he.kp c_18)
    refine bin_pr (hn.kp c_18) (ha.kp c_18) fun o_10 G_19 no_10 p_10 k_19 => ?_
    have c_19 := c_18.trans k_19
    have it_19 := q_9.kp k_19
    have La_19 := k_19 _ _ not0 La_18
    have iv_19 := iv_18.kp k_19
    have w_10 : PrAt K PC G_19 o_10 (fun _ => false) := p_10.same fun p _ => by cases f p <;> cases g p <;> rfl
    refine ⟨small (by decide), fun z_10 n_z_10 => ?_⟩
    have k_20 : Kp [] G_19 (upd G_19 z_10 (.lst [])) := Kp.new n_z_10
    have e_20 : (upd G_19 z_10 (.lst [])) z_10 = some (.lst []) := upd_same
    generalize upd G_19 z_10 (.lst []) = G_20 at k_20 e_20 ⊢
    have c_20 := c_19.trans k_20
    have it_20 := it_19.kp k_20
    have La_20 := k_20 _ _ not0 La_19
    have iv_20 := iv_19.kp k_20
    have w_20 := w_10.kp k_20
    refine ⟨small (by decide), fun t_10 n_t_10 => ?_⟩
    have k_21 : Kp [] G_20 (upd G_20 t_10 (.tup [.ref o_10, .ref z_10])) := Kp.new n_t_10
    have e_21 : (upd G_20 t_10 (.tup [.ref o_10, .ref z_10])) t_10 = some (.tup [.ref o_10, .ref z_10]) := upd_same
    generalize upd G_20 t_10 (.tup [.ref o_10, .ref z_10]) = G_21 at k_21 e_21 ⊢
    have c_21 := c_20.trans k_21
    have it_21 := it_20.kp k_21
    have La_21 := k_21 _ _ not0 La_20
    have iv_21 := iv_20.kp k_21
    have w_21 := w_20.kp k_21
    have ze_21 := k_21 _ _ not0 e_20
    have q_10 := it_21.put e_21 w_21 (zeroL ze_21)
    refine bin_pr (ha.kp c_21) (ha.kp c_21) fun o_11 G_22 no_11 p_11 k_22 => ?_
    have c_22 := c_21.trans k_22
    have it_22 := q_10.kp k_22
    have La_22 := k_22 _ _ not0 La_21
    have iv_22 := iv_21.kp k_22
    have w_11 : PrAt K PC G_22 o_11 (fun _ => false) := p_11.same fun p _ => by cases f p <;> cases g p <;> rfl
    refine ⟨small (by decide), fun z_11 n_z_11 => ?_⟩
    have k_23 : Kp [] G_22 (upd G_22 z_11 (.lst [])) := Kp.new n_z_11
    have e_23 : (upd G_22 z_11 (.lst [])) z_11 = some (.lst []) := upd_same
    generalize upd G_22 z_11 (.lst []) = G_23 at k_23 e_23 ⊢
    have c_23 := c_22.trans k_23
    have it_23 := it_22.kp k_23
    have La_23 := k_23 _ _ not0 La_22
    have iv_23 := iv_22.kp k_23
    have w_23 := w_11.kp k_23
    refine ⟨small (by decide), fun t_11 n_t_11 => ?_⟩
    have k_24 : Kp [] G_23 (upd G_23 t_11 (.tup [.ref o_11, .ref z_11])) := Kp.new n_t_11
    have e_24 : (upd G_23 t_11 (.tup [.ref o_11, .ref z_11])) t_11 = some (.tup [.ref o_11, .ref z_11]) := upd_same
    generalize upd G_23 t_11 (.tup [.ref o_11, .ref z_11]) = G_24 at k_24 e_24 ⊢
    have c_24 := c_23.trans k_24
    have it_24 := it_23.kp k_24
    have La_24 := k_24 _ _ not0 La_23
    have iv_24 := iv_23.kp k_24
    have w_24 := w_23.kp k_24
    have ze_24 := k_24 _ _ not0 e_23
    have q_11 := it_24.put e_24 w_24 (zeroL ze_24)
    refine bin_pr (ha.kp c_24) (ha.kp c_24) fun o_12 G_25 no_12 p_12 k_25 => ?_
    have c_25 := c_24.trans k_25
    have it_25 := q_11.kp k_25
    have La_25 := k_25 _ _ not0 La_24
    have iv_25 := iv_24.kp k_25
    have w_12 : PrAt K PC G_25 o_12 f := p_12.same fun p _ => by cases f p <;> cases g p <;> rfl
    refine ⟨small (by decide), fun t_12 n_t_12 => ?_⟩
    have k_26 : Kp [] G_25 (upd G_25 t_12 (.tup [.ref o_12, .ref l1])) := Kp.new n_t_12
    have e_26 : (upd G_25 t_12 (.tup [.ref o_12, .ref l1])) t_12 = some (.tup [.ref o_12, .ref l1]) := upd_same
    generalize upd G_25 t_12 (.tup [.ref o_12, .ref l1]) = G_26 at k_26 e_26 ⊢
    have c_26 := c_25.trans k_26
    have it_26 := it_25.kp k_26
    have La_26 := k_26 _ _ not0 La_25
    have iv_26 := iv_25.kp k_26
    have w_26 := w_12.kp k_26
    have q_12 := it_26.put e_26 w_26 (h1.kp c_26)
    refine bin_pr (ha.kp c_26) (hb.kp c_26) fun o_13 G_27 no_13 p_13 k_27 => ?_
    have c_27 := c_26.trans k_27
    have it_27 := q_12.kp k_27
    have La_27 := k_27 _ _ not0 La_26
    have iv_27 := iv_26.kp k_27
    have w_13 : PrAt K PC G_27 o_13 (fun p => f p && !g p) := p_13.same fun p _ => by cases f p <;> cases g p <;> rfl
    refine ⟨small (by decide), fun t_13 n_t_13 => ?_⟩
    have k_28 : Kp [] G_27 (upd G_27 t_13 (.tup [.ref o_13, .ref ll])) := Kp.new n_t_13
    have e_28 : (upd G_27 t_13 (.tup [.ref o_13, .ref ll])) t_13 = some (.tup [.ref o_13, .ref ll]) := upd_same
    generalize upd G_27 t_13 (.tup [.ref o_13, .ref ll]) = G_28 at k_28 e_28 ⊢
    have c_28 := c_27.trans k_28
    have it_28 := it_27.kp k_28
    have La_28 := k_28 _ _ not0 La_27
    have iv_28 := iv_27.kp k_28
    have w_28 := w_13.kp k_28
    have q_13 := it_28.put e_28 w_28 (hll.kp c_28)
    refine ⟨small (by simp), fun L_1 n_L_1 => ?_⟩
    have k_29 : Kp [] G_28 (upd G_28 L_1 (.lst [.ref t_8, .ref t_9, .ref t_10, .ref t_11, .ref t_12, .ref t_13])) := Kp.new n_L_1
    have e_29 : (upd G_28 L_1 (.lst [.ref t_8, .ref t_9, .ref t_10, .ref t_11, .ref t_12, .ref t_13])) L_1 = some (.lst [.ref t_8, .ref t_9, .ref t_10, .ref t_11, .ref t_12, .ref t_13]) := upd_same
    generalize upd G_28 L_1 (.lst [.ref t_8, .ref t_9, .ref t_10, .ref t_11, .ref t_12, .ref t_13]) = G_29 at k_29 e_29 ⊢
    have c_29 := c_28.trans k_29
    have it_29 := q_13.kp k_29
    have La_29 := k_29 _ _ not0 La_28
    have iv_29 := iv_28.kp k_29
    refine ⟨_, La_29, _, e_29, small (by simp), fun M_1 n_M_1 => ?_⟩
    have k_30 : Kp [] G_29 (upd G_29 M_1 (.lst ([.ref t_1, .ref t_2, .ref t_3, .ref t_4, .ref t_5, .ref t_6, .ref t_7] ++ [.ref t_8, .ref t_9, .ref t_10, .ref t_11, .ref t_12, .ref t_13]))) := Kp.new n_M_1
    have e_30 : (upd G_29 M_1 (.lst ([.ref t_1, .ref t_2, .ref t_3, .ref t_4, .ref t_5, .ref t_6, .ref t_7] ++ [.ref t_8, .ref t_9, .ref t_10, .ref t_11, .ref t_12, .ref t_13]))) M_1 = some (.lst ([.ref t_1, .ref t_2, .ref t_3, .ref t_4, .ref t_5, .ref t_6, .ref t_7] ++ [.ref t_8, .ref t_9, .ref t_10, .ref t_11, .ref t_12, .ref t_13])) := upd_same
    generalize upd G_29 M_1 (.lst ([.ref t_1, .ref t_2, .ref t_3, .ref t_4, .ref t_5, .ref t_6, .ref t_7] ++ [.ref t_8, .ref t_9, .ref t_10, .ref t_11, .ref t_12, .ref t_13])) = G_30 at k_30 e_30 ⊢
    have c_30 := c_29.trans k_30
    have it_30 := it_29.kp k_30
    have iv_30 := iv_29.kp k_30
    have v1 : Its K PC G_30 ([.ref t_1, .ref t_2, .ref t_3, .ref t_4, .ref t_5, .ref t_6, .ref t_7] ++ [.ref t_8, .ref t_9, .ref t_10, .ref t_11, .ref t_12, .ref t_13]) := Its.app iv_30 it_30
    have j2 : Its K PC G_30 [] := fun v hv => nomatch hv
    refine bin_pr (hb.kp c_30) (ha.kp c_30) fun o_14 G_31 no_14 p_14 k_31 => ?_
    have c_31 := c_30.trans k_31
    have it_31 := j2.kp k_31
    have iv_31 := v1.kp k_31
    have La_31 := k_31 _ _ not0 e_30
    have w_14 : PrAt K PC G_31 o_14 (fun p => g p && !f p) := p_14.same fun p _ => by cases f p <;> cases g p <;> rfl
    refine ⟨small (by decide), fun t_14 n_t_14 => ?_⟩
    have k_32 : Kp [] G_31 (upd G_31 t_14 (.tup [.ref o_14, .ref lr])) := Kp.new n_t_14
    have e_32 : (upd G_31 t_14 (.tup [.ref o_14, .ref lr])) t_14 = some (.tup [.ref o_14, .ref lr]) := upd_same
    generalize upd G_31 t_14 (.tup [.ref o_14, .ref lr]) = G_32 at k_32 e_32 ⊢
    have c_32 := c_31.trans k_32
    have it_32 := it_31.kp k_32
    have iv_32 := iv_31.kp k_32
    have La_32 := k_32 _ _ not0 La_31
    have w_32 := w_14.kp k_32
    have q_14 := it_32.put e_32 w_32 (hlr.kp c_32)
    refine ⟨small (by decide), fun t_15 n_t_15 => ?_⟩
    have k_33 : Kp [] G_32 (upd G_32 t_15 (.tup [.ref a, .ref l1])) := Kp.new n_t_15
    have e_33 : (upd G_32 t_15 (.tup [.ref a, .ref l1])) t_15 = some (.tup [.ref a, .ref l1]) := upd_same
    generalize upd G_32 t_15 (.tup [.ref a, .ref l1]) = G_33 at k_33 e_33 ⊢
    have c_33 := c_32.trans k_33
    have it_33 := q_14.kp k_33
    have iv_33 := iv_32.kp k_33
    have La_33 := k_33 _ _ not0 La_32
    have q_15 := it_33.put e_33 (ha.kp c_33) (h1.kp c_33)
    refine ⟨small (by decide), fun t_16 n_t_16 => ?_⟩
    have k_34 : Kp [] G_33 (upd G_33 t_16 (.tup [.ref b, .ref l2])) := Kp.new n_t_16
    have e_34 : (upd G_33 t_16 (.tup [.ref b, .ref l2])) t_16 = some (.tup [.ref b, .ref l2]) := upd_same
    generalize upd G_33 t_16 (.tup [.ref b, .ref l2]) = G_34 at k_34 e_34 ⊢
    have c_34 := c_33.trans k_34
    have it_34 := q_15.kp k_34
    have iv_34 := iv_33.kp k_34
    have La_34 := k_34 _ _ not0 La_33
    have q_16 := it_34.put e_34 (hb.kp c_34) (h2.kp c_34)
    refine ⟨small (by decide), fun z_17 n_z_17 => ?_⟩
    have k_35 : Kp [] G_34 (upd G_34 z_17 (.lst [])) := Kp.new n_z_17
    have e_35 : (upd G_34 z_17 (.lst [])) z_17 = some (.lst []) := upd_same
    generalize upd G_34 z_17 (.lst []) = G_35 at k_35 e_35 ⊢
    have c_35 := c_34.trans k_35
    have it_35 := q_16.kp k_35
    have iv_35 := iv_34.kp k_35
    have La_35 := k_35 _ _ not0 La_34
    refine ⟨small (by decide), fun t_17 n_t_17 => ?_⟩
    have k_36 : Kp [] G_35 (upd G_35 t_17 (.tup [.ref n, .ref z_17])) := Kp.new n_t_17
    have e_36 : (upd G_35 t_17 (.tup [.ref n, .ref z_17])) t_17 = some (.tup [.ref n, .ref z_17]) := upd_same
    generalize upd G_35 t_17 (.tup [.ref n, .ref z_17]) = G_36 at k_36 e_36 ⊢
    have c_36 := c_35.trans k_36
    have it_36 := it_35.kp k_36
    have iv_36 := iv_35.kp k_36
    have La_36 := k_36 _ _ not0 La_35
    have ze_36 := k_36 _ _ not0 e_35
    have q_17 := it_36.put e_36 (hn.kp c_36) (zeroL ze_36)
    refine ⟨small (by simp), fun L_2 n_L_2 => ?_⟩
    have k_37 : Kp [] G_36 (upd G_36 L_2 (.lst [.ref t_14, .ref t_15, .ref t_16, .ref t_17])) := Kp.new n_L_2
    have e_37 : (upd G_36 L_2 (.lst [.ref t_14, .ref t_15, .ref t_16, .ref t_17])) L_2 = some (.lst [.ref t_14, .ref t_15, .ref t_16, .ref t_17]) := upd_same
    generalize upd G_36 L_2 (.lst [.ref t_14, .ref t_15, .ref t_16, .ref t_17]) = G_37 at k_37 e_37 ⊢
    have c_37 := c_36.trans k_37
    have it_37 := q_17.kp k_37
    have iv_37 := iv_36.kp k_37
    have La_37 := k_37 _ _ not0 La_36
    refine ⟨_, La_37, _, e_37, small (by simp), fun M_2 n_M_2 => ?_⟩
    have k_38 : Kp [] G_37 (upd G_37 M_2 (.lst (([.ref t_1, .ref t_2, .ref t_3, .ref t_4, .ref t_5, .ref t_6, .ref t_7] ++ [.ref t_8, .ref t_9, .ref t_10, .ref t_11, .ref t_12, .ref t_13]) ++ [.ref t_14, .ref t_15, .ref t_16, .ref t_17]))) := Kp.new n_M_2
    have e_38 : (upd G_37 M_2 (.lst (([.ref t_1, .ref t_2, .ref t_3, .ref t_4, .ref t_5, .ref t_6, .ref t_7] ++ [.ref t_8, .ref t_9, .ref t_10, .ref t_11, .ref t_12, .ref t_13]) ++ [.ref t_14, .ref t_15, .ref t_16, .ref t_17]))) M_2 = some (.lst (([.ref t_1, .ref t_2, .ref t_3, .ref t_4, .ref t_5, .ref t_6, .ref t_7] ++ [.ref t_8, .ref t_9, .ref t_10, .ref t_11, .ref t_12, .ref t_13]) ++ [.ref t_14, .ref t_15, .ref t_16, .ref t_17])) := upd_same
    generalize upd G_37 M_2 (.lst (([.ref t_1, .ref t_2, .ref t_3, .ref t_4, .ref t_5, .ref t_6, .ref t_7] ++ [.ref t_8, .ref t_9, .ref t_10, .ref t_11, .ref t_12, .ref t_13]) ++ [.ref t_14, .ref t_15, .ref t_16, .ref t_17])) = G_38 at k_38 e_38 ⊢
    have c_38 := c_37.trans k_38
    have it_38 := it_37.kp k_38
    have iv_38 := iv_37.kp k_38
    have v2 : Its K PC G_38 (([.ref t_1, .ref t_2, .ref t_3, .ref t_4, .ref t_5, .ref t_6, .ref t_7] ++ [.ref t_8, .ref t_9, .ref t_10, .ref t_11, .ref t_12, .ref t_13]) ++ [.ref t_14, .ref t_15, .ref t_16, .ref t_17]) := Its.app iv_38 it_38
    refine forL (K := K) (a := M_2) (xs := (([.ref t_1, .ref t_2, .ref t_3, .ref t_4, .ref t_5, .ref t_6, .ref t_7] ++ [.ref t_8, .ref t_9, .ref t_10, .ref t_11, .ref t_12, .ref t_13]) ++ [.ref t_14, .ref t_15, .ref t_16, .ref t_17])) (fun _ σ H' => ∃ c1 c2, σ = [some (.ref a), some (.ref b), some (.ref n), some (.ref l1), some (.ref l2), some (.ref r), some (.ref ls), none, some (.ref le), some (.ref ll), some (.ref lr), some (.ref M_2), c1, c2] ∧ Kp [] G_38 H') rfl (sq_l e_38) ⟨_, _, rfl, Kp.refl _ _⟩ (fun i σ H' _ h => by obtain ⟨_, _, _, k⟩ := h; exact sq_l (k _ _ not0 e_38)) ?_ ?_
    · rintro i x σ H5 hx ⟨c1, c2, rfl, k5⟩
      obtain ⟨t, o, l, u, rfl, ht, hp, hl⟩ := (v2.kp k5) x (List.mem_of_getElem? hx)
      try simp only [tSeq, tIfS, tTest, tOp, tUn, tCB, tCons, tNil, tVar, tC, rI0, rI, rU, rEq, rNe, tRet, tRetN, tAsg, gName, gSub, tBM, tBM0, tNext, tB, tNot, tAnd, tOr, tIf, tCall, tDrop, tBreak, tCont, L2.start, tDGet, sDPut, tTup, tLst, tDNewK, tRevL, rCat, rAppend, rPop, rSetL, tAndV, tOrV, tNotV, tSl, tPart, tNoPart, tM1, gTup, gCons, gNil, cxK, cxnK, List.map_cons, List.map_nil, List.length_cons, List.length_nil, List.replicate, List.cons_append, List.nil_append, List.append_nil, List.set_cons_zero, List.set_cons_succ, List.getElem?_cons_zero, List.getElem?_cons_succ, Option.some.injEq, V.ref.injEq, V.int.injEq, V.str.injEq, V.bl.injEq, V.ty.injEq, exists_eq_left', exists_eq_left, exists_and_left, List.cons.injEq, and_true, true_and, sc_ii, sc_ss, sc_bb, sc_ni, sc_in, sc_is, sc_si, sc_nn, decide_true, decide_false, reduceCtorEq, Bool.false_eq_true, if_true, if_false, ite_true, ite_false, exists_const, eq_self, false_and, and_false, or_false, false_or, exists_false, Evl.rLenS, rSum, wipe, tYes, exists_eq, exists_eq', rIxL, rIxT, rIxS, exists_and_right, gt_iff_lt, not_true_eq_false, not_false_eq_true, Bool.not_true, Bool.not_false, decide_eq_true_eq, Nat.reduceSub, Nat.reduceAdd, List.append_assoc, tChain, tDIn, tDNotIn, sDDel, tAug, ipI]
      refine ⟨_, sq_t ht, rfl, _, _, rfl, _, _, rfl, rfl, ?_⟩
      try simp only [tSeq, tIfS, tTest, tOp, tUn, tCB, tCons, tNil, tVar, tC, rI0, rI, rU, rEq, rNe, tRet, tRetN, tAsg, gName, gSub, tBM, tBM0, tNext, tB, tNot, tAnd, tOr, tIf, tCall, tDrop, tBreak, tCont, L2.start, tDGet, sDPut, tTup, tLst, tDNewK, tRevL, rCat, rAppend, rPop, rSetL, tAndV, tOrV, tNotV, tSl, tPart, tNoPart, tM1, gTup, gCons, gNil, cxK, cxnK, List.map_cons, List.map_nil, List.length_cons, List.length_nil, List.replicate, List.cons_append, List.nil_append, List.append_nil, List.set_cons_zero, List.set_cons_succ, List.getElem?_cons_zero, List.getElem?_cons_succ, Option.some.injEq, V.ref.injEq, V.int.injEq, V.str.injEq, V.bl.injEq, V.ty.injEq, exists_eq_left', exists_eq_left, exists_and_left, List.cons.injEq, and_true, true_and, sc_ii, sc_ss, sc_bb, sc_ni, sc_in, sc_is, sc_si, sc_nn, decide_true, decide_false, reduceCtorEq, Bool.false_eq_true, if_true, if_false, ite_true, ite_false, exists_const, eq_self, false_and, and_false, or_false, false_or, exists_false, Evl.rLenS, rSum, wipe, tYes, exists_eq, exists_eq', rIxL, rIxT, rIxS, exists_and_right, gt_iff_lt, not_true_eq_false, not_false_eq_true, Bool.not_true, Bool.not_false, decide_eq_true_eq, Nat.reduceSub, Nat.reduceAdd, List.append_assoc, tChain, tDIn, tDNotIn, sDDel, tAug, ipI]
      refine ⟨o, l, u, rfl, hp, hl.d, fun H6 k6 => ?_⟩
      try simp only [tSeq, tIfS, tTest, tOp, tUn, tCB, tCons, tNil, tVar, tC, rI0, rI, rU, rEq, rNe, tRet, tRetN, tAsg, gName, gSub, tBM, tBM0, tNext, tB, tNot, tAnd, tOr, tIf, tCall, tDrop, tBreak, tCont, L2.start, tDGet, sDPut, tTup, tLst, tDNewK, tRevL, rCat, rAppend, rPop, rSetL, tAndV, tOrV, tNotV, tSl, tPart, tNoPart, tM1, gTup, gCons, gNil, cxK, cxnK, List.map_cons, List.map_nil, List.length_cons, List.length_nil, List.replicate, List.cons_append, List.nil_append, List.append_nil, List.set_cons_zero, List.set_cons_succ, List.getElem?_cons_zero, List.getElem?_cons_succ, Option.some.injEq, V.ref.injEq, V.int.injEq, V.str.injEq, V.bl.injEq, V.ty.injEq, exists_eq_left', exists_eq_left, exists_and_left, List.cons.injEq, and_true, true_and, sc_ii, sc_ss, sc_bb, sc_ni, sc_in, sc_is, sc_si, sc_nn, decide_true, decide_false, reduceCtorEq, Bool.false_eq_true, if_true, if_false, ite_true, ite_false, exists_const, eq_self, false_and, and_false, or_false, false_or, exists_false, Evl.rLenS, rSum, wipe, tYes, exists_eq, exists_eq', rIxL, rIxT, rIxS, exists_and_right, gt_iff_lt, not_true_eq_false, not_false_eq_true, Bool.not_true, Bool.not_false, decide_eq_true_eq, Nat.reduceSub, Nat.reduceAdd, List.append_assoc, tChain, tDIn, tDNotIn, sDDel, tAug, ipI]
      exact k5.trans k6
    · rintro σ H5 ⟨c1, c2, rfl, k5⟩
      try simp only [tSeq, tIfS, tTest, tOp, tUn, tCB, tCons, tNil, tVar, tC, rI0, rI, rU, rEq, rNe, tRet, tRetN, tAsg, gName, gSub, tBM, tBM0, tNext, tB, tNot, tAnd, tOr, tIf, tCall, tDrop, tBreak, tCont, L2.start, tDGet, sDPut, tTup, tLst, tDNewK, tRevL, rCat, rAppend, rPop, rSetL, tAndV, tOrV, tNotV, tSl, tPart, tNoPart, tM1, gTup, gCons, gNil, cxK, cxnK, List.map_cons, List.map_nil, List.length_cons, List.length_nil, List.replicate, List.cons_append, List.nil_append, List.append_nil, List.set_cons_zero, List.set_cons_succ, List.getElem?_cons_zero, List.getElem?_cons_succ, Option.some.injEq, V.ref.injEq, V.int.injEq, V.str.injEq, V.bl.injEq, V.ty.injEq, exists_eq_left', exists_eq_left, exists_and_left, List.cons.injEq, and_true, true_and, sc_ii, sc_ss, sc_bb, sc_ni, sc_in, sc_is, sc_si, sc_nn, decide_true, decide_false, reduceCtorEq, Bool.false_eq_true, if_true, if_false, ite_true, ite_false, exists_const, eq_self, false_and, and_false, or_false, false_or, exists_false, Evl.rLenS, rSum, wipe, tYes, exists_eq, exists_eq', rIxL, rIxT, rIxS, exists_and_right, gt_iff_lt, not_true_eq_false, not_false_eq_true, Bool.not_true, Bool.not_false, decide_eq_true_eq, Nat.reduceSub, Nat.reduceAdd, List.append_assoc, tChain, tDIn, tDNotIn, sDDel, tAug, ipI]
      exact q _ ((k14.trans c_38).trans k5)
end
end My

set_option Elab.async false
set_option linter.all false
set_option maxRecDepth 100000
set_option maxHeartbeats 4000000
namespace My
open PySem L2 NdefX
section
variable {P : Program} {w : World} {K : PySem.W.Frag} {mg : Str → Option Value} {base : Heap}
def spWi (K : PySem.W.Frag) (PC : Addr) : Sp := fun vs H Q _ => ∃ (a b n l1 l2 ls : Addr) (f g : Pr → Bool), vs = [.ref a, .ref b, .ref n, .ref l1, .ref l2, .ref ls] ∧ PrAt K PC H a f ∧ PrAt K PC H b g ∧ PrAt K PC H n (fun _ => false) ∧ LsT K H l1 ((pairsL.filter f).map pD) ∧ LsT K H l2 ((pairsL.filter g).map pD) ∧ LsT K H ls ((pairsL.filter fun p => f p && g p).map pD) ∧ ∀ H', Kp [] H H' → Q (.bl true) H'
theorem within_sp {PC a b : Addr} {H : Hp} {f g : Pr → Bool} {Q : VK} (ha : PrAt K PC H a f) (hb : PrAt K PC H b g) (q : ∀ H', Kp [] H H' → Q (.bl ((pairsL.filter f).all g)) H') : spWithin K PC [.ref a, .ref b] H Q E0 := ⟨a, b, f, g, rfl, ha, hb, q⟩
theorem meth_pr {PC a b : Addr} {H : Hp} {σ : L2.St} {i j : Nat} {f g : Pr → Bool} {Q : VK} (hi : σ[i]? = some (some (.ref a))) (hj : σ[j]? = some (some (.ref b))) (ha : PrAt K PC H a f) (hb : PrAt K PC H b g) (q : ∀ H', Kp [] H H' → Q (.bl ((pairsL.filter f).all g)) H') :
    tMeth PC "within" (spWithin K PC) [] E0 (tVar i) (tCons (tVar j) tNil) σ H Q := by
  obtain ⟨dx, l, us, h1, _⟩ := id ha
  exact ⟨_, hi, a, dx, _, rfl, h1, rfl, _, hj, within_sp ha hb q⟩
theorem meth_prR {PC a b c : Addr} {H : Hp} {σ : L2.St} {i j k : Nat} {f g h : Pr → Bool} {op : Bool → Bool → Bool} {Q : VK} (hi : σ[i]? = some (some (.ref a))) (hj : σ[j]? = some (some (.ref b))) (hk : σ[k]? = some (some (.ref c))) (ha : PrAt K PC H a f) (hb : PrAt K PC H b g) (hc : PrAt K PC H c h)
    (q : ∀ H', Kp [] H H' → Q (.bl ((pairsL.filter fun p => op (f p) (g p)).all h)) H') : tMeth PC "within" (spWithin K PC) [] E0 (tOp (rBinO PC (spBin K PC op) E0) (tVar i) (tVar j)) (tCons (tVar k) tNil) σ H Q := by
  refine ⟨_, hi, _, hj, bin_pr ha hb fun o H2 no hp k2 => ?_⟩
  obtain ⟨dx, l, us, h1, _⟩ := id hp
  exact ⟨o, dx, _, rfl, h1, rfl, _, hk, within_sp hp (hc.kp k2) fun H3 k3 => q H3 (k2.trans k3)⟩
theorem meth_prG {PC a b c : Addr} {H : Hp} {σ : L2.St} {i j k : Nat} {f g h : Pr → Bool} {op : Bool → Bool → Bool} {Q : VK} (hi : σ[i]? = some (some (.ref a))) (hj : σ[j]? = some (some (.ref b))) (hk : σ[k]? = some (some (.ref c))) (ha : PrAt K PC H a f) (hb : PrAt K PC H b g) (hc : PrAt K PC H c h)
    (q : ∀ H', Kp [] H H' → Q (.bl ((pairsL.filter f).all fun p => op (g p) (h p))) H') : tMeth PC "within" (spWithin K PC) [] E0 (tVar i) (tCons (tOp (rBinO PC (spBin K PC op) E0) (tVar j) (tVar k)) tNil) σ H Q := by
  obtain ⟨dx, l, us, h1, _⟩ := id ha
  refine ⟨_, hi, a, dx, _, rfl, h1, rfl, _, hj, _, hk, bin_pr hb hc fun o H2 no hp k2 => ?_⟩
  exact within_sp (ha.kp k2) hp fun H3 k3 => q H3 (k2.trans k3)
theorem lsLen {H : Hp} {l : Addr} {ps : List Pr} (h : LsT K H l (ps.map pD)) : ∃ us, SqL K H l us ∧ us.length = ps.length := by
  obtain ⟨us, hu, hD⟩ := h
  exact ⟨us, sq_l hu, by rw [dpLen hD, List.length_map]⟩
/-- two truth values that are one -/
def Bs (H : Hp) (vs : List V) : Prop := ∀ v ∈ vs, ∃ (t : Addr) (x : Bool), v = .ref t ∧ H t = some (.tup [.bl x, .bl x])
theorem Bs.kp {H H' : Hp} {vs : List V} (h : Bs H vs) (k : Kp [] H H') : Bs H' vs := fun v hv => by
  obtain ⟨t, x, e, a⟩ := h v hv
  exact ⟨t, x, e, k _ _ not0 a⟩
theorem Bs.put {H : Hp} {vs : List V} {t : Addr} {x : Bool} (h : Bs H vs) (a : H t = some (.tup [.bl x, .bl x])) : Bs H (vs ++ [.ref t]) := fun v hv => by
  rcases List.mem_append.mp hv with hv | hv
  · exact h v hv
  · exact ⟨t, x, List.mem_singleton.mp hv, a⟩
theorem Bs.app {H : Hp} {vs us : List V} (a : Bs H vs) (b : Bs H us) : Bs H (vs ++ us) := fun v hv => (List.mem_append.mp hv).elim (a v) (b v)
theorem all_len {f g : Pr → Bool} (ps : List Pr) : (ps.filter f).all g = decide ((ps.filter fun p => f p && g p).length = (ps.filter f).length) := by
  have h : ∀ l : List Pr, l.all g = decide ((l.filter g).length = l.length) := by
    intro l
    by_cases e : ∀ x ∈ l, g x = true
    · rw [List.all_eq_true.mpr e, List.filter_eq_self.mpr e]; simp
    · have e1 : l.all g = false := Bool.eq_false_iff.mpr fun z => e (List.all_eq_true.mp z)
      rw [e1]
      refine (decide_eq_false fun z => e ?_).symm
      exact List.filter_eq_self.mp ((List.filter_sublist).eq_of_length z)
  rw [h, List.filter_filter, show (fun a => g a && f a) = fun p => f p && g p from funext fun p => Bool.and_comm _ _]
theorem ok_law_within {f : Addr} {fd : FuncData} (D : Df K mg "_law_within" s_law_within ["_law_a", "_law_b", "_law_none", "_law_one", "_law_two", "_law_same"] f fd) {PC fA fO fS fW : Addr} {fdA fdO fdW : FuncData} (T : BtM K mg PC fA fO fS fW)
    (b_Pairs_and : Binds K fdA ["self", "other"] []) (G_Pairs_and : FnOk P w K mg base CX0 5 fA fdA ["self", "other"] (spBin K PC (· && ·)))
    (b_Pairs_or : Binds K fdO ["self", "other"] []) (G_Pairs_or : FnOk P w K mg base CX0 5 fO fdO ["self", "other"] (spBin K PC (· || ·)))
    (bM_Pairs_within : Binds K fdW ["self", "other"] []) (G_Pairs_within : FnOk P w K mg base CX0 2 fW fdW ["self", "other"] (spWithin K PC))
    {fg : Addr} {fdg : FuncData} (D_law_says : Df K mg "_law_says" s_law_says ["_law_told", "_law_due"] fg fdg) (G_law_says : FnOk P w K mg base CX0 1 fg fdg ["_law_told", "_law_due"] spSays) : FnOk P w K mg base CX0 7 f fd ["_law_a", "_law_b", "_law_none", "_law_one", "_law_two", "_law_same"] (spWi K PC) := by
  refine D.F.ok sc_law_within (fun vs H Q E h => ?_) (fun cdv A outer s H vs Q E hr h => ?_)
  · obtain ⟨_, _, _, _, _, _, _, _, rfl, _⟩ := h
    rfl
  · obtain ⟨a, b, n, l1, l2, ls, f, g, rfl, ha, hb, hn, h1, h2, hs, q⟩ := h
    have BC_Pairs_and := T.BC_Pairs_and
    have BC_Pairs_or := T.BC_Pairs_or
    have ME_Pairs_within := T.ME_Pairs_within
    refine ⟨_, (pss_cons (ps_set (i := 6) sc_law_within.nd rfl (Or.inl rfl) (pe_lst (pa_cons (pe_tup (pa_cons (pe_meth (pv 0) T.cl_Pairs ME_Pairs_within G_Pairs_within (hr.mono (by decide)) bM_Pairs_within .nil pass0 (pa_cons (pv 1) pa_nil)) (pa_cons (pe_cmpR op_eq (pe_callB (id := "len") (r := Evl.rLenS K) call_len_seq (by rfl) T.b_len PySem.boot_len (pa_cons (pv 5) pa_nil)) (pe_callB (id := "len") (r := Evl.rLenS K) call_len_seq (by rfl) T.b_len PySem.boot_len (pa_cons (pv 3) pa_nil)) (nomark _)) pa_nil))) (pa_cons (pe_tup (pa_cons (pe_meth (pv 1) T.cl_Pairs ME_Pairs_within G_Pairs_within (hr.mono (by decide)) bM_Pairs_within .nil pass0 (pa_cons (pv 0) pa_nil)) (pa_cons (pe_cmpR op_eq (pe_callB (id := "len") (r := Evl.rLenS K) call_len_seq (by rfl) T.b_len PySem.boot_len (pa_cons (pv 5) pa_nil)) (pe_callB (id := "len") (r := Evl.rLenS K) call_len_seq (by rfl) T.b_len PySem.boot_len (pa_cons (pv 4) pa_nil)) (nomark _)) pa_nil))) (pa_cons (pe_tup (pa_cons (pe_meth (pv 0) T.cl_Pairs ME_Pairs_within G_Pairs_within (hr.mono (by decide)) bM_Pairs_within .nil pass0 (pa_cons (pv 0) pa_nil)) (pa_cons pe_bl pa_nil))) pa_nil)))))
      (pss_cons (ps_set (i := 6) sc_law_within.nd rfl (Or.inl rfl) (pe_op op_cat (pv 6) (pe_lst (pa_cons (pe_tup (pa_cons (pe_meth (pv 2) T.cl_Pairs ME_Pairs_within G_Pairs_within (hr.mono (by decide)) bM_Pairs_within .nil pass0 (pa_cons (pv 0) pa_nil)) (pa_cons pe_bl pa_nil))) (pa_cons (pe_tup (pa_cons (pe_meth (pv 0) T.cl_Pairs ME_Pairs_within G_Pairs_within (hr.mono (by decide)) bM_Pairs_within .nil pass0 (pa_cons (pv 2) pa_nil)) (pa_cons (pe_cmpR op_eq (pe_callB (id := "len") (r := Evl.rLenS K) call_len_seq (by rfl) T.b_len PySem.boot_len (pa_cons (pv 3) pa_nil)) pe_int (nomark _)) pa_nil))) (pa_cons (pe_tup (pa_cons (pe_meth (pe_op (op_binO BC_Pairs_and G_Pairs_and b_Pairs_and (hr.mono (by decide)) pass0) (pv 0) (pv 1)) T.cl_Pairs ME_Pairs_within G_Pairs_within (hr.mono (by decide)) bM_Pairs_within .nil pass0 (pa_cons (pv 1) pa_nil)) (pa_cons pe_bl pa_nil))) pa_nil))))))
      (pss_cons (ps_set (i := 6) sc_law_within.nd rfl (Or.inl rfl) (pe_op op_cat (pv 6) (pe_lst (pa_cons (pe_tup (pa_cons (pe_meth (pv 0) T.cl_Pairs ME_Pairs_within G_Pairs_within (hr.mono (by decide)) bM_Pairs_within .nil pass0 (pa_cons (pe_op (op_binO BC_Pairs_or G_Pairs_or b_Pairs_or (hr.mono (by decide)) pass0) (pv 0) (pv 1)) pa_nil)) (pa_cons pe_bl pa_nil))) (pa_cons (pe_tup (pa_cons (pe_meth (pv 1) T.cl_Pairs ME_Pairs_within G_Pairs_within (hr.mono (by decide)) bM_Pairs_within .nil pass0 (pa_cons (pe_op (op_binO BC_Pairs_or G_Pairs_or b_Pairs_or (hr.mono (by decide)) pass0) (pv 0) (pv 1)) pa_nil)) (pa_cons pe_bl pa_nil))) pa_nil)))))
      (pss_cons (ps_for PassesOwn.never rfl (pi_list (pv 6)) (pg_tup (n := 2) (by rfl) (pgs_cons (pg_name (i := 7) sc_law_within.nd rfl (Or.inl rfl)) (pgs_cons (pg_name (i := 8) sc_law_within.nd rfl (Or.inl rfl)) pgs_nil))) (pss_one (ps_if (pt_not (pt_val (pe_call G_law_says (hr.mono (by decide)) rfl D_law_says.g D_law_says.F.kp D_law_says.b .nil pass0 (pa_cons (pv 7) (pa_cons (pv 8) pa_nil))))) (pss_one (ps_ret pe_bl)) pss_nil)))
      (pss_one (ps_ret pe_bl)))))), ?_⟩
    have cast : ∀ m n : Nat, decide ((m : Int) = (n : Int)) = decide (m = n) := fun m n => decide_eq_decide.mpr Int.ofNat_inj
    have lenA : (pairsL.filter f).all g = decide ((((pairsL.filter fun p => f p && g p).length : Nat) : Int) = (((pairsL.filter f).length : Nat) : Int)) := by rw [cast]; exact all_len _
    have lenB : (pairsL.filter g).all f = decide ((((pairsL.filter fun p => f p && g p).length : Nat) : Int) = (((pairsL.filter g).length : Nat) : Int)) := by
      rw [cast, show (fun p => f p && g p) = fun p => g p && f p from funext fun p => Bool.and_comm _ _]; exact all_len _
    have lenN : ((pairsL.filter f).all fun _ => false) = decide ((((pairsL.filter f).length : Nat) : Int) = 0) := by
      cases pairsL.filter f with
      | nil => rfl
      | cons x r =>
        rw [List.all_cons, Bool.false_and]
        exact (decide_eq_false (by rw [List.length_cons]; omega)).symm
    have allF : ∀ (u v : Pr → Bool), (∀ p, u p = true → v p = true) → (pairsL.filter u).all v = true := fun u v h => List.all_eq_true.mpr fun p hp => h p (List.mem_filter.mp hp).2
    have allSelf := allF f f fun _ h => h
    have allNone := allF (fun _ => false) f fun _ h => by cases h
    have allAnd := allF (fun p => f p && g p) g fun p h => (Bool.and_eq_true_iff.mp h).2
    have allOr1 := allF f (fun p => f p || g p) fun p h => by rw [h]; rfl
    have allOr2 := allF g (fun p => f p || g p) fun p h => by rw [h]; exact Bool.or_true _
    try simp only [tSeq, tIfS, tTest, tOp, tUn, tCB, tCons, tNil, tVar, tC, rI0, rI, rU, rEq, rNe, tRet, tRetN, tAsg, gName, gSub, tBM, tBM0, tNext, tB, tNot, tAnd, tOr, tIf, tCall, tDrop, tBreak, tCont, L2.start, tDGet, sDPut, tTup, tLst, tDNewK, tRevL, rCat, rAppend, rPop, rSetL, tAndV, tOrV, tNotV, tSl, tPart, tNoPart, tM1, gTup, gCons, gNil, cxK, cxnK, List.map_cons, List.map_nil, List.length_cons, List.length_nil, List.replicate, List.cons_append, List.nil_append, List.append_nil, List.set_cons_zero, List.set_cons_succ, List.getElem?_cons_zero, List.getElem?_cons_succ, Option.some.injEq, V.ref.injEq, V.int.injEq, V.str.injEq, V.bl.injEq, V.ty.injEq, exists_eq_left', exists_eq_left, exists_and_left, List.cons.injEq, and_true, true_and, sc_ii, sc_ss, sc_bb, sc_ni, sc_in, sc_is, sc_si, sc_nn, decide_true, decide_false, reduceCtorEq, Bool.false_eq_true, if_true, if_false, ite_true, ite_false, exists_const, eq_self, false_and, and_false, or_false, false_or, exists_false, Evl.rLenS, rSum, wipe, tYes, exists_eq, exists_eq', rIxL, rIxT, rIxS, exists_and_right, gt_iff_lt, not_true_eq_false, not_false_eq_true, Bool.not_true, Bool.not_false, decide_eq_true_eq, Nat.reduceSub, Nat.reduceAdd, List.append_assoc, tChain, tDIn, tDNotIn, sDDel, tAug, ipI]
    have kc0 : Kp [] H H := Kp.refl _ _
    have j0 : Bs H [] := fun v hv => nomatch hv
    refine meth_pr rfl rfl (ha.kp kc0) (hb.kp kc0) fun G_1 k_1 => ?_
    have c_1 := kc0.trans k_1
    have it_1 := j0.kp k_1
    obtain ⟨u_1, hu_1, eu_1⟩ := lsLen (hs.kp c_1)
    obtain ⟨w_1, hw_1, ew_1⟩ := lsLen (h1.kp c_1)
    refine ⟨u_1, .inl hu_1, w_1, .inl hw_1, ?_⟩
    rw [eu_1, ew_1, ← lenA]
    refine ⟨small (by decide), fun t_1 n_t_1 => ?_⟩
    have k_2 : Kp [] G_1 (upd G_1 t_1 (.tup [.bl ((pairsL.filter f).all g), .bl ((pairsL.filter f).all g)])) := Kp.new n_t_1
    have e_2 : (upd G_1 t_1 (.tup [.bl ((pairsL.filter f).all g), .bl ((pairsL.filter f).all g)])) t_1 = some (.tup [.bl ((pairsL.filter f).all g), .bl ((pairsL.filter f).all g)]) := upd_same
    generalize upd G_1 t_1 (.tup [.bl ((pairsL.filter f).all g), .bl ((pairsL.filter f).all g)]) = G_2 at k_2 e_2 ⊢
    have c_2 := c_1.trans k_2
    have it_2 := it_1.kp k_2
    have q_1 := it_2.put e_2
    refine meth_pr rfl rfl (hb.kp c_2) (ha.kp c_2) fun G_3 k_3 => ?_
    have c_3 := c_2.trans k_3
    have it_3 := q_1.kp k_3
    obtain ⟨u_2, hu_2, eu_2⟩ := lsLen (hs.kp c_3)
    obtain ⟨w_2, hw_2, ew_2⟩ := lsLen (h2.kp c_3)
    refine ⟨u_2, .inl hu_2, w_2, .inl hw_2, ?_⟩
    rw [eu_2, ew_2, ← lenB]
    refine ⟨small (by decide), fun t_2 n_t_2 => ?_⟩
    have k_4 : Kp [] G_3 (upd G_3 t_2 (.tup [.bl ((pairsL.filter g).all f), .bl ((pairsL.filter g).all f)])) := Kp.new n_t_2
    have e_4 : (upd G_3 t_2 (.tup [.bl ((pairsL.filter g).all f), .bl ((pairsL.filter g).all f)])) t_2 = some (.tup [.bl ((pairsL.filter g).all f), .bl ((pairsL.filter g).all f)]) := upd_same
    generalize upd G_3 t_2 (.tup [.bl ((pairsL.filter g).all f), .bl ((pairsL.filter g).all f)]) = G_4 at k_4 e_4 ⊢
    have c_4 := c_3.trans k_4
    have it_4 := it_3.kp k_4
    have q_2 := it_4.put e_4
    refine meth_pr rfl rfl (ha.kp c_4) (ha.kp c_4) fun G_5 k_5 => ?_
    have c_5 := c_4.trans k_5
    have it_5 := q_2.kp k_5
    rw [allSelf]
    refine ⟨small (by decide), fun t_3 n_t_3 => ?_⟩
    have k_6 : Kp [] G_5 (upd G_5 t_3 (.tup [.bl true, .bl true])) := Kp.new n_t_3
    have e_6 : (upd G_5 t_3 (.tup [.bl true, .bl true])) t_3 = some (.tup [.bl true, .bl true]) := upd_same
    generalize upd G_5 t_3 (.tup [.bl true, .bl true]) = G_6 at k_6 e_6 ⊢
    have c_6 := c_5.trans k_6
    have it_6 := it_5.kp k_6
    have q_3 := it_6.put e_6
    refine ⟨small (by simp), fun L_0 n_L_0 => ?_⟩
    have k_7 : Kp [] G_6 (upd G_6 L_0 (.lst [.ref t_1, .ref t_2, .ref t_3])) := Kp.new n_L_0
    have e_7 : (upd G_6 L_0 (.lst [.ref t_1, .ref t_2, .ref t_3])) L_0 = some (.lst [.ref t_1, .ref t_2, .ref t_3]) := upd_same
    generalize upd G_6 L_0 (.lst [.ref t_1, .ref t_2, .ref t_3]) = G_7 at k_7 e_7 ⊢
    have c_7 := c_6.trans k_7
    have it_7 := q_3.kp k_7
    have j1 : Bs G_7 [] := fun v hv => nomatch hv
    refine meth_pr rfl rfl (hn.kp c_7) (ha.kp c_7) fun G_8 k_8 => ?_
    have c_8 := c_7.trans k_8
    have it_8 := j1.kp k_8
    have La_8 := k_8 _ _ not0 e_7
    have iv_8 := it_7.kp k_8
    rw [allNone]
    refine ⟨small (by decide), fun t_4 n_t_4 => ?_⟩
    have k_9 : Kp [] G_8 (upd G_8 t_4 (.tup [.bl true, .bl true])) := Kp.new n_t_4
    have e_9 : (upd G_8 t_4 (.tup [.bl true, .bl true])) t_4 = some (.tup [.bl true, .bl true]) := upd_same
    generalize upd G_8 t_4 (.tup [.bl true, .bl true]) = G_9 at k_9 e_9 ⊢
    have c_9 := c_8.trans k_9
    have it_9 := it_8.kp k_9
    have La_9 := k_9 _ _ not0 La_8
    have iv_9 := iv_8.kp k_9
    have q_4 := it_9.put e_9
    refine meth_pr rfl rfl (ha.kp c_9) (hn.kp c_9) fun G_10 k_10 => ?_
    have c_10 := c_9.trans k_10
    have it_10 := q_4.kp k_10
    have La_10 := k_10 _ _ not0 La_9
    have iv_10 := iv_9.kp k_10
    obtain ⟨u_5, hu_5, eu_5⟩ := lsLen (h1.kp c_10)
    refine ⟨u_5, .inl hu_5, ?_⟩
    rw [eu_5, ← lenN]
    refine ⟨small (by decide), fun t_5 n_t_5 => ?_⟩
    have k_11 : Kp [] G_10 (upd G_10 t_5 (.tup [.bl ((pairsL.filter f).all fun _ => false), .bl ((pairsL.filter f).all fun _ => false)])) := Kp.new n_t_5
    have e_11 : (upd G_10 t_5 (.tup [.bl ((pairsL.filter f).all fun _ => false), .bl ((pairsL.filter f).all fun _ => false)])) t_5 = some (.tup [.bl ((pairsL.filter f).all fun _ => false), .bl ((pairsL.filter f).all fun _ => false)]) := upd_same
    generalize upd G_10 t_5 (.tup [.bl ((pairsL.filter f).all fun _ => false), .bl ((pairsL.filter f).all fun _ => false)]) = G_11 at k_11 e_11 ⊢
    have c_11 := c_10.trans k_11
    have it_11 := it_10.kp k_11
    have La_11 := k_11 _ _ not0 La_10
    have iv_11 := iv_10.kp k_11
    have q_5 := it_11.put e_11
    refine meth_prR rfl rfl rfl (ha.kp c_11) (hb.kp c_11) (hb.kp c_11) fun G_12 k_12 => ?_
    have c_12 := c_11.trans k_12
    have it_12 := q_5.kp k_12
    have La_12 := k_12 _ _ not0 La_11
    have iv_12 := iv_11.kp k_12
    rw [allAnd]
    refine ⟨small (by decide), fun t_6 n_t_6 => ?_⟩
    have k_13 : Kp [] G_12 (upd G_12 t_6 (.tup [.bl true, .bl true])) := Kp.new n_t_6
    have e_13 : (upd G_12 t_6 (.tup [.bl true, .bl true])) t_6 = some (.tup [.bl true, .bl true]) := upd_same
    generalize upd G_12 t_6 (.tup [.bl true, .bl true]) = G_13 at k_13 e_13 ⊢
    have c_13 := c_12.trans k_13
    have it_13 := it_12.kp k_13
    have La_13 := k_13 _ _ not0 La_12
    have iv_13 := iv_12.kp k_13
    have q_6 := it_13.put e_13
    refine ⟨small (by simp), fun L_1 n_L_1 => ?_⟩
    have k_14 : Kp [] G_13 (upd G_13 L_1 (.lst [.ref t_4, .ref t_5, .ref t_6])) := Kp.new n_L_1
    have e_14 : (upd G_13 L_1 (.lst [.ref t_4, .ref t_5, .ref t_6])) L_1 = some (.lst [.ref t_4, .ref t_5, .ref t_6]) := upd_same
    generalize upd G_13 L_1 (.lst [.ref t_4, .ref t_5, .ref t_6]) = G_14 at k_14 e_14 ⊢
    have c_14 := c_13.trans k_14
    have it_14 := q_6.kp k_14
    have La_14 := k_14 _ _ not0 La_13
    have iv_14 := iv_13.kp k_14
    refine ⟨_, La_14, _, e_14, small (by simp), fun M_1 n_M_1 => ?_⟩
    have k_15 : Kp [] G_14 (upd G_14 M_1 (.lst ([.ref t_1, .ref t_2, .ref t_3] ++ [.ref t_4, .ref t_5, .ref t_6]))) := Kp.new n_M_1
    have e_15 : (upd G_14 M_1 (.lst ([.ref t_1, .ref t_2, .ref t_3] ++ [.ref t_4, .ref t_5, .ref t_6]))) M_1 = some (.lst ([.ref t_1, .ref t_2, .ref t_3] ++ [.ref t_4, .ref t_5, .ref t_6])) := upd_same
    generalize upd G_14 M_1 (.lst ([.ref t_1, .ref t_2, .ref t_3] ++ [.ref t_4, .ref t_5, .ref t_6])) = G_15 at k_15 e_15 ⊢
    have c_15 := c_14.trans k_15
    have it_15 := it_14.kp k_15
    have iv_15 := iv_14.kp k_15
    have v1 : Bs G_15 ([.ref t_1, .ref t_2, .ref t_3] ++ [.ref t_4, .ref t_5, .ref t_6]) := Bs.app iv_15 it_15
    have j2 : Bs G_15 [] := fun v hv => nomatch hv
    refine meth_prG rfl rfl rfl (ha.kp c_15) (ha.kp c_15) (hb.kp c_15) fun G_16 k_16 => ?_
    have c_16 := c_15.trans k_16
    have it_16 := j2.kp k_16
    have iv_16 := v1.kp k_16
    have La_16 := k_16 _ _ not0 e_15
    rw [allOr1]
    refine ⟨small (by decide), fun t_7 n_t_7 => ?_⟩
    have k_17 : Kp [] G_16 (upd G_16 t_7 (.tup [.bl true, .bl true])) := Kp.new n_t_7
    have e_17 : (upd G_16 t_7 (.tup [.bl true, .bl true])) t_7 = some (.tup [.bl true, .bl true]) := upd_same
    generalize upd G_16 t_7 (.tup [.bl true, .bl true]) = G_17 at k_17 e_17 ⊢
    have c_17 := c_16.trans k_17
    have it_17 := it_16.kp k_17
    have iv_17 := iv_16.kp k_17
    have La_17 := k_17 _ _ not0 La_16
    have q_7 := it_17.put e_17
    refine meth_prG rfl rfl rfl (hb.kp c_17) (ha.kp c_17) (hb.kp c_17) fun G_18 k_18 => ?_
    have c_18 := c_17.trans k_18
    have it_18 := q_7.kp k_18
    have iv_18 := iv_17.kp k_18
    have La_18 := k_18 _ _ not0 La_17
    rw [allOr2]
    refine ⟨small (by decide), fun t_8 n_t_8 => ?_⟩
    have k_19 : Kp [] G_18 (upd G_18 t_8 (.tup [.bl true, .bl true])) := Kp.new n_t_8
    have e_19 : (upd G_18 t_8 (.tup [.bl true, .bl true])) t_8 = some (.tup [.bl true, .bl true]) := upd_same
    generalize upd G_18 t_8 (.tup [.bl true, .bl true]) = G_19 at k_19 e_19 ⊢
    have c_19 := c_18.trans k_19
    have it_19 := it_18.kp k_19
    have iv_19 := iv_18.kp k_19
    have La_19 := k_19 _ _ not0 La_18
    have q_8 := it_19.put e_19
    refine ⟨small (by simp), fun L_2 n_L_2 => ?_⟩
    have k_20 : Kp [] G_19 (upd G_19 L_2 (.lst [.ref t_7, .ref t_8])) := Kp.new n_L_2
    have e_20 : (upd G_19 L_2 (.lst [.ref t_7, .ref t_8])) L_2 = some (.lst [.ref t_7, .ref t_8]) := upd_same
    generalize upd G_19 L_2 (.lst [.ref t_7, .ref t_8]) = G_20 at k_20 e_20 ⊢
    have c_20 := c_19.trans k_20
    have it_20 := q_8.kp k_20
    have iv_20 := iv_19.kp k_20
    have La_20 := k_20 _ _ not0 La_19
    refine ⟨_, La_20, _, e_20, small (by simp), fun M_2 n_M_2 => ?_⟩
    have k_21 : Kp [] G_20 (upd G_20 M_2 (.lst (([.ref t_1, .ref t_2, .ref t_3] ++ [.ref t_4, .ref t_5, .ref t_6]) ++ [.ref t_7, .ref t_8]))) := Kp.new n_M_2
    have e_21 : (upd G_20 M_2 (.lst (([.ref t_1, .ref t_2, .ref t_3] ++ [.ref t_4, .ref t_5, .ref t_6]) ++ [.ref t_7, .ref t_8]))) M_2 = some (.lst (([.ref t_1, .ref t_2, .ref t_3] ++ [.ref t_4, .ref t_5, .ref t_6]) ++ [.ref t_7, .ref t_8])) := upd_same
    generalize upd G_20 M_2 (.lst (([.ref t_1, .ref t_2, .ref t_3] ++ [.ref t_4, .ref t_5, .ref t_6]) ++ [.ref t_7, .ref t_8])) = G_21 at k_21 e_21 ⊢
    have c_21 := c_20.trans k_21
    have it_21 := it_20.kp k_21
    have iv_21 := iv_20.kp k_21
    have v2 : Bs G_21 (([.ref t_1, .ref t_2, .ref t_3] ++ [.ref t_4, .ref t_5, .ref t_6]) ++ [.ref t_7, .ref t_8]) := Bs.app iv_21 it_21
    refine forL (K := K) (a := M_2) (xs := (([.ref t_1, .ref t_2, .ref t_3] ++ [.ref t_4, .ref t_5, .ref t_6]) ++ [.ref t_7, .ref t_8])) (fun _ σ H' => ∃ c1 c2, σ = [some (.ref a), some (.ref b), some (.ref n), some (.ref l1), some (.ref l2), some (.ref ls), some (.ref M_2), c1, c2] ∧ Kp [] G_21 H') rfl (sq_l e_21) ⟨_, _, rfl, Kp.refl _ _⟩ (fun i σ H' _ h => by obtain ⟨_, _, _, k⟩ := h; exact sq_l (k _ _ not0 e_21)) ?_ ?_
    · rintro i x σ H5 hx ⟨c1, c2, rfl, k5⟩
      obtain ⟨t, y, rfl, ht⟩ := (v2.kp k5) x (List.mem_of_getElem? hx)
      try simp only [tSeq, tIfS, tTest, tOp, tUn, tCB, tCons, tNil, tVar, tC, rI0, rI, rU, rEq, rNe, tRet, tRetN, tAsg, gName, gSub, tBM, tBM0, tNext, tB, tNot, tAnd, tOr, tIf, tCall, tDrop, tBreak, tCont, L2.start, tDGet, sDPut, tTup, tLst, tDNewK, tRevL, rCat, rAppend, rPop, rSetL, tAndV, tOrV, tNotV, tSl, tPart, tNoPart, tM1, gTup, gCons, gNil, cxK, cxnK, List.map_cons, List.map_nil, List.length_cons, List.length_nil, List.replicate, List.cons_append, List.nil_append, List.append_nil, List.set_cons_zero, List.set_cons_succ, List.getElem?_cons_zero, List.getElem?_cons_succ, Option.some.injEq, V.ref.injEq, V.int.injEq, V.str.injEq, V.bl.injEq, V.ty.injEq, exists_eq_left', exists_eq_left, exists_and_left, List.cons.injEq, and_true, true_and, sc_ii, sc_ss, sc_bb, sc_ni, sc_in, sc_is, sc_si, sc_nn, decide_true, decide_false, reduceCtorEq, Bool.false_eq_true, if_true, if_false, ite_true, ite_false, exists_const, eq_self, false_and, and_false, or_false, false_or, exists_false, Evl.rLenS, rSum, wipe, tYes, exists_eq, exists_eq', rIxL, rIxT, rIxS, exists_and_right, gt_iff_lt, not_true_eq_false, not_false_eq_true, Bool.not_true, Bool.not_false, decide_eq_true_eq, Nat.reduceSub, Nat.reduceAdd, List.append_assoc, tChain, tDIn, tDNotIn, sDDel, tAug, ipI]
      refine ⟨_, sq_t ht, rfl, _, _, rfl, _, _, rfl, rfl, ?_⟩
      try simp only [tSeq, tIfS, tTest, tOp, tUn, tCB, tCons, tNil, tVar, tC, rI0, rI, rU, rEq, rNe, tRet, tRetN, tAsg, gName, gSub, tBM, tBM0, tNext, tB, tNot, tAnd, tOr, tIf, tCall, tDrop, tBreak, tCont, L2.start, tDGet, sDPut, tTup, tLst, tDNewK, tRevL, rCat, rAppend, rPop, rSetL, tAndV, tOrV, tNotV, tSl, tPart, tNoPart, tM1, gTup, gCons, gNil, cxK, cxnK, List.map_cons, List.map_nil, List.length_cons, List.length_nil, List.replicate, List.cons_append, List.nil_append, List.append_nil, List.set_cons_zero, List.set_cons_succ, List.getElem?_cons_zero, List.getElem?_cons_succ, Option.some.injEq, V.ref.injEq, V.int.injEq, V.str.injEq, V.bl.injEq, V.ty.injEq, exists_eq_left', exists_eq_left, exists_and_left, List.cons.injEq, and_true, true_and, sc_ii, sc_ss, sc_bb, sc_ni, sc_in, sc_is, sc_si, sc_nn, decide_true, decide_false, reduceCtorEq, Bool.false_eq_true, if_true, if_false, ite_true, ite_false, exists_const, eq_self, false_and, and_false, or_false, false_or, exists_false, Evl.rLenS, rSum, wipe, tYes, exists_eq, exists_eq', rIxL, rIxT, rIxS, exists_and_right, gt_iff_lt, not_true_eq_false, not_false_eq_true, Bool.not_true, Bool.not_false, decide_eq_true_eq, Nat.reduceSub, Nat.reduceAdd, List.append_assoc, tChain, tDIn, tDNotIn, sDDel, tAug, ipI]
      refine ⟨y, y, rfl, _, rfl, ?_⟩
      rw [decide_eq_true rfl]
      try simp only [tSeq, tIfS, tTest, tOp, tUn, tCB, tCons, tNil, tVar, tC, rI0, rI, rU, rEq, rNe, tRet, tRetN, tAsg, gName, gSub, tBM, tBM0, tNext, tB, tNot, tAnd, tOr, tIf, tCall, tDrop, tBreak, tCont, L2.start, tDGet, sDPut, tTup, tLst, tDNewK, tRevL, rCat, rAppend, rPop, rSetL, tAndV, tOrV, tNotV, tSl, tPart, tNoPart, tM1, gTup, gCons, gNil, cxK, cxnK, List.map_cons, List.map_nil, List.length_cons, List.length_nil, List.replicate, List.cons_append, List.nil_append, List.append_nil, List.set_cons_zero, List.set_cons_succ, List.getElem?_cons_zero, List.getElem?_cons_succ, Option.some.injEq, V.ref.injEq, V.int.injEq, V.str.injEq, V.bl.injEq, V.ty.injEq, exists_eq_left', exists_eq_left, exists_and_left, List.cons.injEq, and_true, true_and, sc_ii, sc_ss, sc_bb, sc_ni, sc_in, sc_is, sc_si, sc_nn, decide_true, decide_false, reduceCtorEq, Bool.false_eq_true, if_true, if_false, ite_true, ite_false, exists_const, eq_self, false_and, and_false, or_false, false_or, exists_false, Evl.rLenS, rSum, wipe, tYes, exists_eq, exists_eq', rIxL, rIxT, rIxS, exists_and_right, gt_iff_lt, not_true_eq_false, not_false_eq_true, Bool.not_true, Bool.not_false, decide_eq_true_eq, Nat.reduceSub, Nat.reduceAdd, List.append_assoc, tChain, tDIn, tDNotIn, sDDel, tAug, ipI]
      exact k5
    · rintro σ H5 ⟨c1, c2, rfl, k5⟩
      try simp only [tSeq, tIfS, tTest, tOp, tUn, tCB, tCons, tNil, tVar, tC, rI0, rI, rU, rEq, rNe, tRet, tRetN, tAsg, gName, gSub, tBM, tBM0, tNext, tB, tNot, tAnd, tOr, tIf, tCall, tDrop, tBreak, tCont, L2.start, tDGet, sDPut, tTup, tLst, tDNewK, tRevL, rCat, rAppend, rPop, rSetL, tAndV, tOrV, tNotV, tSl, tPart, tNoPart, tM1, gTup, gCons, gNil, cxK, cxnK, List.map_cons, List.map_nil, List.length_cons, List.length_nil, List.replicate, List.cons_append, List.nil_append, List.append_nil, List.set_cons_zero, List.set_cons_succ, List.getElem?_cons_zero, List.getElem?_cons_succ, Option.some.injEq, V.ref.injEq, V.int.injEq, V.str.injEq, V.bl.injEq, V.ty.injEq, exists_eq_left', exists_eq_left, exists_and_left, List.cons.injEq, and_true, true_and, sc_ii, sc_ss, sc_bb, sc_ni, sc_in, sc_is, sc_si, sc_nn, decide_true, decide_false, reduceCtorEq, Bool.false_eq_true, if_true, if_false, ite_true, ite_false, exists_const, eq_self, false_and, and_false, or_false, false_or, exists_false, Evl.rLenS, rSum, wipe, tYes, exists_eq, exists_eq', rIxL, rIxT, rIxS, exists_and_right, gt_iff_lt, not_true_eq_false, not_false_eq_true, Bool.not_true, Bool.not_false, decide_eq_true_eq, Nat.reduceSub, Nat.reduceAdd, List.append_assoc, tChain, tDIn, tDNotIn, sDDel, tAug, ipI]
      exact q _ (c_21.trans k5)
end
end My

set_option Elab.async false
set_option linter.all false
set_option maxRecDepth 100000
set_option maxHeartbeats 8000000
namespace My
open PySem L2 NdefX
abbrev s_law : Stmt := top 24
theorem sc_law : FnScope ["_law_script", "_law_row", "_law_k", "_law_rows", "_law_first", "_law_second", "_law_one", "_law_pair", "_law_two", "_law_same", "_law_handed", "_law_a", "_law_b", "_law_none", "_law_firsts", "_law_seconds", "_law_due", "_law_spoilt_here", "_law_bad"] ["_law_script"] (defScope s_law) := ⟨rfl, rfl, rfl, by decide +kernel, rfl, by decide +kernel, by decide +kernel⟩
def spLaw (K : PySem.W.Frag) : Sp := fun vs H Q _ => ∃ (a : Addr) (ns : List Int), vs = [.ref a] ∧ SqL K H a (ns.map V.int) ∧ ns.length ≤ 63 ∧ ∀ H', Q (.bl true) H'
def RowInv (d : Addr) (H : Hp) (i : Nat) (H' : Hp) : Prop := ∃ ms : List Int, H' d = some (.lst (ms.map V.int)) ∧ ms.length = i ∧ (∀ m ∈ ms, 0 ≤ m) ∧ Kp [] H H'
theorem eqvT {ps : List Pr} (h : ∀ p ∈ ps, p ∈ pairsL) : PyData.eqv (.tuple (ps.map pD)) (.tuple (ps.map pD)) = true := SeqAt.eqv_refl _ (SeqAt.canLay_of_shaped (shapedL (fitsP h)).2)
/-- the written tuples of texts -/
def TupK (K : PySem.W.Frag) (T : Addr) (zs : List Str) : Prop := ∀ H, SqT K H T (zs.map V.str)
structure BtL (K : PySem.W.Frag) (mg : Str → Option Value) (PC fI T_PAIRS T_KINDS T_READS T_WRITES pP fB : Addr) : Prop extends Bt0 mg where
  c_PAIRS : mg "PAIRS" = some (.ref T_PAIRS)
  c_KINDS : mg "KINDS" = some (.ref T_KINDS)
  c_READS : mg "READS" = some (.ref T_READS)
  c_WRITES : mg "WRITES" = some (.ref T_WRITES)
  pk : PairsK K T_PAIRS
  tk : TupK K T_KINDS ["read", "acquire", "write", "release", "both"]
  tr : TupK K T_READS ["read", "acquire"]
  tw : TupK K T_WRITES ["write", "release"]
  k_Pairs : mg "Pairs" = some (.ref PC)
  M_Pairs : Mk K PC fI
  ST_Pairs_between : StaC K PC (.type "type") "between" pP fB
section
variable {P : Program} {w : World} {K : PySem.W.Frag} {mg : Str → Option Value} {base : Heap}
theorem make_prG {PC BP : Addr} {H : Hp} {t : TA} {σ : L2.St} {ds : List PyData} {Q : VK} (ht : ∀ R : List V → Hp → Prop, (∀ D ws H', SqAny K H' D ws → DpAll K H' ws ds → Kp [] H H' → R [.ref D] H') → t σ H R) (fit : ∀ d ∈ ds, Fit d) (hl : ds.length ≤ 1000) (all : ∀ d ∈ ds, isP d = true)
    (q : ∀ o l H', H o = none → H l = none → PrL K PC H' o l (pick ds) → Kp [] H H' → Q (.ref o) H') : tMake PC (spPI K PC BP) [] E0 t σ H Q :=
  ht _ fun D ws H1 hD hd k => pr_makeL hD hd fit hl all fun o l H' no nl hp hk => q o l H' (k.free0 no) (k.free0 nl) hp (k.trans hk)
theorem make_pr0 {PC BP de : Addr} {H : Hp} {σ : L2.St} {Q : VK} (hde : ∀ H, SqT K H de []) (q : ∀ o H', H o = none → PrAt K PC H' o (fun _ => false) → Kp [] H H' → Q (.ref o) H') : tMake PC (spPI K PC BP) [.ref de] E0 tNil σ H Q :=
  pr_makeL (PC := PC) (BP := BP) (D := de) (ws := []) (ds := []) (.inr (hde _)) .nil (fun _ h => nomatch h) (by decide) (fun _ h => nomatch h) fun o l H' no nl hp hk => q o H' no (hp.at.same fun _ _ => rfl) hk
theorem ok_law {f : Addr} {fd : FuncData} (D : Df K mg "law" s_law ["_law_script"] f fd) {PC BP fI fB pP T_PAIRS T_KINDS T_READS T_WRITES : Addr} {fdI fdB : FuncData} (T : BtL K mg PC fI T_PAIRS T_KINDS T_READS T_WRITES pP fB) {de : Addr} {hdes : List Value}
    (bI_Pairs : Binds K fdI ["self", "pairs"] []) (bD_Pairs : Binds K fdI ["self", "pairs"] hdes) (hd_Pairs : Vals [.ref de] hdes) (hde : ∀ H, SqT K H de [])
    (G_Pairs_init : FnOk P w K mg base (L2.CX P w) 3 fI fdI ["self", "pairs"] (spPI K PC BP))
    (b_Pairs_between : Binds K fdB ["firsts", "seconds"] []) (G_Pairs_between : FnOk P w K mg base CX0 5 fB fdB ["firsts", "seconds"] (spBetween K PC))
    {f1 : Addr} {fd1 : FuncData} (D_law_draw : Df K mg "_law_draw" s_law_draw ["_law_script", "_law_k"] f1 fd1) (G_law_draw : FnOk P w K mg base CX0 2 f1 fd1 ["_law_script", "_law_k"] (spDrawK K))
    {f2 : Addr} {fd2 : FuncData} (D_law_pairs : Df K mg "_law_pairs" s_law_pairs [] f2 fd2) (G_law_pairs : FnOk P w K mg base CX0 1 f2 fd2 [] (spPairs K))
    {f3 : Addr} {fd3 : FuncData} (D_law_items : Df K mg "_law_items" s_law_items ["_law_number"] f3 fd3) (G_law_items : FnOk P w K mg base CX0 2 f3 fd3 ["_law_number"] (spItems K))
    {f4 : Addr} {fd4 : FuncData} (D_law_made : Df K mg "_law_made" s_law_made ["_law_a", "_law_b", "_law_none", "_law_one", "_law_two", "_law_rows"] f4 fd4) (G_law_made : FnOk P w K mg base CX0 7 f4 fd4 ["_law_a", "_law_b", "_law_none", "_law_one", "_law_two", "_law_rows"] (spMade K PC))
    {f5 : Addr} {fd5 : FuncData} (D_law_within : Df K mg "_law_within" s_law_within ["_law_a", "_law_b", "_law_none", "_law_one", "_law_two", "_law_same"] f5 fd5) (G_law_within : FnOk P w K mg base CX0 7 f5 fd5 ["_law_a", "_law_b", "_law_none", "_law_one", "_law_two", "_law_same"] (spWi K PC))
    {f6 : Addr} {fd6 : FuncData} (D_law_words : Df K mg "_law_words" s_law_words ["_law_number"] f6 fd6) (G_law_words : FnOk P w K mg base CX0 1 f6 fd6 ["_law_number"] spWords)
    {f7 : Addr} {fd7 : FuncData} (D_law_is_set : Df K mg "_law_is_set" s_law_is_set ["_law_told", "_law_due"] f7 fd7) (G_law_is_set : FnOk P w K mg base CX0 6 f7 fd7 ["_law_told", "_law_due"] (spIsSet K PC))
    {f8 : Addr} {fd8 : FuncData} (D_law_spoilt : Df K mg "_law_spoilt" s_law_spoilt ["_law_items_here", "_law_number"] f8 fd8) (G_law_spoilt : FnOk P w K mg base CX0 2 f8 fd8 ["_law_items_here", "_law_number"] (spSpoilt K))
    {f9 : Addr} {fd9 : FuncData} (D_law_first_bad : Df K mg "_law_first_bad" s_law_first_bad ["_law_items_here"] f9 fd9) (G_law_first_bad : FnOk P w K mg base CX0 2 f9 fd9 ["_law_items_here"] (spFirst K))
    {f10 : Addr} {fd10 : FuncData} (D_law_refusal : Df K mg "_law_refusal" s_law_refusal ["_law_items_here"] f10 fd10) (G_law_refusal : FnOk P w K mg base CX0 5 f10 fd10 ["_law_items_here"] (spRef K)) :
    FnOk P w K mg base CX0 8 f fd ["_law_script"] (spLaw K) := by
  refine D.F.ok sc_law (fun vs H Q E h => ?_) (fun cdv A outer s H vs Q E hr h => ?_)
  · obtain ⟨a, ns, rfl, _⟩ := h
    rfl
  · obtain ⟨a, ns, rfl, hS, hl, q⟩ := h
    have M_Pairs := T.M_Pairs
    have ST_Pairs_between := T.ST_Pairs_between
    refine ⟨_, (pss_cons (ps_setLc (i := 1) (own := [("_law_k", 2)]) (g := (gName 2)) (tt := tYes) rfl sc_law.nd rfl rfl (sw_true rfl rfl rfl (by decide +kernel)) (pi_range1 rfl T.b_range (pa_cons pe_int pa_nil)) (blkOk_by (N := ["_law_script", "_law_row", "_law_k", "_law_rows", "_law_first", "_law_second", "_law_one", "_law_pair", "_law_two", "_law_same", "_law_handed", "_law_a", "_law_b", "_law_none", "_law_firsts", "_law_seconds", "_law_due", "_law_spoilt_here", "_law_bad"]) (sc := defScope s_law) (by decide +kernel)) (fun _ _ _ _ _ => (pg_name (i := 2) sc_law.nd rfl (Or.inl rfl))) (fun _ _ _ _ _ => pts_nil) (fun _ _ _ _ _ => (pe_call G_law_draw (hr.mono (by decide)) rfl D_law_draw.g D_law_draw.F.kp D_law_draw.b .nil pass0 (pa_cons (pv 0) (pa_cons (pv 2) pa_nil)))))
      (pss_cons (ps_set (i := 3) sc_law.nd rfl (Or.inl rfl) (pe_call0 G_law_pairs (hr.mono (by decide)) rfl D_law_pairs.g D_law_pairs.F.kp D_law_pairs.b .nil pass0))
      (pss_cons (ps_if (PW.pt (pw_or (pt_cmpR (op_neD hr.units) (pe_glob (v := .ref T_PAIRS) rfl T.c_PAIRS rfl) (pe_callTy call_tuple_of (by rfl) T.b_tuple (by decide +kernel) (pa_cons (pv 3) pa_nil)) (nomark _)) (pw_or1 (pt_cmpR (op_neD hr.units) (pe_glob (v := .ref T_KINDS) rfl T.c_KINDS rfl) (pe_tup (pa_cons pe_str (pa_cons pe_str (pa_cons pe_str (pa_cons pe_str (pa_cons pe_str pa_nil)))))) (nomark _))))) (pss_one (ps_ret pe_bl)) pss_nil)
      (pss_cons (ps_if (PW.pt (pw_or (pt_cmpR (op_neD hr.units) (pe_glob (v := .ref T_READS) rfl T.c_READS rfl) (pe_tup (pa_cons pe_str (pa_cons pe_str pa_nil))) (nomark _)) (pw_or1 (pt_cmpR (op_neD hr.units) (pe_glob (v := .ref T_WRITES) rfl T.c_WRITES rfl) (pe_tup (pa_cons pe_str (pa_cons pe_str pa_nil))) (nomark _))))) (pss_one (ps_ret pe_bl)) pss_nil)
      (pss_cons (ps_set (i := 4) sc_law.nd rfl (Or.inr rfl) (pe_call G_law_items (hr.mono (by decide)) rfl D_law_items.g D_law_items.F.kp D_law_items.b .nil pass0 (pa_cons (pe_ix (r := rIxL K) ix_list (pv 1) pe_int (fun _ _ => rfl)) pa_nil)))
      (pss_cons (ps_set (i := 5) sc_law.nd rfl (Or.inr rfl) (pe_call G_law_items (hr.mono (by decide)) rfl D_law_items.g D_law_items.F.kp D_law_items.b .nil pass0 (pa_cons (pe_ix (r := rIxL K) ix_list (pv 1) pe_int (fun _ _ => rfl)) pa_nil)))
      (pss_cons (ps_setLc (i := 6) (own := [("_law_pair", 7)]) (g := (gName 7)) rfl sc_law.nd rfl rfl (sw_true rfl rfl rfl (by decide +kernel)) (pi_list (pv 3)) (blkOk_by (N := ["_law_script", "_law_row", "_law_k", "_law_rows", "_law_first", "_law_second", "_law_one", "_law_pair", "_law_two", "_law_same", "_law_handed", "_law_a", "_law_b", "_law_none", "_law_firsts", "_law_seconds", "_law_due", "_law_spoilt_here", "_law_bad"]) (sc := defScope s_law) (by decide +kernel)) (fun _ _ _ _ _ => (pg_name (i := 7) sc_law.nd rfl (Or.inl rfl))) (fun _ _ _ _ _ => (pts_one (pt_cmpR (r := rInD K) (op_inD (hu5 hr)) (pv 7) (pv 4) (by rfl)))) (fun _ _ _ _ _ => (pv 7)))
      (pss_cons (ps_set (i := 8) sc_law.nd rfl (Or.inr rfl) (pe_lc (own := [("_law_pair", 7)]) (g := (gName 7)) rfl sc_law.nd (pi_list (pv 3)) (blkOk_by (N := ["_law_script", "_law_row", "_law_k", "_law_rows", "_law_first", "_law_second", "_law_one", "_law_pair", "_law_two", "_law_same", "_law_handed", "_law_a", "_law_b", "_law_none", "_law_firsts", "_law_seconds", "_law_due", "_law_spoilt_here", "_law_bad"]) (sc := defScope s_law) (by decide +kernel)) (fun _ _ _ _ _ => (pg_name (i := 7) sc_law.nd rfl (Or.inl rfl))) (fun _ _ _ _ _ => (pts_one (pt_cmpR (r := rInD K) (op_inD (hu5 hr)) (pv 7) (pv 5) (by rfl)))) (fun _ _ _ _ _ => (pv 7))))
      (pss_cons (ps_setLc (i := 9) (own := [("_law_pair", 7)]) (g := (gName 7)) rfl sc_law.nd rfl rfl (sw_true rfl rfl rfl (by decide +kernel)) (pi_list (pv 6)) (blkOk_by (N := ["_law_script", "_law_row", "_law_k", "_law_rows", "_law_first", "_law_second", "_law_one", "_law_pair", "_law_two", "_law_same", "_law_handed", "_law_a", "_law_b", "_law_none", "_law_firsts", "_law_seconds", "_law_due", "_law_spoilt_here", "_law_bad"]) (sc := defScope s_law) (by decide +kernel)) (fun _ _ _ _ _ => (pg_name (i := 7) sc_law.nd rfl (Or.inl rfl))) (fun _ _ _ _ _ => (pts_one (pt_cmpR (r := rInD K) (op_inD (hu5 hr)) (pv 7) (pv 8) (by rfl)))) (fun _ _ _ _ _ => (pv 7)))
      (pss_cons (ps_set (i := 10) sc_law.nd rfl (Or.inl rfl) (pe_callTy call_list_of (by rfl) T.b_list (by decide +kernel) (pa_cons (pv 4) pa_nil)))
      (pss_cons (ps_set (i := 11) sc_law.nd rfl (Or.inl rfl) (pe_make M_Pairs G_Pairs_init (hr.mono (by decide)) rfl T.k_Pairs bI_Pairs .nil passL (pa_cons (pv 10) pa_nil)))
      (pss_cons (ps_if (pt_cmpR (op_neD hr.units) (pv 10) (pv 4) (nomark _)) (pss_one (ps_ret pe_bl)) pss_nil)
      (pss_cons (ps_expr (pe_bm0 PySem.F.plainAttrs_list PySem.F.slot_list_reverse PySem.F.type_list_reverse mt_reverse (pv 10)))
      (pss_cons (ps_expr (pe_bm PySem.F.plainAttrs_list PySem.F.slot_list_append PySem.F.type_list_append mt_append (pv 10) (pa_cons (pe_ix (r := rIxL K) ix_list (pv 3) (pe_op op_mod (pe_callTy (T := "int") call_int1 (by rfl) T.b_int (by decide +kernel) (pa_cons (pe_ix (r := rIxL K) ix_list (pv 1) pe_int (fun _ _ => rfl)) pa_nil)) pe_int) (fun _ _ => rfl)) pa_nil)))
      (pss_cons (ps_set (i := 12) sc_law.nd rfl (Or.inl rfl) (pe_make M_Pairs G_Pairs_init (hr.mono (by decide)) rfl T.k_Pairs bI_Pairs .nil passL (pa_cons (pe_callTy call_tuple_of (by rfl) T.b_tuple (by decide +kernel) (pa_cons (pv 5) pa_nil)) pa_nil)))
      (pss_cons (ps_set (i := 13) sc_law.nd rfl (Or.inl rfl) (pe_make0 M_Pairs G_Pairs_init (hr.mono (by decide)) rfl T.k_Pairs bD_Pairs hd_Pairs passL))
      (pss_cons (ps_if (PW.pt (pw_or (pt_not (pt_val (pe_call G_law_made (hr.mono (by decide)) rfl D_law_made.g D_law_made.F.kp D_law_made.b .nil pass0 (pa_cons (pv 11) (pa_cons (pv 12) (pa_cons (pv 13) (pa_cons (pv 6) (pa_cons (pv 8) (pa_cons (pv 3) pa_nil))))))))) (pw_or1 (pt_not (pt_val (pe_call G_law_within (hr.mono (by decide)) rfl D_law_within.g D_law_within.F.kp D_law_within.b .nil pass0 (pa_cons (pv 11) (pa_cons (pv 12) (pa_cons (pv 13) (pa_cons (pv 6) (pa_cons (pv 8) (pa_cons (pv 9) pa_nil)))))))))))) (pss_one (ps_ret pe_bl)) pss_nil)
      (pss_cons (ps_set (i := 14) sc_law.nd rfl (Or.inr rfl) (pe_call G_law_words (hr.mono (by decide)) rfl D_law_words.g D_law_words.F.kp D_law_words.b .nil pass0 (pa_cons (pe_ix (r := rIxL K) ix_list (pv 1) pe_int (fun _ _ => rfl)) pa_nil)))
      (pss_cons (ps_set (i := 15) sc_law.nd rfl (Or.inr rfl) (pe_call G_law_words (hr.mono (by decide)) rfl D_law_words.g D_law_words.F.kp D_law_words.b .nil pass0 (pa_cons (pe_ix (r := rIxL K) ix_list (pv 1) pe_int (fun _ _ => rfl)) pa_nil)))
      (pss_cons (ps_setLc (i := 16) (own := [("_law_pair", 7)]) (g := (gName 7)) rfl sc_law.nd rfl rfl (sw_true rfl rfl rfl (by decide +kernel)) (pi_list (pv 3)) (blkOk_by (N := ["_law_script", "_law_row", "_law_k", "_law_rows", "_law_first", "_law_second", "_law_one", "_law_pair", "_law_two", "_law_same", "_law_handed", "_law_a", "_law_b", "_law_none", "_law_firsts", "_law_seconds", "_law_due", "_law_spoilt_here", "_law_bad"]) (sc := defScope s_law) (by decide +kernel)) (fun _ _ _ _ _ => (pg_name (i := 7) sc_law.nd rfl (Or.inl rfl))) (fun _ _ _ _ _ => (pts_one (PW.pt (pw_and (pt_cmpR (r := rIn K false) op_in_seq (pe_ix (r := rIxT K) ix_tup (pv 7) pe_int (fun _ _ => rfl)) (pv 14) (by rfl)) (pw_and1 (pt_cmpR (r := rIn K false) op_in_seq (pe_ix (r := rIxT K) ix_tup (pv 7) pe_int (fun _ _ => rfl)) (pv 15) (by rfl))))))) (fun _ _ _ _ _ => (pv 7)))
      (pss_cons (ps_if (pt_not (pt_val (pe_call G_law_is_set (hr.mono (by decide)) rfl D_law_is_set.g D_law_is_set.F.kp D_law_is_set.b .nil pass0 (pa_cons (pe_sta (pe_glob (v := .ref PC) rfl T.k_Pairs rfl) ST_Pairs_between G_Pairs_between (hr.mono (by decide)) b_Pairs_between .nil pass0 (pa_cons (pv 14) (pa_cons (pv 15) pa_nil))) (pa_cons (pv 16) pa_nil))))) (pss_one (ps_ret pe_bl)) pss_nil)
      (pss_cons (ps_set (i := 17) sc_law.nd rfl (Or.inl rfl) (pe_call G_law_spoilt (hr.mono (by decide)) rfl D_law_spoilt.g D_law_spoilt.F.kp D_law_spoilt.b .nil pass0 (pa_cons (pv 4) (pa_cons (pe_ix (r := rIxL K) ix_list (pv 1) pe_int (fun _ _ => rfl)) pa_nil))))
      (pss_cons (ps_set (i := 18) sc_law.nd rfl (Or.inl rfl) (pe_call G_law_first_bad (hr.mono (by decide)) rfl D_law_first_bad.g D_law_first_bad.F.kp D_law_first_bad.b .nil pass0 (pa_cons (pv 17) pa_nil)))
      (pss_cons (ps_if (PW.pt (pw_or (pt_cmpR (op_neD hr.units) (pe_call G_law_refusal (hr.mono (by decide)) rfl D_law_refusal.g D_law_refusal.F.kp D_law_refusal.b .nil pass0 (pa_cons (pe_callTy call_list_of (by rfl) T.b_list (by decide +kernel) (pa_cons (pv 17) pa_nil)) pa_nil)) (pv 18) (nomark _)) (pw_or1 (pt_cmpR (op_neD hr.units) (pe_call G_law_refusal (hr.mono (by decide)) rfl D_law_refusal.g D_law_refusal.F.kp D_law_refusal.b .nil pass0 (pa_cons (pe_callTy call_tuple_of (by rfl) T.b_tuple (by decide +kernel) (pa_cons (pv 17) pa_nil)) pa_nil)) (pv 18) (nomark _))))) (pss_one (ps_ret pe_bl)) pss_nil)
      (pss_one (ps_ret (pe_call G_law_is_set (hr.mono (by decide)) rfl D_law_is_set.g D_law_is_set.F.kp D_law_is_set.b .nil pass0 (pa_cons (pe_make M_Pairs G_Pairs_init (hr.mono (by decide)) rfl T.k_Pairs bI_Pairs .nil passL (pa_cons (pe_callTy call_list_of (by rfl) T.b_list (by decide +kernel) (pa_cons (pv 4) pa_nil)) pa_nil)) (pa_cons (pv 6) pa_nil))))))))))))))))))))))))))))), ?_⟩
    try simp only [tSeq, tIfS, tTest, tOp, tUn, tCB, tCons, tNil, tVar, tC, rI0, rI, rU, rEq, rNe, tRet, tRetN, tAsg, gName, gSub, tBM, tBM0, tNext, tB, tNot, tAnd, tOr, tIf, tCall, tDrop, tBreak, tCont, L2.start, tDGet, sDPut, tTup, tLst, tDNewK, tRevL, rCat, rAppend, rPop, rSetL, tAndV, tOrV, tNotV, tSl, tPart, tNoPart, tM1, gTup, gCons, gNil, cxK, cxnK, List.map_cons, List.map_nil, List.length_cons, List.length_nil, List.replicate, List.cons_append, List.nil_append, List.append_nil, List.set_cons_zero, List.set_cons_succ, List.getElem?_cons_zero, List.getElem?_cons_succ, Option.some.injEq, V.ref.injEq, V.int.injEq, V.str.injEq, V.bl.injEq, V.ty.injEq, exists_eq_left', exists_eq_left, exists_and_left, List.cons.injEq, and_true, true_and, sc_ii, sc_ss, sc_bb, sc_ni, sc_in, sc_is, sc_si, sc_nn, decide_true, decide_false, reduceCtorEq, Bool.false_eq_true, if_true, if_false, ite_true, ite_false, exists_const, eq_self, false_and, and_false, or_false, false_or, exists_false, Evl.rLenS, rSum, wipe, tYes, exists_eq, exists_eq', rIxL, rIxT, rIxS, exists_and_right, gt_iff_lt, not_true_eq_false, not_false_eq_true, Bool.not_true, Bool.not_false, decide_eq_true_eq, Nat.reduceSub, Nat.reduceAdd, List.append_assoc, tChain, tDIn, tDNotIn, sDDel, tAug, ipI]
    have ok27 : ∀ p ∈ pairsL, p ∈ pairsL := fun p h => h
    have shPT : SeqAt.shaped (.tuple (pairsL.map pD)) = true := (shapedL (fitsP ok27)).2
    refine ⟨6, rfl, by decide, by decide, fun dr ndr => lc_range (lo := 0) (n := 6) (RowInv dr H) ⟨[], upd_same, rfl, (fun _ h => nomatch h), Kp.new ndr⟩ ?_ ?_⟩
    · rintro i H1 hi ⟨ms, h1, h2, h3, k1⟩
      try simp only [tSeq, tIfS, tTest, tOp, tUn, tCB, tCons, tNil, tVar, tC, rI0, rI, rU, rEq, rNe, tRet, tRetN, tAsg, gName, gSub, tBM, tBM0, tNext, tB, tNot, tAnd, tOr, tIf, tCall, tDrop, tBreak, tCont, L2.start, tDGet, sDPut, tTup, tLst, tDNewK, tRevL, rCat, rAppend, rPop, rSetL, tAndV, tOrV, tNotV, tSl, tPart, tNoPart, tM1, gTup, gCons, gNil, cxK, cxnK, List.map_cons, List.map_nil, List.length_cons, List.length_nil, List.replicate, List.cons_append, List.nil_append, List.append_nil, List.set_cons_zero, List.set_cons_succ, List.getElem?_cons_zero, List.getElem?_cons_succ, Option.some.injEq, V.ref.injEq, V.int.injEq, V.str.injEq, V.bl.injEq, V.ty.injEq, exists_eq_left', exists_eq_left, exists_and_left, List.cons.injEq, and_true, true_and, sc_ii, sc_ss, sc_bb, sc_ni, sc_in, sc_is, sc_si, sc_nn, decide_true, decide_false, reduceCtorEq, Bool.false_eq_true, if_true, if_false, ite_true, ite_false, exists_const, eq_self, false_and, and_false, or_false, false_or, exists_false, Evl.rLenS, rSum, wipe, tYes, exists_eq, exists_eq', rIxL, rIxT, rIxS, exists_and_right, gt_iff_lt, not_true_eq_false, not_false_eq_true, Bool.not_true, Bool.not_false, decide_eq_true_eq, Nat.reduceSub, Nat.reduceAdd, List.append_assoc, tChain, tDIn, tDNotIn, sDDel, tAug, ipI]
      refine ⟨a, _, ns, rfl, ⟨k1.ls not0 hS, hl⟩, by omega, fun n H2 n0 k2 => ?_⟩
      refine ⟨_, k2 _ _ not0 h1, smallL (by rw [List.length_map]; omega), ms ++ [n], ?_, by rw [List.length_append, h2]; rfl, ?_, (k1.trans k2).wr ndr⟩
      · rw [upd_same, List.map_append]; rfl
      · intro m hm
        rcases List.mem_append.mp hm with hm | hm
        · exact h3 m hm
        · rw [List.mem_singleton.mp hm]; exact n0
    rintro H1 ⟨ms, hrow, hml, hms, k1⟩
    obtain ⟨m0, m1, m2, m3, m4, m5, rfl⟩ : ∃ a b c d e f, ms = [a, b, c, d, e, f] := by
      match ms, hml with
      | [a, b, c, d, e, f], _ => exact ⟨a, b, c, d, e, f, rfl⟩
    simp only [List.map_cons, List.map_nil] at hrow
    try simp only [tSeq, tIfS, tTest, tOp, tUn, tCB, tCons, tNil, tVar, tC, rI0, rI, rU, rEq, rNe, tRet, tRetN, tAsg, gName, gSub, tBM, tBM0, tNext, tB, tNot, tAnd, tOr, tIf, tCall, tDrop, tBreak, tCont, L2.start, tDGet, sDPut, tTup, tLst, tDNewK, tRevL, rCat, rAppend, rPop, rSetL, tAndV, tOrV, tNotV, tSl, tPart, tNoPart, tM1, gTup, gCons, gNil, cxK, cxnK, List.map_cons, List.map_nil, List.length_cons, List.length_nil, List.replicate, List.cons_append, List.nil_append, List.append_nil, List.set_cons_zero, List.set_cons_succ, List.getElem?_cons_zero, List.getElem?_cons_succ, Option.some.injEq, V.ref.injEq, V.int.injEq, V.str.injEq, V.bl.injEq, V.ty.injEq, exists_eq_left', exists_eq_left, exists_and_left, List.cons.injEq, and_true, true_and, sc_ii, sc_ss, sc_bb, sc_ni, sc_in, sc_is, sc_si, sc_nn, decide_true, decide_false, reduceCtorEq, Bool.false_eq_true, if_true, if_false, ite_true, ite_false, exists_const, eq_self, false_and, and_false, or_false, false_or, exists_false, Evl.rLenS, rSum, wipe, tYes, exists_eq, exists_eq', rIxL, rIxT, rIxS, exists_and_right, gt_iff_lt, not_true_eq_false, not_false_eq_true, Bool.not_true, Bool.not_false, decide_eq_true_eq, Nat.reduceSub, Nat.reduceAdd, List.append_assoc, tChain, tDIn, tDNotIn, sDDel, tAug, ipI]
    refine ⟨rfl, fun r wr H2 nr hr2 hwr k2 => ?_⟩
    refine ⟨r, rfl, wr, .inl ⟨sq_l hr2, fun t1 nt1 => ?_⟩⟩
    have j1 : Kp [] H2 (upd H2 t1 (.tup wr)) := Kp.new nt1
    obtain ⟨zs, hz⟩ := T.pk
    refine ⟨_, _, .tup (hz _).1 (hz _).2, .tup (sq_t upd_same) (dpAllN j1 noSq0 hwr), shPT, shPT, ?_⟩
    rw [eqvT ok27]
    generalize upd H2 t1 (.tup wr) = G1 at j1 ⊢
    try simp only [tSeq, tIfS, tTest, tOp, tUn, tCB, tCons, tNil, tVar, tC, rI0, rI, rU, rEq, rNe, tRet, tRetN, tAsg, gName, gSub, tBM, tBM0, tNext, tB, tNot, tAnd, tOr, tIf, tCall, tDrop, tBreak, tCont, L2.start, tDGet, sDPut, tTup, tLst, tDNewK, tRevL, rCat, rAppend, rPop, rSetL, tAndV, tOrV, tNotV, tSl, tPart, tNoPart, tM1, gTup, gCons, gNil, cxK, cxnK, List.map_cons, List.map_nil, List.length_cons, List.length_nil, List.replicate, List.cons_append, List.nil_append, List.append_nil, List.set_cons_zero, List.set_cons_succ, List.getElem?_cons_zero, List.getElem?_cons_succ, Option.some.injEq, V.ref.injEq, V.int.injEq, V.str.injEq, V.bl.injEq, V.ty.injEq, exists_eq_left', exists_eq_left, exists_and_left, List.cons.injEq, and_true, true_and, sc_ii, sc_ss, sc_bb, sc_ni, sc_in, sc_is, sc_si, sc_nn, decide_true, decide_false, reduceCtorEq, Bool.false_eq_true, if_true, if_false, ite_true, ite_false, exists_const, eq_self, false_and, and_false, or_false, false_or, exists_false, Evl.rLenS, rSum, wipe, tYes, exists_eq, exists_eq', rIxL, rIxT, rIxS, exists_and_right, gt_iff_lt, not_true_eq_false, not_false_eq_true, Bool.not_true, Bool.not_false, decide_eq_true_eq, Nat.reduceSub, Nat.reduceAdd, List.append_assoc, tChain, tDIn, tDNotIn, sDDel, tAug, ipI]
    have str : ∀ {G : Hp} {t : Addr} {ys : List Str} {TT : Addr}, TupK K TT ys → G t = some (.tup (ys.map V.str)) → Dp K G (.ref TT) (.tuple (ys.map PyData.str)) ∧ Dp K G (.ref t) (.tuple (ys.map PyData.str)) := fun h e => ⟨.tup (h _) (dpStrs _), .tup (sq_t e) (dpStrs _)⟩
    refine ⟨small (by decide), fun t2 nt2 => ?_⟩
    have s1 := str T.tk (upd_same : (upd G1 t2 (.tup [.str "read", .str "acquire", .str "write", .str "release", .str "both"])) t2 = _)
    have j2 : Kp [] G1 (upd G1 t2 (.tup [.str "read", .str "acquire", .str "write", .str "release", .str "both"])) := Kp.new nt2
    refine ⟨_, _, s1.1, s1.2, by decide +kernel, by decide +kernel, ?_⟩
    rw [SeqAt.eqv_refl _ (by decide +kernel)]
    generalize upd G1 t2 (.tup [.str "read", .str "acquire", .str "write", .str "release", .str "both"]) = G2 at j2 ⊢
    clear s1
    try simp only [tSeq, tIfS, tTest, tOp, tUn, tCB, tCons, tNil, tVar, tC, rI0, rI, rU, rEq, rNe, tRet, tRetN, tAsg, gName, gSub, tBM, tBM0, tNext, tB, tNot, tAnd, tOr, tIf, tCall, tDrop, tBreak, tCont, L2.start, tDGet, sDPut, tTup, tLst, tDNewK, tRevL, rCat, rAppend, rPop, rSetL, tAndV, tOrV, tNotV, tSl, tPart, tNoPart, tM1, gTup, gCons, gNil, cxK, cxnK, List.map_cons, List.map_nil, List.length_cons, List.length_nil, List.replicate, List.cons_append, List.nil_append, List.append_nil, List.set_cons_zero, List.set_cons_succ, List.getElem?_cons_zero, List.getElem?_cons_succ, Option.some.injEq, V.ref.injEq, V.int.injEq, V.str.injEq, V.bl.injEq, V.ty.injEq, exists_eq_left', exists_eq_left, exists_and_left, List.cons.injEq, and_true, true_and, sc_ii, sc_ss, sc_bb, sc_ni, sc_in, sc_is, sc_si, sc_nn, decide_true, decide_false, reduceCtorEq, Bool.false_eq_true, if_true, if_false, ite_true, ite_false, exists_const, eq_self, false_and, and_false, or_false, false_or, exists_false, Evl.rLenS, rSum, wipe, tYes, exists_eq, exists_eq', rIxL, rIxT, rIxS, exists_and_right, gt_iff_lt, not_true_eq_false, not_false_eq_true, Bool.not_true, Bool.not_false, decide_eq_true_eq, Nat.reduceSub, Nat.reduceAdd, List.append_assoc, tChain, tDIn, tDNotIn, sDDel, tAug, ipI]
    refine ⟨small (by decide), fun t3 nt3 => ?_⟩
    have s1 := str T.tr (upd_same : (upd G2 t3 (.tup [.str "read", .str "acquire"])) t3 = _)
    have j3 : Kp [] G2 (upd G2 t3 (.tup [.str "read", .str "acquire"])) := Kp.new nt3
    refine ⟨_, _, s1.1, s1.2, by decide +kernel, by decide +kernel, ?_⟩
    rw [SeqAt.eqv_refl _ (by decide +kernel)]
    generalize upd G2 t3 (.tup [.str "read", .str "acquire"]) = G3 at j3 ⊢
    clear s1
    try simp only [tSeq, tIfS, tTest, tOp, tUn, tCB, tCons, tNil, tVar, tC, rI0, rI, rU, rEq, rNe, tRet, tRetN, tAsg, gName, gSub, tBM, tBM0, tNext, tB, tNot, tAnd, tOr, tIf, tCall, tDrop, tBreak, tCont, L2.start, tDGet, sDPut, tTup, tLst, tDNewK, tRevL, rCat, rAppend, rPop, rSetL, tAndV, tOrV, tNotV, tSl, tPart, tNoPart, tM1, gTup, gCons, gNil, cxK, cxnK, List.map_cons, List.map_nil, List.length_cons, List.length_nil, List.replicate, List.cons_append, List.nil_append, List.append_nil, List.set_cons_zero, List.set_cons_succ, List.getElem?_cons_zero, List.getElem?_cons_succ, Option.some.injEq, V.ref.injEq, V.int.injEq, V.str.injEq, V.bl.injEq, V.ty.injEq, exists_eq_left', exists_eq_left, exists_and_left, List.cons.injEq, and_true, true_and, sc_ii, sc_ss, sc_bb, sc_ni, sc_in, sc_is, sc_si, sc_nn, decide_true, decide_false, reduceCtorEq, Bool.false_eq_true, if_true, if_false, ite_true, ite_false, exists_const, eq_self, false_and, and_false, or_false, false_or, exists_false, Evl.rLenS, rSum, wipe, tYes, exists_eq, exists_eq', rIxL, rIxT, rIxS, exists_and_right, gt_iff_lt, not_true_eq_false, not_false_eq_true, Bool.not_true, Bool.not_false, decide_eq_true_eq, Nat.reduceSub, Nat.reduceAdd, List.append_assoc, tChain, tDIn, tDNotIn, sDDel, tAug, ipI]
    refine ⟨small (by decide), fun t4 nt4 => ?_⟩
    have s1 := str T.tw (upd_same : (upd G3 t4 (.tup [.str "write", .str "release"])) t4 = _)
    have j4 : Kp [] G3 (upd G3 t4 (.tup [.str "write", .str "release"])) := Kp.new nt4
    refine ⟨_, _, s1.1, s1.2, by decide +kernel, by decide +kernel, ?_⟩
    rw [SeqAt.eqv_refl _ (by decide +kernel)]
    generalize upd G3 t4 (.tup [.str "write", .str "release"]) = H3 at j4 ⊢
    clear s1
    have k3 : Kp [] H2 H3 := ((j1.trans j2).trans j3).trans j4
    have kk3 := (k1.trans k2).trans k3
    have hrow3 := (k2.trans k3) _ _ not0 hrow
    have hr3 : LsT K H3 r (pairsL.map pD) := LsT.kp ⟨wr, hr2, hwr⟩ k3
    try simp only [tSeq, tIfS, tTest, tOp, tUn, tCB, tCons, tNil, tVar, tC, rI0, rI, rU, rEq, rNe, tRet, tRetN, tAsg, gName, gSub, tBM, tBM0, tNext, tB, tNot, tAnd, tOr, tIf, tCall, tDrop, tBreak, tCont, L2.start, tDGet, sDPut, tTup, tLst, tDNewK, tRevL, rCat, rAppend, rPop, rSetL, tAndV, tOrV, tNotV, tSl, tPart, tNoPart, tM1, gTup, gCons, gNil, cxK, cxnK, List.map_cons, List.map_nil, List.length_cons, List.length_nil, List.replicate, List.cons_append, List.nil_append, List.append_nil, List.set_cons_zero, List.set_cons_succ, List.getElem?_cons_zero, List.getElem?_cons_succ, Option.some.injEq, V.ref.injEq, V.int.injEq, V.str.injEq, V.bl.injEq, V.ty.injEq, exists_eq_left', exists_eq_left, exists_and_left, List.cons.injEq, and_true, true_and, sc_ii, sc_ss, sc_bb, sc_ni, sc_in, sc_is, sc_si, sc_nn, decide_true, decide_false, reduceCtorEq, Bool.false_eq_true, if_true, if_false, ite_true, ite_false, exists_const, eq_self, false_and, and_false, or_false, false_or, exists_false, Evl.rLenS, rSum, wipe, tYes, exists_eq, exists_eq', rIxL, rIxT, rIxS, exists_and_right, gt_iff_lt, not_true_eq_false, not_false_eq_true, Bool.not_true, Bool.not_false, decide_eq_true_eq, Nat.reduceSub, Nat.reduceAdd, List.append_assoc, tChain, tDIn, tDNotIn, sDDel, tAug, ipI]
    refine ⟨_, sq_l hrow3, _, atI_of (by decide) rfl, m0, rfl, hms m0 (by simp), fun l1 n1 H4 nl1 hn1 he1 => ?_⟩
    obtain ⟨w1, q1, hl1, hw1, hq1n, hq1, k4⟩ := he1
    refine ⟨_, sq_l (k4 _ _ not0 hrow3), _, atI_of (by decide) rfl, m1, rfl, hms m1 (by simp), fun l2 n2 H5 nl2 hn2 he2 => ?_⟩
    obtain ⟨w2, q2, hl2, hw2, hq2n, hq2, k5⟩ := he2
    have hf1 : LsT K H5 l1 (q1.map pD) := LsT.kp ⟨w1, hl1, hw1⟩ k5
    have hf2 : LsT K H5 l2 (q2.map pD) := ⟨w2, hl2, hw2⟩
    have hr5 := hr3.kp (k4.trans k5)
    have hrow5 := (k4.trans k5) _ _ not0 hrow3
    have kk5 := kk3.trans (k4.trans k5)
    have tin : ∀ {l : Addr} {ps : List Pr} {x : V} {p : Pr} {H1 H' : Hp}, LsT K H1 l (ps.map pD) → (∀ p ∈ ps, p ∈ pairsL) → Kp [] H1 H' → Dp K H' x (pD p) → p ∈ pairsL → Dp K H' (.ref l) (.list (ps.map pD)) ∧ SeqAt.shaped (pD p) = true ∧ SeqAt.shaped (.list (ps.map pD)) = true := by
      intro l ps x p H1 H' h sub k hd hp
      obtain ⟨us, hu, hD⟩ := h.kp k
      exact ⟨.lst (sq_l hu) hD, okP hp, (shapedL (fitsP sub)).1⟩
    refine lc_filter (ps := pairsL) (h := pick (q1.map pD)) rfl hr5 ok27 (by rw [pairs_len]; decide) (fun x => rfl) (fun x => rfl) ?_ fun lo H6 nlo ho6 k6 => ?_
    · intro x p H' Qb k hd hp hQ
      obtain ⟨z1, z2, z3⟩ := tin hf1 hq1 k hd hp
      try simp only [tSeq, tIfS, tTest, tOp, tUn, tCB, tCons, tNil, tVar, tC, rI0, rI, rU, rEq, rNe, tRet, tRetN, tAsg, gName, gSub, tBM, tBM0, tNext, tB, tNot, tAnd, tOr, tIf, tCall, tDrop, tBreak, tCont, L2.start, tDGet, sDPut, tTup, tLst, tDNewK, tRevL, rCat, rAppend, rPop, rSetL, tAndV, tOrV, tNotV, tSl, tPart, tNoPart, tM1, gTup, gCons, gNil, cxK, cxnK, List.map_cons, List.map_nil, List.length_cons, List.length_nil, List.replicate, List.cons_append, List.nil_append, List.append_nil, List.set_cons_zero, List.set_cons_succ, List.getElem?_cons_zero, List.getElem?_cons_succ, Option.some.injEq, V.ref.injEq, V.int.injEq, V.str.injEq, V.bl.injEq, V.ty.injEq, exists_eq_left', exists_eq_left, exists_and_left, List.cons.injEq, and_true, true_and, sc_ii, sc_ss, sc_bb, sc_ni, sc_in, sc_is, sc_si, sc_nn, decide_true, decide_false, reduceCtorEq, Bool.false_eq_true, if_true, if_false, ite_true, ite_false, exists_const, eq_self, false_and, and_false, or_false, false_or, exists_false, Evl.rLenS, rSum, wipe, tYes, exists_eq, exists_eq', rIxL, rIxT, rIxS, exists_and_right, gt_iff_lt, not_true_eq_false, not_false_eq_true, Bool.not_true, Bool.not_false, decide_eq_true_eq, Nat.reduceSub, Nat.reduceAdd, List.append_assoc, tChain, tDIn, tDNotIn, sDDel, tAug, ipI]
      exact ⟨pD p, _, hd, z1, z2, z3, _, rfl, hQ⟩
    refine lc_filter (ps := pairsL) (h := pick (q2.map pD)) rfl (hr5.kp k6) ok27 (by rw [pairs_len]; decide) (fun x => rfl) (fun x => rfl) ?_ fun lt H7 nlt ht7 k7 => ?_
    · intro x p H' Qb k hd hp hQ
      obtain ⟨z1, z2, z3⟩ := tin hf2 hq2 (k6.trans k) hd hp
      try simp only [tSeq, tIfS, tTest, tOp, tUn, tCB, tCons, tNil, tVar, tC, rI0, rI, rU, rEq, rNe, tRet, tRetN, tAsg, gName, gSub, tBM, tBM0, tNext, tB, tNot, tAnd, tOr, tIf, tCall, tDrop, tBreak, tCont, L2.start, tDGet, sDPut, tTup, tLst, tDNewK, tRevL, rCat, rAppend, rPop, rSetL, tAndV, tOrV, tNotV, tSl, tPart, tNoPart, tM1, gTup, gCons, gNil, cxK, cxnK, List.map_cons, List.map_nil, List.length_cons, List.length_nil, List.replicate, List.cons_append, List.nil_append, List.append_nil, List.set_cons_zero, List.set_cons_succ, List.getElem?_cons_zero, List.getElem?_cons_succ, Option.some.injEq, V.ref.injEq, V.int.injEq, V.str.injEq, V.bl.injEq, V.ty.injEq, exists_eq_left', exists_eq_left, exists_and_left, List.cons.injEq, and_true, true_and, sc_ii, sc_ss, sc_bb, sc_ni, sc_in, sc_is, sc_si, sc_nn, decide_true, decide_false, reduceCtorEq, Bool.false_eq_true, if_true, if_false, ite_true, ite_false, exists_const, eq_self, false_and, and_false, or_false, false_or, exists_false, Evl.rLenS, rSum, wipe, tYes, exists_eq, exists_eq', rIxL, rIxT, rIxS, exists_and_right, gt_iff_lt, not_true_eq_false, not_false_eq_true, Bool.not_true, Bool.not_false, decide_eq_true_eq, Nat.reduceSub, Nat.reduceAdd, List.append_assoc, tChain, tDIn, tDNotIn, sDDel, tAug, ipI]
      exact ⟨pD p, _, hd, z1, z2, z3, _, rfl, hQ⟩
    refine lc_filter (ps := pairsL.filter (pick (q1.map pD))) (h := pick (q2.map pD)) rfl (ho6.kp k7) (subP _) (Nat.le_trans (lenP _) (by decide)) (fun x => rfl) (fun x => rfl) ?_ fun ls H8 nls hs8 k8 => ?_
    · intro x p H' Qb k hd hp hQ
      obtain ⟨z1, z2, z3⟩ := tin ht7 (subP _) k hd hp
      try simp only [tSeq, tIfS, tTest, tOp, tUn, tCB, tCons, tNil, tVar, tC, rI0, rI, rU, rEq, rNe, tRet, tRetN, tAsg, gName, gSub, tBM, tBM0, tNext, tB, tNot, tAnd, tOr, tIf, tCall, tDrop, tBreak, tCont, L2.start, tDGet, sDPut, tTup, tLst, tDNewK, tRevL, rCat, rAppend, rPop, rSetL, tAndV, tOrV, tNotV, tSl, tPart, tNoPart, tM1, gTup, gCons, gNil, cxK, cxnK, List.map_cons, List.map_nil, List.length_cons, List.length_nil, List.replicate, List.cons_append, List.nil_append, List.append_nil, List.set_cons_zero, List.set_cons_succ, List.getElem?_cons_zero, List.getElem?_cons_succ, Option.some.injEq, V.ref.injEq, V.int.injEq, V.str.injEq, V.bl.injEq, V.ty.injEq, exists_eq_left', exists_eq_left, exists_and_left, List.cons.injEq, and_true, true_and, sc_ii, sc_ss, sc_bb, sc_ni, sc_in, sc_is, sc_si, sc_nn, decide_true, decide_false, reduceCtorEq, Bool.false_eq_true, if_true, if_false, ite_true, ite_false, exists_const, eq_self, false_and, and_false, or_false, false_or, exists_false, Evl.rLenS, rSum, wipe, tYes, exists_eq, exists_eq', rIxL, rIxT, rIxS, exists_and_right, gt_iff_lt, not_true_eq_false, not_false_eq_true, Bool.not_true, Bool.not_false, decide_eq_true_eq, Nat.reduceSub, Nat.reduceAdd, List.append_assoc, tChain, tDIn, tDNotIn, sDDel, tAug, ipI]
      refine ⟨pD p, _, hd, z1, z2, z3, _, rfl, ?_⟩
      rw [show (((pairsL.filter (pick (q2.map pD))).map pD).any fun z => PyData.eqv z (pD p)) = pick (q2.map pD) p from pick_eq hp]
      exact hQ
    have ff : ∀ u v : Pr → Bool, (pairsL.filter u).filter v = pairsL.filter fun p => u p && v p := fun u v => by
      rw [List.filter_filter]; exact List.filter_congr fun x _ => Bool.and_comm _ _
    rw [ff] at hs8
    have k58 := (k6.trans k7).trans k8
    have k78 := k7.trans k8
    replace ho6 := ho6.kp k78
    replace ht7 := ht7.kp k8
    replace hf1 := hf1.kp k58
    replace hf2 := hf2.kp k58
    replace hr5 := hr5.kp k58
    replace hrow5 := k58 _ _ not0 hrow5
    have kk8 := kk5.trans k58
    clear k1 k2 k3 k4 k5 k6 k7 k8 k58 k78 kk3 kk5 j1 j2 j3 j4 hrow3 hr3 hl1 hl2 hw1 hw2 nlo nlt nls nl1 nl2 hrow hr2 hwr
    try simp only [tSeq, tIfS, tTest, tOp, tUn, tCB, tCons, tNil, tVar, tC, rI0, rI, rU, rEq, rNe, tRet, tRetN, tAsg, gName, gSub, tBM, tBM0, tNext, tB, tNot, tAnd, tOr, tIf, tCall, tDrop, tBreak, tCont, L2.start, tDGet, sDPut, tTup, tLst, tDNewK, tRevL, rCat, rAppend, rPop, rSetL, tAndV, tOrV, tNotV, tSl, tPart, tNoPart, tM1, gTup, gCons, gNil, cxK, cxnK, List.map_cons, List.map_nil, List.length_cons, List.length_nil, List.replicate, List.cons_append, List.nil_append, List.append_nil, List.set_cons_zero, List.set_cons_succ, List.getElem?_cons_zero, List.getElem?_cons_succ, Option.some.injEq, V.ref.injEq, V.int.injEq, V.str.injEq, V.bl.injEq, V.ty.injEq, exists_eq_left', exists_eq_left, exists_and_left, List.cons.injEq, and_true, true_and, sc_ii, sc_ss, sc_bb, sc_ni, sc_in, sc_is, sc_si, sc_nn, decide_true, decide_false, reduceCtorEq, Bool.false_eq_true, if_true, if_false, ite_true, ite_false, exists_const, eq_self, false_and, and_false, or_false, false_or, exists_false, Evl.rLenS, rSum, wipe, tYes, exists_eq, exists_eq', rIxL, rIxT, rIxS, exists_and_right, gt_iff_lt, not_true_eq_false, not_false_eq_true, Bool.not_true, Bool.not_false, decide_eq_true_eq, Nat.reduceSub, Nat.reduceAdd, List.append_assoc, tChain, tDIn, tDNotIn, sDDel, tAug, ipI]
    obtain ⟨u1, hu1, hd1⟩ := id hf1
    have sh1 := (shapedL (fitsP hq1)).1
    have ln1 : q1.length ≤ 41 := by omega
    have ln2 : q2.length ≤ 41 := by omega
    refine ⟨u1, .inl (sq_l hu1), fun l nl => ?_⟩
    have k9 : Kp [] H8 (upd H8 l (.lst u1)) := Kp.new nl
    have e9 : (upd H8 l (.lst u1)) l = some (.lst u1) := upd_same
    generalize upd H8 l (.lst u1) = H9 at k9 e9 ⊢
    refine make_prG (H := H9) (ds := q1.map pD) (fun R hR => ⟨_, rfl, hR l u1 H9 (.inl (sq_l e9)) (dpAllN k9 noSq0 hd1) (Kp.refl _ _)⟩) (fitsP hq1) (by rw [List.length_map]; omega) (all_isP hq1) fun o1 li H10 no1 nli hp1 k10 => ?_
    have k910 := k9.trans k10
    have e10 := k10 _ _ not0 e9
    refine ⟨_, _, .lst (sq_l e10) (dpAllN k910 noSq0 hd1), .lst (sq_l (k910 _ _ not0 hu1)) (dpAllN k910 noSq0 hd1), sh1, sh1, ?_⟩
    rw [eqvL hq1]
    try simp only [tSeq, tIfS, tTest, tOp, tUn, tCB, tCons, tNil, tVar, tC, rI0, rI, rU, rEq, rNe, tRet, tRetN, tAsg, gName, gSub, tBM, tBM0, tNext, tB, tNot, tAnd, tOr, tIf, tCall, tDrop, tBreak, tCont, L2.start, tDGet, sDPut, tTup, tLst, tDNewK, tRevL, rCat, rAppend, rPop, rSetL, tAndV, tOrV, tNotV, tSl, tPart, tNoPart, tM1, gTup, gCons, gNil, cxK, cxnK, List.map_cons, List.map_nil, List.length_cons, List.length_nil, List.replicate, List.cons_append, List.nil_append, List.append_nil, List.set_cons_zero, List.set_cons_succ, List.getElem?_cons_zero, List.getElem?_cons_succ, Option.some.injEq, V.ref.injEq, V.int.injEq, V.str.injEq, V.bl.injEq, V.ty.injEq, exists_eq_left', exists_eq_left, exists_and_left, List.cons.injEq, and_true, true_and, sc_ii, sc_ss, sc_bb, sc_ni, sc_in, sc_is, sc_si, sc_nn, decide_true, decide_false, reduceCtorEq, Bool.false_eq_true, if_true, if_false, ite_true, ite_false, exists_const, eq_self, false_and, and_false, or_false, false_or, exists_false, Evl.rLenS, rSum, wipe, tYes, exists_eq, exists_eq', rIxL, rIxT, rIxS, exists_and_right, gt_iff_lt, not_true_eq_false, not_false_eq_true, Bool.not_true, Bool.not_false, decide_eq_true_eq, Nat.reduceSub, Nat.reduceAdd, List.append_assoc, tChain, tDIn, tDNotIn, sDDel, tAug, ipI]
    refine ⟨.inl ⟨rfl, _, sq_l e10⟩, l, u1, rfl, rfl, e10, ?_⟩
    have e11 : (upd H10 l (.lst u1.reverse)) l = some (.lst u1.reverse) := upd_same
    have k11 : Kp [l] H10 (upd H10 l (.lst u1.reverse)) := (Kp.refl [l] _).put (by simp)
    generalize upd H10 l (.lst u1.reverse) = H11 at e11 k11 ⊢
    have ne : ∀ {x : Addr} {o : HO}, H8 x = some o → x ≠ l := fun e => ne_of_none e nl
    have drl := ne hrow5
    obtain ⟨wr5, hr5a, hr5d⟩ := id hr5
    have hrow10 := k910 _ _ not0 hrow5
    have hrow11 := k11 _ _ (not1 drl) hrow10
    have hr11 := k11 _ _ (not1 (ne hr5a)) (k910 _ _ not0 hr5a)
    have hr11d := dpAllT k11 (noTp1 e10) (dpAllN k910 noSq0 hr5d) (noLsP _)
    obtain ⟨v, p2, ev, hv, hp2⟩ := row_at hr11d (j := m2 % 27) (Int.emod_nonneg _ (by decide)) (Int.emod_lt_of_pos _ (by decide))
    obtain ⟨u2, hu2, hd2⟩ := id hf2
    refine ⟨.inl ⟨rfl, _, sq_l e11⟩, _, sq_l hrow11, _, atI_of (by decide) rfl, .inl ⟨m2, rfl, by decide, _, sq_l hr11, _, ev, _, e11, smallL (by rw [List.length_reverse, dpLen hd1, List.length_map]; omega), ?_⟩⟩
    have k12 : Kp [l] H10 (upd H11 l (.lst (u1.reverse ++ [v]))) := k11.put (by simp)
    have hl2 := k12 _ _ (not1 (ne hu2)) (k910 _ _ not0 hu2)
    have lsk : ∀ {x : Addr} {ps : List Pr} {H' : Hp}, Kp [l] H10 H' → LsT K H8 x (ps.map pD) → LsT K H' x (ps.map pD) := fun k h => by
      obtain ⟨ws, a, b⟩ := h
      exact ⟨ws, k _ _ (not1 (ne a)) (k910 _ _ not0 a), dpAllT k (noTp1 e10) (dpAllN k910 noSq0 b) (noLsP _)⟩
    have prk : ∀ {H' : Hp}, Kp [l] H10 H' → PrAt K PC H' o1 (pick (q1.map pD)) := fun k => by
      obtain ⟨dx, vs, a, b, c⟩ := hp1
      have lil : li ≠ l := fun z => by rw [z, e9] at nli; cases nli
      have ol : o1 ≠ l := ne_of a e10 (fun z => by cases z)
      exact ⟨dx, li, vs, k _ _ (not1 ol) a, k _ _ (not1 lil) b, dpAllT k (noTp1 e10) c (noLsP _)⟩
    have kf : Kp [] H (upd H11 l (.lst (u1.reverse ++ [v]))) := fun b o _ e => k12 b o (not1 (ne (kk8 _ _ not0 e))) (k910 _ _ not0 (kk8 _ _ not0 e))
    have hp12 := prk k12
    replace ho6 := lsk k12 ho6
    replace ht7 := lsk k12 ht7
    replace hs8 := lsk k12 hs8
    replace hf1 := lsk k12 hf1
    replace hr5 := lsk k12 hr5
    have hrow12 := k12 _ _ (not1 drl) hrow10
    have hd2' : DpAll K (upd H11 l (.lst (u1.reverse ++ [v]))) u2 (q2.map pD) := dpAllT k12 (noTp1 e10) (dpAllN k910 noSq0 hd2) (noLsP _)
    generalize upd H11 l (.lst (u1.reverse ++ [v])) = H12 at *
    refine make_prG (H := H12) (ds := q2.map pD) (fun R hR => ⟨_, rfl, l2, rfl, u2, .inl ⟨sq_l hl2, fun t5 nt5 => hR t5 u2 _ (.inr (sq_t upd_same)) (dpAllN (Kp.new nt5) noSq0 hd2') (Kp.new nt5)⟩⟩) (fitsP hq2) (by rw [List.length_map]; omega) (all_isP hq2) fun o2 _ H13 no2 _ hp2' k13 => ?_
    refine make_pr0 hde fun o3 H14 no3 hp3 k14 => ?_
    have k24 := k13.trans k14
    refine ⟨o1, o2, o3, lo, lt, r, _, _, rfl, hp12.kp k24, hp2'.at.kp k14, hp3, ho6.kp k24, ht7.kp k24, hr5.kp k24, fun H15 k15 => ?_⟩
    try simp only [tSeq, tIfS, tTest, tOp, tUn, tCB, tCons, tNil, tVar, tC, rI0, rI, rU, rEq, rNe, tRet, tRetN, tAsg, gName, gSub, tBM, tBM0, tNext, tB, tNot, tAnd, tOr, tIf, tCall, tDrop, tBreak, tCont, L2.start, tDGet, sDPut, tTup, tLst, tDNewK, tRevL, rCat, rAppend, rPop, rSetL, tAndV, tOrV, tNotV, tSl, tPart, tNoPart, tM1, gTup, gCons, gNil, cxK, cxnK, List.map_cons, List.map_nil, List.length_cons, List.length_nil, List.replicate, List.cons_append, List.nil_append, List.append_nil, List.set_cons_zero, List.set_cons_succ, List.getElem?_cons_zero, List.getElem?_cons_succ, Option.some.injEq, V.ref.injEq, V.int.injEq, V.str.injEq, V.bl.injEq, V.ty.injEq, exists_eq_left', exists_eq_left, exists_and_left, List.cons.injEq, and_true, true_and, sc_ii, sc_ss, sc_bb, sc_ni, sc_in, sc_is, sc_si, sc_nn, decide_true, decide_false, reduceCtorEq, Bool.false_eq_true, if_true, if_false, ite_true, ite_false, exists_const, eq_self, false_and, and_false, or_false, false_or, exists_false, Evl.rLenS, rSum, wipe, tYes, exists_eq, exists_eq', rIxL, rIxT, rIxS, exists_and_right, gt_iff_lt, not_true_eq_false, not_false_eq_true, Bool.not_true, Bool.not_false, decide_eq_true_eq, Nat.reduceSub, Nat.reduceAdd, List.append_assoc, tChain, tDIn, tDNotIn, sDDel, tAug, ipI]
    have k25 := k24.trans k15
    refine ⟨o1, o2, o3, lo, lt, ls, _, _, rfl, hp12.kp k25, hp2'.at.kp (k14.trans k15), hp3.kp k15, ho6.kp k25, ht7.kp k25, hs8.kp k25, fun H16 k16 => ?_⟩
    try simp only [tSeq, tIfS, tTest, tOp, tUn, tCB, tCons, tNil, tVar, tC, rI0, rI, rU, rEq, rNe, tRet, tRetN, tAsg, gName, gSub, tBM, tBM0, tNext, tB, tNot, tAnd, tOr, tIf, tCall, tDrop, tBreak, tCont, L2.start, tDGet, sDPut, tTup, tLst, tDNewK, tRevL, rCat, rAppend, rPop, rSetL, tAndV, tOrV, tNotV, tSl, tPart, tNoPart, tM1, gTup, gCons, gNil, cxK, cxnK, List.map_cons, List.map_nil, List.length_cons, List.length_nil, List.replicate, List.cons_append, List.nil_append, List.append_nil, List.set_cons_zero, List.set_cons_succ, List.getElem?_cons_zero, List.getElem?_cons_succ, Option.some.injEq, V.ref.injEq, V.int.injEq, V.str.injEq, V.bl.injEq, V.ty.injEq, exists_eq_left', exists_eq_left, exists_and_left, List.cons.injEq, and_true, true_and, sc_ii, sc_ss, sc_bb, sc_ni, sc_in, sc_is, sc_si, sc_nn, decide_true, decide_false, reduceCtorEq, Bool.false_eq_true, if_true, if_false, ite_true, ite_false, exists_const, eq_self, false_and, and_false, or_false, false_or, exists_false, Evl.rLenS, rSum, wipe, tYes, exists_eq, exists_eq', rIxL, rIxT, rIxS, exists_and_right, gt_iff_lt, not_true_eq_false, not_false_eq_true, Bool.not_true, Bool.not_false, decide_eq_true_eq, Nat.reduceSub, Nat.reduceAdd, List.append_assoc, tChain, tDIn, tDNotIn, sDDel, tAug, ipI]
    have k26 := k25.trans k16
    refine ⟨_, sq_l (k26 _ _ not0 hrow12), _, atI_of (by decide) rfl, m3, rfl, fun tw1 z1 H17 nw1 ew1 k17 => ?_⟩
    try simp only [tSeq, tIfS, tTest, tOp, tUn, tCB, tCons, tNil, tVar, tC, rI0, rI, rU, rEq, rNe, tRet, tRetN, tAsg, gName, gSub, tBM, tBM0, tNext, tB, tNot, tAnd, tOr, tIf, tCall, tDrop, tBreak, tCont, L2.start, tDGet, sDPut, tTup, tLst, tDNewK, tRevL, rCat, rAppend, rPop, rSetL, tAndV, tOrV, tNotV, tSl, tPart, tNoPart, tM1, gTup, gCons, gNil, cxK, cxnK, List.map_cons, List.map_nil, List.length_cons, List.length_nil, List.replicate, List.cons_append, List.nil_append, List.append_nil, List.set_cons_zero, List.set_cons_succ, List.getElem?_cons_zero, List.getElem?_cons_succ, Option.some.injEq, V.ref.injEq, V.int.injEq, V.str.injEq, V.bl.injEq, V.ty.injEq, exists_eq_left', exists_eq_left, exists_and_left, List.cons.injEq, and_true, true_and, sc_ii, sc_ss, sc_bb, sc_ni, sc_in, sc_is, sc_si, sc_nn, decide_true, decide_false, reduceCtorEq, Bool.false_eq_true, if_true, if_false, ite_true, ite_false, exists_const, eq_self, false_and, and_false, or_false, false_or, exists_false, Evl.rLenS, rSum, wipe, tYes, exists_eq, exists_eq', rIxL, rIxT, rIxS, exists_and_right, gt_iff_lt, not_true_eq_false, not_false_eq_true, Bool.not_true, Bool.not_false, decide_eq_true_eq, Nat.reduceSub, Nat.reduceAdd, List.append_assoc, tChain, tDIn, tDNotIn, sDDel, tAug, ipI]
    have k27 := k26.trans k17
    refine ⟨_, sq_l (k27 _ _ not0 hrow12), _, atI_of (by decide) rfl, m4, rfl, fun tw2 z2 H18 nw2 ew2 k18 => ?_⟩
    try simp only [tSeq, tIfS, tTest, tOp, tUn, tCB, tCons, tNil, tVar, tC, rI0, rI, rU, rEq, rNe, tRet, tRetN, tAsg, gName, gSub, tBM, tBM0, tNext, tB, tNot, tAnd, tOr, tIf, tCall, tDrop, tBreak, tCont, L2.start, tDGet, sDPut, tTup, tLst, tDNewK, tRevL, rCat, rAppend, rPop, rSetL, tAndV, tOrV, tNotV, tSl, tPart, tNoPart, tM1, gTup, gCons, gNil, cxK, cxnK, List.map_cons, List.map_nil, List.length_cons, List.length_nil, List.replicate, List.cons_append, List.nil_append, List.append_nil, List.set_cons_zero, List.set_cons_succ, List.getElem?_cons_zero, List.getElem?_cons_succ, Option.some.injEq, V.ref.injEq, V.int.injEq, V.str.injEq, V.bl.injEq, V.ty.injEq, exists_eq_left', exists_eq_left, exists_and_left, List.cons.injEq, and_true, true_and, sc_ii, sc_ss, sc_bb, sc_ni, sc_in, sc_is, sc_si, sc_nn, decide_true, decide_false, reduceCtorEq, Bool.false_eq_true, if_true, if_false, ite_true, ite_false, exists_const, eq_self, false_and, and_false, or_false, false_or, exists_false, Evl.rLenS, rSum, wipe, tYes, exists_eq, exists_eq', rIxL, rIxT, rIxS, exists_and_right, gt_iff_lt, not_true_eq_false, not_false_eq_true, Bool.not_true, Bool.not_false, decide_eq_true_eq, Nat.reduceSub, Nat.reduceAdd, List.append_assoc, tChain, tDIn, tDNotIn, sDDel, tAug, ipI]
    have k28 := k27.trans k18
    have ew1' := k18 _ _ not0 ew1
    refine lc_filter (ps := pairsL) (h := fun p => inW z1 p.1 && inW z2 p.2) rfl (hr5.kp k28) ok27 (by rw [pairs_len]; decide) (fun x => rfl) (fun x => rfl) ?_ fun ld H19 nld hd19 k19 => ?_
    · intro x p H' Qb k hd hp hQ
      obtain ⟨t, rfl, ht⟩ := dpPair hd
      try simp only [tSeq, tIfS, tTest, tOp, tUn, tCB, tCons, tNil, tVar, tC, rI0, rI, rU, rEq, rNe, tRet, tRetN, tAsg, gName, gSub, tBM, tBM0, tNext, tB, tNot, tAnd, tOr, tIf, tCall, tDrop, tBreak, tCont, L2.start, tDGet, sDPut, tTup, tLst, tDNewK, tRevL, rCat, rAppend, rPop, rSetL, tAndV, tOrV, tNotV, tSl, tPart, tNoPart, tM1, gTup, gCons, gNil, cxK, cxnK, List.map_cons, List.map_nil, List.length_cons, List.length_nil, List.replicate, List.cons_append, List.nil_append, List.append_nil, List.set_cons_zero, List.set_cons_succ, List.getElem?_cons_zero, List.getElem?_cons_succ, Option.some.injEq, V.ref.injEq, V.int.injEq, V.str.injEq, V.bl.injEq, V.ty.injEq, exists_eq_left', exists_eq_left, exists_and_left, List.cons.injEq, and_true, true_and, sc_ii, sc_ss, sc_bb, sc_ni, sc_in, sc_is, sc_si, sc_nn, decide_true, decide_false, reduceCtorEq, Bool.false_eq_true, if_true, if_false, ite_true, ite_false, exists_const, eq_self, false_and, and_false, or_false, false_or, exists_false, Evl.rLenS, rSum, wipe, tYes, exists_eq, exists_eq', rIxL, rIxT, rIxS, exists_and_right, gt_iff_lt, not_true_eq_false, not_false_eq_true, Bool.not_true, Bool.not_false, decide_eq_true_eq, Nat.reduceSub, Nat.reduceAdd, List.append_assoc, tChain, tDIn, tDNotIn, sDDel, tAug, ipI]
      refine ⟨_, ht, _, rfl, tw1, _, rfl, .inr (sq_t (k _ _ not0 ew1')), rfl, flat_map _, _, rfl, ?_⟩
      rw [if_neg Bool.false_ne_true, in_strs]
      cases e1 : inW z1 p.1 with
      | false =>
        rw [e1] at hQ
        rw [if_neg Bool.false_ne_true]
        exact hQ
      | true =>
        rw [e1] at hQ
        rw [if_pos rfl]
        refine ⟨_, ht, _, rfl, tw2, _, rfl, .inr (sq_t (k _ _ not0 ew2)), rfl, flat_map _, _, rfl, ?_⟩
        rw [if_neg Bool.false_ne_true, in_strs]
        exact hQ
    have k29 := k28.trans k19
    refine ⟨rfl, .ref tw1, rfl, .ref tw2, rfl, tw1, tw2, z1, z2, rfl, sq_t (k19 _ _ not0 ew1'), sq_t (k19 _ _ not0 ew2), fun o4 H20 no4 hp4 k20 => ?_⟩
    refine ⟨o4, ld, _, rfl, hp4, (hd19.kp k20).d, fun H21 k21 => ?_⟩
    try simp only [tSeq, tIfS, tTest, tOp, tUn, tCB, tCons, tNil, tVar, tC, rI0, rI, rU, rEq, rNe, tRet, tRetN, tAsg, gName, gSub, tBM, tBM0, tNext, tB, tNot, tAnd, tOr, tIf, tCall, tDrop, tBreak, tCont, L2.start, tDGet, sDPut, tTup, tLst, tDNewK, tRevL, rCat, rAppend, rPop, rSetL, tAndV, tOrV, tNotV, tSl, tPart, tNoPart, tM1, gTup, gCons, gNil, cxK, cxnK, List.map_cons, List.map_nil, List.length_cons, List.length_nil, List.replicate, List.cons_append, List.nil_append, List.append_nil, List.set_cons_zero, List.set_cons_succ, List.getElem?_cons_zero, List.getElem?_cons_succ, Option.some.injEq, V.ref.injEq, V.int.injEq, V.str.injEq, V.bl.injEq, V.ty.injEq, exists_eq_left', exists_eq_left, exists_and_left, List.cons.injEq, and_true, true_and, sc_ii, sc_ss, sc_bb, sc_ni, sc_in, sc_is, sc_si, sc_nn, decide_true, decide_false, reduceCtorEq, Bool.false_eq_true, if_true, if_false, ite_true, ite_false, exists_const, eq_self, false_and, and_false, or_false, false_or, exists_false, Evl.rLenS, rSum, wipe, tYes, exists_eq, exists_eq', rIxL, rIxT, rIxS, exists_and_right, gt_iff_lt, not_true_eq_false, not_false_eq_true, Bool.not_true, Bool.not_false, decide_eq_true_eq, Nat.reduceSub, Nat.reduceAdd, List.append_assoc, tChain, tDIn, tDNotIn, sDDel, tAug, ipI]
    have k31 := k29.trans (k20.trans k21)
    refine ⟨_, sq_l (k31 _ _ not0 hrow12), _, atI_of (by decide) rfl, l1, m5, q1.map pD, rfl, hf1.kp k31, fitsP hq1, by rw [List.length_map]; omega, fun ps es H22 nps hps fes les k22 => ?_⟩
    try simp only [tSeq, tIfS, tTest, tOp, tUn, tCB, tCons, tNil, tVar, tC, rI0, rI, rU, rEq, rNe, tRet, tRetN, tAsg, gName, gSub, tBM, tBM0, tNext, tB, tNot, tAnd, tOr, tIf, tCall, tDrop, tBreak, tCont, L2.start, tDGet, sDPut, tTup, tLst, tDNewK, tRevL, rCat, rAppend, rPop, rSetL, tAndV, tOrV, tNotV, tSl, tPart, tNoPart, tM1, gTup, gCons, gNil, cxK, cxnK, List.map_cons, List.map_nil, List.length_cons, List.length_nil, List.replicate, List.cons_append, List.nil_append, List.append_nil, List.set_cons_zero, List.set_cons_succ, List.getElem?_cons_zero, List.getElem?_cons_succ, Option.some.injEq, V.ref.injEq, V.int.injEq, V.str.injEq, V.bl.injEq, V.ty.injEq, exists_eq_left', exists_eq_left, exists_and_left, List.cons.injEq, and_true, true_and, sc_ii, sc_ss, sc_bb, sc_ni, sc_in, sc_is, sc_si, sc_nn, decide_true, decide_false, reduceCtorEq, Bool.false_eq_true, if_true, if_false, ite_true, ite_false, exists_const, eq_self, false_and, and_false, or_false, false_or, exists_false, Evl.rLenS, rSum, wipe, tYes, exists_eq, exists_eq', rIxL, rIxT, rIxS, exists_and_right, gt_iff_lt, not_true_eq_false, not_false_eq_true, Bool.not_true, Bool.not_false, decide_eq_true_eq, Nat.reduceSub, Nat.reduceAdd, List.append_assoc, tChain, tDIn, tDNotIn, sDDel, tAug, ipI]
    refine ⟨ps, es, rfl, hps.d, fes, fun pb H23 npb hpb k23 => ?_⟩
    try simp only [tSeq, tIfS, tTest, tOp, tUn, tCB, tCons, tNil, tVar, tC, rI0, rI, rU, rEq, rNe, tRet, tRetN, tAsg, gName, gSub, tBM, tBM0, tNext, tB, tNot, tAnd, tOr, tIf, tCall, tDrop, tBreak, tCont, L2.start, tDGet, sDPut, tTup, tLst, tDNewK, tRevL, rCat, rAppend, rPop, rSetL, tAndV, tOrV, tNotV, tSl, tPart, tNoPart, tM1, gTup, gCons, gNil, cxK, cxnK, List.map_cons, List.map_nil, List.length_cons, List.length_nil, List.replicate, List.cons_append, List.nil_append, List.append_nil, List.set_cons_zero, List.set_cons_succ, List.getElem?_cons_zero, List.getElem?_cons_succ, Option.some.injEq, V.ref.injEq, V.int.injEq, V.str.injEq, V.bl.injEq, V.ty.injEq, exists_eq_left', exists_eq_left, exists_and_left, List.cons.injEq, and_true, true_and, sc_ii, sc_ss, sc_bb, sc_ni, sc_in, sc_is, sc_si, sc_nn, decide_true, decide_false, reduceCtorEq, Bool.false_eq_true, if_true, if_false, ite_true, ite_false, exists_const, eq_self, false_and, and_false, or_false, false_or, exists_false, Evl.rLenS, rSum, wipe, tYes, exists_eq, exists_eq', rIxL, rIxT, rIxS, exists_and_right, gt_iff_lt, not_true_eq_false, not_false_eq_true, Bool.not_true, Bool.not_false, decide_eq_true_eq, Nat.reduceSub, Nat.reduceAdd, List.append_assoc, tChain, tDIn, tDNotIn, sDDel, tAug, ipI]
    have k33 := k31.trans (k22.trans k23)
    have fF : ∀ d ∈ (es.find? fun d => !isP d).toList, Fit d := fun d hd => by
      cases e : es.find? fun d => !isP d with
      | none => rw [e] at hd; exact nomatch hd
      | some y =>
        rw [e] at hd
        rw [List.mem_singleton.mp (show d ∈ [y] from hd)]
        exact fes y (List.mem_of_find?_eq_some e)
    have shF := (shapedL fF).1
    have rfF := SeqAt.eqv_refl _ (SeqAt.canLay_of_shaped shF)
    obtain ⟨we, hwe, dwe⟩ := hps.kp k23
    obtain ⟨wb, hwb, dwb⟩ := hpb
    refine ⟨we, .inl (sq_l hwe), fun lc nlc => ⟨lc, we, es, rfl, .inl (sq_l upd_same), dpAllN (Kp.new nlc) noSq0 dwe, fes, by omega, fun pf H24 npf hpf k24' => ?_⟩⟩
    have k3a : Kp [] H23 H24 := (Kp.new nlc).trans k24'
    obtain ⟨wf, hwf, dwf⟩ := hpf
    refine ⟨_, _, .lst (sq_l hwf) dwf, .lst (sq_l (k3a _ _ not0 hwb)) (dpAllN k3a noSq0 dwb), shF, shF, ?_⟩
    rw [rfF]
    try simp only [tSeq, tIfS, tTest, tOp, tUn, tCB, tCons, tNil, tVar, tC, rI0, rI, rU, rEq, rNe, tRet, tRetN, tAsg, gName, gSub, tBM, tBM0, tNext, tB, tNot, tAnd, tOr, tIf, tCall, tDrop, tBreak, tCont, L2.start, tDGet, sDPut, tTup, tLst, tDNewK, tRevL, rCat, rAppend, rPop, rSetL, tAndV, tOrV, tNotV, tSl, tPart, tNoPart, tM1, gTup, gCons, gNil, cxK, cxnK, List.map_cons, List.map_nil, List.length_cons, List.length_nil, List.replicate, List.cons_append, List.nil_append, List.append_nil, List.set_cons_zero, List.set_cons_succ, List.getElem?_cons_zero, List.getElem?_cons_succ, Option.some.injEq, V.ref.injEq, V.int.injEq, V.str.injEq, V.bl.injEq, V.ty.injEq, exists_eq_left', exists_eq_left, exists_and_left, List.cons.injEq, and_true, true_and, sc_ii, sc_ss, sc_bb, sc_ni, sc_in, sc_is, sc_si, sc_nn, decide_true, decide_false, reduceCtorEq, Bool.false_eq_true, if_true, if_false, ite_true, ite_false, exists_const, eq_self, false_and, and_false, or_false, false_or, exists_false, Evl.rLenS, rSum, wipe, tYes, exists_eq, exists_eq', rIxL, rIxT, rIxS, exists_and_right, gt_iff_lt, not_true_eq_false, not_false_eq_true, Bool.not_true, Bool.not_false, decide_eq_true_eq, Nat.reduceSub, Nat.reduceAdd, List.append_assoc, tChain, tDIn, tDNotIn, sDDel, tAug, ipI]
    refine ⟨we, .inl ⟨sq_l (k3a _ _ not0 hwe), fun tc ntc => ⟨tc, we, es, rfl, .inr (sq_t upd_same), dpAllN (k3a.trans (Kp.new ntc)) noSq0 dwe, fes, by omega, fun pg H25 npg hpg k25' => ?_⟩⟩⟩
    have k3b : Kp [] H23 H25 := k3a.trans ((Kp.new ntc).trans k25')
    obtain ⟨wg, hwg, dwg⟩ := hpg
    refine ⟨_, _, .lst (sq_l hwg) dwg, .lst (sq_l (k3b _ _ not0 hwb)) (dpAllN k3b noSq0 dwb), shF, shF, ?_⟩
    rw [rfF]
    try simp only [tSeq, tIfS, tTest, tOp, tUn, tCB, tCons, tNil, tVar, tC, rI0, rI, rU, rEq, rNe, tRet, tRetN, tAsg, gName, gSub, tBM, tBM0, tNext, tB, tNot, tAnd, tOr, tIf, tCall, tDrop, tBreak, tCont, L2.start, tDGet, sDPut, tTup, tLst, tDNewK, tRevL, rCat, rAppend, rPop, rSetL, tAndV, tOrV, tNotV, tSl, tPart, tNoPart, tM1, gTup, gCons, gNil, cxK, cxnK, List.map_cons, List.map_nil, List.length_cons, List.length_nil, List.replicate, List.cons_append, List.nil_append, List.append_nil, List.set_cons_zero, List.set_cons_succ, List.getElem?_cons_zero, List.getElem?_cons_succ, Option.some.injEq, V.ref.injEq, V.int.injEq, V.str.injEq, V.bl.injEq, V.ty.injEq, exists_eq_left', exists_eq_left, exists_and_left, List.cons.injEq, and_true, true_and, sc_ii, sc_ss, sc_bb, sc_ni, sc_in, sc_is, sc_si, sc_nn, decide_true, decide_false, reduceCtorEq, Bool.false_eq_true, if_true, if_false, ite_true, ite_false, exists_const, eq_self, false_and, and_false, or_false, false_or, exists_false, Evl.rLenS, rSum, wipe, tYes, exists_eq, exists_eq', rIxL, rIxT, rIxS, exists_and_right, gt_iff_lt, not_true_eq_false, not_false_eq_true, Bool.not_true, Bool.not_false, decide_eq_true_eq, Nat.reduceSub, Nat.reduceAdd, List.append_assoc, tChain, tDIn, tDNotIn, sDDel, tAug, ipI]
    have k35 := k33.trans k3b
    obtain ⟨wz, hwz, dwz⟩ := hf1.kp k35
    refine make_prG (H := H25) (ds := q1.map pD) (fun R hR => ⟨_, rfl, l1, rfl, wz, .inl (sq_l hwz), fun lz nlz => hR lz wz _ (.inl (sq_l upd_same)) (dpAllN (Kp.new nlz) noSq0 dwz) (Kp.new nlz)⟩) (fitsP hq1) (by rw [List.length_map]; omega) (all_isP hq1) fun o5 _ H26 no5 _ hp5 k36 => ?_
    exact ⟨o5, lo, _, rfl, hp5.at, (ho6.kp (k35.trans k36)).d, fun H' _ => q H'⟩
end
end My

set_option Elab.async false
set_option linter.all false
set_option maxRecDepth 100000
set_option maxHeartbeats 8000000
namespace My
open PySem L2 NdefX
theorem exm_sub {K : PySem.W.Frag} {S D : Addr} {b : Bool} (h1 : PySem.W.subIn K (.ref D) (.type "BaseException") = some true) (h2 : PySem.W.isClsIn K D = true) (h3 : PySem.W.typeIn K (.ref D) = some (.type "type"))
    (h4 : PySem.W.subIn K (.ref S) (.ref D) = some b) : PySem.W.exmOne K (.ref S) (.ref D) = some b := by
  have i2 : (PySem.W.clsIn K D).isSome = true := h2
  unfold PySem.W.exmOne
  simp [PySem.W.kitCls, h1, i2, h3, h4]
theorem kit_self {K : PySem.W.Frag} {S : Addr} : PySem.W.kitOne K (.ref S) (.ref S) = some true := by
  unfold PySem.W.kitOne
  rw [if_pos (beq_self_eq_true _)]
theorem kit_sub {K : PySem.W.Frag} {S D : Addr} {b : Bool} (h1 : ((Value.ref S) == (Value.ref D)) = false) (h2 : PySem.W.isClsIn K D = true) (h3 : PySem.W.typeIn K (.ref D) = some (.type "type")) (h4 : PySem.W.subIn K (.ref S) (.ref D) = some b) : PySem.W.kitOne K (.ref S) (.ref D) = some b := by
  have i2 : (PySem.W.clsIn K D).isSome = true := h2
  unfold PySem.W.kitOne
  rw [h1]
  simp [PySem.W.kitCls, i2, h3, h4]
theorem kit_ty {K : PySem.W.Frag} {S : Addr} {T : String} {b : Bool} (h1 : PySem.W.kitMeta T = true) (h4 : PySem.W.subIn K (.ref S) (.type T) = some b) : PySem.W.kitOne K (.ref S) (.type T) = some b := by
  unfold PySem.W.kitOne
  rw [if_neg (by rw [show ((Value.ref S) == (Value.type T)) = false from beq_eq_false_iff_ne.mpr (fun z => nomatch z)]; exact Bool.false_ne_true)]
  simp [PySem.W.kitCls, h1, h4]
theorem pairsK_mk {K : PySem.W.Frag} {T : Addr} (rs : List Addr) (hT : ∀ H : Hp, SqT K H T (rs.map V.ref)) (h : Paired (fun r p => ∀ H : Hp, SqT K H r [V.str p.1, V.str p.2]) rs pairsL) : PairsK K T := by
  refine ⟨_, fun H => ⟨hT H, ?_⟩⟩
  have : ∀ {rs : List Addr} {ps : List Pr}, Paired (fun r p => ∀ H : Hp, SqT K H r [V.str p.1, V.str p.2]) rs ps → DpAll K H (rs.map V.ref) (ps.map pD) := by
    intro rs ps k
    induction k with
    | nil => exact .nil
    | cons a _ ih => exact .cons (.tup (a H) (.cons (.str _) (.cons (.str _) .nil))) ih
  exact this h
theorem all_mk {l : PySem.W.OpenLaw} {w : World} {K : PySem.W.Frag} {h : Heap} {mg : Str → Option Value} {fa : Addr} (X : K.In h) (G : h.Ns mainGlobals mg) (hfa : mg "law" = some (.ref fa))
    {f0 f1 f2 f3 f4 f5 f6 f7 f8 f9 f10 f11 f12 f13 : Addr}
    {od0 an0 od1 an1 od2 an2 od3 an3 od4 an4 od5 an5 od6 an6 od7 an7 od8 an8 od9 an9 od10 an10 od11 an11 od12 an12 od13 an13 odC anC odL anL odT anT odA anA odO anO odS anS odW anW odB anB odI anI odE anE ccd cdd dtP dtD dtE dtK dtR dtW : Option Addr}
    {sl0 sl1 sl2 sl3 sl4 sl5 sl6 sl7 sl8 sl9 sl10 sl11 sl12 sl13 slC slL slT slA slO slS slW slB slI slE ccs ccz sqP sqD sqE sqK sqR sqW : Array (Option Value)}
    {oc0 kV0 dc0 pm0 cd0 ct0 oc1 kV1 dc1 pm1 cd1 ct1 oc2 kV2 dc2 pm2 cd2 ct2 oc3 kV3 dc3 pm3 cd3 ct3 oc4 kV4 dc4 pm4 cd4 ct4 oc5 kV5 dc5 pm5 cd5 ct5 oc6 kV6 dc6 pm6 cd6 ct6 oc7 kV7 dc7 pm7 cd7 ct7 oc8 kV8 dc8 pm8 cd8 ct8 oc9 kV9 dc9 pm9 cd9 ct9 oc10 kV10 dc10 pm10 cd10 ct10 oc11 kV11 dc11 pm11 cd11 ct11 oc12 kV12 dc12 pm12 cd12 ct12 oc13 kV13 dc13 pm13 cd13 ct13 ocC kVC dcC pmC cdC ctC ocL kVL dcL pmL cdL ctL ocT kVT dcT pmT cdT ctT ocA kVA dcA pmA cdA ctA ocO kVO dcO pmO cdO ctO ocS kVS dcS pmS cdS ctS ocW kVW dcW pmW cdW ctW ocB kVB dcB pmB cdB ctB ocI kVI dcI pmI cdI ctI ocE kVE dcE pmE  ctE ccl ccx tcD : Value}
    {PC fC fL fT fA fO fS fW fB fI pP TD de BP CE BF fE cc cda TP TK TR_ TW : Addr}
    {restB : List Value}
    {itsP itsD itsE itsK itsR itsW : Array Value}
    {ntP ntD ntE ntK ntR ntW : Nat}
    {nmB qB : Str}
    {N : Addr}
    {bsB bmB subB : List Value}
    {snB : List Str}
    {abB : Bool}
    {colB : Option Bool}
    {ddB : Option Addr}
    {m0 m1 m2 m3 m5 : Option Value}
    {vsB : Array Value}
    {file : Str}
    {tf : Tok}
    {R0 R1 R2 R3 R4 R5 R6 R7 R8 R9 R10 R11 R12 R13 R14 R15 R16 R17 R18 R19 R20 R21 R22 R23 R24 R25 R26 : Addr}
    {dtr0 dtr1 dtr2 dtr3 dtr4 dtr5 dtr6 dtr7 dtr8 dtr9 dtr10 dtr11 dtr12 dtr13 dtr14 dtr15 dtr16 dtr17 dtr18 dtr19 dtr20 dtr21 dtr22 dtr23 dtr24 dtr25 dtr26 : Option Addr}
    {itr0 itr1 itr2 itr3 itr4 itr5 itr6 itr7 itr8 itr9 itr10 itr11 itr12 itr13 itr14 itr15 itr16 itr17 itr18 itr19 itr20 itr21 itr22 itr23 itr24 itr25 itr26 : Array Value}
    {ntr0 ntr1 ntr2 ntr3 ntr4 ntr5 ntr6 ntr7 ntr8 ntr9 ntr10 ntr11 ntr12 ntr13 ntr14 ntr15 ntr16 ntr17 ntr18 ntr19 ntr20 ntr21 ntr22 ntr23 ntr24 ntr25 ntr26 : Nat}
    {sqr0 sqr1 sqr2 sqr3 sqr4 sqr5 sqr6 sqr7 sqr8 sqr9 sqr10 sqr11 sqr12 sqr13 sqr14 sqr15 sqr16 sqr17 sqr18 sqr19 sqr20 sqr21 sqr22 sqr23 sqr24 sqr25 sqr26 : Array (Option Value)}
    (a0 : PySem.W.nsIn K mainGlobals "_law_great" = some (some (.ref f0)))
    (l0 : K.lookup f0 = some ⟨oc0, od0, .func (PySem.W.fnOf "_law_great" "_law_great" (defArgs s_law_great) (defBody s_law_great) (defScope s_law_great) .none kV0 dc0 pm0 an0 cd0 ct0), sl0⟩)
    (c0 : PySem.W.codeIn K cd0 "_law_great" = true)
    (k0 : PySem.W.keepIn K (.ref f0) = true)
    (a1 : PySem.W.nsIn K mainGlobals "_law_draw" = some (some (.ref f1)))
    (l1 : K.lookup f1 = some ⟨oc1, od1, .func (PySem.W.fnOf "_law_draw" "_law_draw" (defArgs s_law_draw) (defBody s_law_draw) (defScope s_law_draw) .none kV1 dc1 pm1 an1 cd1 ct1), sl1⟩)
    (c1 : PySem.W.codeIn K cd1 "_law_draw" = true)
    (k1 : PySem.W.keepIn K (.ref f1) = true)
    (a2 : PySem.W.nsIn K mainGlobals "_law_pairs" = some (some (.ref f2)))
    (l2 : K.lookup f2 = some ⟨oc2, od2, .func (PySem.W.fnOf "_law_pairs" "_law_pairs" (defArgs s_law_pairs) (defBody s_law_pairs) (defScope s_law_pairs) .none kV2 dc2 pm2 an2 cd2 ct2), sl2⟩)
    (c2 : PySem.W.codeIn K cd2 "_law_pairs" = true)
    (k2 : PySem.W.keepIn K (.ref f2) = true)
    (a3 : PySem.W.nsIn K mainGlobals "_law_items" = some (some (.ref f3)))
    (l3 : K.lookup f3 = some ⟨oc3, od3, .func (PySem.W.fnOf "_law_items" "_law_items" (defArgs s_law_items) (defBody s_law_items) (defScope s_law_items) .none kV3 dc3 pm3 an3 cd3 ct3), sl3⟩)
    (c3 : PySem.W.codeIn K cd3 "_law_items" = true)
    (k3 : PySem.W.keepIn K (.ref f3) = true)
    (a4 : PySem.W.nsIn K mainGlobals "_law_words" = some (some (.ref f4)))
    (l4 : K.lookup f4 = some ⟨oc4, od4, .func (PySem.W.fnOf "_law_words" "_law_words" (defArgs s_law_words) (defBody s_law_words) (defScope s_law_words) .none kV4 dc4 pm4 an4 cd4 ct4), sl4⟩)
    (c4 : PySem.W.codeIn K cd4 "_law_words" = true)
    (k4 : PySem.W.keepIn K (.ref f4) = true)
    (a5 : PySem.W.nsIn K mainGlobals "_law_odd" = some (some (.ref f5)))
    (l5 : K.lookup f5 = some ⟨oc5, od5, .func (PySem.W.fnOf "_law_odd" "_law_odd" (defArgs s_law_odd) (defBody s_law_odd) (defScope s_law_odd) .none kV5 dc5 pm5 an5 cd5 ct5), sl5⟩)
    (c5 : PySem.W.codeIn K cd5 "_law_odd" = true)
    (k5 : PySem.W.keepIn K (.ref f5) = true)
    (a6 : PySem.W.nsIn K mainGlobals "_law_spoilt" = some (some (.ref f6)))
    (l6 : K.lookup f6 = some ⟨oc6, od6, .func (PySem.W.fnOf "_law_spoilt" "_law_spoilt" (defArgs s_law_spoilt) (defBody s_law_spoilt) (defScope s_law_spoilt) .none kV6 dc6 pm6 an6 cd6 ct6), sl6⟩)
    (c6 : PySem.W.codeIn K cd6 "_law_spoilt" = true)
    (k6 : PySem.W.keepIn K (.ref f6) = true)
    (a7 : PySem.W.nsIn K mainGlobals "_law_first_bad" = some (some (.ref f7)))
    (l7 : K.lookup f7 = some ⟨oc7, od7, .func (PySem.W.fnOf "_law_first_bad" "_law_first_bad" (defArgs s_law_first_bad) (defBody s_law_first_bad) (defScope s_law_first_bad) .none kV7 dc7 pm7 an7 cd7 ct7), sl7⟩)
    (c7 : PySem.W.codeIn K cd7 "_law_first_bad" = true)
    (k7 : PySem.W.keepIn K (.ref f7) = true)
    (a8 : PySem.W.nsIn K mainGlobals "_law_refusal" = some (some (.ref f8)))
    (l8 : K.lookup f8 = some ⟨oc8, od8, .func (PySem.W.fnOf "_law_refusal" "_law_refusal" (defArgs s_law_refusal) (defBody s_law_refusal) (defScope s_law_refusal) .none kV8 dc8 pm8 an8 cd8 ct8), sl8⟩)
    (c8 : PySem.W.codeIn K cd8 "_law_refusal" = true)
    (k8 : PySem.W.keepIn K (.ref f8) = true)
    (a9 : PySem.W.nsIn K mainGlobals "_law_is_set" = some (some (.ref f9)))
    (l9 : K.lookup f9 = some ⟨oc9, od9, .func (PySem.W.fnOf "_law_is_set" "_law_is_set" (defArgs s_law_is_set) (defBody s_law_is_set) (defScope s_law_is_set) .none kV9 dc9 pm9 an9 cd9 ct9), sl9⟩)
    (c9 : PySem.W.codeIn K cd9 "_law_is_set" = true)
    (k9 : PySem.W.keepIn K (.ref f9) = true)
    (a10 : PySem.W.nsIn K mainGlobals "_law_says" = some (some (.ref f10)))
    (l10 : K.lookup f10 = some ⟨oc10, od10, .func (PySem.W.fnOf "_law_says" "_law_says" (defArgs s_law_says) (defBody s_law_says) (defScope s_law_says) .none kV10 dc10 pm10 an10 cd10 ct10), sl10⟩)
    (c10 : PySem.W.codeIn K cd10 "_law_says" = true)
    (k10 : PySem.W.keepIn K (.ref f10) = true)
    (a11 : PySem.W.nsIn K mainGlobals "_law_made" = some (some (.ref f11)))
    (l11 : K.lookup f11 = some ⟨oc11, od11, .func (PySem.W.fnOf "_law_made" "_law_made" (defArgs s_law_made) (defBody s_law_made) (defScope s_law_made) .none kV11 dc11 pm11 an11 cd11 ct11), sl11⟩)
    (c11 : PySem.W.codeIn K cd11 "_law_made" = true)
    (k11 : PySem.W.keepIn K (.ref f11) = true)
    (a12 : PySem.W.nsIn K mainGlobals "_law_within" = some (some (.ref f12)))
    (l12 : K.lookup f12 = some ⟨oc12, od12, .func (PySem.W.fnOf "_law_within" "_law_within" (defArgs s_law_within) (defBody s_law_within) (defScope s_law_within) .none kV12 dc12 pm12 an12 cd12 ct12), sl12⟩)
    (c12 : PySem.W.codeIn K cd12 "_law_within" = true)
    (k12 : PySem.W.keepIn K (.ref f12) = true)
    (a13 : PySem.W.nsIn K mainGlobals "law" = some (some (.ref f13)))
    (l13 : K.lookup f13 = some ⟨oc13, od13, .func (PySem.W.fnOf "law" "law" (defArgs s_law) (defBody s_law) (defScope s_law) .none kV13 dc13 pm13 an13 cd13 ct13), sl13⟩)
    (c13 : PySem.W.codeIn K cd13 "law" = true)
    (k13 : PySem.W.keepIn K (.ref f13) = true)
    (z_len : PySem.W.nsIn K mainGlobals "len" = some none)
    (z_iter : PySem.W.nsIn K mainGlobals "iter" = some none)
    (z_all : PySem.W.nsIn K mainGlobals "all" = some none)
    (z_int : PySem.W.nsIn K mainGlobals "int" = some none)
    (z_range : PySem.W.nsIn K mainGlobals "range" = some none)
    (z_list : PySem.W.nsIn K mainGlobals "list" = some none)
    (z_tuple : PySem.W.nsIn K mainGlobals "tuple" = some none)
    (z_isinstance : PySem.W.nsIn K mainGlobals "isinstance" = some none)
    (z_ValueError : PySem.W.nsIn K mainGlobals "ValueError" = some none)
    (z_super : PySem.W.nsIn K mainGlobals "super" = some none)
    (aP : PySem.W.nsIn K mainGlobals "Pairs" = some (some (.ref PC)))
    (p1 : PySem.W.plainGet K PC Str.empty = true)
    (p2 : PySem.W.hasDictIn K PC = true)
    (p3 : PySem.W.plainOver K PC = true)
    (p4 : PySem.W.findIn K (.ref PC) "__setattr__" = some (some (.builtin "object.__setattr__")))
    (p5 : PySem.W.findIn K (.ref PC) "_pairs" = some none)
    (p6 : PySem.W.makesIn K PC = true)
    (p7 : PySem.W.findIn K (.ref PC) "__init__" = some (some (.ref fI)))
    (p8 : PySem.W.isFn K (.ref fI) = true)
    (p9 : PySem.W.keepIn K (.ref PC) = true)
    (p10 : PySem.W.selfFirst K PC = true)
    (p11 : PySem.W.findIn K (.ref PC) "__class__" = some (some (.builtin "object.__class__")))
    (p12 : PySem.W.specialIn K (.builtin "object.__class__") "__get__" = some (some (.builtin "getset_descriptor.__get__")))
    (p13 : PySem.W.takesIn K (.builtin "object.__class__") = some true)
    (p14 : PySem.W.mroIn K PC (.type "object") = some true)
    (mC : PySem.W.findIn K (.ref PC) "__contains__" = some (some (.ref fC)))
    (nC : PySem.W.isFn K (.ref fC) = true)
    (lC : K.lookup fC = some ⟨ocC, odC, .func (PySem.W.fnOf "__contains__" "Pairs.__contains__" (defArgs s_Pairs_contains) (defBody s_Pairs_contains) (defScope s_Pairs_contains) .none kVC dcC pmC anC cdC ctC), slC⟩)
    (cC : PySem.W.codeIn K cdC "Pairs.__contains__" = true)
    (kC : PySem.W.keepIn K (.ref fC) = true)
    (mL : PySem.W.findIn K (.ref PC) "__len__" = some (some (.ref fL)))
    (nL : PySem.W.isFn K (.ref fL) = true)
    (lL : K.lookup fL = some ⟨ocL, odL, .func (PySem.W.fnOf "__len__" "Pairs.__len__" (defArgs s_Pairs_len) (defBody s_Pairs_len) (defScope s_Pairs_len) .none kVL dcL pmL anL cdL ctL), slL⟩)
    (cL : PySem.W.codeIn K cdL "Pairs.__len__" = true)
    (kL : PySem.W.keepIn K (.ref fL) = true)
    (mT : PySem.W.findIn K (.ref PC) "__iter__" = some (some (.ref fT)))
    (nT : PySem.W.isFn K (.ref fT) = true)
    (lT : K.lookup fT = some ⟨ocT, odT, .func (PySem.W.fnOf "__iter__" "Pairs.__iter__" (defArgs s_Pairs_iter) (defBody s_Pairs_iter) (defScope s_Pairs_iter) .none kVT dcT pmT anT cdT ctT), slT⟩)
    (cT : PySem.W.codeIn K cdT "Pairs.__iter__" = true)
    (kT : PySem.W.keepIn K (.ref fT) = true)
    (mA : PySem.W.findIn K (.ref PC) "__and__" = some (some (.ref fA)))
    (nA : PySem.W.isFn K (.ref fA) = true)
    (lA : K.lookup fA = some ⟨ocA, odA, .func (PySem.W.fnOf "__and__" "Pairs.__and__" (defArgs s_Pairs_and) (defBody s_Pairs_and) (defScope s_Pairs_and) .none kVA dcA pmA anA cdA ctA), slA⟩)
    (cA : PySem.W.codeIn K cdA "Pairs.__and__" = true)
    (kA : PySem.W.keepIn K (.ref fA) = true)
    (mO : PySem.W.findIn K (.ref PC) "__or__" = some (some (.ref fO)))
    (nO : PySem.W.isFn K (.ref fO) = true)
    (lO : K.lookup fO = some ⟨ocO, odO, .func (PySem.W.fnOf "__or__" "Pairs.__or__" (defArgs s_Pairs_or) (defBody s_Pairs_or) (defScope s_Pairs_or) .none kVO dcO pmO anO cdO ctO), slO⟩)
    (cO : PySem.W.codeIn K cdO "Pairs.__or__" = true)
    (kO : PySem.W.keepIn K (.ref fO) = true)
    (mS : PySem.W.findIn K (.ref PC) "__sub__" = some (some (.ref fS)))
    (nS : PySem.W.isFn K (.ref fS) = true)
    (lS : K.lookup fS = some ⟨ocS, odS, .func (PySem.W.fnOf "__sub__" "Pairs.__sub__" (defArgs s_Pairs_sub) (defBody s_Pairs_sub) (defScope s_Pairs_sub) .none kVS dcS pmS anS cdS ctS), slS⟩)
    (cS : PySem.W.codeIn K cdS "Pairs.__sub__" = true)
    (kS : PySem.W.keepIn K (.ref fS) = true)
    (mW : PySem.W.findIn K (.ref PC) "within" = some (some (.ref fW)))
    (nW : PySem.W.isFn K (.ref fW) = true)
    (lW : K.lookup fW = some ⟨ocW, odW, .func (PySem.W.fnOf "within" "Pairs.within" (defArgs s_Pairs_within) (defBody s_Pairs_within) (defScope s_Pairs_within) .none kVW dcW pmW anW cdW ctW), slW⟩)
    (cW : PySem.W.codeIn K cdW "Pairs.within" = true)
    (kW : PySem.W.keepIn K (.ref fW) = true)
    (mB1 : PySem.W.readsIn K PC (.type "type") = true)
    (mB2 : PySem.W.specialIn K (.ref PC) "__getattribute__" = some (some (.builtin "type.__getattribute__")))
    (mB3 : PySem.W.findCls K (.ref PC) (.type "type") "between" = some (.get (.builtin "staticmethod.__get__") (.ref pP) .none (.ref PC)))
    (mB4 : PySem.W.recIn K pP "staticmethod" = some (.ref fB :: restB))
    (lB : K.lookup fB = some ⟨ocB, odB, .func (PySem.W.fnOf "between" "Pairs.between" (defArgs s_Pairs_between) (defBody s_Pairs_between) (defScope s_Pairs_between) .none kVB dcB pmB anB cdB ctB), slB⟩)
    (cB : PySem.W.codeIn K cdB "Pairs.between" = true)
    (kB : PySem.W.keepIn K (.ref fB) = true)
    (lI : K.lookup fI = some ⟨ocI, odI, .func (PySem.W.fnOf "__init__" "Pairs.__init__" (defArgs s_Pairs_init) (defBody s_Pairs_init) (defScope s_Pairs_init) (.ref TD) kVI dcI pmI anI cdI ctI), slI⟩)
    (cI : PySem.W.codeIn K cdI "Pairs.__init__" = true)
    (kI : PySem.W.keepIn K (.ref fI) = true)
    (vD : K.lookup TD = some ⟨tcD, dtD, .seq itsD ntD, sqD⟩)
    (uD : itsD = #[.ref de])
    (vE : K.lookup de = some ⟨.type "tuple", dtE, .seq itsE ntE, sqE⟩)
    (uE : itsE = #[])
    (aB : PySem.W.nsIn K mainGlobals "BadPair" = some (some (.ref BP)))
    (aC : PySem.W.nsIn K mainGlobals "CoreError" = some (some (.ref CE)))
    (aF : PySem.W.nsIn K mainGlobals "BadFence" = some (some (.ref BF)))
    (xB : K.lookup BP = some (excClassObj nmB qB BP N bsB bmB true snB subB abB colB ddB m0 m1 m2 m3 m5 "ValueError.__new__"))
    (rB : PySem.HandSPX.refsVE bmB = true)
    (b1 : PySem.W.findIn K (.ref BP) "__setattr__" = some (some (.builtin "object.__setattr__")))
    (b2 : PySem.W.subIn K (.ref BP) (.type "BaseException") = some true)
    (b3 : PySem.W.typeIn K (.ref BP) = some (.type "type"))
    (b4 : PySem.W.keepIn K (.ref BP) = true)
    (b5 : PySem.W.findIn K (.ref BP) "__init__" = some (some (.ref fE)))
    (b6 : PySem.W.typeIn K (.ref fE) = some (.type "function"))
    (lE : K.lookup fE = some ⟨ocE, odE, .func (PySem.W.fnX "__init__" "BadPair.__init__" (defArgs s_BadPair_init) (defBody s_BadPair_init) (defScope s_BadPair_init) [("__class__", cc)] .none kVE dcE pmE anE (.ref cda) ctE), slE⟩)
    (cE : PySem.W.codeIn K (.ref cda) "BadPair.__init__" = true)
    (kE : PySem.W.keepIn K (.ref fE) = true)
    (eB : K.lookup cc = some ⟨ccl, ccd, .cell (some (.ref BP)), ccs⟩)
    (b7 : PySem.W.ks_superIn K BP BP "__init__" = some (some (.builtin "ValueError.__init__")))
    (b8 : PySem.W.subIn K (.ref BP) (.type "ValueError") = some true)
    (b9 : PySem.W.nsIn K cStatics "thirdparty.any" = some none)
    (b10 : PySem.W.mroIn K BP (.ref BP) = some true)
    (b11 : K.lookup cda = some ⟨ccx, cdd, .fields vsB, ccz⟩)
    (b12 : vsB[2]? = some (.str file tf))
    (b13 : ((l.prog.main.file : Str) == file) = true)
    (b14 : (l.prog.main.scope.names.lookup ("super" : Str)).isSome = false)
    (b15 : PySem.W.findIn K (.ref BP) "pair" = some none)
    (b17 : PySem.W.findIn K (.ref BP) "__getattribute__" = some (some (.builtin "BaseException.__getattribute__")))
    (b18 : PySem.W.findIn K (.ref BP) "__getattr__" = some none)
    (b19 : PySem.W.hasDictIn K BP = true)
    (b20 : PySem.W.isClsIn K BP = true)
    (b21 : PySem.W.subIn K (.ref CE) (.type "BaseException") = some true)
    (b22 : PySem.W.isClsIn K CE = true)
    (b23 : PySem.W.typeIn K (.ref CE) = some (.type "type"))
    (b24 : PySem.W.subIn K (.ref BP) (.ref CE) = some true)
    (b25 : PySem.W.findIn K (.ref BP) "__class__" = some (some (.builtin "object.__class__")))
    (b26 : PySem.W.mroIn K BP (.type "object") = some true)
    (b27 : PySem.W.isClsIn K BF = true)
    (b28 : PySem.W.typeIn K (.ref BF) = some (.type "type"))
    (b29 : PySem.W.subIn K (.ref BP) (.ref BF) = some false)
    (b30 : ((Value.ref BP) == (Value.ref BF)) = false)
    (b31 : PySem.W.kitMeta "ValueError" = true)
    (gK : PySem.W.nsIn K mainGlobals "KINDS" = some (some (.ref TK)))
    (vK : K.lookup TK = some ⟨.type "tuple", dtK, .seq itsK ntK, sqK⟩)
    (uK : itsK.size ≤ sizeLine ∧ Vals ((["read", "acquire", "write", "release", "both"] : List Str).map V.str) itsK.toList)
    (gR : PySem.W.nsIn K mainGlobals "READS" = some (some (.ref TR_)))
    (vR : K.lookup TR_ = some ⟨.type "tuple", dtR, .seq itsR ntR, sqR⟩)
    (uR : itsR.size ≤ sizeLine ∧ Vals ((["read", "acquire"] : List Str).map V.str) itsR.toList)
    (gW : PySem.W.nsIn K mainGlobals "WRITES" = some (some (.ref TW)))
    (vW : K.lookup TW = some ⟨.type "tuple", dtW, .seq itsW ntW, sqW⟩)
    (uW : itsW.size ≤ sizeLine ∧ Vals ((["write", "release"] : List Str).map V.str) itsW.toList)
    (gP : PySem.W.nsIn K mainGlobals "PAIRS" = some (some (.ref TP)))
    (vP : K.lookup TP = some ⟨.type "tuple", dtP, .seq itsP ntP, sqP⟩)
    (uP : itsP = #[.ref R0, .ref R1, .ref R2, .ref R3, .ref R4, .ref R5, .ref R6, .ref R7, .ref R8, .ref R9, .ref R10, .ref R11, .ref R12, .ref R13, .ref R14, .ref R15, .ref R16, .ref R17, .ref R18, .ref R19, .ref R20, .ref R21, .ref R22, .ref R23, .ref R24, .ref R25, .ref R26])
    (vr0 : K.lookup R0 = some ⟨.type "tuple", dtr0, .seq itr0 ntr0, sqr0⟩)
    (ur0 : itr0.size ≤ sizeLine ∧ Vals ([.str "read", .str "read"]) itr0.toList)
    (vr1 : K.lookup R1 = some ⟨.type "tuple", dtr1, .seq itr1 ntr1, sqr1⟩)
    (ur1 : itr1.size ≤ sizeLine ∧ Vals ([.str "read", .str "acquire"]) itr1.toList)
    (vr2 : K.lookup R2 = some ⟨.type "tuple", dtr2, .seq itr2 ntr2, sqr2⟩)
    (ur2 : itr2.size ≤ sizeLine ∧ Vals ([.str "read", .str "write"]) itr2.toList)
    (vr3 : K.lookup R3 = some ⟨.type "tuple", dtr3, .seq itr3 ntr3, sqr3⟩)
    (ur3 : itr3.size ≤ sizeLine ∧ Vals ([.str "read", .str "release"]) itr3.toList)
    (vr4 : K.lookup R4 = some ⟨.type "tuple", dtr4, .seq itr4 ntr4, sqr4⟩)
    (ur4 : itr4.size ≤ sizeLine ∧ Vals ([.str "read", .str "both"]) itr4.toList)
    (vr5 : K.lookup R5 = some ⟨.type "tuple", dtr5, .seq itr5 ntr5, sqr5⟩)
    (ur5 : itr5.size ≤ sizeLine ∧ Vals ([.str "acquire", .str "read"]) itr5.toList)
    (vr6 : K.lookup R6 = some ⟨.type "tuple", dtr6, .seq itr6 ntr6, sqr6⟩)
    (ur6 : itr6.size ≤ sizeLine ∧ Vals ([.str "acquire", .str "acquire"]) itr6.toList)
    (vr7 : K.lookup R7 = some ⟨.type "tuple", dtr7, .seq itr7 ntr7, sqr7⟩)
    (ur7 : itr7.size ≤ sizeLine ∧ Vals ([.str "acquire", .str "write"]) itr7.toList)
    (vr8 : K.lookup R8 = some ⟨.type "tuple", dtr8, .seq itr8 ntr8, sqr8⟩)
    (ur8 : itr8.size ≤ sizeLine ∧ Vals ([.str "acquire", .str "release"]) itr8.toList)
    (vr9 : K.lookup R9 = some ⟨.type "tuple", dtr9, .seq itr9 ntr9, sqr9⟩)
    (ur9 : itr9.size ≤ sizeLine ∧ Vals ([.str "acquire", .str "both"]) itr9.toList)
    (vr10 : K.lookup R10 = some ⟨.type "tuple", dtr10, .seq itr10 ntr10, sqr10⟩)
    (ur10 : itr10.size ≤ sizeLine ∧ Vals ([.str "write", .str "read"]) itr10.toList)
    (vr11 : K.lookup R11 = some ⟨.type "tuple", dtr11, .seq itr11 ntr11, sqr11⟩)
    (ur11 : itr11.size ≤ sizeLine ∧ Vals ([.str "write", .str "acquire"]) itr11.toList)
    (vr12 : K.lookup R12 = some ⟨.type "tuple", dtr12, .seq itr12 ntr12, sqr12⟩)
    (ur12 : itr12.size ≤ sizeLine ∧ Vals ([.str "write", .str "write"]) itr12.toList)
    (vr13 : K.lookup R13 = some ⟨.type "tuple", dtr13, .seq itr13 ntr13, sqr13⟩)
    (ur13 : itr13.size ≤ sizeLine ∧ Vals ([.str "write", .str "release"]) itr13.toList)
    (vr14 : K.lookup R14 = some ⟨.type "tuple", dtr14, .seq itr14 ntr14, sqr14⟩)
    (ur14 : itr14.size ≤ sizeLine ∧ Vals ([.str "write", .str "both"]) itr14.toList)
    (vr15 : K.lookup R15 = some ⟨.type "tuple", dtr15, .seq itr15 ntr15, sqr15⟩)
    (ur15 : itr15.size ≤ sizeLine ∧ Vals ([.str "write", .str "return"]) itr15.toList)
    (vr16 : K.lookup R16 = some ⟨.type "tuple", dtr16, .seq itr16 ntr16, sqr16⟩)
    (ur16 : itr16.size ≤ sizeLine ∧ Vals ([.str "release", .str "read"]) itr16.toList)
    (vr17 : K.lookup R17 = some ⟨.type "tuple", dtr17, .seq itr17 ntr17, sqr17⟩)
    (ur17 : itr17.size ≤ sizeLine ∧ Vals ([.str "release", .str "acquire"]) itr17.toList)
    (vr18 : K.lookup R18 = some ⟨.type "tuple", dtr18, .seq itr18 ntr18, sqr18⟩)
    (ur18 : itr18.size ≤ sizeLine ∧ Vals ([.str "release", .str "write"]) itr18.toList)
    (vr19 : K.lookup R19 = some ⟨.type "tuple", dtr19, .seq itr19 ntr19, sqr19⟩)
    (ur19 : itr19.size ≤ sizeLine ∧ Vals ([.str "release", .str "release"]) itr19.toList)
    (vr20 : K.lookup R20 = some ⟨.type "tuple", dtr20, .seq itr20 ntr20, sqr20⟩)
    (ur20 : itr20.size ≤ sizeLine ∧ Vals ([.str "release", .str "both"]) itr20.toList)
    (vr21 : K.lookup R21 = some ⟨.type "tuple", dtr21, .seq itr21 ntr21, sqr21⟩)
    (ur21 : itr21.size ≤ sizeLine ∧ Vals ([.str "release", .str "return"]) itr21.toList)
    (vr22 : K.lookup R22 = some ⟨.type "tuple", dtr22, .seq itr22 ntr22, sqr22⟩)
    (ur22 : itr22.size ≤ sizeLine ∧ Vals ([.str "both", .str "read"]) itr22.toList)
    (vr23 : K.lookup R23 = some ⟨.type "tuple", dtr23, .seq itr23 ntr23, sqr23⟩)
    (ur23 : itr23.size ≤ sizeLine ∧ Vals ([.str "both", .str "acquire"]) itr23.toList)
    (vr24 : K.lookup R24 = some ⟨.type "tuple", dtr24, .seq itr24 ntr24, sqr24⟩)
    (ur24 : itr24.size ≤ sizeLine ∧ Vals ([.str "both", .str "write"]) itr24.toList)
    (vr25 : K.lookup R25 = some ⟨.type "tuple", dtr25, .seq itr25 ntr25, sqr25⟩)
    (ur25 : itr25.size ≤ sizeLine ∧ Vals ([.str "both", .str "release"]) itr25.toList)
    (vr26 : K.lookup R26 = some ⟨.type "tuple", dtr26, .seq itr26 ntr26, sqr26⟩)
    (ur26 : itr26.size ≤ sizeLine ∧ Vals ([.str "both", .str "both"]) itr26.toList) :
    ∃ fd : FuncData, (∀ (s : Shared) (v : Value), BindsTo s fd ⟨[v], []⟩ [("_law_script", v)]) ∧ ∀ base : Heap, K.In base → base.Ns mainGlobals mg → FnOk l.prog w K mg base CX0 8 fa fd ["_law_script"] (spLaw K) := by
  cases hfa.symm.trans (PySem.W.mg_of X G a13)
  subst uD uE uP
  have hde : ∀ H : Hp, SqT K H de [] := fun H => .inr ⟨_, _, ntE, vE, rfl, rfl, by decide, .nil⟩
  have tK : TupK K TK _ := fun H => .inr ⟨_, itsK, ntK, vK, rfl, rfl, uK.1, uK.2⟩
  have tR : TupK K TR_ _ := fun H => .inr ⟨_, itsR, ntR, vR, rfl, rfl, uR.1, uR.2⟩
  have tW : TupK K TW _ := fun H => .inr ⟨_, itsW, ntW, vW, rfl, rfl, uW.1, uW.2⟩
  have pk : PairsK K TP := by
    refine pairsK_mk [R0, R1, R2, R3, R4, R5, R6, R7, R8, R9, R10, R11, R12, R13, R14, R15, R16, R17, R18, R19, R20, R21, R22, R23, R24, R25, R26] (fun H => .inr ⟨_, _, ntP, vP, rfl, rfl, show 27 ≤ sizeLine by decide, by exact .cons rfl (.cons rfl (.cons rfl (.cons rfl (.cons rfl (.cons rfl (.cons rfl (.cons rfl (.cons rfl (.cons rfl (.cons rfl (.cons rfl (.cons rfl (.cons rfl (.cons rfl (.cons rfl (.cons rfl (.cons rfl (.cons rfl (.cons rfl (.cons rfl (.cons rfl (.cons rfl (.cons rfl (.cons rfl (.cons rfl (.cons rfl (.nil)))))))))))))))))))))))))))⟩) ?_
    rw [show pairsL = ([("read", "read"), ("read", "acquire"), ("read", "write"), ("read", "release"), ("read", "both"), ("acquire", "read"), ("acquire", "acquire"), ("acquire", "write"), ("acquire", "release"), ("acquire", "both"), ("write", "read"), ("write", "acquire"), ("write", "write"), ("write", "release"), ("write", "both"), ("write", "return"), ("release", "read"), ("release", "acquire"), ("release", "write"), ("release", "release"), ("release", "both"), ("release", "return"), ("both", "read"), ("both", "acquire"), ("both", "write"), ("both", "release"), ("both", "both")] : List Pr) from by decide +kernel]
    exact .cons (fun H => .inr ⟨_, itr0, ntr0, vr0, rfl, rfl, ur0.1, ur0.2⟩) (.cons (fun H => .inr ⟨_, itr1, ntr1, vr1, rfl, rfl, ur1.1, ur1.2⟩) (.cons (fun H => .inr ⟨_, itr2, ntr2, vr2, rfl, rfl, ur2.1, ur2.2⟩) (.cons (fun H => .inr ⟨_, itr3, ntr3, vr3, rfl, rfl, ur3.1, ur3.2⟩) (.cons (fun H => .inr ⟨_, itr4, ntr4, vr4, rfl, rfl, ur4.1, ur4.2⟩) (.cons (fun H => .inr ⟨_, itr5, ntr5, vr5, rfl, rfl, ur5.1, ur5.2⟩) (.cons (fun H => .inr ⟨_, itr6, ntr6, vr6, rfl, rfl, ur6.1, ur6.2⟩) (.cons (fun H => .inr ⟨_, itr7, ntr7, vr7, rfl, rfl, ur7.1, ur7.2⟩) (.cons (fun H => .inr ⟨_, itr8, ntr8, vr8, rfl, rfl, ur8.1, ur8.2⟩) (.cons (fun H => .inr ⟨_, itr9, ntr9, vr9, rfl, rfl, ur9.1, ur9.2⟩) (.cons (fun H => .inr ⟨_, itr10, ntr10, vr10, rfl, rfl, ur10.1, ur10.2⟩) (.cons (fun H => .inr ⟨_, itr11, ntr11, vr11, rfl, rfl, ur11.1, ur11.2⟩) (.cons (fun H => .inr ⟨_, itr12, ntr12, vr12, rfl, rfl, ur12.1, ur12.2⟩) (.cons (fun H => .inr ⟨_, itr13, ntr13, vr13, rfl, rfl, ur13.1, ur13.2⟩) (.cons (fun H => .inr ⟨_, itr14, ntr14, vr14, rfl, rfl, ur14.1, ur14.2⟩) (.cons (fun H => .inr ⟨_, itr15, ntr15, vr15, rfl, rfl, ur15.1, ur15.2⟩) (.cons (fun H => .inr ⟨_, itr16, ntr16, vr16, rfl, rfl, ur16.1, ur16.2⟩) (.cons (fun H => .inr ⟨_, itr17, ntr17, vr17, rfl, rfl, ur17.1, ur17.2⟩) (.cons (fun H => .inr ⟨_, itr18, ntr18, vr18, rfl, rfl, ur18.1, ur18.2⟩) (.cons (fun H => .inr ⟨_, itr19, ntr19, vr19, rfl, rfl, ur19.1, ur19.2⟩) (.cons (fun H => .inr ⟨_, itr20, ntr20, vr20, rfl, rfl, ur20.1, ur20.2⟩) (.cons (fun H => .inr ⟨_, itr21, ntr21, vr21, rfl, rfl, ur21.1, ur21.2⟩) (.cons (fun H => .inr ⟨_, itr22, ntr22, vr22, rfl, rfl, ur22.1, ur22.2⟩) (.cons (fun H => .inr ⟨_, itr23, ntr23, vr23, rfl, rfl, ur23.1, ur23.2⟩) (.cons (fun H => .inr ⟨_, itr24, ntr24, vr24, rfl, rfl, ur24.1, ur24.2⟩) (.cons (fun H => .inr ⟨_, itr25, ntr25, vr25, rfl, rfl, ur25.1, ur25.2⟩) (.cons (fun H => .inr ⟨_, itr26, ntr26, vr26, rfl, rfl, ur26.1, ur26.2⟩) (.nil)))))))))))))))))))))))))))
  have T0 : Bt0 mg := ⟨(PySem.W.mg_none_of X G z_len), (PySem.W.mg_none_of X G z_int), (PySem.W.mg_none_of X G z_range), (PySem.W.mg_none_of X G z_list), (PySem.W.mg_none_of X G z_tuple)⟩
  have TB : Bt K mg TP := ⟨(PySem.W.mg_none_of X G z_len), (PySem.W.mg_none_of X G z_iter), (PySem.W.mg_none_of X G z_all), (PySem.W.mg_of X G gP), pk⟩
  have MP : Mk K PC fI := ⟨p6, p7, p8, p9⟩
  have T2 : Bt2 K mg TP PC fI := ⟨TB, (PySem.W.mg_of X G aP), MP⟩
  have CL : Cls K PC := ⟨p1, p2, p3, p4⟩
  have PC_ : PrC K mg PC := ⟨(PySem.W.mg_of X G aP), CL, p5⟩
  have F0 := fun_mk (st := s_law_great) l0 c0 k0
  have D0 : Df K mg "_law_great" s_law_great ["_law_cell", "_law_k"] f0 _ := ⟨F0, PySem.W.mg_of X G a0, F0.binds (ps := ["_law_cell", "_law_k"]) fun _ _ _ _ _ _ us hl => match us, hl with | [_, _], _ => rfl⟩
  have F1 := fun_mk (st := s_law_draw) l1 c1 k1
  have D1 : Df K mg "_law_draw" s_law_draw ["_law_script", "_law_k"] f1 _ := ⟨F1, PySem.W.mg_of X G a1, F1.binds (ps := ["_law_script", "_law_k"]) fun _ _ _ _ _ _ us hl => match us, hl with | [_, _], _ => rfl⟩
  have F2 := fun_mk (st := s_law_pairs) l2 c2 k2
  have D2 : Df K mg "_law_pairs" s_law_pairs [] f2 _ := ⟨F2, PySem.W.mg_of X G a2, F2.binds (ps := []) fun _ _ _ _ _ _ us hl => match us, hl with | [], _ => rfl⟩
  have F3 := fun_mk (st := s_law_items) l3 c3 k3
  have D3 : Df K mg "_law_items" s_law_items ["_law_number"] f3 _ := ⟨F3, PySem.W.mg_of X G a3, F3.binds (ps := ["_law_number"]) fun _ _ _ _ _ _ us hl => match us, hl with | [_], _ => rfl⟩
  have F4 := fun_mk (st := s_law_words) l4 c4 k4
  have D4 : Df K mg "_law_words" s_law_words ["_law_number"] f4 _ := ⟨F4, PySem.W.mg_of X G a4, F4.binds (ps := ["_law_number"]) fun _ _ _ _ _ _ us hl => match us, hl with | [_], _ => rfl⟩
  have F5 := fun_mk (st := s_law_odd) l5 c5 k5
  have D5 : Df K mg "_law_odd" s_law_odd ["_law_number"] f5 _ := ⟨F5, PySem.W.mg_of X G a5, F5.binds (ps := ["_law_number"]) fun _ _ _ _ _ _ us hl => match us, hl with | [_], _ => rfl⟩
  have F6 := fun_mk (st := s_law_spoilt) l6 c6 k6
  have D6 : Df K mg "_law_spoilt" s_law_spoilt ["_law_items_here", "_law_number"] f6 _ := ⟨F6, PySem.W.mg_of X G a6, F6.binds (ps := ["_law_items_here", "_law_number"]) fun _ _ _ _ _ _ us hl => match us, hl with | [_, _], _ => rfl⟩
  have F7 := fun_mk (st := s_law_first_bad) l7 c7 k7
  have D7 : Df K mg "_law_first_bad" s_law_first_bad ["_law_items_here"] f7 _ := ⟨F7, PySem.W.mg_of X G a7, F7.binds (ps := ["_law_items_here"]) fun _ _ _ _ _ _ us hl => match us, hl with | [_], _ => rfl⟩
  have F8 := fun_mk (st := s_law_refusal) l8 c8 k8
  have D8 : Df K mg "_law_refusal" s_law_refusal ["_law_items_here"] f8 _ := ⟨F8, PySem.W.mg_of X G a8, F8.binds (ps := ["_law_items_here"]) fun _ _ _ _ _ _ us hl => match us, hl with | [_], _ => rfl⟩
  have F9 := fun_mk (st := s_law_is_set) l9 c9 k9
  have D9 : Df K mg "_law_is_set" s_law_is_set ["_law_told", "_law_due"] f9 _ := ⟨F9, PySem.W.mg_of X G a9, F9.binds (ps := ["_law_told", "_law_due"]) fun _ _ _ _ _ _ us hl => match us, hl with | [_, _], _ => rfl⟩
  have F10 := fun_mk (st := s_law_says) l10 c10 k10
  have D10 : Df K mg "_law_says" s_law_says ["_law_told", "_law_due"] f10 _ := ⟨F10, PySem.W.mg_of X G a10, F10.binds (ps := ["_law_told", "_law_due"]) fun _ _ _ _ _ _ us hl => match us, hl with | [_, _], _ => rfl⟩
  have F11 := fun_mk (st := s_law_made) l11 c11 k11
  have D11 : Df K mg "_law_made" s_law_made ["_law_a", "_law_b", "_law_none", "_law_one", "_law_two", "_law_rows"] f11 _ := ⟨F11, PySem.W.mg_of X G a11, F11.binds (ps := ["_law_a", "_law_b", "_law_none", "_law_one", "_law_two", "_law_rows"]) fun _ _ _ _ _ _ us hl => match us, hl with | [_, _, _, _, _, _], _ => rfl⟩
  have F12 := fun_mk (st := s_law_within) l12 c12 k12
  have D12 : Df K mg "_law_within" s_law_within ["_law_a", "_law_b", "_law_none", "_law_one", "_law_two", "_law_same"] f12 _ := ⟨F12, PySem.W.mg_of X G a12, F12.binds (ps := ["_law_a", "_law_b", "_law_none", "_law_one", "_law_two", "_law_same"]) fun _ _ _ _ _ _ us hl => match us, hl with | [_, _, _, _, _, _], _ => rfl⟩
  have F13 := fun_mk (st := s_law) l13 c13 k13
  have D13 : Df K mg "law" s_law ["_law_script"] fa _ := ⟨F13, PySem.W.mg_of X G a13, F13.binds (ps := ["_law_script"]) fun _ _ _ _ _ _ us hl => match us, hl with | [_], _ => rfl⟩
  have FC := fun_mk (st := s_Pairs_contains) lC cC kC
  have bC : Binds K _ ["self", "x"] [] := FC.binds (ps := ["self", "x"]) fun _ _ _ _ _ _ us hl => match us, hl with | [_, _], _ => rfl
  have FL := fun_mk (st := s_Pairs_len) lL cL kL
  have bL : Binds K _ ["self"] [] := FL.binds (ps := ["self"]) fun _ _ _ _ _ _ us hl => match us, hl with | [_], _ => rfl
  have FT := fun_mk (st := s_Pairs_iter) lT cT kT
  have bT : Binds K _ ["self"] [] := FT.binds (ps := ["self"]) fun _ _ _ _ _ _ us hl => match us, hl with | [_], _ => rfl
  have FA := fun_mk (st := s_Pairs_and) lA cA kA
  have bA : Binds K _ ["self", "other"] [] := FA.binds (ps := ["self", "other"]) fun _ _ _ _ _ _ us hl => match us, hl with | [_, _], _ => rfl
  have FO := fun_mk (st := s_Pairs_or) lO cO kO
  have bO : Binds K _ ["self", "other"] [] := FO.binds (ps := ["self", "other"]) fun _ _ _ _ _ _ us hl => match us, hl with | [_, _], _ => rfl
  have FS := fun_mk (st := s_Pairs_sub) lS cS kS
  have bS : Binds K _ ["self", "other"] [] := FS.binds (ps := ["self", "other"]) fun _ _ _ _ _ _ us hl => match us, hl with | [_, _], _ => rfl
  have FW := fun_mk (st := s_Pairs_within) lW cW kW
  have bW : Binds K _ ["self", "other"] [] := FW.binds (ps := ["self", "other"]) fun _ _ _ _ _ _ us hl => match us, hl with | [_, _], _ => rfl
  have FB := fun_mk (st := s_Pairs_between) lB cB kB
  have bB : Binds K _ ["firsts", "seconds"] [] := FB.binds (ps := ["firsts", "seconds"]) fun _ _ _ _ _ _ us hl => match us, hl with | [_, _], _ => rfl
  have FI : FunD K "__init__" "Pairs.__init__" (defArgs s_Pairs_init) (defBody s_Pairs_init) (defScope s_Pairs_init) [V.ref de] [] fI _ := ⟨⟨ocI, odI, .ref TD, kVI, dcI, pmI, anI, cdI, ctI, slI, rfl, lI, cI, .inr ⟨fun z => (nomatch z), TD, _, [.ref de], ntD, rfl, vD, rfl, .cons rfl .nil⟩, .inl rfl⟩, kI⟩
  obtain ⟨ds1, hds1, bI⟩ := FI.binds1 (ps := ["self", "pairs"]) 2 1 (fun z => nomatch z) rfl fun T kV doc pm an cdv ct us its h1 h2 => match us, h1, its, h2 with | [_, _], _, [_], _ => ⟨_, rfl, rfl⟩
  cases hds1
  obtain ⟨ds, hds, bD⟩ := FI.binds1 (ps := ["self", "pairs"]) 1 0 (fun z => nomatch z) rfl fun T kV doc pm an cdv ct us its h1 h2 => match us, h1, its, h2 with | [_], _, [_], _ => ⟨_, rfl, rfl⟩
  have OX : OexC K BP := ⟨⟨nmB, qB, N, bsB, bmB, snB, subB, abB, colB, ddB, m0, m1, m2, m3, m5, xB, rB⟩, b1, b2, b3, b4⟩
  have EC : ErrC K BP := ⟨OX, b7, b8, b9, b10⟩
  have CF : CodeF K l.prog cda := ⟨⟨ccx, cdd, vsB, ccz, file, tf, b11, b12, b13⟩, b14⟩
  have FX : FunX K "__init__" "BadPair.__init__" s_BadPair_init fE _ cc cda BP := ⟨⟨ocE, odE, kVE, dcE, pmE, anE, ctE, slE, rfl, lE, cE⟩, ⟨ccl, ccd, ccs, eB⟩, kE⟩
  have IN : InC K PC fC := ⟨mC, nC⟩
  have LN : LenC K PC fL := ⟨mL, nL⟩
  have IT : IterC K PC fT fL := ⟨mT, nT, LN⟩
  have KB : KitC K BP := ⟨b20, b17, b18, b2, b25, p12, p13, b26⟩
  have TR : BtR K mg PC BP CE BF fI := ⟨(PySem.W.mg_of X G aP), MP, (PySem.W.mg_of X G aC), (PySem.W.mg_of X G aB), (PySem.W.mg_of X G aF), ⟨b17, b18, b2, b19⟩, b15, exm_sub b21 b22 b23 b24, KB, kit_self, kit_ty b31 b8, kit_sub b30 b27 b28 b29, (PySem.W.mg_none_of X G z_isinstance), (PySem.W.mg_none_of X G z_ValueError)⟩
  have TS : BtS K mg PC fC fL fT := ⟨T0, (PySem.W.mg_of X G aP), CL, kit_self, p11, p12, p13, p14, (PySem.W.mg_none_of X G z_isinstance), LN, IT, IN⟩
  have TM : BtM K mg PC fA fO fS fW := ⟨(PySem.W.mg_none_of X G z_len), CL, ⟨p10, mA, nA⟩, ⟨p10, mO, nO⟩, ⟨p10, mS, nS⟩, ⟨mW, nW, kW⟩⟩
  have TL : BtL K mg PC fI TP TK TR_ TW pP fB := ⟨T0, (PySem.W.mg_of X G gP), (PySem.W.mg_of X G gK), (PySem.W.mg_of X G gR), (PySem.W.mg_of X G gW), pk, tK, tR, tW, (PySem.W.mg_of X G aP), MP, ⟨mB1, mB2, mB3, ⟨restB, mB4⟩, kB⟩⟩
  refine ⟨PySem.W.fnOf "law" "law" (defArgs s_law) (defBody s_law) (defScope s_law) .none kV13 dc13 pm13 an13 cd13 ct13, fun s v => .of_eq rfl, fun base _ _ => ?_⟩
  have GE := ok_BadPair_init (P := l.prog) (w := w) (base := base) (mg := mg) (CX := L2.CX l.prog w) (Pf := fun _ => True) FX EC CF (PySem.W.mg_none_of X G z_super) b15
  have ER : Er1 l.prog w K mg base "BadPair" "pair" BP fE _ ["self", "pair"] (fun _ => True) := ⟨(PySem.W.mg_of X G aB), OX, b5, b6, .all fun us hl => match us, hl with | [_, _], _ => rfl, GE⟩
  have GI := ok_Pairs_init (P := l.prog) (w := w) (base := base) FI TB PC_ ER
  have GC := ok_Pairs_contains (P := l.prog) (w := w) (base := base) FC PC_
  have GL := ok_Pairs_len (P := l.prog) (w := w) (base := base) FL TB PC_
  have GT := ok_Pairs_iter (P := l.prog) (w := w) (base := base) FT TB PC_
  have GA := ok_Pairs_and (P := l.prog) (w := w) (base := base) FA T2 PC_ bI GI
  have GO := ok_Pairs_or (P := l.prog) (w := w) (base := base) FO T2 PC_ bI GI
  have GS := ok_Pairs_sub (P := l.prog) (w := w) (base := base) FS T2 PC_ bI GI
  have GB := ok_Pairs_between (P := l.prog) (w := w) (base := base) FB T2 PC_ bI GI
  have GW := ok_Pairs_within (P := l.prog) (w := w) (base := base) FW TB PC_ IN bC GC
  have G0 := ok_law_great (P := l.prog) (w := w) (base := base) D0 T0 
  have G1 := ok_law_draw (P := l.prog) (w := w) (base := base) D1 T0 D0 G0
  have G2 := ok_law_pairs (P := l.prog) (w := w) (base := base) D2 T0 
  have G3 := ok_law_items (P := l.prog) (w := w) (base := base) D3 T0 D2 G2
  have G4 := ok_law_words (P := l.prog) (w := w) (base := base) D4 T0 
  have G5 := ok_law_odd (P := l.prog) (w := w) (base := base) D5 T0 
  have G6 := ok_law_spoilt (P := l.prog) (w := w) (base := base) D6 T0 D5 G5
  have G7 := ok_law_first_bad (P := l.prog) (w := w) (base := base) D7 T0 D2 G2
  have G8 := ok_law_refusal (P := l.prog) (w := w) (base := base) D8 TR bI GI 
  have G9 := ok_law_is_set (P := l.prog) (w := w) (base := base) D9 TS PC_ bC GC bL GL bT GT D2 G2
  have G10 := ok_law_says (P := l.prog) (w := w) (base := base) D10  
  have G11 := ok_law_made (P := l.prog) (w := w) (base := base) D11 TM bA GA bO GO bS GS D9 G9
  have G12 := ok_law_within (P := l.prog) (w := w) (base := base) D12 TM bA GA bO GO bW GW D10 G10
  exact ok_law (P := l.prog) (w := w) (base := base) D13 TL bI bD hds hde GI bB GB D1 G1 D2 G2 D3 G3 D11 G11 D12 G12 D4 G4 D9 G9 D6 G6 D7 G7 D8 G8
theorem walk {l : PySem.W.OpenLaw} {q : Program} {loose : List Str} {XP : (Str → Option Value) → Heap → Prop} {YP : World → Heap → Prop} {d : DefRec} {K : Params → PySem.W.Frag} (hn : l.most = some 63) (hdf : d.params.defaults = [])
    (hY : ∀ (w : World) (h : Heap), YP w h → (K w.params).In h)
    (F : ∀ (w : World) (mg : Str → Option Value) (fa : Addr) (h : Heap), (K w.params).In h → h.Ns mainGlobals mg → mg d.name = some (.ref fa) →
      ∃ fd : FuncData, (∀ (s : Shared) (u : Value), BindsTo s fd ⟨[u], []⟩ [("_law_script", u)]) ∧ ∀ base : Heap, (K w.params).In base → base.Ns mainGlobals mg → FnOk l.prog w (K w.params) mg base CX0 8 fa fd ["_law_script"] (spLaw (K w.params))) :
    PySem.W.WalkO q loose XP YP l.row.toRowW d [] (fun f vs => PySem.call f vs) :=
  L2.walk_of (n := 63) (k := 8) (x := "_law_script") (CX := fun _ => CX0) (sp := fun w => spLaw (K w.params)) hn (by decide) hdf ⟨rfl, by decide, by decide⟩ hY F (fun _ _ a ns hl _ hS => ⟨a, ns, rfl, hS, hl, fun _ => rfl⟩) fun _ _ _ _ _ z => z
end My
open PySem PySem.W PyProof.Rows in
set_option maxRecDepth 100000 in
set_option maxHeartbeats 0 in
theorem PySem.Challenge.cw_coretower_k33_pairs_as_sets_holds : PySem.Challenge.rw_coretower_k33_pairs_as_sets.Holds := by
  w_on; o_law; k_head; (case hw => w_witness2)
  k_fill
  refine My.walk (l := PySem.Challenge.rw_coretower_k33_pairs_as_sets) rfl rfl (fun w h Y => PySem.W.kIn_of Y) ?F
  case F =>
    intro w mg fa h KX G hmg
    refine' My.all_mk KX G hmg ?a0 ?l0 ?c0 ?k0 ?a1 ?l1 ?c1 ?k1 ?a2 ?l2 ?c2 ?k2 ?a3 ?l3 ?c3 ?k3 ?a4 ?l4 ?c4 ?k4 ?a5 ?l5 ?c5 ?k5 ?a6 ?l6 ?c6 ?k6 ?a7 ?l7 ?c7 ?k7 ?a8 ?l8 ?c8 ?k8 ?a9 ?l9 ?c9 ?k9 ?a10 ?l10 ?c10 ?k10 ?a11 ?l11 ?c11 ?k11 ?a12 ?l12 ?c12 ?k12 ?a13 ?l13 ?c13 ?k13 ?z_len ?z_iter ?z_all ?z_int ?z_range ?z_list ?z_tuple ?z_isinstance ?z_ValueError ?z_super ?aP ?p1 ?p2 ?p3 ?p4 ?p5 ?p6 ?p7 ?p8 ?p9 ?p10 ?p11 ?p12 ?p13 ?p14 ?mC ?nC ?lC ?cC ?kC ?mL ?nL ?lL ?cL ?kL ?mT ?nT ?lT ?cT ?kT ?mA ?nA ?lA ?cA ?kA ?mO ?nO ?lO ?cO ?kO ?mS ?nS ?lS ?cS ?kS ?mW ?nW ?lW ?cW ?kW ?mB1 ?mB2 ?mB3 ?mB4 ?lB ?cB ?kB ?lI ?cI ?kI ?vD ?uD ?vE ?uE ?aB ?aC ?aF ?xB ?rB ?b1 ?b2 ?b3 ?b4 ?b5 ?b6 ?lE ?cE ?kE ?eB ?b7 ?b8 ?b9 ?b10 ?b11 ?b12 ?b13 ?b14 ?b15 ?b17 ?b18 ?b19 ?b20 ?b21 ?b22 ?b23 ?b24 ?b25 ?b26 ?b27 ?b28 ?b29 ?b30 ?b31 ?gK ?vK ?uK ?gR ?vR ?uR ?gW ?vW ?uW ?gP ?vP ?uP ?vr0 ?ur0 ?vr1 ?ur1 ?vr2 ?ur2 ?vr3 ?ur3 ?vr4 ?ur4 ?vr5 ?ur5 ?vr6 ?ur6 ?vr7 ?ur7 ?vr8 ?ur8 ?vr9 ?ur9 ?vr10 ?ur10 ?vr11 ?ur11 ?vr12 ?ur12 ?vr13 ?ur13 ?vr14 ?ur14 ?vr15 ?ur15 ?vr16 ?ur16 ?vr17 ?ur17 ?vr18 ?ur18 ?vr19 ?ur19 ?vr20 ?ur20 ?vr21 ?ur21 ?vr22 ?ur22 ?vr23 ?ur23 ?vr24 ?ur24 ?vr25 ?ur25 ?vr26 ?ur26
    (case a0 => k_is)
    (case l0 => k_is)
    (case c0 => k_is)
    (case k0 => k_is)
    (case a1 => k_is)
    (case l1 => k_is)
    (case c1 => k_is)
    (case k1 => k_is)
    (case a2 => k_is)
    (case l2 => k_is)
    (case c2 => k_is)
    (case k2 => k_is)
    (case a3 => k_is)
    (case l3 => k_is)
    (case c3 => k_is)
    (case k3 => k_is)
    (case a4 => k_is)
    (case l4 => k_is)
    (case c4 => k_is)
    (case k4 => k_is)
    (case a5 => k_is)
    (case l5 => k_is)
    (case c5 => k_is)
    (case k5 => k_is)
    (case a6 => k_is)
    (case l6 => k_is)
    (case c6 => k_is)
    (case k6 => k_is)
    (case a7 => k_is)
    (case l7 => k_is)
    (case c7 => k_is)
    (case k7 => k_is)
    (case a8 => k_is)
    (case l8 => k_is)
    (case c8 => k_is)
    (case k8 => k_is)
    (case a9 => k_is)
    (case l9 => k_is)
    (case c9 => k_is)
    (case k9 => k_is)
    (case a10 => k_is)
    (case l10 => k_is)
    (case c10 => k_is)
    (case k10 => k_is)
    (case a11 => k_is)
    (case l11 => k_is)
    (case c11 => k_is)
    (case k11 => k_is)
    (case a12 => k_is)
    (case l12 => k_is)
    (case c12 => k_is)
    (case k12 => k_is)
    (case a13 => k_is)
    (case l13 => k_is)
    (case c13 => k_is)
    (case k13 => k_is)
    (case z_len => k_is)
    (case z_iter => k_is)
    (case z_all => k_is)
    (case z_int => k_is)
    (case z_range => k_is)
    (case z_list => k_is)
    (case z_tuple => k_is)
    (case z_isinstance => k_is)
    (case z_ValueError => k_is)
    (case z_super => k_is)
    (case aP => k_is)
    (case p1 => k_is)
    (case p2 => k_is)
    (case p3 => k_is)
    (case p4 => k_is)
    (case p5 => k_is)
    (case p6 => k_is)
    (case p7 => k_is)
    (case p8 => k_is)
    (case p9 => k_is)
    (case p10 => k_is)
    (case p11 => k_is)
    (case p12 => k_is)
    (case p13 => k_is)
    (case p14 => k_is)
    (case mC => k_is)
    (case nC => k_is)
    (case lC => k_is)
    (case cC => k_is)
    (case kC => k_is)
    (case mL => k_is)
    (case nL => k_is)
    (case lL => k_is)
    (case cL => k_is)
    (case kL => k_is)
    (case mT => k_is)
    (case nT => k_is)
    (case lT => k_is)
    (case cT => k_is)
    (case kT => k_is)
    (case mA => k_is)
    (case nA => k_is)
    (case lA => k_is)
    (case cA => k_is)
    (case kA => k_is)
    (case mO => k_is)
    (case nO => k_is)
    (case lO => k_is)
    (case cO => k_is)
    (case kO => k_is)
    (case mS => k_is)
    (case nS => k_is)
    (case lS => k_is)
    (case cS => k_is)
    (case kS => k_is)
    (case mW => k_is)
    (case nW => k_is)
    (case lW => k_is)
    (case cW => k_is)
    (case kW => k_is)
    (case mB1 => k_is)
    (case mB2 => k_is)
    (case mB3 => k_is)
    (case mB4 => k_is)
    (case lB => k_is)
    (case cB => k_is)
    (case kB => k_is)
    (case lI => k_is)
    (case cI => k_is)
    (case kI => k_is)
    (case vD => k_is)
    (case uD => exact rfl)
    (case vE => k_is)
    (case uE => exact rfl)
    (case aB => k_is)
    (case aC => k_is)
    (case aF => k_is)
    (case xB => k_is)
    (case rB => decide +kernel)
    (case b1 => k_is)
    (case b2 => k_is)
    (case b3 => k_is)
    (case b4 => k_is)
    (case b5 => k_is)
    (case b6 => k_is)
    (case lE => k_is)
    (case cE => k_is)
    (case kE => k_is)
    (case eB => k_is)
    (case b7 => ks_is)
    (case b8 => k_is)
    (case b9 => k_is)
    (case b10 => k_is)
    (case b11 => k_is)
    (case b12 => rfl)
    (case b13 => first | rfl | decide +kernel)
    (case b14 => first | rfl | decide +kernel)
    (case b15 => k_is)
    (case b17 => k_is)
    (case b18 => k_is)
    (case b19 => k_is)
    (case b20 => k_is)
    (case b21 => k_is)
    (case b22 => k_is)
    (case b23 => k_is)
    (case b24 => k_is)
    (case b25 => k_is)
    (case b26 => k_is)
    (case b27 => k_is)
    (case b28 => k_is)
    (case b29 => k_is)
    (case b30 => decide +kernel)
    (case b31 => decide +kernel)
    (case gK => k_is)
    (case vK => k_is)
    (case uK => exact ⟨by decide, by exact .cons ⟨_, rfl⟩ (.cons ⟨_, rfl⟩ (.cons ⟨_, rfl⟩ (.cons ⟨_, rfl⟩ (.cons ⟨_, rfl⟩ (.nil)))))⟩)
    (case gR => k_is)
    (case vR => k_is)
    (case uR => exact ⟨by decide, by exact .cons ⟨_, rfl⟩ (.cons ⟨_, rfl⟩ (.nil))⟩)
    (case gW => k_is)
    (case vW => k_is)
    (case uW => exact ⟨by decide, by exact .cons ⟨_, rfl⟩ (.cons ⟨_, rfl⟩ (.nil))⟩)
    (case gP => k_is)
    (case vP => k_is)
    (case uP => exact rfl)
    (case vr0 => k_is)
    (case ur0 => exact ⟨by decide, by exact .cons ⟨_, rfl⟩ (.cons ⟨_, rfl⟩ (.nil))⟩)
    (case vr1 => k_is)
    (case ur1 => exact ⟨by decide, by exact .cons ⟨_, rfl⟩ (.cons ⟨_, rfl⟩ (.nil))⟩)
    (case vr2 => k_is)
    (case ur2 => exact ⟨by decide, by exact .cons ⟨_, rfl⟩ (.cons ⟨_, rfl⟩ (.nil))⟩)
    (case vr3 => k_is)
    (case ur3 => exact ⟨by decide, by exact .cons ⟨_, rfl⟩ (.cons ⟨_, rfl⟩ (.nil))⟩)
    (case vr4 => k_is)
    (case ur4 => exact ⟨by decide, by exact .cons ⟨_, rfl⟩ (.cons ⟨_, rfl⟩ (.nil))⟩)
    (case vr5 => k_is)
    (case ur5 => exact ⟨by decide, by exact .cons ⟨_, rfl⟩ (.cons ⟨_, rfl⟩ (.nil))⟩)
    (case vr6 => k_is)
    (case ur6 => exact ⟨by decide, by exact .cons ⟨_, rfl⟩ (.cons ⟨_, rfl⟩ (.nil))⟩)
    (case vr7 => k_is)
    (case ur7 => exact ⟨by decide, by exact .cons ⟨_, rfl⟩ (.cons ⟨_, rfl⟩ (.nil))⟩)
    (case vr8 => k_is)
    (case ur8 => exact ⟨by decide, by exact .cons ⟨_, rfl⟩ (.cons ⟨_, rfl⟩ (.nil))⟩)
    (case vr9 => k_is)
    (case ur9 => exact ⟨by decide, by exact .cons ⟨_, rfl⟩ (.cons ⟨_, rfl⟩ (.nil))⟩)
    (case vr10 => k_is)
    (case ur10 => exact ⟨by decide, by exact .cons ⟨_, rfl⟩ (.cons ⟨_, rfl⟩ (.nil))⟩)
    (case vr11 => k_is)
    (case ur11 => exact ⟨by decide, by exact .cons ⟨_, rfl⟩ (.cons ⟨_, rfl⟩ (.nil))⟩)
    (case vr12 => k_is)
    (case ur12 => exact ⟨by decide, by exact .cons ⟨_, rfl⟩ (.cons ⟨_, rfl⟩ (.nil))⟩)
    (case vr13 => k_is)
    (case ur13 => exact ⟨by decide, by exact .cons ⟨_, rfl⟩ (.cons ⟨_, rfl⟩ (.nil))⟩)
    (case vr14 => k_is)
    (case ur14 => exact ⟨by decide, by exact .cons ⟨_, rfl⟩ (.cons ⟨_, rfl⟩ (.nil))⟩)
    (case vr15 => k_is)
    (case ur15 => exact ⟨by decide, by exact .cons ⟨_, rfl⟩ (.cons ⟨_, rfl⟩ (.nil))⟩)
    (case vr16 => k_is)
    (case ur16 => exact ⟨by decide, by exact .cons ⟨_, rfl⟩ (.cons ⟨_, rfl⟩ (.nil))⟩)
    (case vr17 => k_is)
    (case ur17 => exact ⟨by decide, by exact .cons ⟨_, rfl⟩ (.cons ⟨_, rfl⟩ (.nil))⟩)
    (case vr18 => k_is)
    (case ur18 => exact ⟨by decide, by exact .cons ⟨_, rfl⟩ (.cons ⟨_, rfl⟩ (.nil))⟩)
    (case vr19 => k_is)
    (case ur19 => exact ⟨by decide, by exact .cons ⟨_, rfl⟩ (.cons ⟨_, rfl⟩ (.nil))⟩)
    (case vr20 => k_is)
    (case ur20 => exact ⟨by decide, by exact .cons ⟨_, rfl⟩ (.cons ⟨_, rfl⟩ (.nil))⟩)
    (case vr21 => k_is)
    (case ur21 => exact ⟨by decide, by exact .cons ⟨_, rfl⟩ (.cons ⟨_, rfl⟩ (.nil))⟩)
    (case vr22 => k_is)
    (case ur22 => exact ⟨by decide, by exact .cons ⟨_, rfl⟩ (.cons ⟨_, rfl⟩ (.nil))⟩)
    (case vr23 => k_is)
    (case ur23 => exact ⟨by decide, by exact .cons ⟨_, rfl⟩ (.cons ⟨_, rfl⟩ (.nil))⟩)
    (case vr24 => k_is)
    (case ur24 => exact ⟨by decide, by exact .cons ⟨_, rfl⟩ (.cons ⟨_, rfl⟩ (.nil))⟩)
    (case vr25 => k_is)
    (case ur25 => exact ⟨by decide, by exact .cons ⟨_, rfl⟩ (.cons ⟨_, rfl⟩ (.nil))⟩)
    (case vr26 => k_is)
    (case ur26 => exact ⟨by decide, by exact .cons ⟨_, rfl⟩ (.cons ⟨_, rfl⟩ (.nil))⟩)

