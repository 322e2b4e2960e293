/-
  Layer 23: may there be such a message?
-/
import Derived.Test.YtgbpofgmomglfaaDoorMsBr
import Derived.Test.YtgbpofgmomglfaaDoorLexQ
namespace Go.Proofs.YtgbpofgmomglfaaDoor.Ms
open Gn (Asks)
open Go.RowKit
set_option maxRecDepth 100000
set_option linter.unusedSimpArgs false
set_option linter.unusedVariables false
theorem p1 {α : Type} (l : List α) (i : Nat) (a : α) : l.toArray.setIfInBounds i a = (l.set i a).toArray := List.setIfInBounds_toArray ..
theorem p2 {α : Type} (x a : α) (l : List α) : (x :: l).set 0 a = a :: l := rfl
theorem p3 {α : Type} (x a : α) (l : List α) (n : Nat) : (x :: l).set (n + 1) a = x :: l.set n a := rfl

theorem exec_load {P : Program} (a : Act) (o : Oper) (t : TypeId) (x : Operand) (ad : Addr) (v : Value) (w : World) (hop : o.op = .load t x) (hx : a.eval x = .pointer (some ad)) (hl : (loadVar t ad).run P w = .ok v w) :
    (execOp a.eval o).run P w = .ok (.value v) w := by
  unfold execOp
  rw [hop]
  have : (Instr.loadAt t (.pointer (some ad))).run P w = .ok v w := by
    simp [Instr.loadAt, Instr.sureAddr, asAddr, Result.andThen, hl]
  simp only [hx, Sem.run_bind, this, Result.andThen_ok, Sem.run_pure]
set_option maxHeartbeats 64000000 in
theorem good_any (kind frm born : Int) (known : List Int) (view last op commit client number nonce : Int) (text : ByteArray) (full : Bool) (base : Int) (state : ByteArray) (ents : List Ent) (a : Option Addr) (n cap : Nat) (b : Option Addr) (nn cap2 : Nat) (r : Int) (w : World) (hn : known.length = n) (hnn : ents.length = nn) (hi : Ints w a n known) (he : Ents w b nn ents) (h1 : n ≤ 9223372036854775807) (h2 : nn ≤ 9223372036854775807) :
    Calls Tryd.prog 27 #[.agg #[.int .i64 kind, .int .i64 frm, .int .i64 born, .slice a n cap, .int .i64 view, .int .i64 last, .int .i64 op, .int .i64 commit, .int .i64 client, .int .i64 number, .int .i64 nonce, .string text, .bool full, .int .i64 base, .string state, .slice b nn cap2], .int .i64 r] w (Says (goodM ⟨kind, frm, born, known, view, last, op, commit, client, number, nonce, text, full, base, state, ents⟩ r) w) := by
  obtain ⟨q, hq⟩ : ∃ q, q = goodM ⟨kind, frm, born, known, view, last, op, commit, client, number, nonce, text, full, base, state, ents⟩ r := ⟨_, rfl⟩
  rw [← hq]
  unfold goodM at hq
  dsimp only at hq
  rw [hnn] at hq
  obtain ⟨g1, e1⟩ : ∃ g, g = (groupB r) := ⟨_, rfl⟩
  obtain ⟨g2, e2⟩ : ∃ g, g = (knownB kind) := ⟨_, rfl⟩
  obtain ⟨g3, e3⟩ : ∃ g, g = (bareB ⟨kind, frm, born, known, view, last, op, commit, client, number, nonce, text, full, base, state, ents⟩) := ⟨_, rfl⟩
  obtain ⟨g4, e4⟩ : ∃ g, g = (!(numsM ⟨kind, frm, born, known, view, last, op, commit, client, number, nonce, text, full, base, state, ents⟩).any badN) := ⟨_, rfl⟩
  obtain ⟨g5, e5⟩ : ∃ g, g = (senderB ⟨kind, frm, born, known, view, last, op, commit, client, number, nonce, text, full, base, state, ents⟩ r) := ⟨_, rfl⟩
  obtain ⟨g6, e6⟩ : ∃ g, g = (leastB ⟨kind, frm, born, known, view, last, op, commit, client, number, nonce, text, full, base, state, ents⟩) := ⟨_, rfl⟩
  obtain ⟨g7, e7⟩ : ∃ g, g = (decide (text.size ≤ 8192)) := ⟨_, rfl⟩
  obtain ⟨g8, e8⟩ : ∃ g, g = (decide (client < 3)) := ⟨_, rfl⟩
  obtain ⟨g9, e9⟩ : ∃ g, g = (decide (last ≤ view)) := ⟨_, rfl⟩
  obtain ⟨g10, e10⟩ : ∃ g, g = (decide (base ≤ commit)) := ⟨_, rfl⟩
  obtain ⟨g11, e11⟩ : ∃ g, g = (decide (commit ≤ op)) := ⟨_, rfl⟩
  obtain ⟨g12, e12⟩ : ∃ g, g = (decide (state.size ≤ 65536)) := ⟨_, rfl⟩
  obtain ⟨g13, e13⟩ : ∃ g, g = ((decide (state.size = 0) || decide (0 < base))) := ⟨_, rfl⟩
  obtain ⟨g14, e14⟩ : ∃ g, g = (decide ((nn : Int) = sizeM ⟨kind, frm, born, known, view, last, op, commit, client, number, nonce, text, full, base, state, ents⟩)) := ⟨_, rfl⟩
  obtain ⟨g15, e15⟩ : ∃ g, g = (decide (nn ≤ 64)) := ⟨_, rfl⟩
  obtain ⟨g16, e16⟩ : ∃ g, g = (!ents.any badE) := ⟨_, rfl⟩
  rw [← e1, ← e2, ← e3, ← e4, ← e5, ← e6, ← e7, ← e8, ← e9, ← e10, ← e11, ← e12, ← e13, ← e14, ← e15, ← e16] at hq
  have E1 := Lib.hid e1
  have E2 := Lib.hid e2
  have E3 := Lib.hid e3
  have E4 := Lib.hid e4
  have E5 := Lib.hid e5
  have E6 := Lib.hid e6
  have E7 := Lib.hid e7
  have E8 := Lib.hid e8
  have E9 := Lib.hid e9
  have E10 := Lib.hid e10
  have E11 := Lib.hid e11
  have E12 := Lib.hid e12
  have E13 := Lib.hid e13
  have E14 := Lib.hid e14
  have E15 := Lib.hid e15
  have E16 := Lib.hid e16
  obtain ⟨p, hp⟩ : ∃ p, p = w.heap.size := ⟨_, rfl⟩
  obtain ⟨AG, hAG⟩ : ∃ v, v = Value.agg #[.int .i64 kind, .int .i64 frm, .int .i64 born, .slice a n cap, .int .i64 view, .int .i64 last, .int .i64 op, .int .i64 commit, .int .i64 client, .int .i64 number, .int .i64 nonce, .string text, .bool full, .int .i64 base, .string state, .slice b nn cap2] := ⟨_, rfl⟩
  obtain ⟨z, hz⟩ : ∃ z, z = (numsM ⟨kind, frm, born, known, view, last, op, commit, client, number, nonce, text, full, base, state, ents⟩).any badN := ⟨_, rfl⟩
  obtain ⟨y, hy⟩ : ∃ z, z = ents.any badE := ⟨_, rfl⟩
  have HGR := Lib.hid (fun (w : World) => show Calls Tryd.prog 32 #[.int .i64 r] w (Says g1 w) by rw [e1]; exact group_any r w)
  have HKN := Lib.hid (fun (w : World) => show Calls Tryd.prog 43 #[.int .i64 kind] w (Says g2 w) by rw [e2]; exact known_any kind w)
  have HBA := Lib.hid (fun (h : g2 = true) (w : World) => show Calls Tryd.prog 44 #[AG] w (Says g3 w) by
    rw [hAG, e3]
    have h := e2.symm.trans h
    unfold knownB at h
    simp only [Bool.and_eq_true, decide_eq_true_eq] at h
    exact bare_any kind frm born known view last op commit client number nonce text full base state ents a n cap b nn cap2 w h.1 h.2 hn hnn)
  have HNU := Lib.hid (fun (w : World) => show Calls Tryd.prog 46 #[AG] w (fun e w' => ∃ g, e = .returned (.slice (some ⟨g, 0, none⟩) 10 10) ∧ Ints w' (some ⟨g, 0, none⟩) 10 (numsM ⟨kind, frm, born, known, view, last, op, commit, client, number, nonce, text, full, base, state, ents⟩) ∧ Below w.heap.size w w') by rw [hAG]; exact numbers_any kind frm born known view last op commit client number nonce text full base state ents a n cap b nn cap2 w)
  have HBN := Lib.hid (fun (w : World) (a : Option Addr) (h : Ints w a 10 (numsM ⟨kind, frm, born, known, view, last, op, commit, client, number, nonce, text, full, base, state, ents⟩)) => show Calls Tryd.prog 45 #[.slice a 10 10, .func (.func 47) #[] #[]] w (Says z w) by rw [hz]; exact bad_ints _ a 10 10 w h (by decide))
  have HSE := Lib.hid (fun (w : World) (h : Ints w a n known) => show Calls Tryd.prog 48 #[AG, .int .i64 r] w (Says g5 w) by rw [hAG, e5]; exact sender_any kind frm born known view last op commit client number nonce text full base state ents a n cap b nn cap2 r w hn h h1)
  have HLE := Lib.hid (fun (w : World) => show Calls Tryd.prog 49 #[AG] w (Says g6 w) by rw [hAG, e6]; exact least_any kind frm born known view last op commit client number nonce text full base state ents a n cap b nn cap2 w)
  obtain ⟨sz, hsz⟩ : ∃ z, z = sizeM ⟨kind, frm, born, known, view, last, op, commit, client, number, nonce, text, full, base, state, ents⟩ := ⟨_, rfl⟩
  have HSZ := Lib.hid (fun (h : z = false) (w : World) => show Calls Tryd.prog 50 #[AG] w (fun e w' => e = .returned (.int .i64 sz) ∧ Below w.heap.size w w') by
    rw [hAG, hsz]
    have h := hz.symm.trans h
    unfold numsM badN at h
    simp only [List.any_cons, List.any_nil, Bool.or_eq_false_iff, decide_eq_false_iff_not] at h
    exact size_any kind frm born known view last op commit client number nonce text full base state ents a n cap b nn cap2 w (by omega) (by omega) (by omega) (by omega))
  have HBE := Lib.hid (fun (w : World) (h : Ents w b nn ents) => show Calls Tryd.prog 51 #[.slice b nn cap2, .func (.func 52) #[] #[]] w (Says y w) by rw [hy]; exact bad_ents ents b nn cap2 w h h2)
  have HZ := Lib.hid (show g4 = !z by rw [e4, hz])
  have HY := Lib.hid (show g16 = !y by rw [e16, hy])
  have HS14 := Lib.hid (show g14 = decide ((nn : Int) = sz) by rw [e14, hsz])
  obtain ⟨V, hV⟩ : ∃ V, V = w.alloc (.cells #[.int .i64 kind, .int .i64 frm, .int .i64 born, .slice a n cap, .int .i64 view, .int .i64 last, .int .i64 op, .int .i64 commit, .int .i64 client, .int .i64 number, .int .i64 nonce, .string text, .bool full, .int .i64 base, .string state, .slice b nn cap2] 53) := ⟨_, rfl⟩
  have hb : Below w.heap.size w V := by rw [hV]; exact (Below.refl _ w).alloc (Nat.le_refl _) _
  have hx : V.heap[p]? = some (.cells #[.int .i64 kind, .int .i64 frm, .int .i64 born, .slice a n cap, .int .i64 view, .int .i64 last, .int .i64 op, .int .i64 commit, .int .i64 client, .int .i64 number, .int .i64 nonce, .string text, .bool full, .int .i64 base, .string state, .slice b nn cap2] 53 (0, 0)) := by rw [hV, hp]; exact heap_alloc_new w _
  have HLD := Lib.hid (fun (w' : World) (h : w'.heap[p]? = some (.cells #[.int .i64 kind, .int .i64 frm, .int .i64 born, .slice a n cap, .int .i64 view, .int .i64 last, .int .i64 op, .int .i64 commit, .int .i64 client, .int .i64 number, .int .i64 nonce, .string text, .bool full, .int .i64 base, .string state, .slice b nn cap2] 53 (0, 0))) => show (loadVar 53 ⟨p, 0, none⟩).run Tryd.prog w' = .ok AG w' by
    rw [hAG]
    exact run_loadVar_row w' _ _ 53 _ _ _ h Tryd.underlying53 rfl (by kernel_rfl))
  have HQ := Lib.hid hq
  have HV := Lib.hid hV
  have HP := Lib.hid hp
  have HAG := Lib.hid hAG
  have HB0 := Lib.hid hb
  have HX0 := Lib.hid hx
  have HI := Lib.hid hi
  have HE := Lib.hid he
  clear hq hV hp hAG hb hx hi he hz hy hsz hn hnn h1 h2 e1 e2 e3 e4 e5 e6 e7 e8 e9 e10 e11 e12 e13 e14 e15 e16
  have HCE := Lib.hid (fun (w' : World) (b9 : Below V.heap.size V w') => show w'.cell? ⟨p, 0, none⟩ = some (.int .i64 kind) ∧ w'.cell? ⟨p, 4, none⟩ = some (.int .i64 view) ∧ w'.cell? ⟨p, 5, none⟩ = some (.int .i64 last) ∧ w'.cell? ⟨p, 6, none⟩ = some (.int .i64 op) ∧ w'.cell? ⟨p, 7, none⟩ = some (.int .i64 commit) ∧ w'.cell? ⟨p, 8, none⟩ = some (.int .i64 client) ∧ w'.cell? ⟨p, 11, none⟩ = some (.string text) ∧ w'.cell? ⟨p, 13, none⟩ = some (.int .i64 base) ∧ w'.cell? ⟨p, 14, none⟩ = some (.string state) ∧ w'.cell? ⟨p, 15, none⟩ = some (.slice b nn cap2) from by
    have hx := (b9.block _ (Gn.heap_lt HX0.out)).trans HX0.out
    exact ⟨cell_of_row _ _ 0 _ _ (0, 0) hx, cell_of_row _ _ 4 _ _ (0, 0) hx, cell_of_row _ _ 5 _ _ (0, 0) hx, cell_of_row _ _ 6 _ _ (0, 0) hx, cell_of_row _ _ 7 _ _ (0, 0) hx, cell_of_row _ _ 8 _ _ (0, 0) hx, cell_of_row _ _ 11 _ _ (0, 0) hx, cell_of_row _ _ 13 _ _ (0, 0) hx, cell_of_row _ _ 14 _ _ (0, 0) hx, cell_of_row _ _ 15 _ _ (0, 0) hx⟩)
  have HLW := Lib.hid (fun (w' : World) (b9 : Below V.heap.size V w') => HLD.out w' ((b9.block _ (Gn.heap_lt HX0.out)).trans HX0.out))
  have HIV := Lib.hid (HI.out.under HB0.out)
  have HEV := Lib.hid (HE.out.under HB0.out)
  go_enter Tryd.func27, Tryd.ntmps27
  go_upto_region 1 with fail
  rw [← HV.out, ← HP.out, ← HAG.out]
  clear HV HAG HX0 HLD
  refine LooseD.region_loose (fun w9 => Below V.heap.size V w9) _ _ (by kernel_rfl) (LooseD.lexB_of _ _ (by kernel_rfl) (by kernel_rfl))
    (LooseD.waits (D := [[], [], [], [], [], [], [], [], [], [], [], [], [], [], [13], [], [], [], [], [], [], [], [], [], [], [], [], [], [], [], [], [], [], [], [], [], [], [], [], [], [], [], [], [], [], [], [], [], [], [], [], [], [], [], [], [], [], [], [], [], [], [], [], [], [], [], [], [], [], [], [], [], [], [], [], [], [], [], [], [], [], [], [], [], [], [], [], [], [], [], [], [], [], [], []]) (by kernel_rfl))
    (LooseD.stays (ts := [none, some (.is (.bool g1)), none, none, none, some (.is (.bool g2)), none, none, none, some (.is (.bool g3)), none, none, none, some (.told (fun v w => ∃ g, v = .slice (some ⟨g, 0, none⟩) 10 10 ∧ Ints w (some ⟨g, 0, none⟩) 10 (numsM ⟨kind, frm, born, known, view, last, op, commit, client, number, nonce, text, full, base, state, ents⟩))), some (.is (.bool z)), none, none, none, none, none, some (.is (.bool g5)), none, none, none, some (.is (.bool g6)), none, none, none, none, none, none, none, none, none, none, none, none, none, none, none, none, none, none, none, none, none, none, none, none, none, none, none, none, none, none, none, none, none, none, none, none, none, none, none, none, none, none, none, none, none, none, none, none, none, none, none, none, none, none, some (.is (.int .i64 sz)), none, none, none, none, none, none, none, none, none, none, none, some (.is (.bool y)), none, none, none]) (fun w w' h b => h.trans (b.mono h.size)) (.none (.is (.none (.none (.none (.is (.none (.none (.none (.is (.none (.none (.none (.told (fun v w w2 h b => by obtain ⟨g, e, h⟩ := h; exact ⟨g, e, h.under b⟩) (.is (.none (.none (.none (.none (.none (.is (.none (.none (.none (.is (.none (.none (.none (.none (.none (.none (.none (.none (.none (.none (.none (.none (.none (.none (.none (.none (.none (.none (.none (.none (.none (.none (.none (.none (.none (.none (.none (.none (.none (.none (.none (.none (.none (.none (.none (.none (.none (.none (.none (.none (.none (.none (.none (.none (.none (.none (.none (.none (.none (.none (.none (.none (.none (.none (.is (.none (.none (.none (.none (.none (.none (.none (.none (.none (.none (.none (.is (.none (.none (.none .nil))))))))))))))))))))))))))))))))))))))))))))))))))))))))))))))))))))))))))))))))))))))))))))))))
    (Gn.below_drew (Below.refl _ _)) ?_
  refine LooseD.reads (.int .i64 r) rfl (by kernel_rfl) ?_ ?_
  · intro w9 hw
    clear hw
    go_simp
  try simp only [Act.put, p1, p2, p3]
  refine LooseD.gives (.bool g1) 32 #[.int .i64 r] rfl (by kernel_rfl) ?_ (fun w9 hw hH => HGR.out w9) ?_
  · intro w9 hw
    clear hw
    go_simp
  try simp only [Act.put, p1, p2, p3]
  refine LooseD.reads (.bool g1) rfl (by kernel_rfl) ?_ ?_
  · intro w9 hw
    clear hw
    go_simp
  try simp only [Act.put, p1, p2, p3]
  cases g1 with
  | false =>
    refine LooseD.unwanted (by kernel_rfl) ?_; try simp only [Act.put, p1, p2, p3]
    refine LooseD.unwanted (by kernel_rfl) ?_; try simp only [Act.put, p1, p2, p3]
    refine LooseD.unwanted (by kernel_rfl) ?_; try simp only [Act.put, p1, p2, p3]
    refine LooseD.reads (.bool false) rfl (by kernel_rfl) (fun _ _ => by rfl) ?_; try simp only [Act.put, p1, p2, p3]
    refine LooseD.reads (.bool false) rfl (by kernel_rfl) (fun _ _ => by rfl) ?_; try simp only [Act.put, p1, p2, p3]
    refine LooseD.unwanted (by kernel_rfl) ?_; try simp only [Act.put, p1, p2, p3]
    refine LooseD.unwanted (by kernel_rfl) ?_; try simp only [Act.put, p1, p2, p3]
    refine LooseD.reads (.bool false) rfl (by kernel_rfl) (fun _ _ => by rfl) ?_; try simp only [Act.put, p1, p2, p3]
    refine LooseD.reads (.bool false) rfl (by kernel_rfl) (fun _ _ => by rfl) ?_; try simp only [Act.put, p1, p2, p3]
    refine LooseD.unwanted (by kernel_rfl) ?_; try simp only [Act.put, p1, p2, p3]
    refine LooseD.unwanted (by kernel_rfl) ?_; try simp only [Act.put, p1, p2, p3]
    refine LooseD.unwanted (by kernel_rfl) ?_; try simp only [Act.put, p1, p2, p3]
    refine LooseD.unwanted (by kernel_rfl) ?_; try simp only [Act.put, p1, p2, p3]
    refine LooseD.reads (.bool false) rfl (by kernel_rfl) (fun _ _ => by rfl) ?_; try simp only [Act.put, p1, p2, p3]
    refine LooseD.reads (.bool false) rfl (by kernel_rfl) (fun _ _ => by rfl) ?_; try simp only [Act.put, p1, p2, p3]
    refine LooseD.unwanted (by kernel_rfl) ?_; try simp only [Act.put, p1, p2, p3]
    refine LooseD.unwanted (by kernel_rfl) ?_; try simp only [Act.put, p1, p2, p3]
    refine LooseD.unwanted (by kernel_rfl) ?_; try simp only [Act.put, p1, p2, p3]
    refine LooseD.reads (.bool false) rfl (by kernel_rfl) (fun _ _ => by rfl) ?_; try simp only [Act.put, p1, p2, p3]
    refine LooseD.reads (.bool false) rfl (by kernel_rfl) (fun _ _ => by rfl) ?_; try simp only [Act.put, p1, p2, p3]
    refine LooseD.unwanted (by kernel_rfl) ?_; try simp only [Act.put, p1, p2, p3]
    refine LooseD.unwanted (by kernel_rfl) ?_; try simp only [Act.put, p1, p2, p3]
    refine LooseD.reads (.bool false) rfl (by kernel_rfl) (fun _ _ => by rfl) ?_; try simp only [Act.put, p1, p2, p3]
    refine LooseD.reads (.bool false) rfl (by kernel_rfl) (fun _ _ => by rfl) ?_; try simp only [Act.put, p1, p2, p3]
    refine LooseD.unwanted (by kernel_rfl) ?_; try simp only [Act.put, p1, p2, p3]
    refine LooseD.unwanted (by kernel_rfl) ?_; try simp only [Act.put, p1, p2, p3]
    refine LooseD.unwanted (by kernel_rfl) ?_; try simp only [Act.put, p1, p2, p3]
    refine LooseD.unwanted (by kernel_rfl) ?_; try simp only [Act.put, p1, p2, p3]
    refine LooseD.reads (.bool false) rfl (by kernel_rfl) (fun _ _ => by rfl) ?_; try simp only [Act.put, p1, p2, p3]
    refine LooseD.reads (.bool false) rfl (by kernel_rfl) (fun _ _ => by rfl) ?_; try simp only [Act.put, p1, p2, p3]
    refine LooseD.unwanted (by kernel_rfl) ?_; try simp only [Act.put, p1, p2, p3]
    refine LooseD.unwanted (by kernel_rfl) ?_; try simp only [Act.put, p1, p2, p3]
    refine LooseD.unwanted (by kernel_rfl) ?_; try simp only [Act.put, p1, p2, p3]
    refine LooseD.reads (.bool false) rfl (by kernel_rfl) (fun _ _ => by rfl) ?_; try simp only [Act.put, p1, p2, p3]
    refine LooseD.reads (.bool false) rfl (by kernel_rfl) (fun _ _ => by rfl) ?_; try simp only [Act.put, p1, p2, p3]
    refine LooseD.unwanted (by kernel_rfl) ?_; try simp only [Act.put, p1, p2, p3]
    refine LooseD.unwanted (by kernel_rfl) ?_; try simp only [Act.put, p1, p2, p3]
    refine LooseD.unwanted (by kernel_rfl) ?_; try simp only [Act.put, p1, p2, p3]
    refine LooseD.unwanted (by kernel_rfl) ?_; try simp only [Act.put, p1, p2, p3]
    refine LooseD.unwanted (by kernel_rfl) ?_; try simp only [Act.put, p1, p2, p3]
    refine LooseD.reads (.bool false) rfl (by kernel_rfl) (fun _ _ => by rfl) ?_; try simp only [Act.put, p1, p2, p3]
    refine LooseD.reads (.bool false) rfl (by kernel_rfl) (fun _ _ => by rfl) ?_; try simp only [Act.put, p1, p2, p3]
    refine LooseD.unwanted (by kernel_rfl) ?_; try simp only [Act.put, p1, p2, p3]
    refine LooseD.unwanted (by kernel_rfl) ?_; try simp only [Act.put, p1, p2, p3]
    refine LooseD.unwanted (by kernel_rfl) ?_; try simp only [Act.put, p1, p2, p3]
    refine LooseD.unwanted (by kernel_rfl) ?_; try simp only [Act.put, p1, p2, p3]
    refine LooseD.unwanted (by kernel_rfl) ?_; try simp only [Act.put, p1, p2, p3]
    refine LooseD.reads (.bool false) rfl (by kernel_rfl) (fun _ _ => by rfl) ?_; try simp only [Act.put, p1, p2, p3]
    refine LooseD.reads (.bool false) rfl (by kernel_rfl) (fun _ _ => by rfl) ?_; try simp only [Act.put, p1, p2, p3]
    refine LooseD.unwanted (by kernel_rfl) ?_; try simp only [Act.put, p1, p2, p3]
    refine LooseD.unwanted (by kernel_rfl) ?_; try simp only [Act.put, p1, p2, p3]
    refine LooseD.unwanted (by kernel_rfl) ?_; try simp only [Act.put, p1, p2, p3]
    refine LooseD.unwanted (by kernel_rfl) ?_; try simp only [Act.put, p1, p2, p3]
    refine LooseD.unwanted (by kernel_rfl) ?_; try simp only [Act.put, p1, p2, p3]
    refine LooseD.reads (.bool false) rfl (by kernel_rfl) (fun _ _ => by rfl) ?_; try simp only [Act.put, p1, p2, p3]
    refine LooseD.reads (.bool false) rfl (by kernel_rfl) (fun _ _ => by rfl) ?_; try simp only [Act.put, p1, p2, p3]
    refine LooseD.unwanted (by kernel_rfl) ?_; try simp only [Act.put, p1, p2, p3]
    refine LooseD.unwanted (by kernel_rfl) ?_; try simp only [Act.put, p1, p2, p3]
    refine LooseD.unwanted (by kernel_rfl) ?_; try simp only [Act.put, p1, p2, p3]
    refine LooseD.unwanted (by kernel_rfl) ?_; try simp only [Act.put, p1, p2, p3]
    refine LooseD.reads (.bool false) rfl (by kernel_rfl) (fun _ _ => by rfl) ?_; try simp only [Act.put, p1, p2, p3]
    refine LooseD.reads (.bool false) rfl (by kernel_rfl) (fun _ _ => by rfl) ?_; try simp only [Act.put, p1, p2, p3]
    refine LooseD.unwanted (by kernel_rfl) ?_; try simp only [Act.put, p1, p2, p3]
    refine LooseD.unwanted (by kernel_rfl) ?_; try simp only [Act.put, p1, p2, p3]
    refine LooseD.unwanted (by kernel_rfl) ?_; try simp only [Act.put, p1, p2, p3]
    refine LooseD.unwanted (by kernel_rfl) ?_; try simp only [Act.put, p1, p2, p3]
    refine LooseD.unwanted (by kernel_rfl) ?_; try simp only [Act.put, p1, p2, p3]
    refine LooseD.unwanted (by kernel_rfl) ?_; try simp only [Act.put, p1, p2, p3]
    refine LooseD.unwanted (by kernel_rfl) ?_; try simp only [Act.put, p1, p2, p3]
    refine LooseD.unwanted (by kernel_rfl) ?_; try simp only [Act.put, p1, p2, p3]
    refine LooseD.reads (.bool false) rfl (by kernel_rfl) (fun _ _ => by rfl) ?_; try simp only [Act.put, p1, p2, p3]
    refine LooseD.reads (.bool false) rfl (by kernel_rfl) (fun _ _ => by rfl) ?_; try simp only [Act.put, p1, p2, p3]
    refine LooseD.unwanted (by kernel_rfl) ?_; try simp only [Act.put, p1, p2, p3]
    refine LooseD.unwanted (by kernel_rfl) ?_; try simp only [Act.put, p1, p2, p3]
    refine LooseD.unwanted (by kernel_rfl) ?_; try simp only [Act.put, p1, p2, p3]
    refine LooseD.unwanted (by kernel_rfl) ?_; try simp only [Act.put, p1, p2, p3]
    refine LooseD.unwanted (by kernel_rfl) ?_; try simp only [Act.put, p1, p2, p3]
    refine LooseD.unwanted (by kernel_rfl) ?_; try simp only [Act.put, p1, p2, p3]
    refine LooseD.reads (.bool false) rfl (by kernel_rfl) (fun _ _ => by rfl) ?_; try simp only [Act.put, p1, p2, p3]
    refine LooseD.reads (.bool false) rfl (by kernel_rfl) (fun _ _ => by rfl) ?_; try simp only [Act.put, p1, p2, p3]
    refine LooseD.unwanted (by kernel_rfl) ?_; try simp only [Act.put, p1, p2, p3]
    refine LooseD.unwanted (by kernel_rfl) ?_; try simp only [Act.put, p1, p2, p3]
    refine LooseD.unwanted (by kernel_rfl) ?_; try simp only [Act.put, p1, p2, p3]
    refine LooseD.unwanted (by kernel_rfl) ?_; try simp only [Act.put, p1, p2, p3]
    refine LooseD.reads (.bool false) rfl (by kernel_rfl) (fun _ _ => by rfl) ?_; try simp only [Act.put, p1, p2, p3]
    refine LooseD.reads (.bool false) rfl (by kernel_rfl) (fun _ _ => by rfl) ?_; try simp only [Act.put, p1, p2, p3]
    refine LooseD.unwanted (by kernel_rfl) ?_; try simp only [Act.put, p1, p2, p3]
    refine LooseD.unwanted (by kernel_rfl) ?_; try simp only [Act.put, p1, p2, p3]
    refine LooseD.unwanted (by kernel_rfl) ?_; try simp only [Act.put, p1, p2, p3]
    refine LooseD.unwanted (by kernel_rfl) ?_; try simp only [Act.put, p1, p2, p3]
    refine LooseD.reads (.bool false) rfl (by kernel_rfl) (fun _ _ => by rfl) ?_; try simp only [Act.put, p1, p2, p3]
    refine LooseD.reads (.bool false) rfl (by kernel_rfl) (fun _ _ => by rfl) ?_; try simp only [Act.put, p1, p2, p3]
    refine LooseD.done ?_
    intro w7 hw7 _
    have HQT := Lib.hid (show q = false by rw [HQ.out]; simp)
    clear HQ
    have HB7 := Lib.hid (HB0.out.trans (hw7.mono HB0.out.size))
    clear hw7
    go_wp2
    go_ret
    exact ⟨by rw [HQT.out]; rfl, HB7.out⟩
  | true =>
    refine LooseD.reads (.pointer (some ⟨p, 0, none⟩)) rfl (by kernel_rfl) ?_ ?_
    · intro w9 hw
      clear hw
      go_simp
    try simp only [Act.put, p1, p2, p3]
    refine LooseD.reads (.int .i64 kind) rfl (by kernel_rfl) ?_ ?_
    · intro w9 hw
      obtain ⟨x0, x4, x5, x6, x7, x8, x11, x13, x14, x15⟩ := HCE.out w9 hw
      clear hw
      go_simp
    try simp only [Act.put, p1, p2, p3]
    refine LooseD.gives (.bool g2) 43 #[.int .i64 kind] rfl (by kernel_rfl) ?_ (fun w9 hw hH => HKN.out w9) ?_
    · intro w9 hw
      clear hw
      go_simp
    try simp only [Act.put, p1, p2, p3]
    refine LooseD.reads (.bool g2) rfl (by kernel_rfl) ?_ ?_
    · intro w9 hw
      clear hw
      go_simp
    try simp only [Act.put, p1, p2, p3]
    refine LooseD.reads (.bool g2) rfl (by kernel_rfl) ?_ ?_
    · intro w9 hw
      clear hw
      go_simp
    try simp only [Act.put, p1, p2, p3]
    cases g2 with
    | false =>
      refine LooseD.unwanted (by kernel_rfl) ?_; try simp only [Act.put, p1, p2, p3]
      refine LooseD.unwanted (by kernel_rfl) ?_; try simp only [Act.put, p1, p2, p3]
      refine LooseD.reads (.bool false) rfl (by kernel_rfl) (fun _ _ => by rfl) ?_; try simp only [Act.put, p1, p2, p3]
      refine LooseD.reads (.bool false) rfl (by kernel_rfl) (fun _ _ => by rfl) ?_; try simp only [Act.put, p1, p2, p3]
      refine LooseD.unwanted (by kernel_rfl) ?_; try simp only [Act.put, p1, p2, p3]
      refine LooseD.unwanted (by kernel_rfl) ?_; try simp only [Act.put, p1, p2, p3]
      refine LooseD.unwanted (by kernel_rfl) ?_; try simp only [Act.put, p1, p2, p3]
      refine LooseD.unwanted (by kernel_rfl) ?_; try simp only [Act.put, p1, p2, p3]
      refine LooseD.reads (.bool false) rfl (by kernel_rfl) (fun _ _ => by rfl) ?_; try simp only [Act.put, p1, p2, p3]
      refine LooseD.reads (.bool false) rfl (by kernel_rfl) (fun _ _ => by rfl) ?_; try simp only [Act.put, p1, p2, p3]
      refine LooseD.unwanted (by kernel_rfl) ?_; try simp only [Act.put, p1, p2, p3]
      refine LooseD.unwanted (by kernel_rfl) ?_; try simp only [Act.put, p1, p2, p3]
      refine LooseD.unwanted (by kernel_rfl) ?_; try simp only [Act.put, p1, p2, p3]
      refine LooseD.reads (.bool false) rfl (by kernel_rfl) (fun _ _ => by rfl) ?_; try simp only [Act.put, p1, p2, p3]
      refine LooseD.reads (.bool false) rfl (by kernel_rfl) (fun _ _ => by rfl) ?_; try simp only [Act.put, p1, p2, p3]
      refine LooseD.unwanted (by kernel_rfl) ?_; try simp only [Act.put, p1, p2, p3]
      refine LooseD.unwanted (by kernel_rfl) ?_; try simp only [Act.put, p1, p2, p3]
      refine LooseD.reads (.bool false) rfl (by kernel_rfl) (fun _ _ => by rfl) ?_; try simp only [Act.put, p1, p2, p3]
      refine LooseD.reads (.bool false) rfl (by kernel_rfl) (fun _ _ => by rfl) ?_; try simp only [Act.put, p1, p2, p3]
      refine LooseD.unwanted (by kernel_rfl) ?_; try simp only [Act.put, p1, p2, p3]
      refine LooseD.unwanted (by kernel_rfl) ?_; try simp only [Act.put, p1, p2, p3]
      refine LooseD.unwanted (by kernel_rfl) ?_; try simp only [Act.put, p1, p2, p3]
      refine LooseD.unwanted (by kernel_rfl) ?_; try simp only [Act.put, p1, p2, p3]
      refine LooseD.reads (.bool false) rfl (by kernel_rfl) (fun _ _ => by rfl) ?_; try simp only [Act.put, p1, p2, p3]
      refine LooseD.reads (.bool false) rfl (by kernel_rfl) (fun _ _ => by rfl) ?_; try simp only [Act.put, p1, p2, p3]
      refine LooseD.unwanted (by kernel_rfl) ?_; try simp only [Act.put, p1, p2, p3]
      refine LooseD.unwanted (by kernel_rfl) ?_; try simp only [Act.put, p1, p2, p3]
      refine LooseD.unwanted (by kernel_rfl) ?_; try simp only [Act.put, p1, p2, p3]
      refine LooseD.reads (.bool false) rfl (by kernel_rfl) (fun _ _ => by rfl) ?_; try simp only [Act.put, p1, p2, p3]
      refine LooseD.reads (.bool false) rfl (by kernel_rfl) (fun _ _ => by rfl) ?_; try simp only [Act.put, p1, p2, p3]
      refine LooseD.unwanted (by kernel_rfl) ?_; try simp only [Act.put, p1, p2, p3]
      refine LooseD.unwanted (by kernel_rfl) ?_; try simp only [Act.put, p1, p2, p3]
      refine LooseD.unwanted (by kernel_rfl) ?_; try simp only [Act.put, p1, p2, p3]
      refine LooseD.unwanted (by kernel_rfl) ?_; try simp only [Act.put, p1, p2, p3]
      refine LooseD.unwanted (by kernel_rfl) ?_; try simp only [Act.put, p1, p2, p3]
      refine LooseD.reads (.bool false) rfl (by kernel_rfl) (fun _ _ => by rfl) ?_; try simp only [Act.put, p1, p2, p3]
      refine LooseD.reads (.bool false) rfl (by kernel_rfl) (fun _ _ => by rfl) ?_; try simp only [Act.put, p1, p2, p3]
      refine LooseD.unwanted (by kernel_rfl) ?_; try simp only [Act.put, p1, p2, p3]
      refine LooseD.unwanted (by kernel_rfl) ?_; try simp only [Act.put, p1, p2, p3]
      refine LooseD.unwanted (by kernel_rfl) ?_; try simp only [Act.put, p1, p2, p3]
      refine LooseD.unwanted (by kernel_rfl) ?_; try simp only [Act.put, p1, p2, p3]
      refine LooseD.unwanted (by kernel_rfl) ?_; try simp only [Act.put, p1, p2, p3]
      refine LooseD.reads (.bool false) rfl (by kernel_rfl) (fun _ _ => by rfl) ?_; try simp only [Act.put, p1, p2, p3]
      refine LooseD.reads (.bool false) rfl (by kernel_rfl) (fun _ _ => by rfl) ?_; try simp only [Act.put, p1, p2, p3]
      refine LooseD.unwanted (by kernel_rfl) ?_; try simp only [Act.put, p1, p2, p3]
      refine LooseD.unwanted (by kernel_rfl) ?_; try simp only [Act.put, p1, p2, p3]
      refine LooseD.unwanted (by kernel_rfl) ?_; try simp only [Act.put, p1, p2, p3]
      refine LooseD.unwanted (by kernel_rfl) ?_; try simp only [Act.put, p1, p2, p3]
      refine LooseD.unwanted (by kernel_rfl) ?_; try simp only [Act.put, p1, p2, p3]
      refine LooseD.reads (.bool false) rfl (by kernel_rfl) (fun _ _ => by rfl) ?_; try simp only [Act.put, p1, p2, p3]
      refine LooseD.reads (.bool false) rfl (by kernel_rfl) (fun _ _ => by rfl) ?_; try simp only [Act.put, p1, p2, p3]
      refine LooseD.unwanted (by kernel_rfl) ?_; try simp only [Act.put, p1, p2, p3]
      refine LooseD.unwanted (by kernel_rfl) ?_; try simp only [Act.put, p1, p2, p3]
      refine LooseD.unwanted (by kernel_rfl) ?_; try simp only [Act.put, p1, p2, p3]
      refine LooseD.unwanted (by kernel_rfl) ?_; try simp only [Act.put, p1, p2, p3]
      refine LooseD.reads (.bool false) rfl (by kernel_rfl) (fun _ _ => by rfl) ?_; try simp only [Act.put, p1, p2, p3]
      refine LooseD.reads (.bool false) rfl (by kernel_rfl) (fun _ _ => by rfl) ?_; try simp only [Act.put, p1, p2, p3]
      refine LooseD.unwanted (by kernel_rfl) ?_; try simp only [Act.put, p1, p2, p3]
      refine LooseD.unwanted (by kernel_rfl) ?_; try simp only [Act.put, p1, p2, p3]
      refine LooseD.unwanted (by kernel_rfl) ?_; try simp only [Act.put, p1, p2, p3]
      refine LooseD.unwanted (by kernel_rfl) ?_; try simp only [Act.put, p1, p2, p3]
      refine LooseD.unwanted (by kernel_rfl) ?_; try simp only [Act.put, p1, p2, p3]
      refine LooseD.unwanted (by kernel_rfl) ?_; try simp only [Act.put, p1, p2, p3]
      refine LooseD.unwanted (by kernel_rfl) ?_; try simp only [Act.put, p1, p2, p3]
      refine LooseD.unwanted (by kernel_rfl) ?_; try simp only [Act.put, p1, p2, p3]
      refine LooseD.reads (.bool false) rfl (by kernel_rfl) (fun _ _ => by rfl) ?_; try simp only [Act.put, p1, p2, p3]
      refine LooseD.reads (.bool false) rfl (by kernel_rfl) (fun _ _ => by rfl) ?_; try simp only [Act.put, p1, p2, p3]
      refine LooseD.unwanted (by kernel_rfl) ?_; try simp only [Act.put, p1, p2, p3]
      refine LooseD.unwanted (by kernel_rfl) ?_; try simp only [Act.put, p1, p2, p3]
      refine LooseD.unwanted (by kernel_rfl) ?_; try simp only [Act.put, p1, p2, p3]
      refine LooseD.unwanted (by kernel_rfl) ?_; try simp only [Act.put, p1, p2, p3]
      refine LooseD.unwanted (by kernel_rfl) ?_; try simp only [Act.put, p1, p2, p3]
      refine LooseD.unwanted (by kernel_rfl) ?_; try simp only [Act.put, p1, p2, p3]
      refine LooseD.reads (.bool false) rfl (by kernel_rfl) (fun _ _ => by rfl) ?_; try simp only [Act.put, p1, p2, p3]
      refine LooseD.reads (.bool false) rfl (by kernel_rfl) (fun _ _ => by rfl) ?_; try simp only [Act.put, p1, p2, p3]
      refine LooseD.unwanted (by kernel_rfl) ?_; try simp only [Act.put, p1, p2, p3]
      refine LooseD.unwanted (by kernel_rfl) ?_; try simp only [Act.put, p1, p2, p3]
      refine LooseD.unwanted (by kernel_rfl) ?_; try simp only [Act.put, p1, p2, p3]
      refine LooseD.unwanted (by kernel_rfl) ?_; try simp only [Act.put, p1, p2, p3]
      refine LooseD.reads (.bool false) rfl (by kernel_rfl) (fun _ _ => by rfl) ?_; try simp only [Act.put, p1, p2, p3]
      refine LooseD.reads (.bool false) rfl (by kernel_rfl) (fun _ _ => by rfl) ?_; try simp only [Act.put, p1, p2, p3]
      refine LooseD.unwanted (by kernel_rfl) ?_; try simp only [Act.put, p1, p2, p3]
      refine LooseD.unwanted (by kernel_rfl) ?_; try simp only [Act.put, p1, p2, p3]
      refine LooseD.unwanted (by kernel_rfl) ?_; try simp only [Act.put, p1, p2, p3]
      refine LooseD.unwanted (by kernel_rfl) ?_; try simp only [Act.put, p1, p2, p3]
      refine LooseD.reads (.bool false) rfl (by kernel_rfl) (fun _ _ => by rfl) ?_; try simp only [Act.put, p1, p2, p3]
      refine LooseD.reads (.bool false) rfl (by kernel_rfl) (fun _ _ => by rfl) ?_; try simp only [Act.put, p1, p2, p3]
      refine LooseD.done ?_
      intro w7 hw7 _
      have HQT := Lib.hid (show q = false by rw [HQ.out]; simp)
      clear HQ
      have HB7 := Lib.hid (HB0.out.trans (hw7.mono HB0.out.size))
      clear hw7
      go_wp2
      go_ret
      exact ⟨by rw [HQT.out]; rfl, HB7.out⟩
    | true =>
      refine LooseD.reads (AG) rfl (by kernel_rfl) ?_ ?_
      · intro w9 hw
        exact exec_load _ _ 53 _ _ AG w9 rfl rfl (HLW.out w9 hw)
      try simp only [Act.put, p1, p2, p3]
      refine LooseD.gives (.bool g3) 44 #[AG] rfl (by kernel_rfl) ?_ (fun w9 hw hH => HBA.out rfl w9) ?_
      · intro w9 hw
        clear hw
        go_simp
      try simp only [Act.put, p1, p2, p3]
      refine LooseD.reads (.bool g3) rfl (by kernel_rfl) ?_ ?_
      · intro w9 hw
        clear hw
        go_simp
      try simp only [Act.put, p1, p2, p3]
      refine LooseD.reads (.bool g3) rfl (by kernel_rfl) ?_ ?_
      · intro w9 hw
        clear hw
        go_simp
      try simp only [Act.put, p1, p2, p3]
      cases g3 with
      | false =>
        refine LooseD.unwanted (by kernel_rfl) ?_; try simp only [Act.put, p1, p2, p3]
        refine LooseD.unwanted (by kernel_rfl) ?_; try simp only [Act.put, p1, p2, p3]
        refine LooseD.unwanted (by kernel_rfl) ?_; try simp only [Act.put, p1, p2, p3]
        refine LooseD.unwanted (by kernel_rfl) ?_; try simp only [Act.put, p1, p2, p3]
        refine LooseD.reads (.bool false) rfl (by kernel_rfl) (fun _ _ => by rfl) ?_; try simp only [Act.put, p1, p2, p3]
        refine LooseD.reads (.bool false) rfl (by kernel_rfl) (fun _ _ => by rfl) ?_; try simp only [Act.put, p1, p2, p3]
        refine LooseD.unwanted (by kernel_rfl) ?_; try simp only [Act.put, p1, p2, p3]
        refine LooseD.unwanted (by kernel_rfl) ?_; try simp only [Act.put, p1, p2, p3]
        refine LooseD.unwanted (by kernel_rfl) ?_; try simp only [Act.put, p1, p2, p3]
        refine LooseD.reads (.bool false) rfl (by kernel_rfl) (fun _ _ => by rfl) ?_; try simp only [Act.put, p1, p2, p3]
        refine LooseD.reads (.bool false) rfl (by kernel_rfl) (fun _ _ => by rfl) ?_; try simp only [Act.put, p1, p2, p3]
        refine LooseD.unwanted (by kernel_rfl) ?_; try simp only [Act.put, p1, p2, p3]
        refine LooseD.unwanted (by kernel_rfl) ?_; try simp only [Act.put, p1, p2, p3]
        refine LooseD.reads (.bool false) rfl (by kernel_rfl) (fun _ _ => by rfl) ?_; try simp only [Act.put, p1, p2, p3]
        refine LooseD.reads (.bool false) rfl (by kernel_rfl) (fun _ _ => by rfl) ?_; try simp only [Act.put, p1, p2, p3]
        refine LooseD.unwanted (by kernel_rfl) ?_; try simp only [Act.put, p1, p2, p3]
        refine LooseD.unwanted (by kernel_rfl) ?_; try simp only [Act.put, p1, p2, p3]
        refine LooseD.unwanted (by kernel_rfl) ?_; try simp only [Act.put, p1, p2, p3]
        refine LooseD.unwanted (by kernel_rfl) ?_; try simp only [Act.put, p1, p2, p3]
        refine LooseD.reads (.bool false) rfl (by kernel_rfl) (fun _ _ => by rfl) ?_; try simp only [Act.put, p1, p2, p3]
        refine LooseD.reads (.bool false) rfl (by kernel_rfl) (fun _ _ => by rfl) ?_; try simp only [Act.put, p1, p2, p3]
        refine LooseD.unwanted (by kernel_rfl) ?_; try simp only [Act.put, p1, p2, p3]
        refine LooseD.unwanted (by kernel_rfl) ?_; try simp only [Act.put, p1, p2, p3]
        refine LooseD.unwanted (by kernel_rfl) ?_; try simp only [Act.put, p1, p2, p3]
        refine LooseD.reads (.bool false) rfl (by kernel_rfl) (fun _ _ => by rfl) ?_; try simp only [Act.put, p1, p2, p3]
        refine LooseD.reads (.bool false) rfl (by kernel_rfl) (fun _ _ => by rfl) ?_; try simp only [Act.put, p1, p2, p3]
        refine LooseD.unwanted (by kernel_rfl) ?_; try simp only [Act.put, p1, p2, p3]
        refine LooseD.unwanted (by kernel_rfl) ?_; try simp only [Act.put, p1, p2, p3]
        refine LooseD.unwanted (by kernel_rfl) ?_; try simp only [Act.put, p1, p2, p3]
        refine LooseD.unwanted (by kernel_rfl) ?_; try simp only [Act.put, p1, p2, p3]
        refine LooseD.unwanted (by kernel_rfl) ?_; try simp only [Act.put, p1, p2, p3]
        refine LooseD.reads (.bool false) rfl (by kernel_rfl) (fun _ _ => by rfl) ?_; try simp only [Act.put, p1, p2, p3]
        refine LooseD.reads (.bool false) rfl (by kernel_rfl) (fun _ _ => by rfl) ?_; try simp only [Act.put, p1, p2, p3]
        refine LooseD.unwanted (by kernel_rfl) ?_; try simp only [Act.put, p1, p2, p3]
        refine LooseD.unwanted (by kernel_rfl) ?_; try simp only [Act.put, p1, p2, p3]
        refine LooseD.unwanted (by kernel_rfl) ?_; try simp only [Act.put, p1, p2, p3]
        refine LooseD.unwanted (by kernel_rfl) ?_; try simp only [Act.put, p1, p2, p3]
        refine LooseD.unwanted (by kernel_rfl) ?_; try simp only [Act.put, p1, p2, p3]
        refine LooseD.reads (.bool false) rfl (by kernel_rfl) (fun _ _ => by rfl) ?_; try simp only [Act.put, p1, p2, p3]
        refine LooseD.reads (.bool false) rfl (by kernel_rfl) (fun _ _ => by rfl) ?_; try simp only [Act.put, p1, p2, p3]
        refine LooseD.unwanted (by kernel_rfl) ?_; try simp only [Act.put, p1, p2, p3]
        refine LooseD.unwanted (by kernel_rfl) ?_; try simp only [Act.put, p1, p2, p3]
        refine LooseD.unwanted (by kernel_rfl) ?_; try simp only [Act.put, p1, p2, p3]
        refine LooseD.unwanted (by kernel_rfl) ?_; try simp only [Act.put, p1, p2, p3]
        refine LooseD.unwanted (by kernel_rfl) ?_; try simp only [Act.put, p1, p2, p3]
        refine LooseD.reads (.bool false) rfl (by kernel_rfl) (fun _ _ => by rfl) ?_; try simp only [Act.put, p1, p2, p3]
        refine LooseD.reads (.bool false) rfl (by kernel_rfl) (fun _ _ => by rfl) ?_; try simp only [Act.put, p1, p2, p3]
        refine LooseD.unwanted (by kernel_rfl) ?_; try simp only [Act.put, p1, p2, p3]
        refine LooseD.unwanted (by kernel_rfl) ?_; try simp only [Act.put, p1, p2, p3]
        refine LooseD.unwanted (by kernel_rfl) ?_; try simp only [Act.put, p1, p2, p3]
        refine LooseD.unwanted (by kernel_rfl) ?_; try simp only [Act.put, p1, p2, p3]
        refine LooseD.reads (.bool false) rfl (by kernel_rfl) (fun _ _ => by rfl) ?_; try simp only [Act.put, p1, p2, p3]
        refine LooseD.reads (.bool false) rfl (by kernel_rfl) (fun _ _ => by rfl) ?_; try simp only [Act.put, p1, p2, p3]
        refine LooseD.unwanted (by kernel_rfl) ?_; try simp only [Act.put, p1, p2, p3]
        refine LooseD.unwanted (by kernel_rfl) ?_; try simp only [Act.put, p1, p2, p3]
        refine LooseD.unwanted (by kernel_rfl) ?_; try simp only [Act.put, p1, p2, p3]
        refine LooseD.unwanted (by kernel_rfl) ?_; try simp only [Act.put, p1, p2, p3]
        refine LooseD.unwanted (by kernel_rfl) ?_; try simp only [Act.put, p1, p2, p3]
        refine LooseD.unwanted (by kernel_rfl) ?_; try simp only [Act.put, p1, p2, p3]
        refine LooseD.unwanted (by kernel_rfl) ?_; try simp only [Act.put, p1, p2, p3]
        refine LooseD.unwanted (by kernel_rfl) ?_; try simp only [Act.put, p1, p2, p3]
        refine LooseD.reads (.bool false) rfl (by kernel_rfl) (fun _ _ => by rfl) ?_; try simp only [Act.put, p1, p2, p3]
        refine LooseD.reads (.bool false) rfl (by kernel_rfl) (fun _ _ => by rfl) ?_; try simp only [Act.put, p1, p2, p3]
        refine LooseD.unwanted (by kernel_rfl) ?_; try simp only [Act.put, p1, p2, p3]
        refine LooseD.unwanted (by kernel_rfl) ?_; try simp only [Act.put, p1, p2, p3]
        refine LooseD.unwanted (by kernel_rfl) ?_; try simp only [Act.put, p1, p2, p3]
        refine LooseD.unwanted (by kernel_rfl) ?_; try simp only [Act.put, p1, p2, p3]
        refine LooseD.unwanted (by kernel_rfl) ?_; try simp only [Act.put, p1, p2, p3]
        refine LooseD.unwanted (by kernel_rfl) ?_; try simp only [Act.put, p1, p2, p3]
        refine LooseD.reads (.bool false) rfl (by kernel_rfl) (fun _ _ => by rfl) ?_; try simp only [Act.put, p1, p2, p3]
        refine LooseD.reads (.bool false) rfl (by kernel_rfl) (fun _ _ => by rfl) ?_; try simp only [Act.put, p1, p2, p3]
        refine LooseD.unwanted (by kernel_rfl) ?_; try simp only [Act.put, p1, p2, p3]
        refine LooseD.unwanted (by kernel_rfl) ?_; try simp only [Act.put, p1, p2, p3]
        refine LooseD.unwanted (by kernel_rfl) ?_; try simp only [Act.put, p1, p2, p3]
        refine LooseD.unwanted (by kernel_rfl) ?_; try simp only [Act.put, p1, p2, p3]
        refine LooseD.reads (.bool false) rfl (by kernel_rfl) (fun _ _ => by rfl) ?_; try simp only [Act.put, p1, p2, p3]
        refine LooseD.reads (.bool false) rfl (by kernel_rfl) (fun _ _ => by rfl) ?_; try simp only [Act.put, p1, p2, p3]
        refine LooseD.unwanted (by kernel_rfl) ?_; try simp only [Act.put, p1, p2, p3]
        refine LooseD.unwanted (by kernel_rfl) ?_; try simp only [Act.put, p1, p2, p3]
        refine LooseD.unwanted (by kernel_rfl) ?_; try simp only [Act.put, p1, p2, p3]
        refine LooseD.unwanted (by kernel_rfl) ?_; try simp only [Act.put, p1, p2, p3]
        refine LooseD.reads (.bool false) rfl (by kernel_rfl) (fun _ _ => by rfl) ?_; try simp only [Act.put, p1, p2, p3]
        refine LooseD.reads (.bool false) rfl (by kernel_rfl) (fun _ _ => by rfl) ?_; try simp only [Act.put, p1, p2, p3]
        refine LooseD.done ?_
        intro w7 hw7 _
        have HQT := Lib.hid (show q = false by rw [HQ.out]; simp)
        clear HQ
        have HB7 := Lib.hid (HB0.out.trans (hw7.mono HB0.out.size))
        clear hw7
        go_wp2
        go_ret
        exact ⟨by rw [HQT.out]; rfl, HB7.out⟩
      | true =>
        refine LooseD.reads (AG) rfl (by kernel_rfl) ?_ ?_
        · intro w9 hw
          exact exec_load _ _ 53 _ _ AG w9 rfl rfl (HLW.out w9 hw)
        try simp only [Act.put, p1, p2, p3]
        refine LooseD.calls (fun v w => ∃ g, v = .slice (some ⟨g, 0, none⟩) 10 10 ∧ Ints w (some ⟨g, 0, none⟩) 10 (numsM ⟨kind, frm, born, known, view, last, op, commit, client, number, nonce, text, full, base, state, ents⟩)) 46 #[AG] rfl (by kernel_rfl) ?_ (fun w9 hw hH => (HNU.out w9).mono fun e w2 ⟨g, h1, h2, h3⟩ => ⟨_, h1, h3, g, rfl, h2⟩) ?_
        · intro w9 hw
          clear hw
          go_simp
        intro nv
        try simp only [Act.put, p1, p2, p3]
        refine LooseD.gives (.bool z) 45 #[nv, .func (.func 47) #[] #[]] rfl (by kernel_rfl) ?_ ?_ ?_
        · intro w9 hw
          clear hw
          go_simp
        · intro w9 hw hH
          obtain ⟨g, rfl, h2⟩ := hH 13 (by decide) nv _ rfl (by rfl)
          exact HBN.out w9 _ h2
        try simp only [Act.put, p1, p2, p3]
        refine LooseD.reads (.bool (!z)) rfl (by kernel_rfl) ?_ ?_
        · intro w9 hw
          clear hw
          go_simp
        try simp only [Act.put, p1, p2, p3]
        refine LooseD.reads (.bool (!z)) rfl (by kernel_rfl) ?_ ?_
        · intro w9 hw
          clear hw
          go_simp
        try simp only [Act.put, p1, p2, p3]
        refine LooseD.reads (.bool (!z)) rfl (by kernel_rfl) ?_ ?_
        · intro w9 hw
          clear hw
          go_simp
        try simp only [Act.put, p1, p2, p3]
        cases z with
        | true =>
          have hg4 : g4 = false := HZ.out
          subst hg4
          refine LooseD.unwanted (by kernel_rfl) ?_; try simp only [Act.put, p1, p2, p3]
          refine LooseD.unwanted (by kernel_rfl) ?_; try simp only [Act.put, p1, p2, p3]
          refine LooseD.unwanted (by kernel_rfl) ?_; try simp only [Act.put, p1, p2, p3]
          refine LooseD.reads (.bool false) rfl (by kernel_rfl) (fun _ _ => by rfl) ?_; try simp only [Act.put, p1, p2, p3]
          refine LooseD.reads (.bool false) rfl (by kernel_rfl) (fun _ _ => by rfl) ?_; try simp only [Act.put, p1, p2, p3]
          refine LooseD.unwanted (by kernel_rfl) ?_; try simp only [Act.put, p1, p2, p3]
          refine LooseD.unwanted (by kernel_rfl) ?_; try simp only [Act.put, p1, p2, p3]
          refine LooseD.reads (.bool false) rfl (by kernel_rfl) (fun _ _ => by rfl) ?_; try simp only [Act.put, p1, p2, p3]
          refine LooseD.reads (.bool false) rfl (by kernel_rfl) (fun _ _ => by rfl) ?_; try simp only [Act.put, p1, p2, p3]
          refine LooseD.unwanted (by kernel_rfl) ?_; try simp only [Act.put, p1, p2, p3]
          refine LooseD.unwanted (by kernel_rfl) ?_; try simp only [Act.put, p1, p2, p3]
          refine LooseD.unwanted (by kernel_rfl) ?_; try simp only [Act.put, p1, p2, p3]
          refine LooseD.unwanted (by kernel_rfl) ?_; try simp only [Act.put, p1, p2, p3]
          refine LooseD.reads (.bool false) rfl (by kernel_rfl) (fun _ _ => by rfl) ?_; try simp only [Act.put, p1, p2, p3]
          refine LooseD.reads (.bool false) rfl (by kernel_rfl) (fun _ _ => by rfl) ?_; try simp only [Act.put, p1, p2, p3]
          refine LooseD.unwanted (by kernel_rfl) ?_; try simp only [Act.put, p1, p2, p3]
          refine LooseD.unwanted (by kernel_rfl) ?_; try simp only [Act.put, p1, p2, p3]
          refine LooseD.unwanted (by kernel_rfl) ?_; try simp only [Act.put, p1, p2, p3]
          refine LooseD.reads (.bool false) rfl (by kernel_rfl) (fun _ _ => by rfl) ?_; try simp only [Act.put, p1, p2, p3]
          refine LooseD.reads (.bool false) rfl (by kernel_rfl) (fun _ _ => by rfl) ?_; try simp only [Act.put, p1, p2, p3]
          refine LooseD.unwanted (by kernel_rfl) ?_; try simp only [Act.put, p1, p2, p3]
          refine LooseD.unwanted (by kernel_rfl) ?_; try simp only [Act.put, p1, p2, p3]
          refine LooseD.unwanted (by kernel_rfl) ?_; try simp only [Act.put, p1, p2, p3]
          refine LooseD.unwanted (by kernel_rfl) ?_; try simp only [Act.put, p1, p2, p3]
          refine LooseD.unwanted (by kernel_rfl) ?_; try simp only [Act.put, p1, p2, p3]
          refine LooseD.reads (.bool false) rfl (by kernel_rfl) (fun _ _ => by rfl) ?_; try simp only [Act.put, p1, p2, p3]
          refine LooseD.reads (.bool false) rfl (by kernel_rfl) (fun _ _ => by rfl) ?_; try simp only [Act.put, p1, p2, p3]
          refine LooseD.unwanted (by kernel_rfl) ?_; try simp only [Act.put, p1, p2, p3]
          refine LooseD.unwanted (by kernel_rfl) ?_; try simp only [Act.put, p1, p2, p3]
          refine LooseD.unwanted (by kernel_rfl) ?_; try simp only [Act.put, p1, p2, p3]
          refine LooseD.unwanted (by kernel_rfl) ?_; try simp only [Act.put, p1, p2, p3]
          refine LooseD.unwanted (by kernel_rfl) ?_; try simp only [Act.put, p1, p2, p3]
          refine LooseD.reads (.bool false) rfl (by kernel_rfl) (fun _ _ => by rfl) ?_; try simp only [Act.put, p1, p2, p3]
          refine LooseD.reads (.bool false) rfl (by kernel_rfl) (fun _ _ => by rfl) ?_; try simp only [Act.put, p1, p2, p3]
          refine LooseD.unwanted (by kernel_rfl) ?_; try simp only [Act.put, p1, p2, p3]
          refine LooseD.unwanted (by kernel_rfl) ?_; try simp only [Act.put, p1, p2, p3]
          refine LooseD.unwanted (by kernel_rfl) ?_; try simp only [Act.put, p1, p2, p3]
          refine LooseD.unwanted (by kernel_rfl) ?_; try simp only [Act.put, p1, p2, p3]
          refine LooseD.unwanted (by kernel_rfl) ?_; try simp only [Act.put, p1, p2, p3]
          refine LooseD.reads (.bool false) rfl (by kernel_rfl) (fun _ _ => by rfl) ?_; try simp only [Act.put, p1, p2, p3]
          refine LooseD.reads (.bool false) rfl (by kernel_rfl) (fun _ _ => by rfl) ?_; try simp only [Act.put, p1, p2, p3]
          refine LooseD.unwanted (by kernel_rfl) ?_; try simp only [Act.put, p1, p2, p3]
          refine LooseD.unwanted (by kernel_rfl) ?_; try simp only [Act.put, p1, p2, p3]
          refine LooseD.unwanted (by kernel_rfl) ?_; try simp only [Act.put, p1, p2, p3]
          refine LooseD.unwanted (by kernel_rfl) ?_; try simp only [Act.put, p1, p2, p3]
          refine LooseD.reads (.bool false) rfl (by kernel_rfl) (fun _ _ => by rfl) ?_; try simp only [Act.put, p1, p2, p3]
          refine LooseD.reads (.bool false) rfl (by kernel_rfl) (fun _ _ => by rfl) ?_; try simp only [Act.put, p1, p2, p3]
          refine LooseD.unwanted (by kernel_rfl) ?_; try simp only [Act.put, p1, p2, p3]
          refine LooseD.unwanted (by kernel_rfl) ?_; try simp only [Act.put, p1, p2, p3]
          refine LooseD.unwanted (by kernel_rfl) ?_; try simp only [Act.put, p1, p2, p3]
          refine LooseD.unwanted (by kernel_rfl) ?_; try simp only [Act.put, p1, p2, p3]
          refine LooseD.unwanted (by kernel_rfl) ?_; try simp only [Act.put, p1, p2, p3]
          refine LooseD.unwanted (by kernel_rfl) ?_; try simp only [Act.put, p1, p2, p3]
          refine LooseD.unwanted (by kernel_rfl) ?_; try simp only [Act.put, p1, p2, p3]
          refine LooseD.unwanted (by kernel_rfl) ?_; try simp only [Act.put, p1, p2, p3]
          refine LooseD.reads (.bool false) rfl (by kernel_rfl) (fun _ _ => by rfl) ?_; try simp only [Act.put, p1, p2, p3]
          refine LooseD.reads (.bool false) rfl (by kernel_rfl) (fun _ _ => by rfl) ?_; try simp only [Act.put, p1, p2, p3]
          refine LooseD.unwanted (by kernel_rfl) ?_; try simp only [Act.put, p1, p2, p3]
          refine LooseD.unwanted (by kernel_rfl) ?_; try simp only [Act.put, p1, p2, p3]
          refine LooseD.unwanted (by kernel_rfl) ?_; try simp only [Act.put, p1, p2, p3]
          refine LooseD.unwanted (by kernel_rfl) ?_; try simp only [Act.put, p1, p2, p3]
          refine LooseD.unwanted (by kernel_rfl) ?_; try simp only [Act.put, p1, p2, p3]
          refine LooseD.unwanted (by kernel_rfl) ?_; try simp only [Act.put, p1, p2, p3]
          refine LooseD.reads (.bool false) rfl (by kernel_rfl) (fun _ _ => by rfl) ?_; try simp only [Act.put, p1, p2, p3]
          refine LooseD.reads (.bool false) rfl (by kernel_rfl) (fun _ _ => by rfl) ?_; try simp only [Act.put, p1, p2, p3]
          refine LooseD.unwanted (by kernel_rfl) ?_; try simp only [Act.put, p1, p2, p3]
          refine LooseD.unwanted (by kernel_rfl) ?_; try simp only [Act.put, p1, p2, p3]
          refine LooseD.unwanted (by kernel_rfl) ?_; try simp only [Act.put, p1, p2, p3]
          refine LooseD.unwanted (by kernel_rfl) ?_; try simp only [Act.put, p1, p2, p3]
          refine LooseD.reads (.bool false) rfl (by kernel_rfl) (fun _ _ => by rfl) ?_; try simp only [Act.put, p1, p2, p3]
          refine LooseD.reads (.bool false) rfl (by kernel_rfl) (fun _ _ => by rfl) ?_; try simp only [Act.put, p1, p2, p3]
          refine LooseD.unwanted (by kernel_rfl) ?_; try simp only [Act.put, p1, p2, p3]
          refine LooseD.unwanted (by kernel_rfl) ?_; try simp only [Act.put, p1, p2, p3]
          refine LooseD.unwanted (by kernel_rfl) ?_; try simp only [Act.put, p1, p2, p3]
          refine LooseD.unwanted (by kernel_rfl) ?_; try simp only [Act.put, p1, p2, p3]
          refine LooseD.reads (.bool false) rfl (by kernel_rfl) (fun _ _ => by rfl) ?_; try simp only [Act.put, p1, p2, p3]
          refine LooseD.reads (.bool false) rfl (by kernel_rfl) (fun _ _ => by rfl) ?_; try simp only [Act.put, p1, p2, p3]
          refine LooseD.done ?_
          intro w7 hw7 _
          have HQT := Lib.hid (show q = false by rw [HQ.out]; simp)
          clear HQ
          have HB7 := Lib.hid (HB0.out.trans (hw7.mono HB0.out.size))
          clear hw7
          go_wp2
          go_ret
          exact ⟨by rw [HQT.out]; rfl, HB7.out⟩
        | false =>
          refine LooseD.reads (AG) rfl (by kernel_rfl) ?_ ?_
          · intro w9 hw
            exact exec_load _ _ 53 _ _ AG w9 rfl rfl (HLW.out w9 hw)
          try simp only [Act.put, p1, p2, p3]
          refine LooseD.reads (.int .i64 r) rfl (by kernel_rfl) ?_ ?_
          · intro w9 hw
            clear hw
            go_simp
          try simp only [Act.put, p1, p2, p3]
          refine LooseD.gives (.bool g5) 48 #[AG, .int .i64 r] rfl (by kernel_rfl) ?_ (fun w9 hw hH => HSE.out w9 (HIV.out.under hw)) ?_
          · intro w9 hw
            clear hw
            go_simp
          try simp only [Act.put, p1, p2, p3]
          refine LooseD.reads (.bool g5) rfl (by kernel_rfl) ?_ ?_
          · intro w9 hw
            clear hw
            go_simp
          try simp only [Act.put, p1, p2, p3]
          refine LooseD.reads (.bool g5) rfl (by kernel_rfl) ?_ ?_
          · intro w9 hw
            clear hw
            go_simp
          try simp only [Act.put, p1, p2, p3]
          cases g5 with
          | false =>
            refine LooseD.unwanted (by kernel_rfl) ?_; try simp only [Act.put, p1, p2, p3]
            refine LooseD.unwanted (by kernel_rfl) ?_; try simp only [Act.put, p1, p2, p3]
            refine LooseD.reads (.bool false) rfl (by kernel_rfl) (fun _ _ => by rfl) ?_; try simp only [Act.put, p1, p2, p3]
            refine LooseD.reads (.bool false) rfl (by kernel_rfl) (fun _ _ => by rfl) ?_; try simp only [Act.put, p1, p2, p3]
            refine LooseD.unwanted (by kernel_rfl) ?_; try simp only [Act.put, p1, p2, p3]
            refine LooseD.unwanted (by kernel_rfl) ?_; try simp only [Act.put, p1, p2, p3]
            refine LooseD.unwanted (by kernel_rfl) ?_; try simp only [Act.put, p1, p2, p3]
            refine LooseD.unwanted (by kernel_rfl) ?_; try simp only [Act.put, p1, p2, p3]
            refine LooseD.reads (.bool false) rfl (by kernel_rfl) (fun _ _ => by rfl) ?_; try simp only [Act.put, p1, p2, p3]
            refine LooseD.reads (.bool false) rfl (by kernel_rfl) (fun _ _ => by rfl) ?_; try simp only [Act.put, p1, p2, p3]
            refine LooseD.unwanted (by kernel_rfl) ?_; try simp only [Act.put, p1, p2, p3]
            refine LooseD.unwanted (by kernel_rfl) ?_; try simp only [Act.put, p1, p2, p3]
            refine LooseD.unwanted (by kernel_rfl) ?_; try simp only [Act.put, p1, p2, p3]
            refine LooseD.reads (.bool false) rfl (by kernel_rfl) (fun _ _ => by rfl) ?_; try simp only [Act.put, p1, p2, p3]
            refine LooseD.reads (.bool false) rfl (by kernel_rfl) (fun _ _ => by rfl) ?_; try simp only [Act.put, p1, p2, p3]
            refine LooseD.unwanted (by kernel_rfl) ?_; try simp only [Act.put, p1, p2, p3]
            refine LooseD.unwanted (by kernel_rfl) ?_; try simp only [Act.put, p1, p2, p3]
            refine LooseD.unwanted (by kernel_rfl) ?_; try simp only [Act.put, p1, p2, p3]
            refine LooseD.unwanted (by kernel_rfl) ?_; try simp only [Act.put, p1, p2, p3]
            refine LooseD.unwanted (by kernel_rfl) ?_; try simp only [Act.put, p1, p2, p3]
            refine LooseD.reads (.bool false) rfl (by kernel_rfl) (fun _ _ => by rfl) ?_; try simp only [Act.put, p1, p2, p3]
            refine LooseD.reads (.bool false) rfl (by kernel_rfl) (fun _ _ => by rfl) ?_; try simp only [Act.put, p1, p2, p3]
            refine LooseD.unwanted (by kernel_rfl) ?_; try simp only [Act.put, p1, p2, p3]
            refine LooseD.unwanted (by kernel_rfl) ?_; try simp only [Act.put, p1, p2, p3]
            refine LooseD.unwanted (by kernel_rfl) ?_; try simp only [Act.put, p1, p2, p3]
            refine LooseD.unwanted (by kernel_rfl) ?_; try simp only [Act.put, p1, p2, p3]
            refine LooseD.unwanted (by kernel_rfl) ?_; try simp only [Act.put, p1, p2, p3]
            refine LooseD.reads (.bool false) rfl (by kernel_rfl) (fun _ _ => by rfl) ?_; try simp only [Act.put, p1, p2, p3]
            refine LooseD.reads (.bool false) rfl (by kernel_rfl) (fun _ _ => by rfl) ?_; try simp only [Act.put, p1, p2, p3]
            refine LooseD.unwanted (by kernel_rfl) ?_; try simp only [Act.put, p1, p2, p3]
            refine LooseD.unwanted (by kernel_rfl) ?_; try simp only [Act.put, p1, p2, p3]
            refine LooseD.unwanted (by kernel_rfl) ?_; try simp only [Act.put, p1, p2, p3]
            refine LooseD.unwanted (by kernel_rfl) ?_; try simp only [Act.put, p1, p2, p3]
            refine LooseD.unwanted (by kernel_rfl) ?_; try simp only [Act.put, p1, p2, p3]
            refine LooseD.reads (.bool false) rfl (by kernel_rfl) (fun _ _ => by rfl) ?_; try simp only [Act.put, p1, p2, p3]
            refine LooseD.reads (.bool false) rfl (by kernel_rfl) (fun _ _ => by rfl) ?_; try simp only [Act.put, p1, p2, p3]
            refine LooseD.unwanted (by kernel_rfl) ?_; try simp only [Act.put, p1, p2, p3]
            refine LooseD.unwanted (by kernel_rfl) ?_; try simp only [Act.put, p1, p2, p3]
            refine LooseD.unwanted (by kernel_rfl) ?_; try simp only [Act.put, p1, p2, p3]
            refine LooseD.unwanted (by kernel_rfl) ?_; try simp only [Act.put, p1, p2, p3]
            refine LooseD.reads (.bool false) rfl (by kernel_rfl) (fun _ _ => by rfl) ?_; try simp only [Act.put, p1, p2, p3]
            refine LooseD.reads (.bool false) rfl (by kernel_rfl) (fun _ _ => by rfl) ?_; try simp only [Act.put, p1, p2, p3]
            refine LooseD.unwanted (by kernel_rfl) ?_; try simp only [Act.put, p1, p2, p3]
            refine LooseD.unwanted (by kernel_rfl) ?_; try simp only [Act.put, p1, p2, p3]
            refine LooseD.unwanted (by kernel_rfl) ?_; try simp only [Act.put, p1, p2, p3]
            refine LooseD.unwanted (by kernel_rfl) ?_; try simp only [Act.put, p1, p2, p3]
            refine LooseD.unwanted (by kernel_rfl) ?_; try simp only [Act.put, p1, p2, p3]
            refine LooseD.unwanted (by kernel_rfl) ?_; try simp only [Act.put, p1, p2, p3]
            refine LooseD.unwanted (by kernel_rfl) ?_; try simp only [Act.put, p1, p2, p3]
            refine LooseD.unwanted (by kernel_rfl) ?_; try simp only [Act.put, p1, p2, p3]
            refine LooseD.reads (.bool false) rfl (by kernel_rfl) (fun _ _ => by rfl) ?_; try simp only [Act.put, p1, p2, p3]
            refine LooseD.reads (.bool false) rfl (by kernel_rfl) (fun _ _ => by rfl) ?_; try simp only [Act.put, p1, p2, p3]
            refine LooseD.unwanted (by kernel_rfl) ?_; try simp only [Act.put, p1, p2, p3]
            refine LooseD.unwanted (by kernel_rfl) ?_; try simp only [Act.put, p1, p2, p3]
            refine LooseD.unwanted (by kernel_rfl) ?_; try simp only [Act.put, p1, p2, p3]
            refine LooseD.unwanted (by kernel_rfl) ?_; try simp only [Act.put, p1, p2, p3]
            refine LooseD.unwanted (by kernel_rfl) ?_; try simp only [Act.put, p1, p2, p3]
            refine LooseD.unwanted (by kernel_rfl) ?_; try simp only [Act.put, p1, p2, p3]
            refine LooseD.reads (.bool false) rfl (by kernel_rfl) (fun _ _ => by rfl) ?_; try simp only [Act.put, p1, p2, p3]
            refine LooseD.reads (.bool false) rfl (by kernel_rfl) (fun _ _ => by rfl) ?_; try simp only [Act.put, p1, p2, p3]
            refine LooseD.unwanted (by kernel_rfl) ?_; try simp only [Act.put, p1, p2, p3]
            refine LooseD.unwanted (by kernel_rfl) ?_; try simp only [Act.put, p1, p2, p3]
            refine LooseD.unwanted (by kernel_rfl) ?_; try simp only [Act.put, p1, p2, p3]
            refine LooseD.unwanted (by kernel_rfl) ?_; try simp only [Act.put, p1, p2, p3]
            refine LooseD.reads (.bool false) rfl (by kernel_rfl) (fun _ _ => by rfl) ?_; try simp only [Act.put, p1, p2, p3]
            refine LooseD.reads (.bool false) rfl (by kernel_rfl) (fun _ _ => by rfl) ?_; try simp only [Act.put, p1, p2, p3]
            refine LooseD.unwanted (by kernel_rfl) ?_; try simp only [Act.put, p1, p2, p3]
            refine LooseD.unwanted (by kernel_rfl) ?_; try simp only [Act.put, p1, p2, p3]
            refine LooseD.unwanted (by kernel_rfl) ?_; try simp only [Act.put, p1, p2, p3]
            refine LooseD.unwanted (by kernel_rfl) ?_; try simp only [Act.put, p1, p2, p3]
            refine LooseD.reads (.bool false) rfl (by kernel_rfl) (fun _ _ => by rfl) ?_; try simp only [Act.put, p1, p2, p3]
            refine LooseD.reads (.bool false) rfl (by kernel_rfl) (fun _ _ => by rfl) ?_; try simp only [Act.put, p1, p2, p3]
            refine LooseD.done ?_
            intro w7 hw7 _
            have HQT := Lib.hid (show q = false by rw [HQ.out]; simp)
            clear HQ
            have HB7 := Lib.hid (HB0.out.trans (hw7.mono HB0.out.size))
            clear hw7
            go_wp2
            go_ret
            exact ⟨by rw [HQT.out]; rfl, HB7.out⟩
          | true =>
            refine LooseD.reads (AG) rfl (by kernel_rfl) ?_ ?_
            · intro w9 hw
              exact exec_load _ _ 53 _ _ AG w9 rfl rfl (HLW.out w9 hw)
            try simp only [Act.put, p1, p2, p3]
            refine LooseD.gives (.bool g6) 49 #[AG] rfl (by kernel_rfl) ?_ (fun w9 hw hH => HLE.out w9) ?_
            · intro w9 hw
              clear hw
              go_simp
            try simp only [Act.put, p1, p2, p3]
            refine LooseD.reads (.bool g6) rfl (by kernel_rfl) ?_ ?_
            · intro w9 hw
              clear hw
              go_simp
            try simp only [Act.put, p1, p2, p3]
            refine LooseD.reads (.bool g6) rfl (by kernel_rfl) ?_ ?_
            · intro w9 hw
              clear hw
              go_simp
            try simp only [Act.put, p1, p2, p3]
            cases g6 with
            | false =>
              refine LooseD.unwanted (by kernel_rfl) ?_; try simp only [Act.put, p1, p2, p3]
              refine LooseD.unwanted (by kernel_rfl) ?_; try simp only [Act.put, p1, p2, p3]
              refine LooseD.unwanted (by kernel_rfl) ?_; try simp only [Act.put, p1, p2, p3]
              refine LooseD.unwanted (by kernel_rfl) ?_; try simp only [Act.put, p1, p2, p3]
              refine LooseD.reads (.bool false) rfl (by kernel_rfl) (fun _ _ => by rfl) ?_; try simp only [Act.put, p1, p2, p3]
              refine LooseD.reads (.bool false) rfl (by kernel_rfl) (fun _ _ => by rfl) ?_; try simp only [Act.put, p1, p2, p3]
              refine LooseD.unwanted (by kernel_rfl) ?_; try simp only [Act.put, p1, p2, p3]
              refine LooseD.unwanted (by kernel_rfl) ?_; try simp only [Act.put, p1, p2, p3]
              refine LooseD.unwanted (by kernel_rfl) ?_; try simp only [Act.put, p1, p2, p3]
              refine LooseD.reads (.bool false) rfl (by kernel_rfl) (fun _ _ => by rfl) ?_; try simp only [Act.put, p1, p2, p3]
              refine LooseD.reads (.bool false) rfl (by kernel_rfl) (fun _ _ => by rfl) ?_; try simp only [Act.put, p1, p2, p3]
              refine LooseD.unwanted (by kernel_rfl) ?_; try simp only [Act.put, p1, p2, p3]
              refine LooseD.unwanted (by kernel_rfl) ?_; try simp only [Act.put, p1, p2, p3]
              refine LooseD.unwanted (by kernel_rfl) ?_; try simp only [Act.put, p1, p2, p3]
              refine LooseD.unwanted (by kernel_rfl) ?_; try simp only [Act.put, p1, p2, p3]
              refine LooseD.unwanted (by kernel_rfl) ?_; try simp only [Act.put, p1, p2, p3]
              refine LooseD.reads (.bool false) rfl (by kernel_rfl) (fun _ _ => by rfl) ?_; try simp only [Act.put, p1, p2, p3]
              refine LooseD.reads (.bool false) rfl (by kernel_rfl) (fun _ _ => by rfl) ?_; try simp only [Act.put, p1, p2, p3]
              refine LooseD.unwanted (by kernel_rfl) ?_; try simp only [Act.put, p1, p2, p3]
              refine LooseD.unwanted (by kernel_rfl) ?_; try simp only [Act.put, p1, p2, p3]
              refine LooseD.unwanted (by kernel_rfl) ?_; try simp only [Act.put, p1, p2, p3]
              refine LooseD.unwanted (by kernel_rfl) ?_; try simp only [Act.put, p1, p2, p3]
              refine LooseD.unwanted (by kernel_rfl) ?_; try simp only [Act.put, p1, p2, p3]
              refine LooseD.reads (.bool false) rfl (by kernel_rfl) (fun _ _ => by rfl) ?_; try simp only [Act.put, p1, p2, p3]
              refine LooseD.reads (.bool false) rfl (by kernel_rfl) (fun _ _ => by rfl) ?_; try simp only [Act.put, p1, p2, p3]
              refine LooseD.unwanted (by kernel_rfl) ?_; try simp only [Act.put, p1, p2, p3]
              refine LooseD.unwanted (by kernel_rfl) ?_; try simp only [Act.put, p1, p2, p3]
              refine LooseD.unwanted (by kernel_rfl) ?_; try simp only [Act.put, p1, p2, p3]
              refine LooseD.unwanted (by kernel_rfl) ?_; try simp only [Act.put, p1, p2, p3]
              refine LooseD.unwanted (by kernel_rfl) ?_; try simp only [Act.put, p1, p2, p3]
              refine LooseD.reads (.bool false) rfl (by kernel_rfl) (fun _ _ => by rfl) ?_; try simp only [Act.put, p1, p2, p3]
              refine LooseD.reads (.bool false) rfl (by kernel_rfl) (fun _ _ => by rfl) ?_; try simp only [Act.put, p1, p2, p3]
              refine LooseD.unwanted (by kernel_rfl) ?_; try simp only [Act.put, p1, p2, p3]
              refine LooseD.unwanted (by kernel_rfl) ?_; try simp only [Act.put, p1, p2, p3]
              refine LooseD.unwanted (by kernel_rfl) ?_; try simp only [Act.put, p1, p2, p3]
              refine LooseD.unwanted (by kernel_rfl) ?_; try simp only [Act.put, p1, p2, p3]
              refine LooseD.reads (.bool false) rfl (by kernel_rfl) (fun _ _ => by rfl) ?_; try simp only [Act.put, p1, p2, p3]
              refine LooseD.reads (.bool false) rfl (by kernel_rfl) (fun _ _ => by rfl) ?_; try simp only [Act.put, p1, p2, p3]
              refine LooseD.unwanted (by kernel_rfl) ?_; try simp only [Act.put, p1, p2, p3]
              refine LooseD.unwanted (by kernel_rfl) ?_; try simp only [Act.put, p1, p2, p3]
              refine LooseD.unwanted (by kernel_rfl) ?_; try simp only [Act.put, p1, p2, p3]
              refine LooseD.unwanted (by kernel_rfl) ?_; try simp only [Act.put, p1, p2, p3]
              refine LooseD.unwanted (by kernel_rfl) ?_; try simp only [Act.put, p1, p2, p3]
              refine LooseD.unwanted (by kernel_rfl) ?_; try simp only [Act.put, p1, p2, p3]
              refine LooseD.unwanted (by kernel_rfl) ?_; try simp only [Act.put, p1, p2, p3]
              refine LooseD.unwanted (by kernel_rfl) ?_; try simp only [Act.put, p1, p2, p3]
              refine LooseD.reads (.bool false) rfl (by kernel_rfl) (fun _ _ => by rfl) ?_; try simp only [Act.put, p1, p2, p3]
              refine LooseD.reads (.bool false) rfl (by kernel_rfl) (fun _ _ => by rfl) ?_; try simp only [Act.put, p1, p2, p3]
              refine LooseD.unwanted (by kernel_rfl) ?_; try simp only [Act.put, p1, p2, p3]
              refine LooseD.unwanted (by kernel_rfl) ?_; try simp only [Act.put, p1, p2, p3]
              refine LooseD.unwanted (by kernel_rfl) ?_; try simp only [Act.put, p1, p2, p3]
              refine LooseD.unwanted (by kernel_rfl) ?_; try simp only [Act.put, p1, p2, p3]
              refine LooseD.unwanted (by kernel_rfl) ?_; try simp only [Act.put, p1, p2, p3]
              refine LooseD.unwanted (by kernel_rfl) ?_; try simp only [Act.put, p1, p2, p3]
              refine LooseD.reads (.bool false) rfl (by kernel_rfl) (fun _ _ => by rfl) ?_; try simp only [Act.put, p1, p2, p3]
              refine LooseD.reads (.bool false) rfl (by kernel_rfl) (fun _ _ => by rfl) ?_; try simp only [Act.put, p1, p2, p3]
              refine LooseD.unwanted (by kernel_rfl) ?_; try simp only [Act.put, p1, p2, p3]
              refine LooseD.unwanted (by kernel_rfl) ?_; try simp only [Act.put, p1, p2, p3]
              refine LooseD.unwanted (by kernel_rfl) ?_; try simp only [Act.put, p1, p2, p3]
              refine LooseD.unwanted (by kernel_rfl) ?_; try simp only [Act.put, p1, p2, p3]
              refine LooseD.reads (.bool false) rfl (by kernel_rfl) (fun _ _ => by rfl) ?_; try simp only [Act.put, p1, p2, p3]
              refine LooseD.reads (.bool false) rfl (by kernel_rfl) (fun _ _ => by rfl) ?_; try simp only [Act.put, p1, p2, p3]
              refine LooseD.unwanted (by kernel_rfl) ?_; try simp only [Act.put, p1, p2, p3]
              refine LooseD.unwanted (by kernel_rfl) ?_; try simp only [Act.put, p1, p2, p3]
              refine LooseD.unwanted (by kernel_rfl) ?_; try simp only [Act.put, p1, p2, p3]
              refine LooseD.unwanted (by kernel_rfl) ?_; try simp only [Act.put, p1, p2, p3]
              refine LooseD.reads (.bool false) rfl (by kernel_rfl) (fun _ _ => by rfl) ?_; try simp only [Act.put, p1, p2, p3]
              refine LooseD.reads (.bool false) rfl (by kernel_rfl) (fun _ _ => by rfl) ?_; try simp only [Act.put, p1, p2, p3]
              refine LooseD.done ?_
              intro w7 hw7 _
              have HQT := Lib.hid (show q = false by rw [HQ.out]; simp)
              clear HQ
              have HB7 := Lib.hid (HB0.out.trans (hw7.mono HB0.out.size))
              clear hw7
              go_wp2
              go_ret
              exact ⟨by rw [HQT.out]; rfl, HB7.out⟩
            | true =>
              cases g7 with
              | false =>
                have t7 : ¬ (text.size : Int) ≤ 8192 := by have := of_decide_eq_false E7.out.symm; omega
                refine LooseD.reads (.pointer (some ⟨p, 11, none⟩)) rfl (by kernel_rfl) ?_ ?_
                · intro w9 hw
                  clear hw
                  go_simp
                try simp only [Act.put, p1, p2, p3]
                refine LooseD.reads (.string text) rfl (by kernel_rfl) ?_ ?_
                · intro w9 hw
                  obtain ⟨x0, x4, x5, x6, x7, x8, x11, x13, x14, x15⟩ := HCE.out w9 hw
                  clear hw
                  go_simp
                try simp only [Act.put, p1, p2, p3]
                refine LooseD.reads (.int .i64 text.size) rfl (by kernel_rfl) ?_ ?_
                · intro w9 hw
                  clear hw
                  go_simp
                try simp only [Act.put, p1, p2, p3]
                refine LooseD.reads (.bool false) rfl (by kernel_rfl) ?_ ?_
                · intro w9 hw
                  clear hw
                  go_simp
                try simp only [Act.put, p1, p2, p3]
                refine LooseD.reads (.bool false) rfl (by kernel_rfl) ?_ ?_
                · intro w9 hw
                  clear hw
                  go_simp
                try simp only [Act.put, p1, p2, p3]
                refine LooseD.reads (.bool false) rfl (by kernel_rfl) ?_ ?_
                · intro w9 hw
                  clear hw
                  go_simp
                try simp only [Act.put, p1, p2, p3]
                refine LooseD.unwanted (by kernel_rfl) ?_; try simp only [Act.put, p1, p2, p3]
                refine LooseD.unwanted (by kernel_rfl) ?_; try simp only [Act.put, p1, p2, p3]
                refine LooseD.unwanted (by kernel_rfl) ?_; try simp only [Act.put, p1, p2, p3]
                refine LooseD.reads (.bool false) rfl (by kernel_rfl) (fun _ _ => by rfl) ?_; try simp only [Act.put, p1, p2, p3]
                refine LooseD.reads (.bool false) rfl (by kernel_rfl) (fun _ _ => by rfl) ?_; try simp only [Act.put, p1, p2, p3]
                refine LooseD.unwanted (by kernel_rfl) ?_; try simp only [Act.put, p1, p2, p3]
                refine LooseD.unwanted (by kernel_rfl) ?_; try simp only [Act.put, p1, p2, p3]
                refine LooseD.unwanted (by kernel_rfl) ?_; try simp only [Act.put, p1, p2, p3]
                refine LooseD.unwanted (by kernel_rfl) ?_; try simp only [Act.put, p1, p2, p3]
                refine LooseD.unwanted (by kernel_rfl) ?_; try simp only [Act.put, p1, p2, p3]
                refine LooseD.reads (.bool false) rfl (by kernel_rfl) (fun _ _ => by rfl) ?_; try simp only [Act.put, p1, p2, p3]
                refine LooseD.reads (.bool false) rfl (by kernel_rfl) (fun _ _ => by rfl) ?_; try simp only [Act.put, p1, p2, p3]
                refine LooseD.unwanted (by kernel_rfl) ?_; try simp only [Act.put, p1, p2, p3]
                refine LooseD.unwanted (by kernel_rfl) ?_; try simp only [Act.put, p1, p2, p3]
                refine LooseD.unwanted (by kernel_rfl) ?_; try simp only [Act.put, p1, p2, p3]
                refine LooseD.unwanted (by kernel_rfl) ?_; try simp only [Act.put, p1, p2, p3]
                refine LooseD.unwanted (by kernel_rfl) ?_; try simp only [Act.put, p1, p2, p3]
                refine LooseD.reads (.bool false) rfl (by kernel_rfl) (fun _ _ => by rfl) ?_; try simp only [Act.put, p1, p2, p3]
                refine LooseD.reads (.bool false) rfl (by kernel_rfl) (fun _ _ => by rfl) ?_; try simp only [Act.put, p1, p2, p3]
                refine LooseD.unwanted (by kernel_rfl) ?_; try simp only [Act.put, p1, p2, p3]
                refine LooseD.unwanted (by kernel_rfl) ?_; try simp only [Act.put, p1, p2, p3]
                refine LooseD.unwanted (by kernel_rfl) ?_; try simp only [Act.put, p1, p2, p3]
                refine LooseD.unwanted (by kernel_rfl) ?_; try simp only [Act.put, p1, p2, p3]
                refine LooseD.unwanted (by kernel_rfl) ?_; try simp only [Act.put, p1, p2, p3]
                refine LooseD.reads (.bool false) rfl (by kernel_rfl) (fun _ _ => by rfl) ?_; try simp only [Act.put, p1, p2, p3]
                refine LooseD.reads (.bool false) rfl (by kernel_rfl) (fun _ _ => by rfl) ?_; try simp only [Act.put, p1, p2, p3]
                refine LooseD.unwanted (by kernel_rfl) ?_; try simp only [Act.put, p1, p2, p3]
                refine LooseD.unwanted (by kernel_rfl) ?_; try simp only [Act.put, p1, p2, p3]
                refine LooseD.unwanted (by kernel_rfl) ?_; try simp only [Act.put, p1, p2, p3]
                refine LooseD.unwanted (by kernel_rfl) ?_; try simp only [Act.put, p1, p2, p3]
                refine LooseD.reads (.bool false) rfl (by kernel_rfl) (fun _ _ => by rfl) ?_; try simp only [Act.put, p1, p2, p3]
                refine LooseD.reads (.bool false) rfl (by kernel_rfl) (fun _ _ => by rfl) ?_; try simp only [Act.put, p1, p2, p3]
                refine LooseD.unwanted (by kernel_rfl) ?_; try simp only [Act.put, p1, p2, p3]
                refine LooseD.unwanted (by kernel_rfl) ?_; try simp only [Act.put, p1, p2, p3]
                refine LooseD.unwanted (by kernel_rfl) ?_; try simp only [Act.put, p1, p2, p3]
                refine LooseD.unwanted (by kernel_rfl) ?_; try simp only [Act.put, p1, p2, p3]
                refine LooseD.unwanted (by kernel_rfl) ?_; try simp only [Act.put, p1, p2, p3]
                refine LooseD.unwanted (by kernel_rfl) ?_; try simp only [Act.put, p1, p2, p3]
                refine LooseD.unwanted (by kernel_rfl) ?_; try simp only [Act.put, p1, p2, p3]
                refine LooseD.unwanted (by kernel_rfl) ?_; try simp only [Act.put, p1, p2, p3]
                refine LooseD.reads (.bool false) rfl (by kernel_rfl) (fun _ _ => by rfl) ?_; try simp only [Act.put, p1, p2, p3]
                refine LooseD.reads (.bool false) rfl (by kernel_rfl) (fun _ _ => by rfl) ?_; try simp only [Act.put, p1, p2, p3]
                refine LooseD.unwanted (by kernel_rfl) ?_; try simp only [Act.put, p1, p2, p3]
                refine LooseD.unwanted (by kernel_rfl) ?_; try simp only [Act.put, p1, p2, p3]
                refine LooseD.unwanted (by kernel_rfl) ?_; try simp only [Act.put, p1, p2, p3]
                refine LooseD.unwanted (by kernel_rfl) ?_; try simp only [Act.put, p1, p2, p3]
                refine LooseD.unwanted (by kernel_rfl) ?_; try simp only [Act.put, p1, p2, p3]
                refine LooseD.unwanted (by kernel_rfl) ?_; try simp only [Act.put, p1, p2, p3]
                refine LooseD.reads (.bool false) rfl (by kernel_rfl) (fun _ _ => by rfl) ?_; try simp only [Act.put, p1, p2, p3]
                refine LooseD.reads (.bool false) rfl (by kernel_rfl) (fun _ _ => by rfl) ?_; try simp only [Act.put, p1, p2, p3]
                refine LooseD.unwanted (by kernel_rfl) ?_; try simp only [Act.put, p1, p2, p3]
                refine LooseD.unwanted (by kernel_rfl) ?_; try simp only [Act.put, p1, p2, p3]
                refine LooseD.unwanted (by kernel_rfl) ?_; try simp only [Act.put, p1, p2, p3]
                refine LooseD.unwanted (by kernel_rfl) ?_; try simp only [Act.put, p1, p2, p3]
                refine LooseD.reads (.bool false) rfl (by kernel_rfl) (fun _ _ => by rfl) ?_; try simp only [Act.put, p1, p2, p3]
                refine LooseD.reads (.bool false) rfl (by kernel_rfl) (fun _ _ => by rfl) ?_; try simp only [Act.put, p1, p2, p3]
                refine LooseD.unwanted (by kernel_rfl) ?_; try simp only [Act.put, p1, p2, p3]
                refine LooseD.unwanted (by kernel_rfl) ?_; try simp only [Act.put, p1, p2, p3]
                refine LooseD.unwanted (by kernel_rfl) ?_; try simp only [Act.put, p1, p2, p3]
                refine LooseD.unwanted (by kernel_rfl) ?_; try simp only [Act.put, p1, p2, p3]
                refine LooseD.reads (.bool false) rfl (by kernel_rfl) (fun _ _ => by rfl) ?_; try simp only [Act.put, p1, p2, p3]
                refine LooseD.reads (.bool false) rfl (by kernel_rfl) (fun _ _ => by rfl) ?_; try simp only [Act.put, p1, p2, p3]
                refine LooseD.done ?_
                intro w7 hw7 _
                have HQT := Lib.hid (show q = false by rw [HQ.out]; simp)
                clear HQ
                have HB7 := Lib.hid (HB0.out.trans (hw7.mono HB0.out.size))
                clear hw7
                go_wp2
                go_ret
                exact ⟨by rw [HQT.out]; rfl, HB7.out⟩
              | true =>
                have t7 : (text.size : Int) ≤ 8192 := by have := of_decide_eq_true E7.out.symm; omega
                refine LooseD.reads (.pointer (some ⟨p, 11, none⟩)) rfl (by kernel_rfl) ?_ ?_
                · intro w9 hw
                  clear hw
                  go_simp
                try simp only [Act.put, p1, p2, p3]
                refine LooseD.reads (.string text) rfl (by kernel_rfl) ?_ ?_
                · intro w9 hw
                  obtain ⟨x0, x4, x5, x6, x7, x8, x11, x13, x14, x15⟩ := HCE.out w9 hw
                  clear hw
                  go_simp
                try simp only [Act.put, p1, p2, p3]
                refine LooseD.reads (.int .i64 text.size) rfl (by kernel_rfl) ?_ ?_
                · intro w9 hw
                  clear hw
                  go_simp
                try simp only [Act.put, p1, p2, p3]
                refine LooseD.reads (.bool true) rfl (by kernel_rfl) ?_ ?_
                · intro w9 hw
                  clear hw
                  go_simp
                try simp only [Act.put, p1, p2, p3]
                refine LooseD.reads (.bool true) rfl (by kernel_rfl) ?_ ?_
                · intro w9 hw
                  clear hw
                  go_simp
                try simp only [Act.put, p1, p2, p3]
                refine LooseD.reads (.bool true) rfl (by kernel_rfl) ?_ ?_
                · intro w9 hw
                  clear hw
                  go_simp
                try simp only [Act.put, p1, p2, p3]
                cases g8 with
                | false =>
                  have t8 : ¬ client < 3 := by have := of_decide_eq_false E8.out.symm; omega
                  refine LooseD.reads (.pointer (some ⟨p, 8, none⟩)) rfl (by kernel_rfl) ?_ ?_
                  · intro w9 hw
                    clear hw
                    go_simp
                  try simp only [Act.put, p1, p2, p3]
                  refine LooseD.reads (.int .i64 client) rfl (by kernel_rfl) ?_ ?_
                  · intro w9 hw
                    obtain ⟨x0, x4, x5, x6, x7, x8, x11, x13, x14, x15⟩ := HCE.out w9 hw
                    clear hw
                    go_simp
                  try simp only [Act.put, p1, p2, p3]
                  refine LooseD.reads (.bool false) rfl (by kernel_rfl) ?_ ?_
                  · intro w9 hw
                    clear hw
                    go_simp
                  try simp only [Act.put, p1, p2, p3]
                  refine LooseD.reads (.bool false) rfl (by kernel_rfl) ?_ ?_
                  · intro w9 hw
                    clear hw
                    go_simp
                  try simp only [Act.put, p1, p2, p3]
                  refine LooseD.reads (.bool false) rfl (by kernel_rfl) ?_ ?_
                  · intro w9 hw
                    clear hw
                    go_simp
                  try simp only [Act.put, p1, p2, p3]
                  refine LooseD.unwanted (by kernel_rfl) ?_; try simp only [Act.put, p1, p2, p3]
                  refine LooseD.unwanted (by kernel_rfl) ?_; try simp only [Act.put, p1, p2, p3]
                  refine LooseD.unwanted (by kernel_rfl) ?_; try simp only [Act.put, p1, p2, p3]
                  refine LooseD.unwanted (by kernel_rfl) ?_; try simp only [Act.put, p1, p2, p3]
                  refine LooseD.unwanted (by kernel_rfl) ?_; try simp only [Act.put, p1, p2, p3]
                  refine LooseD.reads (.bool false) rfl (by kernel_rfl) (fun _ _ => by rfl) ?_; try simp only [Act.put, p1, p2, p3]
                  refine LooseD.reads (.bool false) rfl (by kernel_rfl) (fun _ _ => by rfl) ?_; try simp only [Act.put, p1, p2, p3]
                  refine LooseD.unwanted (by kernel_rfl) ?_; try simp only [Act.put, p1, p2, p3]
                  refine LooseD.unwanted (by kernel_rfl) ?_; try simp only [Act.put, p1, p2, p3]
                  refine LooseD.unwanted (by kernel_rfl) ?_; try simp only [Act.put, p1, p2, p3]
                  refine LooseD.unwanted (by kernel_rfl) ?_; try simp only [Act.put, p1, p2, p3]
                  refine LooseD.unwanted (by kernel_rfl) ?_; try simp only [Act.put, p1, p2, p3]
                  refine LooseD.reads (.bool false) rfl (by kernel_rfl) (fun _ _ => by rfl) ?_; try simp only [Act.put, p1, p2, p3]
                  refine LooseD.reads (.bool false) rfl (by kernel_rfl) (fun _ _ => by rfl) ?_; try simp only [Act.put, p1, p2, p3]
                  refine LooseD.unwanted (by kernel_rfl) ?_; try simp only [Act.put, p1, p2, p3]
                  refine LooseD.unwanted (by kernel_rfl) ?_; try simp only [Act.put, p1, p2, p3]
                  refine LooseD.unwanted (by kernel_rfl) ?_; try simp only [Act.put, p1, p2, p3]
                  refine LooseD.unwanted (by kernel_rfl) ?_; try simp only [Act.put, p1, p2, p3]
                  refine LooseD.unwanted (by kernel_rfl) ?_; try simp only [Act.put, p1, p2, p3]
                  refine LooseD.reads (.bool false) rfl (by kernel_rfl) (fun _ _ => by rfl) ?_; try simp only [Act.put, p1, p2, p3]
                  refine LooseD.reads (.bool false) rfl (by kernel_rfl) (fun _ _ => by rfl) ?_; try simp only [Act.put, p1, p2, p3]
                  refine LooseD.unwanted (by kernel_rfl) ?_; try simp only [Act.put, p1, p2, p3]
                  refine LooseD.unwanted (by kernel_rfl) ?_; try simp only [Act.put, p1, p2, p3]
                  refine LooseD.unwanted (by kernel_rfl) ?_; try simp only [Act.put, p1, p2, p3]
                  refine LooseD.unwanted (by kernel_rfl) ?_; try simp only [Act.put, p1, p2, p3]
                  refine LooseD.reads (.bool false) rfl (by kernel_rfl) (fun _ _ => by rfl) ?_; try simp only [Act.put, p1, p2, p3]
                  refine LooseD.reads (.bool false) rfl (by kernel_rfl) (fun _ _ => by rfl) ?_; try simp only [Act.put, p1, p2, p3]
                  refine LooseD.unwanted (by kernel_rfl) ?_; try simp only [Act.put, p1, p2, p3]
                  refine LooseD.unwanted (by kernel_rfl) ?_; try simp only [Act.put, p1, p2, p3]
                  refine LooseD.unwanted (by kernel_rfl) ?_; try simp only [Act.put, p1, p2, p3]
                  refine LooseD.unwanted (by kernel_rfl) ?_; try simp only [Act.put, p1, p2, p3]
                  refine LooseD.unwanted (by kernel_rfl) ?_; try simp only [Act.put, p1, p2, p3]
                  refine LooseD.unwanted (by kernel_rfl) ?_; try simp only [Act.put, p1, p2, p3]
                  refine LooseD.unwanted (by kernel_rfl) ?_; try simp only [Act.put, p1, p2, p3]
                  refine LooseD.unwanted (by kernel_rfl) ?_; try simp only [Act.put, p1, p2, p3]
                  refine LooseD.reads (.bool false) rfl (by kernel_rfl) (fun _ _ => by rfl) ?_; try simp only [Act.put, p1, p2, p3]
                  refine LooseD.reads (.bool false) rfl (by kernel_rfl) (fun _ _ => by rfl) ?_; try simp only [Act.put, p1, p2, p3]
                  refine LooseD.unwanted (by kernel_rfl) ?_; try simp only [Act.put, p1, p2, p3]
                  refine LooseD.unwanted (by kernel_rfl) ?_; try simp only [Act.put, p1, p2, p3]
                  refine LooseD.unwanted (by kernel_rfl) ?_; try simp only [Act.put, p1, p2, p3]
                  refine LooseD.unwanted (by kernel_rfl) ?_; try simp only [Act.put, p1, p2, p3]
                  refine LooseD.unwanted (by kernel_rfl) ?_; try simp only [Act.put, p1, p2, p3]
                  refine LooseD.unwanted (by kernel_rfl) ?_; try simp only [Act.put, p1, p2, p3]
                  refine LooseD.reads (.bool false) rfl (by kernel_rfl) (fun _ _ => by rfl) ?_; try simp only [Act.put, p1, p2, p3]
                  refine LooseD.reads (.bool false) rfl (by kernel_rfl) (fun _ _ => by rfl) ?_; try simp only [Act.put, p1, p2, p3]
                  refine LooseD.unwanted (by kernel_rfl) ?_; try simp only [Act.put, p1, p2, p3]
                  refine LooseD.unwanted (by kernel_rfl) ?_; try simp only [Act.put, p1, p2, p3]
                  refine LooseD.unwanted (by kernel_rfl) ?_; try simp only [Act.put, p1, p2, p3]
                  refine LooseD.unwanted (by kernel_rfl) ?_; try simp only [Act.put, p1, p2, p3]
                  refine LooseD.reads (.bool false) rfl (by kernel_rfl) (fun _ _ => by rfl) ?_; try simp only [Act.put, p1, p2, p3]
                  refine LooseD.reads (.bool false) rfl (by kernel_rfl) (fun _ _ => by rfl) ?_; try simp only [Act.put, p1, p2, p3]
                  refine LooseD.unwanted (by kernel_rfl) ?_; try simp only [Act.put, p1, p2, p3]
                  refine LooseD.unwanted (by kernel_rfl) ?_; try simp only [Act.put, p1, p2, p3]
                  refine LooseD.unwanted (by kernel_rfl) ?_; try simp only [Act.put, p1, p2, p3]
                  refine LooseD.unwanted (by kernel_rfl) ?_; try simp only [Act.put, p1, p2, p3]
                  refine LooseD.reads (.bool false) rfl (by kernel_rfl) (fun _ _ => by rfl) ?_; try simp only [Act.put, p1, p2, p3]
                  refine LooseD.reads (.bool false) rfl (by kernel_rfl) (fun _ _ => by rfl) ?_; try simp only [Act.put, p1, p2, p3]
                  refine LooseD.done ?_
                  intro w7 hw7 _
                  have HQT := Lib.hid (show q = false by rw [HQ.out]; simp)
                  clear HQ
                  have HB7 := Lib.hid (HB0.out.trans (hw7.mono HB0.out.size))
                  clear hw7
                  go_wp2
                  go_ret
                  exact ⟨by rw [HQT.out]; rfl, HB7.out⟩
                | true =>
                  have t8 : client < 3 := by have := of_decide_eq_true E8.out.symm; omega
                  refine LooseD.reads (.pointer (some ⟨p, 8, none⟩)) rfl (by kernel_rfl) ?_ ?_
                  · intro w9 hw
                    clear hw
                    go_simp
                  try simp only [Act.put, p1, p2, p3]
                  refine LooseD.reads (.int .i64 client) rfl (by kernel_rfl) ?_ ?_
                  · intro w9 hw
                    obtain ⟨x0, x4, x5, x6, x7, x8, x11, x13, x14, x15⟩ := HCE.out w9 hw
                    clear hw
                    go_simp
                  try simp only [Act.put, p1, p2, p3]
                  refine LooseD.reads (.bool true) rfl (by kernel_rfl) ?_ ?_
                  · intro w9 hw
                    clear hw
                    go_simp
                  try simp only [Act.put, p1, p2, p3]
                  refine LooseD.reads (.bool true) rfl (by kernel_rfl) ?_ ?_
                  · intro w9 hw
                    clear hw
                    go_simp
                  try simp only [Act.put, p1, p2, p3]
                  refine LooseD.reads (.bool true) rfl (by kernel_rfl) ?_ ?_
                  · intro w9 hw
                    clear hw
                    go_simp
                  try simp only [Act.put, p1, p2, p3]
                  cases g9 with
                  | false =>
                    have t9 : ¬ last ≤ view := by have := of_decide_eq_false E9.out.symm; omega
                    refine LooseD.reads (.pointer (some ⟨p, 5, none⟩)) rfl (by kernel_rfl) ?_ ?_
                    · intro w9 hw
                      clear hw
                      go_simp
                    try simp only [Act.put, p1, p2, p3]
                    refine LooseD.reads (.int .i64 last) rfl (by kernel_rfl) ?_ ?_
                    · intro w9 hw
                      obtain ⟨x0, x4, x5, x6, x7, x8, x11, x13, x14, x15⟩ := HCE.out w9 hw
                      clear hw
                      go_simp
                    try simp only [Act.put, p1, p2, p3]
                    refine LooseD.reads (.pointer (some ⟨p, 4, none⟩)) rfl (by kernel_rfl) ?_ ?_
                    · intro w9 hw
                      clear hw
                      go_simp
                    try simp only [Act.put, p1, p2, p3]
                    refine LooseD.reads (.int .i64 view) rfl (by kernel_rfl) ?_ ?_
                    · intro w9 hw
                      obtain ⟨x0, x4, x5, x6, x7, x8, x11, x13, x14, x15⟩ := HCE.out w9 hw
                      clear hw
                      go_simp
                    try simp only [Act.put, p1, p2, p3]
                    refine LooseD.reads (.bool false) rfl (by kernel_rfl) ?_ ?_
                    · intro w9 hw
                      clear hw
                      go_simp
                    try simp only [Act.put, p1, p2, p3]
                    refine LooseD.reads (.bool false) rfl (by kernel_rfl) ?_ ?_
                    · intro w9 hw
                      clear hw
                      go_simp
                    try simp only [Act.put, p1, p2, p3]
                    refine LooseD.reads (.bool false) rfl (by kernel_rfl) ?_ ?_
                    · intro w9 hw
                      clear hw
                      go_simp
                    try simp only [Act.put, p1, p2, p3]
                    refine LooseD.unwanted (by kernel_rfl) ?_; try simp only [Act.put, p1, p2, p3]
                    refine LooseD.unwanted (by kernel_rfl) ?_; try simp only [Act.put, p1, p2, p3]
                    refine LooseD.unwanted (by kernel_rfl) ?_; try simp only [Act.put, p1, p2, p3]
                    refine LooseD.unwanted (by kernel_rfl) ?_; try simp only [Act.put, p1, p2, p3]
                    refine LooseD.unwanted (by kernel_rfl) ?_; try simp only [Act.put, p1, p2, p3]
                    refine LooseD.reads (.bool false) rfl (by kernel_rfl) (fun _ _ => by rfl) ?_; try simp only [Act.put, p1, p2, p3]
                    refine LooseD.reads (.bool false) rfl (by kernel_rfl) (fun _ _ => by rfl) ?_; try simp only [Act.put, p1, p2, p3]
                    refine LooseD.unwanted (by kernel_rfl) ?_; try simp only [Act.put, p1, p2, p3]
                    refine LooseD.unwanted (by kernel_rfl) ?_; try simp only [Act.put, p1, p2, p3]
                    refine LooseD.unwanted (by kernel_rfl) ?_; try simp only [Act.put, p1, p2, p3]
                    refine LooseD.unwanted (by kernel_rfl) ?_; try simp only [Act.put, p1, p2, p3]
                    refine LooseD.unwanted (by kernel_rfl) ?_; try simp only [Act.put, p1, p2, p3]
                    refine LooseD.reads (.bool false) rfl (by kernel_rfl) (fun _ _ => by rfl) ?_; try simp only [Act.put, p1, p2, p3]
                    refine LooseD.reads (.bool false) rfl (by kernel_rfl) (fun _ _ => by rfl) ?_; try simp only [Act.put, p1, p2, p3]
                    refine LooseD.unwanted (by kernel_rfl) ?_; try simp only [Act.put, p1, p2, p3]
                    refine LooseD.unwanted (by kernel_rfl) ?_; try simp only [Act.put, p1, p2, p3]
                    refine LooseD.unwanted (by kernel_rfl) ?_; try simp only [Act.put, p1, p2, p3]
                    refine LooseD.unwanted (by kernel_rfl) ?_; try simp only [Act.put, p1, p2, p3]
                    refine LooseD.reads (.bool false) rfl (by kernel_rfl) (fun _ _ => by rfl) ?_; try simp only [Act.put, p1, p2, p3]
                    refine LooseD.reads (.bool false) rfl (by kernel_rfl) (fun _ _ => by rfl) ?_; try simp only [Act.put, p1, p2, p3]
                    refine LooseD.unwanted (by kernel_rfl) ?_; try simp only [Act.put, p1, p2, p3]
                    refine LooseD.unwanted (by kernel_rfl) ?_; try simp only [Act.put, p1, p2, p3]
                    refine LooseD.unwanted (by kernel_rfl) ?_; try simp only [Act.put, p1, p2, p3]
                    refine LooseD.unwanted (by kernel_rfl) ?_; try simp only [Act.put, p1, p2, p3]
                    refine LooseD.unwanted (by kernel_rfl) ?_; try simp only [Act.put, p1, p2, p3]
                    refine LooseD.unwanted (by kernel_rfl) ?_; try simp only [Act.put, p1, p2, p3]
                    refine LooseD.unwanted (by kernel_rfl) ?_; try simp only [Act.put, p1, p2, p3]
                    refine LooseD.unwanted (by kernel_rfl) ?_; try simp only [Act.put, p1, p2, p3]
                    refine LooseD.reads (.bool false) rfl (by kernel_rfl) (fun _ _ => by rfl) ?_; try simp only [Act.put, p1, p2, p3]
                    refine LooseD.reads (.bool false) rfl (by kernel_rfl) (fun _ _ => by rfl) ?_; try simp only [Act.put, p1, p2, p3]
                    refine LooseD.unwanted (by kernel_rfl) ?_; try simp only [Act.put, p1, p2, p3]
                    refine LooseD.unwanted (by kernel_rfl) ?_; try simp only [Act.put, p1, p2, p3]
                    refine LooseD.unwanted (by kernel_rfl) ?_; try simp only [Act.put, p1, p2, p3]
                    refine LooseD.unwanted (by kernel_rfl) ?_; try simp only [Act.put, p1, p2, p3]
                    refine LooseD.unwanted (by kernel_rfl) ?_; try simp only [Act.put, p1, p2, p3]
                    refine LooseD.unwanted (by kernel_rfl) ?_; try simp only [Act.put, p1, p2, p3]
                    refine LooseD.reads (.bool false) rfl (by kernel_rfl) (fun _ _ => by rfl) ?_; try simp only [Act.put, p1, p2, p3]
                    refine LooseD.reads (.bool false) rfl (by kernel_rfl) (fun _ _ => by rfl) ?_; try simp only [Act.put, p1, p2, p3]
                    refine LooseD.unwanted (by kernel_rfl) ?_; try simp only [Act.put, p1, p2, p3]
                    refine LooseD.unwanted (by kernel_rfl) ?_; try simp only [Act.put, p1, p2, p3]
                    refine LooseD.unwanted (by kernel_rfl) ?_; try simp only [Act.put, p1, p2, p3]
                    refine LooseD.unwanted (by kernel_rfl) ?_; try simp only [Act.put, p1, p2, p3]
                    refine LooseD.reads (.bool false) rfl (by kernel_rfl) (fun _ _ => by rfl) ?_; try simp only [Act.put, p1, p2, p3]
                    refine LooseD.reads (.bool false) rfl (by kernel_rfl) (fun _ _ => by rfl) ?_; try simp only [Act.put, p1, p2, p3]
                    refine LooseD.unwanted (by kernel_rfl) ?_; try simp only [Act.put, p1, p2, p3]
                    refine LooseD.unwanted (by kernel_rfl) ?_; try simp only [Act.put, p1, p2, p3]
                    refine LooseD.unwanted (by kernel_rfl) ?_; try simp only [Act.put, p1, p2, p3]
                    refine LooseD.unwanted (by kernel_rfl) ?_; try simp only [Act.put, p1, p2, p3]
                    refine LooseD.reads (.bool false) rfl (by kernel_rfl) (fun _ _ => by rfl) ?_; try simp only [Act.put, p1, p2, p3]
                    refine LooseD.reads (.bool false) rfl (by kernel_rfl) (fun _ _ => by rfl) ?_; try simp only [Act.put, p1, p2, p3]
                    refine LooseD.done ?_
                    intro w7 hw7 _
                    have HQT := Lib.hid (show q = false by rw [HQ.out]; simp)
                    clear HQ
                    have HB7 := Lib.hid (HB0.out.trans (hw7.mono HB0.out.size))
                    clear hw7
                    go_wp2
                    go_ret
                    exact ⟨by rw [HQT.out]; rfl, HB7.out⟩
                  | true =>
                    have t9 : last ≤ view := by have := of_decide_eq_true E9.out.symm; omega
                    refine LooseD.reads (.pointer (some ⟨p, 5, none⟩)) rfl (by kernel_rfl) ?_ ?_
                    · intro w9 hw
                      clear hw
                      go_simp
                    try simp only [Act.put, p1, p2, p3]
                    refine LooseD.reads (.int .i64 last) rfl (by kernel_rfl) ?_ ?_
                    · intro w9 hw
                      obtain ⟨x0, x4, x5, x6, x7, x8, x11, x13, x14, x15⟩ := HCE.out w9 hw
                      clear hw
                      go_simp
                    try simp only [Act.put, p1, p2, p3]
                    refine LooseD.reads (.pointer (some ⟨p, 4, none⟩)) rfl (by kernel_rfl) ?_ ?_
                    · intro w9 hw
                      clear hw
                      go_simp
                    try simp only [Act.put, p1, p2, p3]
                    refine LooseD.reads (.int .i64 view) rfl (by kernel_rfl) ?_ ?_
                    · intro w9 hw
                      obtain ⟨x0, x4, x5, x6, x7, x8, x11, x13, x14, x15⟩ := HCE.out w9 hw
                      clear hw
                      go_simp
                    try simp only [Act.put, p1, p2, p3]
                    refine LooseD.reads (.bool true) rfl (by kernel_rfl) ?_ ?_
                    · intro w9 hw
                      clear hw
                      go_simp
                    try simp only [Act.put, p1, p2, p3]
                    refine LooseD.reads (.bool true) rfl (by kernel_rfl) ?_ ?_
                    · intro w9 hw
                      clear hw
                      go_simp
                    try simp only [Act.put, p1, p2, p3]
                    refine LooseD.reads (.bool true) rfl (by kernel_rfl) ?_ ?_
                    · intro w9 hw
                      clear hw
                      go_simp
                    try simp only [Act.put, p1, p2, p3]
                    cases g10 with
                    | false =>
                      have t10 : ¬ base ≤ commit := by have := of_decide_eq_false E10.out.symm; omega
                      refine LooseD.reads (.pointer (some ⟨p, 13, none⟩)) rfl (by kernel_rfl) ?_ ?_
                      · intro w9 hw
                        clear hw
                        go_simp
                      try simp only [Act.put, p1, p2, p3]
                      refine LooseD.reads (.int .i64 base) rfl (by kernel_rfl) ?_ ?_
                      · intro w9 hw
                        obtain ⟨x0, x4, x5, x6, x7, x8, x11, x13, x14, x15⟩ := HCE.out w9 hw
                        clear hw
                        go_simp
                      try simp only [Act.put, p1, p2, p3]
                      refine LooseD.reads (.pointer (some ⟨p, 7, none⟩)) rfl (by kernel_rfl) ?_ ?_
                      · intro w9 hw
                        clear hw
                        go_simp
                      try simp only [Act.put, p1, p2, p3]
                      refine LooseD.reads (.int .i64 commit) rfl (by kernel_rfl) ?_ ?_
                      · intro w9 hw
                        obtain ⟨x0, x4, x5, x6, x7, x8, x11, x13, x14, x15⟩ := HCE.out w9 hw
                        clear hw
                        go_simp
                      try simp only [Act.put, p1, p2, p3]
                      refine LooseD.reads (.bool false) rfl (by kernel_rfl) ?_ ?_
                      · intro w9 hw
                        clear hw
                        go_simp
                      try simp only [Act.put, p1, p2, p3]
                      refine LooseD.reads (.bool false) rfl (by kernel_rfl) ?_ ?_
                      · intro w9 hw
                        clear hw
                        go_simp
                      try simp only [Act.put, p1, p2, p3]
                      refine LooseD.reads (.bool false) rfl (by kernel_rfl) ?_ ?_
                      · intro w9 hw
                        clear hw
                        go_simp
                      try simp only [Act.put, p1, p2, p3]
                      refine LooseD.unwanted (by kernel_rfl) ?_; try simp only [Act.put, p1, p2, p3]
                      refine LooseD.unwanted (by kernel_rfl) ?_; try simp only [Act.put, p1, p2, p3]
                      refine LooseD.unwanted (by kernel_rfl) ?_; try simp only [Act.put, p1, p2, p3]
                      refine LooseD.unwanted (by kernel_rfl) ?_; try simp only [Act.put, p1, p2, p3]
                      refine LooseD.unwanted (by kernel_rfl) ?_; try simp only [Act.put, p1, p2, p3]
                      refine LooseD.reads (.bool false) rfl (by kernel_rfl) (fun _ _ => by rfl) ?_; try simp only [Act.put, p1, p2, p3]
                      refine LooseD.reads (.bool false) rfl (by kernel_rfl) (fun _ _ => by rfl) ?_; try simp only [Act.put, p1, p2, p3]
                      refine LooseD.unwanted (by kernel_rfl) ?_; try simp only [Act.put, p1, p2, p3]
                      refine LooseD.unwanted (by kernel_rfl) ?_; try simp only [Act.put, p1, p2, p3]
                      refine LooseD.unwanted (by kernel_rfl) ?_; try simp only [Act.put, p1, p2, p3]
                      refine LooseD.unwanted (by kernel_rfl) ?_; try simp only [Act.put, p1, p2, p3]
                      refine LooseD.reads (.bool false) rfl (by kernel_rfl) (fun _ _ => by rfl) ?_; try simp only [Act.put, p1, p2, p3]
                      refine LooseD.reads (.bool false) rfl (by kernel_rfl) (fun _ _ => by rfl) ?_; try simp only [Act.put, p1, p2, p3]
                      refine LooseD.unwanted (by kernel_rfl) ?_; try simp only [Act.put, p1, p2, p3]
                      refine LooseD.unwanted (by kernel_rfl) ?_; try simp only [Act.put, p1, p2, p3]
                      refine LooseD.unwanted (by kernel_rfl) ?_; try simp only [Act.put, p1, p2, p3]
                      refine LooseD.unwanted (by kernel_rfl) ?_; try simp only [Act.put, p1, p2, p3]
                      refine LooseD.unwanted (by kernel_rfl) ?_; try simp only [Act.put, p1, p2, p3]
                      refine LooseD.unwanted (by kernel_rfl) ?_; try simp only [Act.put, p1, p2, p3]
                      refine LooseD.unwanted (by kernel_rfl) ?_; try simp only [Act.put, p1, p2, p3]
                      refine LooseD.unwanted (by kernel_rfl) ?_; try simp only [Act.put, p1, p2, p3]
                      refine LooseD.reads (.bool false) rfl (by kernel_rfl) (fun _ _ => by rfl) ?_; try simp only [Act.put, p1, p2, p3]
                      refine LooseD.reads (.bool false) rfl (by kernel_rfl) (fun _ _ => by rfl) ?_; try simp only [Act.put, p1, p2, p3]
                      refine LooseD.unwanted (by kernel_rfl) ?_; try simp only [Act.put, p1, p2, p3]
                      refine LooseD.unwanted (by kernel_rfl) ?_; try simp only [Act.put, p1, p2, p3]
                      refine LooseD.unwanted (by kernel_rfl) ?_; try simp only [Act.put, p1, p2, p3]
                      refine LooseD.unwanted (by kernel_rfl) ?_; try simp only [Act.put, p1, p2, p3]
                      refine LooseD.unwanted (by kernel_rfl) ?_; try simp only [Act.put, p1, p2, p3]
                      refine LooseD.unwanted (by kernel_rfl) ?_; try simp only [Act.put, p1, p2, p3]
                      refine LooseD.reads (.bool false) rfl (by kernel_rfl) (fun _ _ => by rfl) ?_; try simp only [Act.put, p1, p2, p3]
                      refine LooseD.reads (.bool false) rfl (by kernel_rfl) (fun _ _ => by rfl) ?_; try simp only [Act.put, p1, p2, p3]
                      refine LooseD.unwanted (by kernel_rfl) ?_; try simp only [Act.put, p1, p2, p3]
                      refine LooseD.unwanted (by kernel_rfl) ?_; try simp only [Act.put, p1, p2, p3]
                      refine LooseD.unwanted (by kernel_rfl) ?_; try simp only [Act.put, p1, p2, p3]
                      refine LooseD.unwanted (by kernel_rfl) ?_; try simp only [Act.put, p1, p2, p3]
                      refine LooseD.reads (.bool false) rfl (by kernel_rfl) (fun _ _ => by rfl) ?_; try simp only [Act.put, p1, p2, p3]
                      refine LooseD.reads (.bool false) rfl (by kernel_rfl) (fun _ _ => by rfl) ?_; try simp only [Act.put, p1, p2, p3]
                      refine LooseD.unwanted (by kernel_rfl) ?_; try simp only [Act.put, p1, p2, p3]
                      refine LooseD.unwanted (by kernel_rfl) ?_; try simp only [Act.put, p1, p2, p3]
                      refine LooseD.unwanted (by kernel_rfl) ?_; try simp only [Act.put, p1, p2, p3]
                      refine LooseD.unwanted (by kernel_rfl) ?_; try simp only [Act.put, p1, p2, p3]
                      refine LooseD.reads (.bool false) rfl (by kernel_rfl) (fun _ _ => by rfl) ?_; try simp only [Act.put, p1, p2, p3]
                      refine LooseD.reads (.bool false) rfl (by kernel_rfl) (fun _ _ => by rfl) ?_; try simp only [Act.put, p1, p2, p3]
                      refine LooseD.done ?_
                      intro w7 hw7 _
                      have HQT := Lib.hid (show q = false by rw [HQ.out]; simp)
                      clear HQ
                      have HB7 := Lib.hid (HB0.out.trans (hw7.mono HB0.out.size))
                      clear hw7
                      go_wp2
                      go_ret
                      exact ⟨by rw [HQT.out]; rfl, HB7.out⟩
                    | true =>
                      have t10 : base ≤ commit := by have := of_decide_eq_true E10.out.symm; omega
                      refine LooseD.reads (.pointer (some ⟨p, 13, none⟩)) rfl (by kernel_rfl) ?_ ?_
                      · intro w9 hw
                        clear hw
                        go_simp
                      try simp only [Act.put, p1, p2, p3]
                      refine LooseD.reads (.int .i64 base) rfl (by kernel_rfl) ?_ ?_
                      · intro w9 hw
                        obtain ⟨x0, x4, x5, x6, x7, x8, x11, x13, x14, x15⟩ := HCE.out w9 hw
                        clear hw
                        go_simp
                      try simp only [Act.put, p1, p2, p3]
                      refine LooseD.reads (.pointer (some ⟨p, 7, none⟩)) rfl (by kernel_rfl) ?_ ?_
                      · intro w9 hw
                        clear hw
                        go_simp
                      try simp only [Act.put, p1, p2, p3]
                      refine LooseD.reads (.int .i64 commit) rfl (by kernel_rfl) ?_ ?_
                      · intro w9 hw
                        obtain ⟨x0, x4, x5, x6, x7, x8, x11, x13, x14, x15⟩ := HCE.out w9 hw
                        clear hw
                        go_simp
                      try simp only [Act.put, p1, p2, p3]
                      refine LooseD.reads (.bool true) rfl (by kernel_rfl) ?_ ?_
                      · intro w9 hw
                        clear hw
                        go_simp
                      try simp only [Act.put, p1, p2, p3]
                      refine LooseD.reads (.bool true) rfl (by kernel_rfl) ?_ ?_
                      · intro w9 hw
                        clear hw
                        go_simp
                      try simp only [Act.put, p1, p2, p3]
                      refine LooseD.reads (.bool true) rfl (by kernel_rfl) ?_ ?_
                      · intro w9 hw
                        clear hw
                        go_simp
                      try simp only [Act.put, p1, p2, p3]
                      cases g11 with
                      | false =>
                        have t11 : ¬ commit ≤ op := by have := of_decide_eq_false E11.out.symm; omega
                        refine LooseD.reads (.pointer (some ⟨p, 7, none⟩)) rfl (by kernel_rfl) ?_ ?_
                        · intro w9 hw
                          clear hw
                          go_simp
                        try simp only [Act.put, p1, p2, p3]
                        refine LooseD.reads (.int .i64 commit) rfl (by kernel_rfl) ?_ ?_
                        · intro w9 hw
                          obtain ⟨x0, x4, x5, x6, x7, x8, x11, x13, x14, x15⟩ := HCE.out w9 hw
                          clear hw
                          go_simp
                        try simp only [Act.put, p1, p2, p3]
                        refine LooseD.reads (.pointer (some ⟨p, 6, none⟩)) rfl (by kernel_rfl) ?_ ?_
                        · intro w9 hw
                          clear hw
                          go_simp
                        try simp only [Act.put, p1, p2, p3]
                        refine LooseD.reads (.int .i64 op) rfl (by kernel_rfl) ?_ ?_
                        · intro w9 hw
                          obtain ⟨x0, x4, x5, x6, x7, x8, x11, x13, x14, x15⟩ := HCE.out w9 hw
                          clear hw
                          go_simp
                        try simp only [Act.put, p1, p2, p3]
                        refine LooseD.reads (.bool false) rfl (by kernel_rfl) ?_ ?_
                        · intro w9 hw
                          clear hw
                          go_simp
                        try simp only [Act.put, p1, p2, p3]
                        refine LooseD.reads (.bool false) rfl (by kernel_rfl) ?_ ?_
                        · intro w9 hw
                          clear hw
                          go_simp
                        try simp only [Act.put, p1, p2, p3]
                        refine LooseD.reads (.bool false) rfl (by kernel_rfl) ?_ ?_
                        · intro w9 hw
                          clear hw
                          go_simp
                        try simp only [Act.put, p1, p2, p3]
                        refine LooseD.unwanted (by kernel_rfl) ?_; try simp only [Act.put, p1, p2, p3]
                        refine LooseD.unwanted (by kernel_rfl) ?_; try simp only [Act.put, p1, p2, p3]
                        refine LooseD.unwanted (by kernel_rfl) ?_; try simp only [Act.put, p1, p2, p3]
                        refine LooseD.unwanted (by kernel_rfl) ?_; try simp only [Act.put, p1, p2, p3]
                        refine LooseD.reads (.bool false) rfl (by kernel_rfl) (fun _ _ => by rfl) ?_; try simp only [Act.put, p1, p2, p3]
                        refine LooseD.reads (.bool false) rfl (by kernel_rfl) (fun _ _ => by rfl) ?_; try simp only [Act.put, p1, p2, p3]
                        refine LooseD.unwanted (by kernel_rfl) ?_; try simp only [Act.put, p1, p2, p3]
                        refine LooseD.unwanted (by kernel_rfl) ?_; try simp only [Act.put, p1, p2, p3]
                        refine LooseD.unwanted (by kernel_rfl) ?_; try simp only [Act.put, p1, p2, p3]
                        refine LooseD.unwanted (by kernel_rfl) ?_; try simp only [Act.put, p1, p2, p3]
                        refine LooseD.unwanted (by kernel_rfl) ?_; try simp only [Act.put, p1, p2, p3]
                        refine LooseD.unwanted (by kernel_rfl) ?_; try simp only [Act.put, p1, p2, p3]
                        refine LooseD.unwanted (by kernel_rfl) ?_; try simp only [Act.put, p1, p2, p3]
                        refine LooseD.unwanted (by kernel_rfl) ?_; try simp only [Act.put, p1, p2, p3]
                        refine LooseD.reads (.bool false) rfl (by kernel_rfl) (fun _ _ => by rfl) ?_; try simp only [Act.put, p1, p2, p3]
                        refine LooseD.reads (.bool false) rfl (by kernel_rfl) (fun _ _ => by rfl) ?_; try simp only [Act.put, p1, p2, p3]
                        refine LooseD.unwanted (by kernel_rfl) ?_; try simp only [Act.put, p1, p2, p3]
                        refine LooseD.unwanted (by kernel_rfl) ?_; try simp only [Act.put, p1, p2, p3]
                        refine LooseD.unwanted (by kernel_rfl) ?_; try simp only [Act.put, p1, p2, p3]
                        refine LooseD.unwanted (by kernel_rfl) ?_; try simp only [Act.put, p1, p2, p3]
                        refine LooseD.unwanted (by kernel_rfl) ?_; try simp only [Act.put, p1, p2, p3]
                        refine LooseD.unwanted (by kernel_rfl) ?_; try simp only [Act.put, p1, p2, p3]
                        refine LooseD.reads (.bool false) rfl (by kernel_rfl) (fun _ _ => by rfl) ?_; try simp only [Act.put, p1, p2, p3]
                        refine LooseD.reads (.bool false) rfl (by kernel_rfl) (fun _ _ => by rfl) ?_; try simp only [Act.put, p1, p2, p3]
                        refine LooseD.unwanted (by kernel_rfl) ?_; try simp only [Act.put, p1, p2, p3]
                        refine LooseD.unwanted (by kernel_rfl) ?_; try simp only [Act.put, p1, p2, p3]
                        refine LooseD.unwanted (by kernel_rfl) ?_; try simp only [Act.put, p1, p2, p3]
                        refine LooseD.unwanted (by kernel_rfl) ?_; try simp only [Act.put, p1, p2, p3]
                        refine LooseD.reads (.bool false) rfl (by kernel_rfl) (fun _ _ => by rfl) ?_; try simp only [Act.put, p1, p2, p3]
                        refine LooseD.reads (.bool false) rfl (by kernel_rfl) (fun _ _ => by rfl) ?_; try simp only [Act.put, p1, p2, p3]
                        refine LooseD.unwanted (by kernel_rfl) ?_; try simp only [Act.put, p1, p2, p3]
                        refine LooseD.unwanted (by kernel_rfl) ?_; try simp only [Act.put, p1, p2, p3]
                        refine LooseD.unwanted (by kernel_rfl) ?_; try simp only [Act.put, p1, p2, p3]
                        refine LooseD.unwanted (by kernel_rfl) ?_; try simp only [Act.put, p1, p2, p3]
                        refine LooseD.reads (.bool false) rfl (by kernel_rfl) (fun _ _ => by rfl) ?_; try simp only [Act.put, p1, p2, p3]
                        refine LooseD.reads (.bool false) rfl (by kernel_rfl) (fun _ _ => by rfl) ?_; try simp only [Act.put, p1, p2, p3]
                        refine LooseD.done ?_
                        intro w7 hw7 _
                        have HQT := Lib.hid (show q = false by rw [HQ.out]; simp)
                        clear HQ
                        have HB7 := Lib.hid (HB0.out.trans (hw7.mono HB0.out.size))
                        clear hw7
                        go_wp2
                        go_ret
                        exact ⟨by rw [HQT.out]; rfl, HB7.out⟩
                      | true =>
                        have t11 : commit ≤ op := by have := of_decide_eq_true E11.out.symm; omega
                        refine LooseD.reads (.pointer (some ⟨p, 7, none⟩)) rfl (by kernel_rfl) ?_ ?_
                        · intro w9 hw
                          clear hw
                          go_simp
                        try simp only [Act.put, p1, p2, p3]
                        refine LooseD.reads (.int .i64 commit) rfl (by kernel_rfl) ?_ ?_
                        · intro w9 hw
                          obtain ⟨x0, x4, x5, x6, x7, x8, x11, x13, x14, x15⟩ := HCE.out w9 hw
                          clear hw
                          go_simp
                        try simp only [Act.put, p1, p2, p3]
                        refine LooseD.reads (.pointer (some ⟨p, 6, none⟩)) rfl (by kernel_rfl) ?_ ?_
                        · intro w9 hw
                          clear hw
                          go_simp
                        try simp only [Act.put, p1, p2, p3]
                        refine LooseD.reads (.int .i64 op) rfl (by kernel_rfl) ?_ ?_
                        · intro w9 hw
                          obtain ⟨x0, x4, x5, x6, x7, x8, x11, x13, x14, x15⟩ := HCE.out w9 hw
                          clear hw
                          go_simp
                        try simp only [Act.put, p1, p2, p3]
                        refine LooseD.reads (.bool true) rfl (by kernel_rfl) ?_ ?_
                        · intro w9 hw
                          clear hw
                          go_simp
                        try simp only [Act.put, p1, p2, p3]
                        refine LooseD.reads (.bool true) rfl (by kernel_rfl) ?_ ?_
                        · intro w9 hw
                          clear hw
                          go_simp
                        try simp only [Act.put, p1, p2, p3]
                        refine LooseD.reads (.bool true) rfl (by kernel_rfl) ?_ ?_
                        · intro w9 hw
                          clear hw
                          go_simp
                        try simp only [Act.put, p1, p2, p3]
                        cases g12 with
                        | false =>
                          have t12 : ¬ (state.size : Int) ≤ 65536 := by have := of_decide_eq_false E12.out.symm; omega
                          refine LooseD.reads (.pointer (some ⟨p, 14, none⟩)) rfl (by kernel_rfl) ?_ ?_
                          · intro w9 hw
                            clear hw
                            go_simp
                          try simp only [Act.put, p1, p2, p3]
                          refine LooseD.reads (.string state) rfl (by kernel_rfl) ?_ ?_
                          · intro w9 hw
                            obtain ⟨x0, x4, x5, x6, x7, x8, x11, x13, x14, x15⟩ := HCE.out w9 hw
                            clear hw
                            go_simp
                          try simp only [Act.put, p1, p2, p3]
                          refine LooseD.reads (.int .i64 state.size) rfl (by kernel_rfl) ?_ ?_
                          · intro w9 hw
                            clear hw
                            go_simp
                          try simp only [Act.put, p1, p2, p3]
                          refine LooseD.reads (.bool false) rfl (by kernel_rfl) ?_ ?_
                          · intro w9 hw
                            clear hw
                            go_simp
                          try simp only [Act.put, p1, p2, p3]
                          refine LooseD.reads (.bool false) rfl (by kernel_rfl) ?_ ?_
                          · intro w9 hw
                            clear hw
                            go_simp
                          try simp only [Act.put, p1, p2, p3]
                          refine LooseD.reads (.bool false) rfl (by kernel_rfl) ?_ ?_
                          · intro w9 hw
                            clear hw
                            go_simp
                          try simp only [Act.put, p1, p2, p3]
                          refine LooseD.unwanted (by kernel_rfl) ?_; try simp only [Act.put, p1, p2, p3]
                          refine LooseD.unwanted (by kernel_rfl) ?_; try simp only [Act.put, p1, p2, p3]
                          refine LooseD.unwanted (by kernel_rfl) ?_; try simp only [Act.put, p1, p2, p3]
                          refine LooseD.unwanted (by kernel_rfl) ?_; try simp only [Act.put, p1, p2, p3]
                          refine LooseD.unwanted (by kernel_rfl) ?_; try simp only [Act.put, p1, p2, p3]
                          refine LooseD.unwanted (by kernel_rfl) ?_; try simp only [Act.put, p1, p2, p3]
                          refine LooseD.unwanted (by kernel_rfl) ?_; try simp only [Act.put, p1, p2, p3]
                          refine LooseD.unwanted (by kernel_rfl) ?_; try simp only [Act.put, p1, p2, p3]
                          refine LooseD.reads (.bool false) rfl (by kernel_rfl) (fun _ _ => by rfl) ?_; try simp only [Act.put, p1, p2, p3]
                          refine LooseD.reads (.bool false) rfl (by kernel_rfl) (fun _ _ => by rfl) ?_; try simp only [Act.put, p1, p2, p3]
                          refine LooseD.unwanted (by kernel_rfl) ?_; try simp only [Act.put, p1, p2, p3]
                          refine LooseD.unwanted (by kernel_rfl) ?_; try simp only [Act.put, p1, p2, p3]
                          refine LooseD.unwanted (by kernel_rfl) ?_; try simp only [Act.put, p1, p2, p3]
                          refine LooseD.unwanted (by kernel_rfl) ?_; try simp only [Act.put, p1, p2, p3]
                          refine LooseD.unwanted (by kernel_rfl) ?_; try simp only [Act.put, p1, p2, p3]
                          refine LooseD.unwanted (by kernel_rfl) ?_; try simp only [Act.put, p1, p2, p3]
                          refine LooseD.reads (.bool false) rfl (by kernel_rfl) (fun _ _ => by rfl) ?_; try simp only [Act.put, p1, p2, p3]
                          refine LooseD.reads (.bool false) rfl (by kernel_rfl) (fun _ _ => by rfl) ?_; try simp only [Act.put, p1, p2, p3]
                          refine LooseD.unwanted (by kernel_rfl) ?_; try simp only [Act.put, p1, p2, p3]
                          refine LooseD.unwanted (by kernel_rfl) ?_; try simp only [Act.put, p1, p2, p3]
                          refine LooseD.unwanted (by kernel_rfl) ?_; try simp only [Act.put, p1, p2, p3]
                          refine LooseD.unwanted (by kernel_rfl) ?_; try simp only [Act.put, p1, p2, p3]
                          refine LooseD.reads (.bool false) rfl (by kernel_rfl) (fun _ _ => by rfl) ?_; try simp only [Act.put, p1, p2, p3]
                          refine LooseD.reads (.bool false) rfl (by kernel_rfl) (fun _ _ => by rfl) ?_; try simp only [Act.put, p1, p2, p3]
                          refine LooseD.unwanted (by kernel_rfl) ?_; try simp only [Act.put, p1, p2, p3]
                          refine LooseD.unwanted (by kernel_rfl) ?_; try simp only [Act.put, p1, p2, p3]
                          refine LooseD.unwanted (by kernel_rfl) ?_; try simp only [Act.put, p1, p2, p3]
                          refine LooseD.unwanted (by kernel_rfl) ?_; try simp only [Act.put, p1, p2, p3]
                          refine LooseD.reads (.bool false) rfl (by kernel_rfl) (fun _ _ => by rfl) ?_; try simp only [Act.put, p1, p2, p3]
                          refine LooseD.reads (.bool false) rfl (by kernel_rfl) (fun _ _ => by rfl) ?_; try simp only [Act.put, p1, p2, p3]
                          refine LooseD.done ?_
                          intro w7 hw7 _
                          have HQT := Lib.hid (show q = false by rw [HQ.out]; simp)
                          clear HQ
                          have HB7 := Lib.hid (HB0.out.trans (hw7.mono HB0.out.size))
                          clear hw7
                          go_wp2
                          go_ret
                          exact ⟨by rw [HQT.out]; rfl, HB7.out⟩
                        | true =>
                          have t12 : (state.size : Int) ≤ 65536 := by have := of_decide_eq_true E12.out.symm; omega
                          refine LooseD.reads (.pointer (some ⟨p, 14, none⟩)) rfl (by kernel_rfl) ?_ ?_
                          · intro w9 hw
                            clear hw
                            go_simp
                          try simp only [Act.put, p1, p2, p3]
                          refine LooseD.reads (.string state) rfl (by kernel_rfl) ?_ ?_
                          · intro w9 hw
                            obtain ⟨x0, x4, x5, x6, x7, x8, x11, x13, x14, x15⟩ := HCE.out w9 hw
                            clear hw
                            go_simp
                          try simp only [Act.put, p1, p2, p3]
                          refine LooseD.reads (.int .i64 state.size) rfl (by kernel_rfl) ?_ ?_
                          · intro w9 hw
                            clear hw
                            go_simp
                          try simp only [Act.put, p1, p2, p3]
                          refine LooseD.reads (.bool true) rfl (by kernel_rfl) ?_ ?_
                          · intro w9 hw
                            clear hw
                            go_simp
                          try simp only [Act.put, p1, p2, p3]
                          refine LooseD.reads (.bool true) rfl (by kernel_rfl) ?_ ?_
                          · intro w9 hw
                            clear hw
                            go_simp
                          try simp only [Act.put, p1, p2, p3]
                          refine LooseD.reads (.bool true) rfl (by kernel_rfl) ?_ ?_
                          · intro w9 hw
                            clear hw
                            go_simp
                          try simp only [Act.put, p1, p2, p3]
                          by_cases hs0 : state.size = 0
                          · have hg13 : g13 = true := by rw [E13.out, decide_eq_true hs0]; rfl
                            subst hg13
                            have s1 : state.toList = [] := (size_nil state).1 hs0
                            have s2 : state.toList.isEmpty = true := by rw [s1]; rfl
                            clear hs0
                            refine LooseD.reads (.pointer (some ⟨p, 14, none⟩)) rfl (by kernel_rfl) ?_ ?_
                            · intro w9 hw
                              clear hw
                              go_simp
                            try simp only [Act.put, p1, p2, p3]
                            refine LooseD.reads (.string state) rfl (by kernel_rfl) ?_ ?_
                            · intro w9 hw
                              obtain ⟨x0, x4, x5, x6, x7, x8, x11, x13, x14, x15⟩ := HCE.out w9 hw
                              clear hw
                              go_simp
                            try simp only [Act.put, p1, p2, p3]
                            refine LooseD.reads (.bool true) rfl (by kernel_rfl) ?_ ?_
                            · intro w9 hw
                              clear hw
                              go_simp
                            try simp only [Act.put, p1, p2, p3]
                            refine LooseD.reads (.bool true) rfl (by kernel_rfl) ?_ ?_
                            · intro w9 hw
                              clear hw
                              go_simp
                            try simp only [Act.put, p1, p2, p3]
                            refine LooseD.unwanted (by kernel_rfl) ?_; try simp only [Act.put, p1, p2, p3]
                            refine LooseD.unwanted (by kernel_rfl) ?_; try simp only [Act.put, p1, p2, p3]
                            refine LooseD.unwanted (by kernel_rfl) ?_; try simp only [Act.put, p1, p2, p3]
                            refine LooseD.reads (.bool true) rfl (by kernel_rfl) ?_ ?_
                            · intro w9 hw
                              clear hw
                              go_simp
                            try simp only [Act.put, p1, p2, p3]
                            refine LooseD.reads (.bool true) rfl (by kernel_rfl) ?_ ?_
                            · intro w9 hw
                              clear hw
                              go_simp
                            try simp only [Act.put, p1, p2, p3]
                            refine LooseD.reads (.bool true) rfl (by kernel_rfl) ?_ ?_
                            · intro w9 hw
                              clear hw
                              go_simp
                            try simp only [Act.put, p1, p2, p3]
                            refine LooseD.reads (.pointer (some ⟨p, 15, none⟩)) rfl (by kernel_rfl) ?_ ?_
                            · intro w9 hw
                              clear hw
                              go_simp
                            try simp only [Act.put, p1, p2, p3]
                            refine LooseD.reads (.slice b nn cap2) rfl (by kernel_rfl) ?_ ?_
                            · intro w9 hw
                              obtain ⟨x0, x4, x5, x6, x7, x8, x11, x13, x14, x15⟩ := HCE.out w9 hw
                              clear hw
                              go_simp
                            try simp only [Act.put, p1, p2, p3]
                            refine LooseD.reads (.int .i64 nn) rfl (by kernel_rfl) ?_ ?_
                            · intro w9 hw
                              clear hw
                              go_simp
                            try simp only [Act.put, p1, p2, p3]
                            refine LooseD.reads (AG) rfl (by kernel_rfl) ?_ ?_
                            · intro w9 hw
                              exact exec_load _ _ 53 _ _ AG w9 rfl rfl (HLW.out w9 hw)
                            try simp only [Act.put, p1, p2, p3]
                            refine LooseD.gives (.int .i64 sz) 50 #[AG] rfl (by kernel_rfl) ?_ (fun w9 hw hH => HSZ.out rfl w9) ?_
                            · intro w9 hw
                              clear hw
                              go_simp
                            try simp only [Act.put, p1, p2, p3]
                            cases g14 with
                            | false =>
                              have t14 : ((nn : Int) == sz) = false := by have := of_decide_eq_false (HS14.out.symm); simpa using this
                              refine LooseD.reads (.bool false) rfl (by kernel_rfl) ?_ ?_
                              · intro w9 hw
                                clear hw
                                go_simp
                              try simp only [Act.put, p1, p2, p3]
                              refine LooseD.reads (.bool false) rfl (by kernel_rfl) ?_ ?_
                              · intro w9 hw
                                clear hw
                                go_simp
                              try simp only [Act.put, p1, p2, p3]
                              refine LooseD.reads (.bool false) rfl (by kernel_rfl) ?_ ?_
                              · intro w9 hw
                                clear hw
                                go_simp
                              try simp only [Act.put, p1, p2, p3]
                              refine LooseD.unwanted (by kernel_rfl) ?_; try simp only [Act.put, p1, p2, p3]
                              refine LooseD.unwanted (by kernel_rfl) ?_; try simp only [Act.put, p1, p2, p3]
                              refine LooseD.unwanted (by kernel_rfl) ?_; try simp only [Act.put, p1, p2, p3]
                              refine LooseD.unwanted (by kernel_rfl) ?_; try simp only [Act.put, p1, p2, p3]
                              refine LooseD.reads (.bool false) rfl (by kernel_rfl) (fun _ _ => by rfl) ?_; try simp only [Act.put, p1, p2, p3]
                              refine LooseD.reads (.bool false) rfl (by kernel_rfl) (fun _ _ => by rfl) ?_; try simp only [Act.put, p1, p2, p3]
                              refine LooseD.unwanted (by kernel_rfl) ?_; try simp only [Act.put, p1, p2, p3]
                              refine LooseD.unwanted (by kernel_rfl) ?_; try simp only [Act.put, p1, p2, p3]
                              refine LooseD.unwanted (by kernel_rfl) ?_; try simp only [Act.put, p1, p2, p3]
                              refine LooseD.unwanted (by kernel_rfl) ?_; try simp only [Act.put, p1, p2, p3]
                              refine LooseD.reads (.bool false) rfl (by kernel_rfl) (fun _ _ => by rfl) ?_; try simp only [Act.put, p1, p2, p3]
                              refine LooseD.reads (.bool false) rfl (by kernel_rfl) (fun _ _ => by rfl) ?_; try simp only [Act.put, p1, p2, p3]
                              refine LooseD.done ?_
                              intro w7 hw7 _
                              have HQT := Lib.hid (show q = false by rw [HQ.out]; simp)
                              clear HQ
                              have HB7 := Lib.hid (HB0.out.trans (hw7.mono HB0.out.size))
                              clear hw7
                              go_wp2
                              go_ret
                              exact ⟨by rw [HQT.out]; rfl, HB7.out⟩
                            | true =>
                              have t14 : ((nn : Int) == sz) = true := by have := of_decide_eq_true (HS14.out.symm); simpa using this
                              refine LooseD.reads (.bool true) rfl (by kernel_rfl) ?_ ?_
                              · intro w9 hw
                                clear hw
                                go_simp
                              try simp only [Act.put, p1, p2, p3]
                              refine LooseD.reads (.bool true) rfl (by kernel_rfl) ?_ ?_
                              · intro w9 hw
                                clear hw
                                go_simp
                              try simp only [Act.put, p1, p2, p3]
                              refine LooseD.reads (.bool true) rfl (by kernel_rfl) ?_ ?_
                              · intro w9 hw
                                clear hw
                                go_simp
                              try simp only [Act.put, p1, p2, p3]
                              cases g15 with
                              | false =>
                                have t15 : ¬ (nn : Int) ≤ 64 := by have := of_decide_eq_false E15.out.symm; omega
                                refine LooseD.reads (.pointer (some ⟨p, 15, none⟩)) rfl (by kernel_rfl) ?_ ?_
                                · intro w9 hw
                                  clear hw
                                  go_simp
                                try simp only [Act.put, p1, p2, p3]
                                refine LooseD.reads (.slice b nn cap2) rfl (by kernel_rfl) ?_ ?_
                                · intro w9 hw
                                  obtain ⟨x0, x4, x5, x6, x7, x8, x11, x13, x14, x15⟩ := HCE.out w9 hw
                                  clear hw
                                  go_simp
                                try simp only [Act.put, p1, p2, p3]
                                refine LooseD.reads (.int .i64 nn) rfl (by kernel_rfl) ?_ ?_
                                · intro w9 hw
                                  clear hw
                                  go_simp
                                try simp only [Act.put, p1, p2, p3]
                                refine LooseD.reads (.bool false) rfl (by kernel_rfl) ?_ ?_
                                · intro w9 hw
                                  clear hw
                                  go_simp
                                try simp only [Act.put, p1, p2, p3]
                                refine LooseD.reads (.bool false) rfl (by kernel_rfl) ?_ ?_
                                · intro w9 hw
                                  clear hw
                                  go_simp
                                try simp only [Act.put, p1, p2, p3]
                                refine LooseD.reads (.bool false) rfl (by kernel_rfl) ?_ ?_
                                · intro w9 hw
                                  clear hw
                                  go_simp
                                try simp only [Act.put, p1, p2, p3]
                                refine LooseD.unwanted (by kernel_rfl) ?_; try simp only [Act.put, p1, p2, p3]
                                refine LooseD.unwanted (by kernel_rfl) ?_; try simp only [Act.put, p1, p2, p3]
                                refine LooseD.unwanted (by kernel_rfl) ?_; try simp only [Act.put, p1, p2, p3]
                                refine LooseD.unwanted (by kernel_rfl) ?_; try simp only [Act.put, p1, p2, p3]
                                refine LooseD.reads (.bool false) rfl (by kernel_rfl) (fun _ _ => by rfl) ?_; try simp only [Act.put, p1, p2, p3]
                                refine LooseD.reads (.bool false) rfl (by kernel_rfl) (fun _ _ => by rfl) ?_; try simp only [Act.put, p1, p2, p3]
                                refine LooseD.done ?_
                                intro w7 hw7 _
                                have HQT := Lib.hid (show q = false by rw [HQ.out]; simp)
                                clear HQ
                                have HB7 := Lib.hid (HB0.out.trans (hw7.mono HB0.out.size))
                                clear hw7
                                go_wp2
                                go_ret
                                exact ⟨by rw [HQT.out]; rfl, HB7.out⟩
                              | true =>
                                have t15 : (nn : Int) ≤ 64 := by have := of_decide_eq_true E15.out.symm; omega
                                refine LooseD.reads (.pointer (some ⟨p, 15, none⟩)) rfl (by kernel_rfl) ?_ ?_
                                · intro w9 hw
                                  clear hw
                                  go_simp
                                try simp only [Act.put, p1, p2, p3]
                                refine LooseD.reads (.slice b nn cap2) rfl (by kernel_rfl) ?_ ?_
                                · intro w9 hw
                                  obtain ⟨x0, x4, x5, x6, x7, x8, x11, x13, x14, x15⟩ := HCE.out w9 hw
                                  clear hw
                                  go_simp
                                try simp only [Act.put, p1, p2, p3]
                                refine LooseD.reads (.int .i64 nn) rfl (by kernel_rfl) ?_ ?_
                                · intro w9 hw
                                  clear hw
                                  go_simp
                                try simp only [Act.put, p1, p2, p3]
                                refine LooseD.reads (.bool true) rfl (by kernel_rfl) ?_ ?_
                                · intro w9 hw
                                  clear hw
                                  go_simp
                                try simp only [Act.put, p1, p2, p3]
                                refine LooseD.reads (.bool true) rfl (by kernel_rfl) ?_ ?_
                                · intro w9 hw
                                  clear hw
                                  go_simp
                                try simp only [Act.put, p1, p2, p3]
                                refine LooseD.reads (.bool true) rfl (by kernel_rfl) ?_ ?_
                                · intro w9 hw
                                  clear hw
                                  go_simp
                                try simp only [Act.put, p1, p2, p3]
                                refine LooseD.reads (.pointer (some ⟨p, 15, none⟩)) rfl (by kernel_rfl) ?_ ?_
                                · intro w9 hw
                                  clear hw
                                  go_simp
                                try simp only [Act.put, p1, p2, p3]
                                refine LooseD.reads (.slice b nn cap2) rfl (by kernel_rfl) ?_ ?_
                                · intro w9 hw
                                  obtain ⟨x0, x4, x5, x6, x7, x8, x11, x13, x14, x15⟩ := HCE.out w9 hw
                                  clear hw
                                  go_simp
                                try simp only [Act.put, p1, p2, p3]
                                refine LooseD.gives (.bool y) 51 #[.slice b nn cap2, .func (.func 52) #[] #[]] rfl (by kernel_rfl) ?_ (fun w9 hw hH => HBE.out w9 (HEV.out.under hw)) ?_
                                · intro w9 hw
                                  clear hw
                                  go_simp
                                try simp only [Act.put, p1, p2, p3]
                                refine LooseD.reads (.bool (!y)) rfl (by kernel_rfl) ?_ ?_
                                · intro w9 hw
                                  clear hw
                                  go_simp
                                try simp only [Act.put, p1, p2, p3]
                                refine LooseD.reads (.bool (!y)) rfl (by kernel_rfl) ?_ ?_
                                · intro w9 hw
                                  clear hw
                                  go_simp
                                try simp only [Act.put, p1, p2, p3]
                                refine LooseD.reads (.bool (!y)) rfl (by kernel_rfl) ?_ ?_
                                · intro w9 hw
                                  clear hw
                                  go_simp
                                try simp only [Act.put, p1, p2, p3]
                                refine LooseD.done ?_
                                intro w7 hw7 _
                                have HQT := Lib.hid (show q = !y by rw [HQ.out, HZ.out, HY.out]; rfl)
                                clear HQ
                                have HB7 := Lib.hid (HB0.out.trans (hw7.mono HB0.out.size))
                                clear hw7
                                go_wp2
                                go_ret
                                exact ⟨by rw [HQT.out]; rfl, HB7.out⟩
                          · have s1 : ¬ state.toList = [] := fun h => hs0 ((size_nil state).2 h)
                            have s2 : state.toList.isEmpty = false := by rw [List.isEmpty_eq_false_iff]; exact s1
                            have h13 := E13.out
                            rw [decide_eq_false hs0] at h13
                            clear hs0
                            cases g13 with
                            | false =>
                              have hb0 : ¬ 0 < base := of_decide_eq_false h13.symm
                              clear h13
                              refine LooseD.reads (.pointer (some ⟨p, 14, none⟩)) rfl (by kernel_rfl) ?_ ?_
                              · intro w9 hw
                                clear hw
                                go_simp
                              try simp only [Act.put, p1, p2, p3]
                              refine LooseD.reads (.string state) rfl (by kernel_rfl) ?_ ?_
                              · intro w9 hw
                                obtain ⟨x0, x4, x5, x6, x7, x8, x11, x13, x14, x15⟩ := HCE.out w9 hw
                                clear hw
                                go_simp
                              try simp only [Act.put, p1, p2, p3]
                              refine LooseD.reads (.bool false) rfl (by kernel_rfl) ?_ ?_
                              · intro w9 hw
                                clear hw
                                go_simp
                              try simp only [Act.put, p1, p2, p3]
                              refine LooseD.reads (.bool false) rfl (by kernel_rfl) ?_ ?_
                              · intro w9 hw
                                clear hw
                                go_simp
                              try simp only [Act.put, p1, p2, p3]
                              refine LooseD.reads (.pointer (some ⟨p, 13, none⟩)) rfl (by kernel_rfl) ?_ ?_
                              · intro w9 hw
                                clear hw
                                go_simp
                              try simp only [Act.put, p1, p2, p3]
                              refine LooseD.reads (.int .i64 base) rfl (by kernel_rfl) ?_ ?_
                              · intro w9 hw
                                obtain ⟨x0, x4, x5, x6, x7, x8, x11, x13, x14, x15⟩ := HCE.out w9 hw
                                clear hw
                                go_simp
                              try simp only [Act.put, p1, p2, p3]
                              refine LooseD.reads (.bool false) rfl (by kernel_rfl) ?_ ?_
                              · intro w9 hw
                                clear hw
                                go_simp
                              try simp only [Act.put, p1, p2, p3]
                              refine LooseD.reads (.bool false) rfl (by kernel_rfl) ?_ ?_
                              · intro w9 hw
                                clear hw
                                go_simp
                              try simp only [Act.put, p1, p2, p3]
                              refine LooseD.reads (.bool false) rfl (by kernel_rfl) ?_ ?_
                              · intro w9 hw
                                clear hw
                                go_simp
                              try simp only [Act.put, p1, p2, p3]
                              refine LooseD.reads (.bool false) rfl (by kernel_rfl) ?_ ?_
                              · intro w9 hw
                                clear hw
                                go_simp
                              try simp only [Act.put, p1, p2, p3]
                              refine LooseD.unwanted (by kernel_rfl) ?_; try simp only [Act.put, p1, p2, p3]
                              refine LooseD.unwanted (by kernel_rfl) ?_; try simp only [Act.put, p1, p2, p3]
                              refine LooseD.unwanted (by kernel_rfl) ?_; try simp only [Act.put, p1, p2, p3]
                              refine LooseD.unwanted (by kernel_rfl) ?_; try simp only [Act.put, p1, p2, p3]
                              refine LooseD.unwanted (by kernel_rfl) ?_; try simp only [Act.put, p1, p2, p3]
                              refine LooseD.unwanted (by kernel_rfl) ?_; try simp only [Act.put, p1, p2, p3]
                              refine LooseD.reads (.bool false) rfl (by kernel_rfl) (fun _ _ => by rfl) ?_; try simp only [Act.put, p1, p2, p3]
                              refine LooseD.reads (.bool false) rfl (by kernel_rfl) (fun _ _ => by rfl) ?_; try simp only [Act.put, p1, p2, p3]
                              refine LooseD.unwanted (by kernel_rfl) ?_; try simp only [Act.put, p1, p2, p3]
                              refine LooseD.unwanted (by kernel_rfl) ?_; try simp only [Act.put, p1, p2, p3]
                              refine LooseD.unwanted (by kernel_rfl) ?_; try simp only [Act.put, p1, p2, p3]
                              refine LooseD.unwanted (by kernel_rfl) ?_; try simp only [Act.put, p1, p2, p3]
                              refine LooseD.reads (.bool false) rfl (by kernel_rfl) (fun _ _ => by rfl) ?_; try simp only [Act.put, p1, p2, p3]
                              refine LooseD.reads (.bool false) rfl (by kernel_rfl) (fun _ _ => by rfl) ?_; try simp only [Act.put, p1, p2, p3]
                              refine LooseD.unwanted (by kernel_rfl) ?_; try simp only [Act.put, p1, p2, p3]
                              refine LooseD.unwanted (by kernel_rfl) ?_; try simp only [Act.put, p1, p2, p3]
                              refine LooseD.unwanted (by kernel_rfl) ?_; try simp only [Act.put, p1, p2, p3]
                              refine LooseD.unwanted (by kernel_rfl) ?_; try simp only [Act.put, p1, p2, p3]
                              refine LooseD.reads (.bool false) rfl (by kernel_rfl) (fun _ _ => by rfl) ?_; try simp only [Act.put, p1, p2, p3]
                              refine LooseD.reads (.bool false) rfl (by kernel_rfl) (fun _ _ => by rfl) ?_; try simp only [Act.put, p1, p2, p3]
                              refine LooseD.done ?_
                              intro w7 hw7 _
                              have HQT := Lib.hid (show q = false by rw [HQ.out]; simp)
                              clear HQ
                              have HB7 := Lib.hid (HB0.out.trans (hw7.mono HB0.out.size))
                              clear hw7
                              go_wp2
                              go_ret
                              exact ⟨by rw [HQT.out]; rfl, HB7.out⟩
                            | true =>
                              have hb0 : 0 < base := of_decide_eq_true h13.symm
                              clear h13
                              refine LooseD.reads (.pointer (some ⟨p, 14, none⟩)) rfl (by kernel_rfl) ?_ ?_
                              · intro w9 hw
                                clear hw
                                go_simp
                              try simp only [Act.put, p1, p2, p3]
                              refine LooseD.reads (.string state) rfl (by kernel_rfl) ?_ ?_
                              · intro w9 hw
                                obtain ⟨x0, x4, x5, x6, x7, x8, x11, x13, x14, x15⟩ := HCE.out w9 hw
                                clear hw
                                go_simp
                              try simp only [Act.put, p1, p2, p3]
                              refine LooseD.reads (.bool false) rfl (by kernel_rfl) ?_ ?_
                              · intro w9 hw
                                clear hw
                                go_simp
                              try simp only [Act.put, p1, p2, p3]
                              refine LooseD.reads (.bool false) rfl (by kernel_rfl) ?_ ?_
                              · intro w9 hw
                                clear hw
                                go_simp
                              try simp only [Act.put, p1, p2, p3]
                              refine LooseD.reads (.pointer (some ⟨p, 13, none⟩)) rfl (by kernel_rfl) ?_ ?_
                              · intro w9 hw
                                clear hw
                                go_simp
                              try simp only [Act.put, p1, p2, p3]
                              refine LooseD.reads (.int .i64 base) rfl (by kernel_rfl) ?_ ?_
                              · intro w9 hw
                                obtain ⟨x0, x4, x5, x6, x7, x8, x11, x13, x14, x15⟩ := HCE.out w9 hw
                                clear hw
                                go_simp
                              try simp only [Act.put, p1, p2, p3]
                              refine LooseD.reads (.bool true) rfl (by kernel_rfl) ?_ ?_
                              · intro w9 hw
                                clear hw
                                go_simp
                              try simp only [Act.put, p1, p2, p3]
                              refine LooseD.reads (.bool true) rfl (by kernel_rfl) ?_ ?_
                              · intro w9 hw
                                clear hw
                                go_simp
                              try simp only [Act.put, p1, p2, p3]
                              refine LooseD.reads (.bool true) rfl (by kernel_rfl) ?_ ?_
                              · intro w9 hw
                                clear hw
                                go_simp
                              try simp only [Act.put, p1, p2, p3]
                              refine LooseD.reads (.bool true) rfl (by kernel_rfl) ?_ ?_
                              · intro w9 hw
                                clear hw
                                go_simp
                              try simp only [Act.put, p1, p2, p3]
                              refine LooseD.reads (.pointer (some ⟨p, 15, none⟩)) rfl (by kernel_rfl) ?_ ?_
                              · intro w9 hw
                                clear hw
                                go_simp
                              try simp only [Act.put, p1, p2, p3]
                              refine LooseD.reads (.slice b nn cap2) rfl (by kernel_rfl) ?_ ?_
                              · intro w9 hw
                                obtain ⟨x0, x4, x5, x6, x7, x8, x11, x13, x14, x15⟩ := HCE.out w9 hw
                                clear hw
                                go_simp
                              try simp only [Act.put, p1, p2, p3]
                              refine LooseD.reads (.int .i64 nn) rfl (by kernel_rfl) ?_ ?_
                              · intro w9 hw
                                clear hw
                                go_simp
                              try simp only [Act.put, p1, p2, p3]
                              refine LooseD.reads (AG) rfl (by kernel_rfl) ?_ ?_
                              · intro w9 hw
                                exact exec_load _ _ 53 _ _ AG w9 rfl rfl (HLW.out w9 hw)
                              try simp only [Act.put, p1, p2, p3]
                              refine LooseD.gives (.int .i64 sz) 50 #[AG] rfl (by kernel_rfl) ?_ (fun w9 hw hH => HSZ.out rfl w9) ?_
                              · intro w9 hw
                                clear hw
                                go_simp
                              try simp only [Act.put, p1, p2, p3]
                              cases g14 with
                              | false =>
                                have t14 : ((nn : Int) == sz) = false := by have := of_decide_eq_false (HS14.out.symm); simpa using this
                                refine LooseD.reads (.bool false) rfl (by kernel_rfl) ?_ ?_
                                · intro w9 hw
                                  clear hw
                                  go_simp
                                try simp only [Act.put, p1, p2, p3]
                                refine LooseD.reads (.bool false) rfl (by kernel_rfl) ?_ ?_
                                · intro w9 hw
                                  clear hw
                                  go_simp
                                try simp only [Act.put, p1, p2, p3]
                                refine LooseD.reads (.bool false) rfl (by kernel_rfl) ?_ ?_
                                · intro w9 hw
                                  clear hw
                                  go_simp
                                try simp only [Act.put, p1, p2, p3]
                                refine LooseD.unwanted (by kernel_rfl) ?_; try simp only [Act.put, p1, p2, p3]
                                refine LooseD.unwanted (by kernel_rfl) ?_; try simp only [Act.put, p1, p2, p3]
                                refine LooseD.unwanted (by kernel_rfl) ?_; try simp only [Act.put, p1, p2, p3]
                                refine LooseD.unwanted (by kernel_rfl) ?_; try simp only [Act.put, p1, p2, p3]
                                refine LooseD.reads (.bool false) rfl (by kernel_rfl) (fun _ _ => by rfl) ?_; try simp only [Act.put, p1, p2, p3]
                                refine LooseD.reads (.bool false) rfl (by kernel_rfl) (fun _ _ => by rfl) ?_; try simp only [Act.put, p1, p2, p3]
                                refine LooseD.unwanted (by kernel_rfl) ?_; try simp only [Act.put, p1, p2, p3]
                                refine LooseD.unwanted (by kernel_rfl) ?_; try simp only [Act.put, p1, p2, p3]
                                refine LooseD.unwanted (by kernel_rfl) ?_; try simp only [Act.put, p1, p2, p3]
                                refine LooseD.unwanted (by kernel_rfl) ?_; try simp only [Act.put, p1, p2, p3]
                                refine LooseD.reads (.bool false) rfl (by kernel_rfl) (fun _ _ => by rfl) ?_; try simp only [Act.put, p1, p2, p3]
                                refine LooseD.reads (.bool false) rfl (by kernel_rfl) (fun _ _ => by rfl) ?_; try simp only [Act.put, p1, p2, p3]
                                refine LooseD.done ?_
                                intro w7 hw7 _
                                have HQT := Lib.hid (show q = false by rw [HQ.out]; simp)
                                clear HQ
                                have HB7 := Lib.hid (HB0.out.trans (hw7.mono HB0.out.size))
                                clear hw7
                                go_wp2
                                go_ret
                                exact ⟨by rw [HQT.out]; rfl, HB7.out⟩
                              | true =>
                                have t14 : ((nn : Int) == sz) = true := by have := of_decide_eq_true (HS14.out.symm); simpa using this
                                refine LooseD.reads (.bool true) rfl (by kernel_rfl) ?_ ?_
                                · intro w9 hw
                                  clear hw
                                  go_simp
                                try simp only [Act.put, p1, p2, p3]
                                refine LooseD.reads (.bool true) rfl (by kernel_rfl) ?_ ?_
                                · intro w9 hw
                                  clear hw
                                  go_simp
                                try simp only [Act.put, p1, p2, p3]
                                refine LooseD.reads (.bool true) rfl (by kernel_rfl) ?_ ?_
                                · intro w9 hw
                                  clear hw
                                  go_simp
                                try simp only [Act.put, p1, p2, p3]
                                cases g15 with
                                | false =>
                                  have t15 : ¬ (nn : Int) ≤ 64 := by have := of_decide_eq_false E15.out.symm; omega
                                  refine LooseD.reads (.pointer (some ⟨p, 15, none⟩)) rfl (by kernel_rfl) ?_ ?_
                                  · intro w9 hw
                                    clear hw
                                    go_simp
                                  try simp only [Act.put, p1, p2, p3]
                                  refine LooseD.reads (.slice b nn cap2) rfl (by kernel_rfl) ?_ ?_
                                  · intro w9 hw
                                    obtain ⟨x0, x4, x5, x6, x7, x8, x11, x13, x14, x15⟩ := HCE.out w9 hw
                                    clear hw
                                    go_simp
                                  try simp only [Act.put, p1, p2, p3]
                                  refine LooseD.reads (.int .i64 nn) rfl (by kernel_rfl) ?_ ?_
                                  · intro w9 hw
                                    clear hw
                                    go_simp
                                  try simp only [Act.put, p1, p2, p3]
                                  refine LooseD.reads (.bool false) rfl (by kernel_rfl) ?_ ?_
                                  · intro w9 hw
                                    clear hw
                                    go_simp
                                  try simp only [Act.put, p1, p2, p3]
                                  refine LooseD.reads (.bool false) rfl (by kernel_rfl) ?_ ?_
                                  · intro w9 hw
                                    clear hw
                                    go_simp
                                  try simp only [Act.put, p1, p2, p3]
                                  refine LooseD.reads (.bool false) rfl (by kernel_rfl) ?_ ?_
                                  · intro w9 hw
                                    clear hw
                                    go_simp
                                  try simp only [Act.put, p1, p2, p3]
                                  refine LooseD.unwanted (by kernel_rfl) ?_; try simp only [Act.put, p1, p2, p3]
                                  refine LooseD.unwanted (by kernel_rfl) ?_; try simp only [Act.put, p1, p2, p3]
                                  refine LooseD.unwanted (by kernel_rfl) ?_; try simp only [Act.put, p1, p2, p3]
                                  refine LooseD.unwanted (by kernel_rfl) ?_; try simp only [Act.put, p1, p2, p3]
                                  refine LooseD.reads (.bool false) rfl (by kernel_rfl) (fun _ _ => by rfl) ?_; try simp only [Act.put, p1, p2, p3]
                                  refine LooseD.reads (.bool false) rfl (by kernel_rfl) (fun _ _ => by rfl) ?_; try simp only [Act.put, p1, p2, p3]
                                  refine LooseD.done ?_
                                  intro w7 hw7 _
                                  have HQT := Lib.hid (show q = false by rw [HQ.out]; simp)
                                  clear HQ
                                  have HB7 := Lib.hid (HB0.out.trans (hw7.mono HB0.out.size))
                                  clear hw7
                                  go_wp2
                                  go_ret
                                  exact ⟨by rw [HQT.out]; rfl, HB7.out⟩
                                | true =>
                                  have t15 : (nn : Int) ≤ 64 := by have := of_decide_eq_true E15.out.symm; omega
                                  refine LooseD.reads (.pointer (some ⟨p, 15, none⟩)) rfl (by kernel_rfl) ?_ ?_
                                  · intro w9 hw
                                    clear hw
                                    go_simp
                                  try simp only [Act.put, p1, p2, p3]
                                  refine LooseD.reads (.slice b nn cap2) rfl (by kernel_rfl) ?_ ?_
                                  · intro w9 hw
                                    obtain ⟨x0, x4, x5, x6, x7, x8, x11, x13, x14, x15⟩ := HCE.out w9 hw
                                    clear hw
                                    go_simp
                                  try simp only [Act.put, p1, p2, p3]
                                  refine LooseD.reads (.int .i64 nn) rfl (by kernel_rfl) ?_ ?_
                                  · intro w9 hw
                                    clear hw
                                    go_simp
                                  try simp only [Act.put, p1, p2, p3]
                                  refine LooseD.reads (.bool true) rfl (by kernel_rfl) ?_ ?_
                                  · intro w9 hw
                                    clear hw
                                    go_simp
                                  try simp only [Act.put, p1, p2, p3]
                                  refine LooseD.reads (.bool true) rfl (by kernel_rfl) ?_ ?_
                                  · intro w9 hw
                                    clear hw
                                    go_simp
                                  try simp only [Act.put, p1, p2, p3]
                                  refine LooseD.reads (.bool true) rfl (by kernel_rfl) ?_ ?_
                                  · intro w9 hw
                                    clear hw
                                    go_simp
                                  try simp only [Act.put, p1, p2, p3]
                                  refine LooseD.reads (.pointer (some ⟨p, 15, none⟩)) rfl (by kernel_rfl) ?_ ?_
                                  · intro w9 hw
                                    clear hw
                                    go_simp
                                  try simp only [Act.put, p1, p2, p3]
                                  refine LooseD.reads (.slice b nn cap2) rfl (by kernel_rfl) ?_ ?_
                                  · intro w9 hw
                                    obtain ⟨x0, x4, x5, x6, x7, x8, x11, x13, x14, x15⟩ := HCE.out w9 hw
                                    clear hw
                                    go_simp
                                  try simp only [Act.put, p1, p2, p3]
                                  refine LooseD.gives (.bool y) 51 #[.slice b nn cap2, .func (.func 52) #[] #[]] rfl (by kernel_rfl) ?_ (fun w9 hw hH => HBE.out w9 (HEV.out.under hw)) ?_
                                  · intro w9 hw
                                    clear hw
                                    go_simp
                                  try simp only [Act.put, p1, p2, p3]
                                  refine LooseD.reads (.bool (!y)) rfl (by kernel_rfl) ?_ ?_
                                  · intro w9 hw
                                    clear hw
                                    go_simp
                                  try simp only [Act.put, p1, p2, p3]
                                  refine LooseD.reads (.bool (!y)) rfl (by kernel_rfl) ?_ ?_
                                  · intro w9 hw
                                    clear hw
                                    go_simp
                                  try simp only [Act.put, p1, p2, p3]
                                  refine LooseD.reads (.bool (!y)) rfl (by kernel_rfl) ?_ ?_
                                  · intro w9 hw
                                    clear hw
                                    go_simp
                                  try simp only [Act.put, p1, p2, p3]
                                  refine LooseD.done ?_
                                  intro w7 hw7 _
                                  have HQT := Lib.hid (show q = !y by rw [HQ.out, HZ.out, HY.out]; rfl)
                                  clear HQ
                                  have HB7 := Lib.hid (HB0.out.trans (hw7.mono HB0.out.size))
                                  clear hw7
                                  go_wp2
                                  go_ret
                                  exact ⟨by rw [HQT.out]; rfl, HB7.out⟩
end Go.Proofs.YtgbpofgmomglfaaDoor.Ms
